import PyProof.Rows.All
import Wide.All
import OpenK.AllK
import Wide.FinOn
import Lean
import PyProof.EqAt
import PyProof.EqKinds
import PyProof.TupleCall
import PySem.Challenge.RW_sumcraft_k34_rules_of_order_one
set_option Elab.async false
set_option linter.all false
set_option maxRecDepth 100000
set_option maxHeartbeats 0
local macro_rules | `(∅) => `(by kernel_rfl)
local macro_rules | `(⇑$x) => `(by simpa using $x)
local macro_rules | `(tactic| simp! [$x,*]) => `(tactic| (iterate 3 ((try simp only [$x,*]); walk)))
local macro_rules | `(#v[$x,*]) => do
  let y := x.getElems.back!
  let r : Array (Lean.TSyntax `Lean.Parser.Tactic.rwRule) ← x.getElems.pop.mapM fun e => if e.raw[0].getAtomVal == "<-" then let z : Lean.Term := ⟨e.raw[1][0]⟩; `(Lean.Parser.Tactic.rwRule| ← $z:term) else `(Lean.Parser.Tactic.rwRule| $e:term)
  `(by rw [$r,*]; exact $y)
namespace Dc
open Lean
def tb:String := "rfl0 pv1 _0 ab2 ac0 Or.inl1 aj0 am2 #00 :i1 #10 ()0 #20 FnOk.mono2 .nil0 ar0 T0 ay1 az5 aA9 aF3 aI4 ^21 #30 hr0 _0 #40 aM0 aQ5 aS1 be1 bE1 bK4 T.Wb0 b40 cj0 #50 PassesOwn.never0 #60 cJ4 cN3 cM0 ^41 cU0 c_2 dc0 dz0 dy5 dC0 dm1 <2 dJ3 dZ0 eC2 Or.inr1 #70 fc2 fu4 T.Wh0 fy8 _0 fN0 fT0 fS0 :K1 K0 gh1 gy1 T.Wc.mx0 T.Wc.Fx.kp0 T.Wc.bx0 gF3 gG2 gk0 gi2 PW.pt1 T.Wy0 gY0 ic9 T.Wd0 iq3 iu5 iw0 iy6 PySem.F.plainAttrs_list0 ig.nd0 #80 iH0 iL0 iR1 T.Wf.mx0 _0 T.Wf.Fx.kp0 _0 T.Wf.bx0 :v1 PySem.F.slot_list_append0 PySem.F.type_list_append0 iJ0 n0 iQ.nd0 l0 jj0 ji0 jh1 js1 T.Wg.mx0 T.Wg.Fx.kp0 T.Wg.bx0 i6.nd0 jk0 jE2 jI2 jH3 jO3 T.WV0 jL8 T.WU0 jJ0 jD0 F0 jn.nd0 jG2 jF0 kq1 jM0 #90 jR.nd0 jQ.nd0 d0 kr1 jS.nd0 lP2 lJ1 mh0 mn0 kK.nd0 lI4 ma0 T.W50 mq0 jT.nd0 kJ.nd0 mB.nd0 nJ7 oh2 T.Xp0 nI0 mC.nd0 mD.nd0 ox1 T.Wi.mx0 T.Wi.Fx.kp0 T.Wi.bx0 nQ.nd0 pf3 pC3 pB0 o83 .int1 oe.nd0 o91 o40 nV.nd0 n_.nd0 qp1 T.Wj.mx0 T.Wj.Fx.kp0 T.Wj.bx0 oa.nd0 qt1 T.Wk.mx0 T.Wk.Fx.kp0 T.Wk.bx0 sR4 sV0 sM0 sO1 uW3 T.Xv0 sr6 uU0 ss0 wQ1 T.Wm.mx0 T.Wm.Fx.kp0 T.Wm.bx0 wR1 T.Wo.mx0 T.Wo.Fx.kp0 T.Wo.bx0 si3 sJ1 sI0 sC0 sE0 sj0 o0 vm1 pV.nd0 pW.nd0 wZ1 T.Wr.mx0 T.Wr.Fx.kp0 T.Wr.bx0 wY1 T.Wl.mx0 T.Wl.Fx.kp0 T.Wl.bx0 M0 wU2 xG1 T.Wq.mx0 T.Wq.Fx.kp0 T.Wq.bx0 y0 uV1 xP1 T.Wv.mx0 T.Wv.Fx.kp0 T.Wv.bx0 pX.nd0 xO1 T.Wu.mx0 T.Wu.Fx.kp0 T.Wu.bx0 hr.units0 tf0 T.Xw0 uQ0 sf5 .ty1 xT1 T.Ww.mx0 T.Ww.Fx.kp0 T.Ww.bx0 xY1 T.Wx.mx0 T.Wx.Fx.kp0 T.Wx.bx0 Cb6 Cc0 ww.nd0 wB.nd0 'number0 Dr1 T.Wz.mx0 T.Wz.Fx.kp0 T.Wz.bx0 CL3 Ds3 Cg1 CG1 wP.nd0 r0 Cr5 wC.nd0 Dw1 T.WA.mx0 T.WA.Fx.kp0 T.WA.bx0 Dz1 T.WB.mx0 T.WB.Fx.kp0 T.WB.bx0 wD.nd0 'shared0 wE.nd0 T.Xx0 T.WG.bx0 wG.nd0 wx.nd0 wF.nd0 CI4 Cf4 wH.nd0 u0 DZ1 T.WC.mx0 T.WC.Fx.kp0 T.WC.bx0 wI.nd0 wJ.nd0 wL.nd0 '_law_by_here0 D_1 T.WD.mx0 T.WD.Fx.kp0 T.WD.bx0 wM.nd0 wK.nd0 wN.nd0 wO.nd0 C8.nd0 G73 ID8 'factor0 Ip3 T.XG0 JB2 IB8 JK1 T.WL.mx0 T.WL.Fx.kp0 T.WL.bx0 C9.nd0 Ix1 T.XH0 boot_sum0 JG1 T.WK.mx0 T.WK.Fx.kp0 T.WK.bx0 T.XB0 JJ1 T.Xk.bx0 T.XC0 JL1 T.Xl.bx0 PySem.F.plainAttrs_int0 PySem.F.slot_int_bit_length0 PySem.F.type_int_bit_length0 Ik0 #3000 T.XI.20 Ha0 #100 G_0 JS1 T.WI.mx0 T.WI.Fx.kp0 T.WI.bx0 JR1 T.WH.mx0 T.WH.Fx.kp0 T.WH.bx0 C_.nd0 J31 T.WJ.mx0 T.WJ.Fx.kp0 T.WJ.bx0 T.XD0 JM1 T.Xm.bx0 HE9 T.XA0 JI1 T.Xz0 T.Xj.bx0 T.XE0 JO1 T.Xo.bx0 JC2 Da.nd0 Dd.nd0 K_1 T.WM.mx0 T.WM.Fx.kp0 T.WM.bx0 T.WN.mx0 T.WN.Fx.kp0 T.WN.bx0 T.WO.mx0 T.WO.Fx.kp0 T.WO.bx0 .ref1 Lp1 T.WP.mx0 T.WP.Fx.kp0 T.WP.bx0 De.nd0 Il1 Lv1 T.WQ.mx0 T.WQ.Fx.kp0 T.WQ.bx0 Lx1 T.WR.mx0 T.WR.Fx.kp0 T.WR.bx0 'list0 LU1 T.WT.mx0 T.WT.Fx.kp0 T.WT.bx0 LQ1 T.WF.mx0 T.WF.Fx.kp0 T.WF.bx0 'pivot0 'before0 #970 T.XU.20 Qu0 Jw.nd0 'place0 QH5 Pt2 Ps0 'columns0 'vector0 'vectors0 'column0 PySem.F.plainAttrs_dict0 PySem.F.slot_dict_setdefault0 PySem.F.type_dict_setdefault0 QV0 Jx.nd0 PP0 !u0 OS0 Pk3 Pm0 O90 #40000 T.XS.20 Sq1 T.W7.mx0 T.W7.Fx.kp0 T.W7.bx0 Sx1 T.W8.mx0 T.W8.Fx.kp0 T.W8.bx0 SC1 T.W9.mx0 T.W9.Fx.kp0 T.W9.bx0 SD1 T.W_.mx0 T.W_.Fx.kp0 T.W_.bx0 Se1 T.Xd.mx0 T.Xd.Fx.kp0 T.Xd.bx0 SM1 T.Xe.mx0 T.Xe.Fx.kp0 T.Xe.bx0 QR4 'places0 'marks0 R91 T.Xc.mx0 T.Xc.Fx.kp0 T.Xc.bx0 QD9 'row0 'self0 QS4 T.XO0 T.Xs.bx0 T.XM0 SS1 T.Xq.bx0 T.XN0 Sl1 T.Xr.bx0 Jt.nd0 'rule0 'weight0 RY1 T.W6.mx0 T.W6.Fx.kp0 T.W6.bx0 'start0 Uj1 T.Xb.mx0 T.Xb.Fx.kp0 T.Xb.bx0 Js.nd0 OQ2 OP1 O_0 #320 T.XT.20 Up1 T.Xa.mx0 T.Xa.Fx.kp0 T.Xa.bx0 Ju.nd0 T.Xf.mx0 T.Xf.Fx.kp0 T.Xf.bx0 Ut1 T.Xg.mx0 T.Xg.Fx.kp0 T.Xg.bx0 'right0 'left0 PySem.F.slot_list_extend0 PySem.F.type_list_extend0 PU0 'top0 QU8 Fd0 kd0 bd0 T.WZ.ax0 T.WZ.mx0 T.W1.ax0 T.W1.mx0 Jv.nd0 PySem.F.slot_list_pop0 PySem.F.type_list_pop0 PV0 y.units0 QL0 l.units0 UN1 T.Xh.mx0 T.Xh.Fx.kp0 T.Xh.bx0 '_law_cell0 'int0 T.XR0 Qf0 'bool0 T.XQ0 Qg0 U51 T.WW.mx0 T.WW.Fx.kp0 T.WW.bx0 U_1 T.WX.mx0 T.WX.Fx.kp0 T.WX.bx0 '_law_p0 Vi1 T.Xi.mx0 T.Xi.Fx.kp0 T.Xi.bx0"
def rl:String := "#! %ə ./0+2)3-6 'ɝ!(ɜ8ɢ ɛɘ5;&ɟ!*1=?9!, AɫBɛ#<Cɮɬ$$ɯɘ!:($!7*$G) K&ɩ>#LM4N&$OEɽ ,$  R9 Sʁ ɚɞ4T'ɾɤ( UəɚʉʃH@PQɠ,>$#ɞɥɪ1ɝ Vʒ !FʈɷXɡʖ Yʂ Z+ʊɘɵɠ7ɚ4!Dʙ#ʕ[ɭɥ4]ɺɦɘɿ&#ɤ*ɘɳɨɞJɞ`adeʫfɠ*ɥɡɧɦɠ:5iɱɳɱɵjɶlmgʟʚʌ'ʋɷʌɭɞʪ IɨɤɳcɣʾʬpEɚ1ɲɟɘ7ʐɦ#ɥ@^ɹɼʇ#HkɠDz|ˋ~ʘʠʗ$bsˏtɩɨʔɦʑ*'ˀ ʵʘʹɲɦyɣ˘ˌnɡ˚oː¢˜£˝¤!Whʋɜ¥ˡ D$ɹɞɜ§˥ ɧJɼɶɚʎɘˣ¬­˫®q°˭˕´ ˯µɘ*ɠFɡɧ¶)ʀ·˔@ʆʶuɚɤ7ɥɧɤ,ʓɞº+¼ ˾ʴɚʴɚ½ɤɿ'ˉɱɿɴɟɘ:˵¿ɯ#ʆQɜÃ̊ Äªʿʡ«ɣ̎ˬÆ@ʝxÈˇɸɨɰɶʥɺ&ɰɘ(̆$Ë¡'˴ʚPʇʛ<Ì̝ ̞Í̟Îɨɧʮʣɚˤ$ʏɸÇɚ&ˮʧɪɴ˖˧̃±ʲʳ#ɹɠWʂʠ̇#ʷɡ5Ó̱ʻʀÔ̳Õɘ,_I_ˑɘF'˞Áɚ4©˺ʣ̉ɡ̽ɶˍ*˃$ɤɵ˽8ÙÚ̓Û $ɰ$̐ẃ1rʨɺɡʝ̒Ýʟ͌ɻ̕˨ˁ²ʐ˂ɲʞ Þß˰ɨɪ̙á4x#ɻʸ^1˞!vʱ˟͛ɦ̾,ɚ˓ɸ˓ɱ7ˈɼ̌ɞèéͣêÅʄìɣͦíͧîͨï"
def ix (c:Char):Nat:=if c.toNat < 127 then c.toNat-32 else c.toNat-66
def go (r:Array Char) (n:Nat):Nat->Char->List Nat
 | 0,_=>[]
 | k+1,c=>if ix c < n then [ix c] else go r n k (r.getD (2 * (ix c-n)) ' ')++go r n k (r.getD (2 * (ix c-n)+1) ' ')
def nm (s:String):Name:=(s.splitOn ".").foldl (fun n x=>.str n x) .anonymous
def pj (x:Syntax) (n:String):Syntax:=.node .none `Lean.Parser.Term.proj #[x,mkAtom ".", .node .none fieldIdxKind #[mkAtom n]]
def mk (s:String) (a:Array Syntax):MacroM Syntax:=do
 let c:=s.front
 let r:=(s.drop 1).toString
 let x:Term:=⟨a.getD 0 .missing⟩
 let q (i:Nat):MacroM Syntax:=do return (<-`([_,(),by decide,by omega,by with_unfolding_all rfl,by exact $x,fun _=>$x,f (x:=$x),.x])).raw[1].getSepArgs.getD i .missing
 if c=='#' then return Syntax.mkNumLit r
 else if c=='\'' then return Syntax.mkStrLit r
 else if c=='_'&&r == "" then q 0
 else if c=='(' then q 1
 else if c=='<' then let ys:Array Term:=a.map (⟨·⟩);`(⟨$ys,*⟩)
 else if c=='^' then
  let f<-q 6
  return f.setArg 1 (f[1].setArg 0 (mkNullNode (Array.replicate (r.toNat?.getD 0) f[1][0][0])))
 else if c==':' then
  let f:=(<-q 7)[1][0]
  return f.setArg 1 (mkIdent (nm r))
 else if c=='!' then q (if r == "d" then 2 else if r == "o" then 3 else if r == "u" then 4 else 5)
 else
  let e (k:Nat):=(mkIdent (nm (s.dropEnd k).toString)).raw
  let h<-if c=='.' then pure ((<-q 8).setArg 1 (mkIdent (nm r))) else pure (if s.endsWith ".2.1" then pj (pj (e 4) "2") "1" else if s.endsWith ".2" then pj (e 2) "2" else if s.endsWith ".1" then pj (e 2) "1" else e 0)
  return if a.isEmpty then h else Syntax.node .none `Lean.Parser.Term.app #[h,mkNullNode a]
def rd (t:Array String):Nat->List Nat->MacroM (Syntax × List Nat)
 | 0,_=>Macro.throwUnsupported
 | _,[]=>Macro.throwUnsupported
 | k+1,i :: l=>do
  let s:=t.getD i "_0"
  let mut a:Array Syntax:=#[]
  let mut l:=l
  for _ in List.range ((s.takeEnd 1).toString.toNat?.getD 0) do
   let (x,m)<-rd t k l
   a:=a.push x
   l:=m
  return (<-mk (s.dropEnd 1).toString a,l)
def all (s:String):MacroM Syntax:=do
 let t:=(tb.splitOn " ").toArray
 let l:=s.toList.flatMap (go rl.toList.toArray t.size 99)
 return (<-rd t (l.length+1) l).1
end Dc
local macro_rules | `(s! $x)=>Dc.all ((x.raw[0].isInterpolatedStrLit?).getD "")
namespace Xob
section
variable {A B C D E F H I J K L M N O P G:Prop}
theorem xR_2(k:A->B->G)(h:A/\B):G:=k h.1 h.2
theorem xR_3(k:A->B->C->G):A/\B/\C->G:=xR_2 fun a=>xR_2 (k a)
theorem xR_4(k:A->B->C->D->G):A/\B/\C/\D->G:=xR_2 fun a=>xR_3 (k a)
theorem xR_5(k:A->B->C->D->E->G):A/\B/\C/\D/\E->G:=xR_2 fun a=>xR_4 (k a)
theorem xR_6(k:A->B->C->D->E->F->G):A/\B/\C/\D/\E/\F->G:=xR_2 fun a=>xR_5 (k a)
theorem xR_7(k:A->B->C->D->E->F->H->G):A/\B/\C/\D/\E/\F/\H->G:=xR_2 fun a=>xR_6 (k a)
theorem xR_8(k:A->B->C->D->E->F->H->I->G):A/\B/\C/\D/\E/\F/\H/\I->G:=xR_2 fun a=>xR_7 (k a)
theorem xR_9(k:A->B->C->D->E->F->H->I->J->G):A/\B/\C/\D/\E/\F/\H/\I/\J->G:=xR_2 fun a=>xR_8 (k a)
theorem xR_10(k:A->B->C->D->E->F->H->I->J->K->G):A/\B/\C/\D/\E/\F/\H/\I/\J/\K->G:=xR_2 fun a=>xR_9 (k a)
theorem xR_11(k:A->B->C->D->E->F->H->I->J->K->L->G):A/\B/\C/\D/\E/\F/\H/\I/\J/\K/\L->G:=xR_2 fun a=>xR_10 (k a)
theorem xR_12(k:A->B->C->D->E->F->H->I->J->K->L->M->G):A/\B/\C/\D/\E/\F/\H/\I/\J/\K/\L/\M->G:=xR_2 fun a=>xR_11 (k a)
theorem xR_13(k:A->B->C->D->E->F->H->I->J->K->L->M->N->G):A/\B/\C/\D/\E/\F/\H/\I/\J/\K/\L/\M/\N->G:=xR_2 fun a=>xR_12 (k a)
theorem xR_14(k:A->B->C->D->E->F->H->I->J->K->L->M->N->O->G):A/\B/\C/\D/\E/\F/\H/\I/\J/\K/\L/\M/\N/\O->G:=xR_2 fun a=>xR_13 (k a)
end
section
variable {A B C D E F H I J:Sort _}{G:Prop}
theorem xX_1{P:A->Prop}(k:∀x,P x->G)(h:∃x,P x):G:=h.elim k
theorem xX_2{P:A->B->Prop}(k:∀x y,P x y->G):(∃x y,P x y)->G:=xX_1 fun x=>xX_1 (k x)
theorem xX_3{P:A->B->C->Prop}(k:∀x y z,P x y z->G):(∃x y z,P x y z)->G:=xX_1 fun x=>xX_2 (k x)
theorem xX_4{P:A->B->C->D->Prop}(k:∀x y z u,P x y z u->G):(∃x y z u,P x y z u)->G:=xX_1 fun x=>xX_3 (k x)
theorem xX_5{P:A->B->C->D->E->Prop}(k:∀x y z u v,P x y z u v->G):(∃x y z u v,P x y z u v)->G:=xX_1 fun x=>xX_4 (k x)
theorem xX_6{P:A->B->C->D->E->F->Prop}(k:∀x y z u v w,P x y z u v w->G):(∃x y z u v w,P x y z u v w)->G:=xX_1 fun x=>xX_5 (k x)
theorem xX_7{P:A->B->C->D->E->F->H->Prop}(k:∀x y z u v w s,P x y z u v w s->G):(∃x y z u v w s,P x y z u v w s)->G:=xX_1 fun x=>xX_6 (k x)
theorem xX_8{P:A->B->C->D->E->F->H->I->Prop}(k:∀x y z u v w s t,P x y z u v w s t->G):(∃x y z u v w s t,P x y z u v w s t)->G:=xX_1 fun x=>xX_7 (k x)
end
end Xob
namespace Xob
open Lean
def oK (q:Syntax) (k:String):Bool:=q[0][0].isOfKind (.str `Lean.Parser.Tactic.rcasesPat k)
def oA:Nat->Syntax->Bool
 | 0,_=>true
 | k+1,p=>p[0].getNumArgs !=1||!(oK p "one" || oK p "ignore" || oK p "tuple" && !p[0][0][1].getSepArgs.any fun q=>q[1].getNumArgs !=0||oA k q[0])
def oM (p:Syntax) (l:List Syntax):TSyntax `Lean.Parser.Tactic.rcasesPatMed:=⟨if l.length==1 then l.head![0] else p.setArg 0 (p[0].setArg 0 (p[0][0].setArg 1 (mkNullNode (mkSepArray l.toArray (mkAtom ",")))))⟩
def oN (p:Syntax) (i:Nat) (l:List Syntax):MacroM (Term × List (TSyntax `tactic)):=do
 let m:=l.head![0]
 let r:Ident:=mkIdent (<-MonadQuotation.addMacroScope (.mkSimple ("e" ++ toString i)))
 if l.length==1&&oK m "one" then
  if m[0][0][0].getId==`rfl then return (⟨r.raw⟩,[<-`(tactic| subst $r)]) else return (⟨m[0][0][0]⟩,[])
 else if l.length==1&&oK m "ignore" then return (<-`(_),[])
 else let mm:=oM p l;return (⟨r.raw⟩,[<-`(tactic| obtain $mm:rcasesPatMed:=$r)])
def oO (p:Syntax) (e:Term):MacroM (TSyntax `tactic):=do
 let ps:=(if oK p "tuple" then p[0][0][1].getSepArgs else #[]).toList
 let N:=ps.length
 if N < 2||oA 9 p then Macro.throwUnsupported
 let mut s:Array (TSyntax `tactic):=#[]
 for b in [false,true] do
  for j in List.range (N-1) do
   let n:=N-j-if b then 1 else 0
   if n ≤ if b then 8 else 14 then
    let k:=if b then n else n-1
    let q:=(ps.take k).map ([·])++[ps.drop k]
    let zs<-(q.zip (List.range N)).mapM fun (l,i)=>oN p i l
    let l:=mkIdent (`_root_.Xob++.mkSimple ((if b then "xX_" else "xR_")++toString n))
    let f<-`(fun $((zs.map (·.1)).toArray):term*=>?_)
    let t:=(zs.flatMap (·.2)).toArray
    s:=s.push (<-if e.raw.isIdent then `(tactic| (revert $e:term;refine $l $f;$t;*)) else `(tactic| (refine $l $f $e;$t;*)))
 let mm:TSyntax `Lean.Parser.Tactic.rcasesPatLo:=⟨mkNode `Lean.Parser.Tactic.rcasesPatLo #[p,mkNullNode]⟩
 s:=s.push (<-`(tactic| rcases $e:term with $mm))
 `(tactic| first $[| $s:tactic]*)
end Xob
local macro_rules | `(tactic| obtain $p:rcasesPatMed:=$e:term)=>Xob.oO p e
namespace Xob
open Lean
def eP:Nat->Syntax->MacroM (TSyntax `Lean.Parser.Tactic.rcasesPatMed)
 | 0,_=>Macro.throwUnsupported
 | k+1,t=>do
  let q:TSyntax `rcasesPat<-match t with
   | `($x:ident)=>`(rcasesPat| $x:ident)
   | `(#[$xs,*])=>do
    let ps<-xs.getElems.mapM fun x=>eP k x
    `(rcasesPat| ⟨$[$ps:rcasesPatMed],*⟩)
   | _=>`(rcasesPat| _)
  `(Lean.Parser.Tactic.rcasesPatMed| $q:rcasesPat)
end Xob
local macro_rules | `(tactic| exists $e,$xs,*)=>do
 let p<-Xob.eP 9 (<-`(#[$xs,*]))
 `(tactic| obtain $p:rcasesPatMed:=$e)
set_option compiler.extract_closed false
set_option bootstrap.genMatcherCode false
local macro_rules | `(tactic| omega) => `(tactic| first|lia|omega +splitDisjunctions)
local macro_rules | `(()) => `(by first|omega|decide)
noncomputable section
abbrev aa:=List Int
abbrev ae:=List aa
abbrev aB:=List ae
open List renaming length_map->af,getElem?_eq_getElem->aq,getD_eq_getElem?_getD->aD,range->aT,map_append->aY,getElem?_map->a7,getElem?_eq_some_iff->a_,replicate->bj,mem_cons->bV,mem_singleton->bZ,mem_append->b5,eq_nil_of_length_eq_zero->b7,mem_map->b8,length_take->cB,length_append->cC,getElem_mem->cD,length_pos_iff->cE,mem_of_getElem?->cH,getElem_map->cZ,mem_iff_getElem->di,zipWith->dw,getElem?_append_left->dH,take_succ->dI,length_cons->dO,getElem?_append_right->dQ,mem_range->eN,mem_cons_of_mem->eQ,mem_cons_self->e9,size_toArray->fh,map_cons->fo,take_length->fY,map_congr_left->gf,getLast?_eq_getElem?->gC,range_succ->gM,nil_append->gT,mem_of_mem_take->gU,sum_append->gX,mem_append_right->hE,ext_getElem->h8,take_of_length_le->ii,length_range->im,mem_append_left->iE,map_map->iF,not_mem_nil->iZ,sum_cons->i2,replicate_succ->jb,cons_append->je,length_set->jt,map_singleton->jy,length->ka,getElem?_replicate->ke,map_eq_nil_iff->kf,nodup_append->kh,getElem_range->ki,length_zipWith->km,exists_cons_of_length_eq_add_one->ko,nodup_nil->ln,getLast_eq_getElem->lE,sum_singleton->lH,mem_filter->mQ,nodup_cons->mR,length_replicate->mS,mem_reverse->mX,mem_of_getLast?->ni,lookup->oC,append_nil->oD,length_singleton->oE,drop_zero->oR,getElem?_range->oU,length_reverse->oX,getElem?_set_ne->qD,getElem?_take_of_lt->qF,length_drop->qG,append_assoc->qH,getLast?_eq_some_getLast->qL,take_append_drop->qN,getLast?_eq_some_iff->qS,getElem?_zipWith->qT,pairwise_iff_getElem->qV,length_eq_one_iff->qX,getElem?_set_self->x_,take_sublist->yd,any_cons->ye,flatten_cons->yf,map_nil->yh,getElem?_cons_zero->yi,getElem?_eq_none->yj,eq_nil_or_concat->yk,concat_eq_append->ym,map->yt,getLast?_eq_none_iff->yu,lookup_cons->Es,find?_cons->Eu,length_nil->Ev,drop_eq_getElem_cons->Ex,getElem?_cons_succ->EC,set_cons_zero->ED,set_cons_succ->EE,getLast?_map->EN,filterMap_cons->M_,of_mem_zip->Nb,length_dropLast->Nc,map_take->Nf,map_drop->Ng,headD_cons->Ni,tail_cons->Nj,length_tail->Nk,getLast?_concat->Nl,map_id->Nr,getLast_mem->Nw,filter_append->NA,getElem_cons_zero->NB,getElem_cons_succ->NC,eq_of_mem_replicate->ND,dropLast_concat_getLast->NE,reverse_append->Vt,take_succ_eq_append_getElem->Vu,set_append_right->Vv,take_succ_cons->VE,drop_eq_nil_of_le->VG,take_append_of_le_length->VI,replicate_zero->VJ,drop_of_length_le->VR,mem_or_eq_of_mem_set->VS,getElem_zipWith->VT,countP_eq_length_filter->VU,singleton_append->VV,getElem?_dropLast->VW
open Nat renaming le_refl->aC,le_trans->aP,zero_le->bh,gcd->cO,le_of_lt->dj,lt_of_lt_of_le->dE,lt_of_le_of_lt->dF,pow_add->eH,ne_of_lt->eK,two_pow_pos->eV,mul_le_mul_right->fj,mul_le_mul->fq,mul_le_mul_left->fE,pow_le_pow_right->fQ,one_mul->gD,sub_self->gE,mul_comm->hI,le_mul_of_pos_right->h_,le_mul_of_pos_left->ik,add_mul->il,mul_assoc->iG,mul_pos->jd,lt_irrefl->kW,pow_succ->kX,le_of_dvd->mT,lt_of_not_le->mU,gcd_dvd_left->mV,pow_lt_pow_right->mY,mul_one->mZ,pow_le_pow_left->m_,pow_mul->nj,add_comm->oG,add_le_add->oM,gcd_dvd_right->oO,pos_of_ne_zero->oP,mul_succ->oV,mod_lt->oW,lt_succ_self->qE,le_of_not_lt->qI,lt_succ_of_lt->qJ,dvd_gcd->qU,zero_add->qW,le_of_eq->yc,gcd_comm->yw,gcd_pos_of_pos_left->yy,le_succ->Er,log2_lt->Et,mul_lt_mul_of_pos_left->Ew,strongRecOn->Ey,eq_zero_of_zero_dvd->Ez,dvd_antisymm->EF,div_add_mod'->EG,gcd_zero_left->EH,mul_add->EJ,add_le_add_left->EO,add_le_add_right->EQ,ne_of_gt->Na,succ_mul->Nd,pow_pos->Nh,sub_zero->Nq,lt_or_ge->Nu,gcd_rec->Nv,gcd_le_left->Nx,dvd_zero->Ny,eq_of_mul_eq_mul_left->Nz,sub_le_of_le_add->Vz,mul_lt_mul_of_pos_right->VC,div_lt_iff_lt_mul->VM,div_le_div_right->VN,eq_one_of_mul_eq_one_right->VP
open Int renaming mul_assoc->cI,one_mul->cL,mul_comm->cW,natAbs_mul->du,mul_zero->dY,natAbs_natCast->d_,mul_ne_zero->fL,natCast_mul->fX,dvd_trans->ge,toNat_natCast->gB,zero_add->ij,dvd_mul_right->i0,mul_add->jc,ofNat_dvd_left->jf,natAbs_add_le->ju,natCast_dvd_natCast->jv,eq_of_mul_eq_mul_left->jx,natAbs_pos->kg,mul_eq_zero->kY,mul_left_comm->kZ,natAbs_dvd->k_,pow_succ->mW,add_zero->oH,mul_sub->oI,natAbs_dvd_natAbs->oJ,natAbs_sub_le->oN,dvd_refl->oQ,mul_le_mul_of_nonneg_left->oS,natAbs->oY,mul_neg->qM,mul_fdiv_cancel_left->qO,zero_mul->qP,dvd_zero->qQ,dvd_mul_left->qR,mul_one->ya,add_mul->yn,mul_nonneg->yo,lt_or_gt_of_ne->yp,mul_pos->yq,mul_ediv_cancel'->yr,fdiv_eq_ediv_of_nonneg->Ep,le_of_lt->EA,mul_le_mul_of_nonneg_right->EB,dvd_natAbs->EI,natCast_pow->EK,pos_of_mul_pos_right->EL,lt_of_not_ge->EM,dvd_add->Nm,zero_dvd->No,mul_dvd_mul_left->Np,natAbs_pow->Nt,mul_neg_of_pos_of_neg->Vw,mul_neg_of_neg_of_pos->Vx,mul_nonneg_of_nonpos_of_nonpos->Vy,dvd_of_mul_dvd_mul_left->VD,fmod_nonneg_of_pos->VO,pos_of_mul_pos_left->VX
open Option renaming map_eq_some_iff->e_,getD_some->fF,isSome_iff_exists->Vr
open PySem.Challenge renaming pw_sumcraft_k34_rules_of_order_one->zgx,rw_sumcraft_k34_rules_of_order_one->zgy
namespace My
open PySem PySem.Spec PyProof.Rows PySem.W
noncomputable def top (i:Nat):Stmt:=zgx.main.body.getD i (.Pass ⟨0,0,0,0⟩)
noncomputable def eh (s:Stmt) (j:Nat):Stmt:=match s with
 | .ClassDef _ _ _ b _ _ _ _ _ _ _=>b.getD j (.Pass ⟨0,0,0,0⟩)
 | _=>.Pass ⟨0,0,0,0⟩
abbrev yz:=top 6
abbrev yB:=top 7
abbrev yC:=top 8
abbrev yD:=top 9
abbrev yE:=top 10
abbrev yF:=top 11
abbrev yG:=top 12
abbrev yH:=top 16
abbrev yI:=top 17
abbrev yJ:=top 19
abbrev yK:=top 20
abbrev yL:=top 21
abbrev yM:=top 22
abbrev yN:=top 23
abbrev yO:=top 24
abbrev yP:=top 25
abbrev yQ:=top 26
abbrev yS:=top 27
abbrev yT:=top 29
abbrev yU:=top 31
abbrev yV:=top 32
abbrev yW:=top 35
abbrev yX:=top 36
abbrev yY:=top 37
abbrev yZ:=top 38
abbrev y_:=top 39
abbrev za:=top 41
abbrev zd:=top 44
abbrev ze:=top 45
abbrev zf:=top 46
abbrev zh:=top 47
abbrev zi:=top 48
abbrev zj:=top 49
abbrev zl:=top 50
abbrev zm:=top 51
abbrev zn:=top 52
abbrev zo:=top 54
abbrev zp:=top 55
abbrev zq:=top 56
abbrev zr:=top 57
abbrev zt:=top 58
abbrev zu:=top 59
abbrev zw:=top 60
abbrev zx:=top 61
abbrev zA:=top 62
abbrev zB:=top 63
abbrev zC:=top 64
abbrev zD:=top 65
abbrev zE:=top 66
abbrev zG:=top 67
abbrev zH:=top 68
abbrev zI:=top 69
abbrev zJ:=eh (top 40) 0
abbrev zK:=eh (top 40) 1
abbrev zN:=eh (top 40) 2
abbrev zO:=eh (top 40) 3
abbrev zP:=eh (top 40) 4
abbrev zQ:=eh (top 40) 5
abbrev zS:=eh (top 40) 6
abbrev zT:=eh (top 40) 7
abbrev zX:=eh (top 40) 8
abbrev ER:=eh (top 40) 9
noncomputable def kE (P:Params) (x:String) (n:Nat) (v:Value):DictEntry:=⟨PyData.keyHash P (Str.ofString x),.str (Str.ofString x) n,v⟩
noncomputable def kM (x q:Str) (s:Stmt) (m:Str) (k c:Nat):Obj:=match s with
 | .FunctionDef _ a b _ _ _ sc _ _ _=>⟨.type "function",none,.func (fnOf x q a b sc .none .none .none (.str m k) none (.ref c) .none),#[]⟩
 | _=>⟨.none,none,.plain,#[]⟩
noncomputable def kN (x q:Str) (s:Stmt):Obj:=match s with
 | .FunctionDef _ a b _ _ _ sc _ _ _=>⟨.none,none,.func { name:=x,qualname:=q,params:=a,body:=.stmts b,scope:=sc,globals:=0,closure:=[],defaults:=.none,kwdefaults:=.none },#[]⟩
 | _=>⟨.none,none,.plain,#[]⟩
noncomputable def oT (x:Array Value):Obj:={ cls:=.type "tuple",data:=Data.seq x }
noncomputable def oF (x:Array Value):Obj:={ cls:=.none,data:=Data.fields x }
noncomputable def oK (x:Array Value):Obj:={ cls:=.type "code",data:=Data.fields x }
noncomputable def oB (x:Array Value):Obj:={ cls:=.type "builtin_function_or_method",data:=Data.fields x }
def cp (n:Nat):Value:=.str "/claim/cut.py" n
noncomputable def frC (x q:Str) (n L a f r:Nat) (b:Bool) (c k:Nat):Obj:=oK #[.str x n,.str q (n+1),cp (n+2),.int L 0,.int a 0,.int 0 0,.int 0 0,.int f 0,.ref r,.bool b,.int c 0,.ref (r+1),.none,.ref (r+2),.ref (r+3),.ref (r+4),.int k 0,.int L 0,cp (k+1)]
noncomputable def frT:Nat->List String->List Value
 | _,[]=>[]
 | n,x :: r=>.str (Str.ofString x) n :: frT (n+1) r
noncomputable def frS (n:Nat) (l:List String):Obj:=oT ⟨frT n l⟩
noncomputable def frL (l:List (Nat×Nat)):Obj:=oF ⟨l.flatMap λp=>[.int p.1 0,.int 0 0,.ref p.2]⟩
noncomputable def frD (e:DictEntry) (l:List DictEntry) (n:Nat):Obj:={ cls:=.type "dict",data:=Data.dict ⟨e :: l⟩ n }
noncomputable def frH (x q:Str) (n L a r k:Nat):Obj:=frC x q n L a 3 r true 181 k
noncomputable def frE (x q:Str) (n L a r:Nat):Obj:=oK #[.str x n,.str q (n+1),cp (n+2),.int L 0,.int a 0,.int 0 0,.int 0 0,.int 3 0,.ref r,.bool true,.int 181 0,.ref (r+1),.none,.none,.none,.ref (r+2),.int (n+3) 0,.int L 0,cp (n+4)]
noncomputable def frF (x:Str) (n L r:Nat):Obj:=oK #[.str x n,.str x (n+1),cp (n+2),.int L 0,.int 0 0,.int 0 0,.int 0 0,.int 0 0,.ref r,.bool false,.int 181 0,.ref (r+1),.none,.none,.none,.none,.int (n+3) 0,.int L 0,cp (n+4)]
noncomputable def frG (a b:Nat) (m:Str) (k:Nat):Obj:={ cls:=.type "frame",slots:=#[some (.ref a),some (.ref 3),some (.ref b),none,some (.str m k),none,some (.ref 0)] }
noncomputable def frU (a:Nat):Obj:={ cls:=.type "super",data:=Data.fields #[.ref a,.ref a,.ref a] }
noncomputable def frV (x:Str) (a n s k l:Nat):Obj:={ cls:=.type "type",data:=Data.cls { name:=x,bases:=[.ref 24],mro:=[.ref a,.ref 24,.type "ValueError",.type "Exception",.type "BaseException",.type "object"],ns:=n,qualname:=x },slots:=#[some (.ref s),none,some (.str x k),some (.str x l),some (.builtin "ValueError.__new__"),some (.bool true)] }
noncomputable def kN1 (x:Str) (s:Stmt):Obj:=kN x x s
noncomputable def kM1 (x:Str) (s:Stmt) (m:Str) (k c:Nat):Obj:=kM x x s m k c
noncomputable def eo (x:Str) (n L a r k:Nat):Obj:=frH x x n L a r k
noncomputable def fG (x:Str) (n L a r:Nat):Obj:=frE x x n L a r
def ak:=oT #[]
def aH:=oF #[]
def qY:=frF "<module>" 182 1 11
noncomputable def qZ:=frG 13 3 "__main__" 164
noncomputable def ES (P:Params):List DictEntry:=[kE P "__doc__" 166 (.none),kE P "__package__" 167 (.none),kE P "__loader__" 168 (.builtin "__main__.__loader__#opaque"),kE P "__spec__" 169 (.none),kE P "__annotations__" 170 (.ref 6),kE P "__builtins__" 171 (.ref 4),kE P "__file__" 173 (cp 172),kE P "__cached__" 174 (.none),kE P "SumError" 206 (.ref 24),kE P "NoNumber" 222 (.ref 37),kE P "NoRule" 238 (.ref 49),kE P "TooGreat" 254 (.ref 61),kE P "trimmed" 264 (.ref 70),kE P "poly_plus" 275 (.ref 77),kE P "poly_less" 281 (.ref 82),kE P "poly_times" 294 (.ref 89),kE P "shifted" 305 (.ref 96),kE P "poly_value" 315 (.ref 103),kE P "quotient" 331 (.ref 110),kE P "LONG" 335 (.int 4000 334),kE P "WINDOW" 337 (.int 300 336),kE P "shortened" 354 (.ref 117),kE P "divisor" 366 (.ref 124),kE P "content" 377 (.ref 131)]
noncomputable def ob3 (P:Params):Obj:=frD (kE P "__name__" 165 (.str "sumcraft.reaches" 367)) (ES P) 25
def NG:=frL [(2,20),(4,33),(6,45),(8,57),(11,69),(16,76),(21,81),(23,88),(31,95),(37,102),(42,109),(62,116),(78,123),(91,130)]
def zY:=oT #[.type "ValueError"]
def ia:=oB #[.builtin "type.__prepare__",.type "type"]
def q8 (P:Params):=frD (kE P "__module__" 196 (.str "sumcraft.errors" 187)) [kE P "__qualname__" 198 (.str "SumError" 197),kE P "__firstlineno__" 200 (.int 2 199),kE P "__static_attributes__" 201 (.ref 22)] 4
def zZ:=frF "SumError" 191 2 18
noncomputable def z_:=frG 20 17 "sumcraft.errors" 187
def q9 (P:Params):=frD (kE P "__module__" 196 (.str "sumcraft.errors" 187)) [kE P "__firstlineno__" 200 (.int 2 199),kE P "__static_attributes__" 201 (.ref 22),kE P "__weakref__" 203 (.ref 25),kE P "__doc__" 204 (.none)] 3
noncomputable def q_:Obj:={ cls:=.type "type",data:=Data.cls { name := "SumError",bases:=[.type "ValueError"],mro:=[.ref 24,.type "ValueError",.type "Exception",.type "BaseException",.type "object"],ns:=23,qualname := "SumError",subclasses:=[.ref 37,.ref 49,.ref 61] },slots:=#[some (.ref 15),none,some (.str "SumError" 189),some (.str "SumError" 197),some (.builtin "ValueError.__new__"),some (.bool true)] }
noncomputable def Ab:Obj:={ cls:=.type "getset_descriptor",data:=Data.fields #[.str "__weakref__" 202,.ref 24,.builtin "ExceptionGroup.__weakref__",.none] }
noncomputable def Ac:=frU 24
def Ad:=oB #[.builtin "object.__init_subclass__",.ref 24]
def jz:=oT #[.ref 24]
def ra (P:Params):=frD (kE P "__module__" 214 (.str "sumcraft.errors" 187)) [kE P "__qualname__" 216 (.str "NoNumber" 215),kE P "__firstlineno__" 218 (.int 4 217),kE P "__static_attributes__" 219 (.ref 35)] 4
def Ae:=frF "NoNumber" 209 4 31
noncomputable def Af:=frG 33 30 "sumcraft.errors" 187
def re (P:Params):=frD (kE P "__module__" 214 (.str "sumcraft.errors" 187)) [kE P "__firstlineno__" 218 (.int 4 217),kE P "__static_attributes__" 219 (.ref 35),kE P "__doc__" 220 (.none)] 2
noncomputable def rf:=frV "NoNumber" 37 36 28 207 215
noncomputable def Ag:=frU 37
def Ah:=oB #[.builtin "object.__init_subclass__",.ref 37]
def rg (P:Params):=frD (kE P "__module__" 230 (.str "sumcraft.errors" 187)) [kE P "__qualname__" 232 (.str "NoRule" 231),kE P "__firstlineno__" 234 (.int 6 233),kE P "__static_attributes__" 235 (.ref 47)] 4
def Ai:=frF "NoRule" 225 6 43
noncomputable def Aj:=frG 45 42 "sumcraft.errors" 187
def rh (P:Params):=frD (kE P "__module__" 230 (.str "sumcraft.errors" 187)) [kE P "__firstlineno__" 234 (.int 6 233),kE P "__static_attributes__" 235 (.ref 47),kE P "__doc__" 236 (.none)] 2
noncomputable def rj:=frV "NoRule" 49 48 40 223 231
noncomputable def Ak:=frU 49
def Al:=oB #[.builtin "object.__init_subclass__",.ref 49]
def rl (P:Params):=frD (kE P "__module__" 246 (.str "sumcraft.errors" 187)) [kE P "__qualname__" 248 (.str "TooGreat" 247),kE P "__firstlineno__" 250 (.int 8 249),kE P "__static_attributes__" 251 (.ref 59)] 4
def Am:=frF "TooGreat" 241 8 55
noncomputable def Ao:=frG 57 54 "sumcraft.errors" 187
def rm (P:Params):=frD (kE P "__module__" 246 (.str "sumcraft.errors" 187)) [kE P "__firstlineno__" 250 (.int 8 249),kE P "__static_attributes__" 251 (.ref 59),kE P "__doc__" 252 (.none)] 2
noncomputable def rn:=frV "TooGreat" 61 60 52 239 247
noncomputable def Ap:=frU 61
def Aq:=oB #[.builtin "object.__init_subclass__",.ref 61]
def Ar:=frS 260 ["numbers","size"]
def As:=kN1 "trimmed" (top 6)
def ro:=eo "trimmed" 257 11 1 64 262
def rq:=kM1 "trimmed" (top 6) "sumcraft.polys" 255 69
def At:=frS 268 ["one","other","answer","place","number"]
def Au:=kN1 "poly_plus" (top 7)
def rA:=eo "poly_plus" 265 16 2 71 273
def rB:=kM1 "poly_plus" (top 7) "sumcraft.polys" 255 76
def Av:=kN1 "poly_less" (top 8)
def rC:=fG "poly_less" 276 21 2 78
def rD:=kM1 "poly_less" (top 8) "sumcraft.polys" 255 81
def Aw:=frS 285 ["one","other","answer","low","number","place","factor"]
def Ax:=kN1 "poly_times" (top 9)
def rE:=eo "poly_times" 282 23 2 83 292
def rF:=kM1 "poly_times" (top 9) "sumcraft.polys" 255 88
def Ay:=frS 298 ["poly","by","answer","low","place"]
def Az:=kN1 "shifted" (top 10)
def rG:=eo "shifted" 295 31 2 90 303
def rH:=kM1 "shifted" (top 10) "sumcraft.polys" 255 95
def AA:=frS 309 ["poly","n","answer","number"]
def AB:=kN1 "poly_value" (top 11)
def rJ:=eo "poly_value" 306 37 2 97 313
def rK:=kM1 "poly_value" (top 11) "sumcraft.polys" 255 102
def AC:=frS 319 ["one","other","rest","steps","answer","low","top","factor","place","number"]
def AD:=kN1 "quotient" (top 12)
def rL:=eo "quotient" 316 42 2 104 329
def rM:=kM1 "quotient" (top 12) "sumcraft.polys" 255 109
def AE:=frS 341 ["big","small","cut","ahead","behind","half","upper","lower","times","rest","further"]
def AF:=kN1 "shortened" (top 16)
def rN:=eo "shortened" 338 62 2 111 352
def rO:=kM1 "shortened" (top 16) "sumcraft.ratios" 332 116
def AG:=frS 358 ["one","other","big","small","pair","rest"]
def AH:=kN1 "divisor" (top 17)
def rP:=eo "divisor" 355 78 2 118 364
def rQ:=kM1 "divisor" (top 17) "sumcraft.ratios" 332 123
def AI:=frS 372 ["poly","answer","number"]
def AJ:=kN1 "content" (top 19)
def rR:=eo "content" 369 91 1 125 375
def rS:=kM1 "content" (top 19) "sumcraft.reaches" 367 130
noncomputable def ET (P:Params):List DictEntry:=ES P++[kE P "over" 383 (.ref 136),kE P "upright" 389 (.ref 141),kE P "spread" 399 (.ref 148),kE P "greatest_size" 405 (.ref 153),kE P "bare_common" 415 (.ref 160),kE P "common" 421 (.ref 165),kE P "common_of" 430 (.ref 172),kE P "clear" 439 (.ref 179),kE P "order_of" 449 (.ref 186),kE P "further" 457 (.ref 191),kE P "coords" 463 (.ref 196),kE P "START" 467 (.int 97 466),kE P "lowered" 473 (.ref 201),kE P "through" 485 (.ref 208),kE P "greatest_degree" 491 (.ref 213),kE P "degree_bound" 497 (.ref 218),kE P "cleared" 503 (.ref 223),kE P "Span" 610 (.ref 295),kE P "relation" 620 (.ref 306),kE P "GREATEST_WORK" 624 (.int 32 623),kE P "check_work" 630 (.ref 311),kE P "thinned" 636 (.ref 316),kE P "joined" 642 (.ref 321),kE P "of_two" 657 (.ref 328),kE P "plus_vector" 663 (.ref 333),kE P "times_vector" 669 (.ref 338)]
noncomputable def NH (P:Params):Obj:=frD (kE P "__name__" 165 (.str "sumcraft.joins" 621)) (ET P) 51
def NI:=frL [(2,20),(4,33),(6,45),(8,57),(11,69),(16,76),(21,81),(23,88),(31,95),(37,102),(42,109),(62,116),(78,123),(91,130),(96,135),(98,140),(102,147),(111,152),(113,159),(121,164),(130,171),(135,178),(141,185),(149,190),(154,195),(166,200),(174,207),(183,212),(185,217),(189,222),(194,229),(285,305),(296,310),(299,315),(306,320),(309,327),(319,332),(323,337)]
def EU:=kN1 "over" (top 20)
def AK:=fG "over" 378 96 2 132
def AL:=kM1 "over" (top 20) "sumcraft.reaches" 367 135
def EV:=kN1 "upright" (top 21)
def AM:=fG "upright" 384 98 1 137
def AN:=kM1 "upright" (top 21) "sumcraft.reaches" 367 140
def EW:=frS 393 ["number","base","answer","low"]
def EX:=kN1 "spread" (top 22)
def AO:=eo "spread" 390 102 2 142 397
def AQ:=kM1 "spread" (top 22) "sumcraft.reaches" 367 147
def EY:=kN1 "greatest_size" (top 23)
def AR:=fG "greatest_size" 400 111 1 149
def AS:=kM1 "greatest_size" (top 23) "sumcraft.reaches" 367 152
def EZ:=frS 409 ["one","other","place","found"]
def E1:=kN1 "bare_common" (top 24)
def AT:=eo "bare_common" 406 113 2 154 413
def AU:=kM1 "bare_common" (top 24) "sumcraft.reaches" 367 159
def E2:=kN1 "common" (top 25)
def AV:=fG "common" 416 121 2 161
def AW:=kM1 "common" (top 25) "sumcraft.reaches" 367 164
def E3:=frS 425 ["polys","answer","poly"]
def E4:=kN1 "common_of" (top 26)
def AX:=eo "common_of" 422 130 1 166 428
def AY:=kM1 "common_of" (top 26) "sumcraft.reaches" 367 171
def E5:=frS 434 ["poly","m","moved"]
def E6:=kN1 "clear" (top 27)
def AZ:=eo "clear" 431 135 2 173 437
def A2:=kM1 "clear" (top 27) "sumcraft.reaches" 367 178
def E7:=frS 445 ["rule","poly"]
def E8:=kN1 "order_of" (top 29)
def A3:=eo "order_of" 442 141 1 180 447
def A4:=kM1 "order_of" (top 29) "sumcraft.rules" 440 185
def E9:=kN1 "further" (top 31)
def A6:=fG "further" 452 149 2 187
def A7:=kM1 "further" (top 31) "sumcraft.coords" 450 190
def E_:=kN1 "coords" (top 32)
def A8:=fG "coords" 458 154 2 192
def A9:=kM1 "coords" (top 32) "sumcraft.coords" 450 195
def Fa:=kN1 "lowered" (top 35)
def A_:=fG "lowered" 468 166 3 197
def Bc:=kM1 "lowered" (top 35) "sumcraft.spans" 464 200
def Fe:=frS 477 ["places","values","steps","gap","place","answer"]
def Ff:=kN1 "through" (top 36)
def Be:=eo "through" 474 174 2 202 483
def Bf:=kM1 "through" (top 36) "sumcraft.spans" 464 207
def Fg:=kN1 "greatest_degree" (top 37)
def Bg:=fG "greatest_degree" 486 183 1 209
def Bh:=kM1 "greatest_degree" (top 37) "sumcraft.spans" 464 212
def Fh:=kN1 "degree_bound" (top 38)
def Bi:=fG "degree_bound" 492 185 2 214
def Bj:=kM1 "degree_bound" (top 38) "sumcraft.spans" 464 217
def Fi:=kN1 "cleared" (top 39)
def Bk:=fG "cleared" 498 189 1 219
def Bl:=kM1 "cleared" (top 39) "sumcraft.spans" 464 222
def Bm (P:Params):=frD (kE P "__module__" 511 (.str "sumcraft.spans" 464)) [kE P "__qualname__" 513 (.str "Span" 512),kE P "__firstlineno__" 515 (.int 194 514),kE P "__init__" 523 (.ref 237),kE P "row_at" 529 (.ref 242),kE P "table_at" 540 (.ref 249),kE P "lowered_at" 550 (.ref 256),kE P "only_choice" 556 (.ref 261),kE P "failing_column" 569 (.ref 268),kE P "keep" 578 (.ref 275),kE P "by_few" 584 (.ref 280),kE P "take" 590 (.ref 285),kE P "apart" 597 (.ref 292),kE P "__static_attributes__" 603 (.ref 293)] 14
def Fj:=oF #[.int 196 0,.int 4 0,.ref 236,.int 203 0,.int 4 0,.ref 241,.int 207 0,.int 4 0,.ref 248,.int 217 0,.int 4 0,.ref 255,.int 223 0,.int 4 0,.ref 260,.int 236 0,.int 4 0,.ref 267,.int 247 0,.int 4 0,.ref 274,.int 253 0,.int 4 0,.ref 279,.int 265 0,.int 4 0,.ref 284,.int 283 0,.int 4 0,.ref 291]
def Fk:=frF "Span" 506 194 227
noncomputable def Fl:=frG 229 226 "sumcraft.spans" 464
def Fm:=frS 519 ["self","width"]
def Fn:=kN "__init__" "Span.__init__" (eh (top 40) 0)
def Bn:=frH "__init__" "Span.__init__" 516 196 2 231 521
def Bo:=kM "__init__" "Span.__init__" (eh (top 40) 0) "sumcraft.spans" 464 236
def Fo:=kN "row_at" "Span.row_at" (eh (top 40) 1)
def Br:=frE "row_at" "Span.row_at" 524 203 4 238
def Bs:=kM "row_at" "Span.row_at" (eh (top 40) 1) "sumcraft.spans" 464 241
def Fp:=frS 533 ["self","place","table","number","row"]
def Fs:=kN "table_at" "Span.table_at" (eh (top 40) 2)
def Bu:=frH "table_at" "Span.table_at" 530 207 2 243 538
def Bv:=kM "table_at" "Span.table_at" (eh (top 40) 2) "sumcraft.spans" 464 248
def Ft:=frS 544 ["self","vector","place","table"]
def Fu:=kN "lowered_at" "Span.lowered_at" (eh (top 40) 3)
def Bw:=frH "lowered_at" "Span.lowered_at" 541 217 3 250 548
def Bx:=kM "lowered_at" "Span.lowered_at" (eh (top 40) 3) "sumcraft.spans" 464 255
def Fv:=kN "only_choice" "Span.only_choice" (eh (top 40) 4)
def By:=frE "only_choice" "Span.only_choice" 551 223 2 257
def Bz:=kM "only_choice" "Span.only_choice" (eh (top 40) 4) "sumcraft.spans" 464 260
def Fy:=frS 560 ["self","vector","weights","column","answer","other","weight"]
def Fz:=kN "failing_column" "Span.failing_column" (eh (top 40) 5)
def BA:=frH "failing_column" "Span.failing_column" 557 236 3 262 567
def BB:=kM "failing_column" "Span.failing_column" (eh (top 40) 5) "sumcraft.spans" 464 267
def FA:=frS 573 ["self","vector","column"]
def FB:=kN "keep" "Span.keep" (eh (top 40) 6)
def BC:=frH "keep" "Span.keep" 570 247 3 269 576
def BD:=kM "keep" "Span.keep" (eh (top 40) 6) "sumcraft.spans" 464 274
def FC:=kN "by_few" "Span.by_few" (eh (top 40) 7)
def BE:=frE "by_few" "Span.by_few" 579 253 3 276
def BF:=kM "by_few" "Span.by_few" (eh (top 40) 7) "sumcraft.spans" 464 279
def FE:=kN "take" "Span.take" (eh (top 40) 8)
def BG:=frE "take" "Span.take" 585 265 2 281
def BH:=kM "take" "Span.take" (eh (top 40) 8) "sumcraft.spans" 464 284
def FF:=oT #[.str "self" 594]
def FG:=kN "apart" "Span.apart" (eh (top 40) 9)
def BI:=frH "apart" "Span.apart" 591 283 1 286 595
def BJ:=kM "apart" "Span.apart" (eh (top 40) 9) "sumcraft.spans" 464 291
def FH:=frS 598 ["columns","kept","place","tables","width"]
def BK (P:Params):=frD (kE P "__module__" 511 (.str "sumcraft.spans" 464)) [kE P "__firstlineno__" 515 (.int 194 514),kE P "__init__" 523 (.ref 237),kE P "row_at" 529 (.ref 242),kE P "table_at" 540 (.ref 249),kE P "lowered_at" 550 (.ref 256),kE P "only_choice" 556 (.ref 261),kE P "failing_column" 569 (.ref 268),kE P "keep" 578 (.ref 275),kE P "by_few" 584 (.ref 280),kE P "take" 590 (.ref 285),kE P "apart" 597 (.ref 292),kE P "__static_attributes__" 603 (.ref 293),kE P "__dict__" 605 (.ref 296),kE P "__weakref__" 607 (.ref 297),kE P "__doc__" 608 (.none)] 4
noncomputable def BL:Obj:={ cls:=.type "type",data:=Data.cls { name := "Span",bases:=[.type "object"],mro:=[.ref 295,.type "object"],ns:=294,qualname := "Span" },slots:=#[none,none,some (.str "Span" 504),some (.str "Span" 512),some (.builtin "object.__new__"),some (.bool true)] }
noncomputable def FI:Obj:={ cls:=.type "getset_descriptor",data:=Data.fields #[.str "__dict__" 604,.ref 295,.builtin "function.__dict__",.builtin "function.__dict__#set"] }
noncomputable def FJ:Obj:={ cls:=.type "getset_descriptor",data:=Data.fields #[.str "__weakref__" 606,.ref 295,.builtin "ExceptionGroup.__weakref__",.none] }
noncomputable def FK:=frU 295
def FL:=oB #[.builtin "object.__init_subclass__",.ref 295]
def FM:=frS 614 ["vectors","span","vector","found"]
def FO:=kN1 "relation" (top 41)
def BM:=eo "relation" 611 285 1 300 618
def BN:=kM1 "relation" (top 41) "sumcraft.spans" 464 305
def FP:=kN1 "check_work" (top 44)
def BO:=fG "check_work" 625 296 2 307
def BP:=kM1 "check_work" (top 44) "sumcraft.joins" 621 310
def FQ:=kN1 "thinned" (top 45)
def BQ:=fG "thinned" 631 299 1 312
def BR:=kM1 "thinned" (top 45) "sumcraft.joins" 621 315
def FR:=kN1 "joined" (top 46)
def BS:=fG "joined" 637 306 2 317
def BU:=kM1 "joined" (top 46) "sumcraft.joins" 621 320
def FS:=frS 646 ["one","other","width","vector_of","vectors","weights","number","left","right"]
def FT:=kN1 "of_two" (top 47)
def BV:=eo "of_two" 643 309 4 322 655
def BW:=kM1 "of_two" (top 47) "sumcraft.joins" 621 327
def FV:=kN1 "plus_vector" (top 48)
def BX:=fG "plus_vector" 658 319 2 329
def BY:=kM1 "plus_vector" (top 48) "sumcraft.joins" 621 332
def FW:=kN1 "times_vector" (top 49)
def BZ:=fG "times_vector" 664 323 2 334
def B3:=kM1 "times_vector" (top 49) "sumcraft.joins" 621 337
noncomputable def NJ (P:Params):List DictEntry:=ET P++[kE P "plus_rule" 677 (.ref 345),kE P "times_rule" 685 (.ref 352),kE P "summed_rule" 691 (.ref 357),kE P "_law_cell_at" 701 (.ref 364),kE P "_law_cut" 709 (.ref 371),kE P "_law_product" 720 (.ref 378),kE P "_law_less" 730 (.ref 385),kE P "_law_on" 739 (.ref 392),kE P "_law_divisor" 748 (.ref 399),kE P "_law_content" 757 (.ref 406),kE P "_law_primitive" 763 (.ref 411),kE P "_law_common" 774 (.ref 418),kE P "_law_common_of" 783 (.ref 425),kE P "_law_by" 795 (.ref 432),kE P "_law_thinned" 801 (.ref 437),kE P "_law_rule" 807 (.ref 442),kE P "_law_plus" 813 (.ref 447),kE P "_law_is" 824 (.ref 454),kE P "law" 830 (.ref 459)]
noncomputable def FX (P:Params):Obj:=frD (kE P "__name__" 165 (.str "law_sumcraft_k34_rules_of_order_one" 692)) (NJ P) 70
def NK:=frL [(2,20),(4,33),(6,45),(8,57),(11,69),(16,76),(21,81),(23,88),(31,95),(37,102),(42,109),(62,116),(78,123),(91,130),(96,135),(98,140),(102,147),(111,152),(113,159),(121,164),(130,171),(135,178),(141,185),(149,190),(154,195),(166,200),(174,207),(183,212),(185,217),(189,222),(194,229),(285,305),(296,310),(299,315),(306,320),(309,327),(319,332),(323,337),(328,344),(330,351),(332,356),(349,363),(353,370),(358,377),(364,384),(371,391),(376,398),(384,405),(389,410),(396,417),(408,424),(413,431),(421,436),(428,441),(439,446),(452,453),(462,458)]
def NL:=frS 673 ["one","other"]
def NM:=kN1 "plus_rule" (top 50)
def FY:=eo "plus_rule" 670 328 2 339 675
def FZ:=kM1 "plus_rule" (top 50) "sumcraft.joins" 621 344
def NN:=frS 681 ["one","other"]
def NO:=kN1 "times_rule" (top 51)
def F1:=eo "times_rule" 678 330 2 346 683
def F3:=kM1 "times_rule" (top 51) "sumcraft.joins" 621 351
def NP:=kN1 "summed_rule" (top 52)
def F4:=fG "summed_rule" 686 332 1 353
def F5:=kM1 "summed_rule" (top 52) "sumcraft.joins" 621 356
def NQ:=frS 697 ["_law_script","_law_k"]
def NR:=kN1 "_law_cell_at" (top 54)
def F6:=eo "_law_cell_at" 694 349 2 358 699
def F7:=kM1 "_law_cell_at" (top 54) "law_sumcraft_k34_rules_of_order_one" 692 363
def NS:=frS 705 ["_law_numbers","_law_found"]
def NU:=kN1 "_law_cut" (top 55)
def F8:=eo "_law_cut" 702 353 1 365 707
def F9:=kM1 "_law_cut" (top 55) "law_sumcraft_k34_rules_of_order_one" 692 370
def NV:=frS 713 ["_law_one","_law_other","_law_found","_law_i","_law_j"]
def NW:=kN1 "_law_product" (top 56)
def F_:=eo "_law_product" 710 358 2 372 718
def Ga:=kM1 "_law_product" (top 56) "law_sumcraft_k34_rules_of_order_one" 692 377
def NX:=frS 724 ["_law_one","_law_other","_law_found","_law_k"]
def NY:=kN1 "_law_less" (top 57)
def Gb:=eo "_law_less" 721 364 2 379 728
def Gd:=kM1 "_law_less" (top 57) "law_sumcraft_k34_rules_of_order_one" 692 384
def NZ:=frS 734 ["_law_poly","_law_found","_law_number"]
def N8:=kN1 "_law_on" (top 58)
def Ge:=eo "_law_on" 731 371 1 386 737
def Gf:=kM1 "_law_on" (top 58) "law_sumcraft_k34_rules_of_order_one" 692 391
def N9:=frS 743 ["_law_one","_law_other","_law_rest"]
def N_:=kN1 "_law_divisor" (top 59)
def Gg:=eo "_law_divisor" 740 376 2 393 746
def Gh:=kM1 "_law_divisor" (top 59) "law_sumcraft_k34_rules_of_order_one" 692 398
def Oa:=frS 752 ["_law_poly","_law_found","_law_number"]
def Ob:=kN1 "_law_content" (top 60)
def Gi:=eo "_law_content" 749 384 1 400 755
def Gj:=kM1 "_law_content" (top 60) "law_sumcraft_k34_rules_of_order_one" 692 405
def Oc:=kN1 "_law_primitive" (top 61)
def Gk:=fG "_law_primitive" 758 389 1 407
def Gm:=kM1 "_law_primitive" (top 61) "law_sumcraft_k34_rules_of_order_one" 692 410
def Od:=frS 767 ["_law_one","_law_other","_law_scale","_law_rest","_law_below"]
def Oe:=kN1 "_law_common" (top 62)
def Gn:=eo "_law_common" 764 396 2 412 772
def Go:=kM1 "_law_common" (top 62) "law_sumcraft_k34_rules_of_order_one" 692 417
def Of:=frS 778 ["_law_polys","_law_found","_law_poly"]
def Og:=kN1 "_law_common_of" (top 63)
def Gp:=eo "_law_common_of" 775 408 1 419 781
def Gr:=kM1 "_law_common_of" (top 63) "law_sumcraft_k34_rules_of_order_one" 692 424
def Oh:=frS 787 ["_law_poly","_law_by_here","_law_rest","_law_found","_law_at","_law_j"]
def Oi:=kN1 "_law_by" (top 64)
def Gs:=eo "_law_by" 784 413 2 426 793
def Gt:=kM1 "_law_by" (top 64) "law_sumcraft_k34_rules_of_order_one" 692 431
def Oj:=kN1 "_law_thinned" (top 65)
def Gu:=fG "_law_thinned" 796 421 1 433
def Gv:=kM1 "_law_thinned" (top 65) "law_sumcraft_k34_rules_of_order_one" 692 436
def Ol:=kN1 "_law_rule" (top 66)
def Gx:=fG "_law_rule" 802 428 2 438
def Gy:=kM1 "_law_rule" (top 66) "law_sumcraft_k34_rules_of_order_one" 692 441
def Om:=kN1 "_law_plus" (top 67)
def Gz:=fG "_law_plus" 808 439 2 443
def GA:=kM1 "_law_plus" (top 67) "law_sumcraft_k34_rules_of_order_one" 692 446
def On:=frS 817 ["_law_found","_law_due","_law_poly","_law_right","_law_k"]
def Oo:=kN1 "_law_is" (top 68)
def GB:=eo "_law_is" 814 452 2 448 822
def GC:=kM1 "_law_is" (top 68) "law_sumcraft_k34_rules_of_order_one" 692 453
def Op:=kN1 "law" (top 69)
def GD:=fG "law" 825 462 1 455
def GE:=kM1 "law" (top 69) "law_sumcraft_k34_rules_of_order_one" 692 458
noncomputable def env0:Env:={ scope:=zgx.main.scope,locals:=mainNs,globals:=mainNs,cells:=[],code:=.ref 13,frame:=some 14 }
def cd0:Code:=.body (behindTheImports zgx) env0
noncomputable def fr0:List Frame:=[topFrame { line:=0,col:=0,endLine:=0,endCol:=0 }]
noncomputable def hp1 (P:Params):Heap:=⟨⟨[boot_o_0 P,boot_o_1 P,boot_o_2 P,boot_o_3 P,boot_o_4 P,boot_o_5 P,boot_o_6 P,boot_o_7 P,boot_o_8 P,boot_o_9 P,boot_o_10 P,ak,aH,qY,qZ]⟩,{}⟩
noncomputable def hp3 (P:Params):Heap:=⟨⟨[boot_o_0 P,boot_o_1 P,boot_o_2 P,ob3 P,boot_o_4 P,boot_o_5 P,boot_o_6 P,boot_o_7 P,boot_o_8 P,boot_o_9 P,boot_o_10 P,ak,NG,qY,qZ,zY,ia,q8 P,ak,aH,zZ,z_,ak,q9 P,q_,Ab,Ac,Ad,jz,ia,ra P,ak,aH,Ae,Af,ak,re P,rf,Ag,Ah,jz,ia,rg P,ak,aH,Ai,Aj,ak,rh P,rj,Ak,Al,jz,ia,rl P,ak,aH,Am,Ao,ak,rm P,rn,Ap,Aq,ak,aH,Ar,ak,As,ro,rq,ak,aH,At,ak,Au,rA,rB,ak,aH,Av,rC,rD,ak,aH,Aw,ak,Ax,rE,rF,ak,aH,Ay,ak,Az,rG,rH,ak,aH,AA,ak,AB,rJ,rK,ak,aH,AC,ak,AD,rL,rM,ak,aH,AE,ak,AF,rN,rO,ak,aH,AG,ak,AH,rP,rQ,ak,aH,AI,ak,AJ,rR,rS]⟩,{}⟩
noncomputable def hp4 (P:Params):Heap:=⟨⟨[boot_o_0 P,boot_o_1 P,boot_o_2 P,NH P,boot_o_4 P,boot_o_5 P,boot_o_6 P,boot_o_7 P,boot_o_8 P,boot_o_9 P,boot_o_10 P,ak,NI,qY,qZ,zY,ia,q8 P,ak,aH,zZ,z_,ak,q9 P,q_,Ab,Ac,Ad,jz,ia,ra P,ak,aH,Ae,Af,ak,re P,rf,Ag,Ah,jz,ia,rg P,ak,aH,Ai,Aj,ak,rh P,rj,Ak,Al,jz,ia,rl P,ak,aH,Am,Ao,ak,rm P,rn,Ap,Aq,ak,aH,Ar,ak,As,ro,rq,ak,aH,At,ak,Au,rA,rB,ak,aH,Av,rC,rD,ak,aH,Aw,ak,Ax,rE,rF,ak,aH,Ay,ak,Az,rG,rH,ak,aH,AA,ak,AB,rJ,rK,ak,aH,AC,ak,AD,rL,rM,ak,aH,AE,ak,AF,rN,rO,ak,aH,AG,ak,AH,rP,rQ,ak,aH,AI,ak,AJ,rR,rS,ak,aH,EU,AK,AL,ak,aH,EV,AM,AN,ak,aH,EW,ak,EX,AO,AQ,ak,aH,EY,AR,AS,ak,aH,EZ,ak,E1,AT,AU,ak,aH,E2,AV,AW,ak,aH,E3,ak,E4,AX,AY,ak,aH,E5,ak,E6,AZ,A2,ak,aH,E7,ak,E8,A3,A4,ak,aH,E9,A6,A7,ak,aH,E_,A8,A9,ak,aH,Fa,A_,Bc,ak,aH,Fe,ak,Ff,Be,Bf,ak,aH,Fg,Bg,Bh,ak,aH,Fh,Bi,Bj,ak,aH,Fi,Bk,Bl,ak,ia,Bm P,ak,Fj,Fk,Fl,ak,aH,Fm,ak,Fn,Bn,Bo,ak,aH,Fo,Br,Bs,ak,aH,Fp,ak,Fs,Bu,Bv,ak,aH,Ft,ak,Fu,Bw,Bx,ak,aH,Fv,By,Bz,ak,aH,Fy,ak,Fz,BA,BB,ak,aH,FA,ak,FB,BC,BD,ak,aH,FC,BE,BF,ak,aH,FE,BG,BH,ak,aH,FF,ak,FG,BI,BJ,FH,BK P,BL,FI,FJ,FK,FL,ak,aH,FM,ak,FO,BM,BN,ak,aH,FP,BO,BP,ak,aH,FQ,BQ,BR,ak,aH,FR,BS,BU,ak,aH,FS,ak,FT,BV,BW,ak,aH,FV,BX,BY,ak,aH,FW,BZ,B3]⟩,{}⟩
noncomputable def hp5 (P:Params):Heap:=⟨⟨[boot_o_0 P,boot_o_1 P,boot_o_2 P,FX P,boot_o_4 P,boot_o_5 P,boot_o_6 P,boot_o_7 P,boot_o_8 P,boot_o_9 P,boot_o_10 P,ak,NK,qY,qZ,zY,ia,q8 P,ak,aH,zZ,z_,ak,q9 P,q_,Ab,Ac,Ad,jz,ia,ra P,ak,aH,Ae,Af,ak,re P,rf,Ag,Ah,jz,ia,rg P,ak,aH,Ai,Aj,ak,rh P,rj,Ak,Al,jz,ia,rl P,ak,aH,Am,Ao,ak,rm P,rn,Ap,Aq,ak,aH,Ar,ak,As,ro,rq,ak,aH,At,ak,Au,rA,rB,ak,aH,Av,rC,rD,ak,aH,Aw,ak,Ax,rE,rF,ak,aH,Ay,ak,Az,rG,rH,ak,aH,AA,ak,AB,rJ,rK,ak,aH,AC,ak,AD,rL,rM,ak,aH,AE,ak,AF,rN,rO,ak,aH,AG,ak,AH,rP,rQ,ak,aH,AI,ak,AJ,rR,rS,ak,aH,EU,AK,AL,ak,aH,EV,AM,AN,ak,aH,EW,ak,EX,AO,AQ,ak,aH,EY,AR,AS,ak,aH,EZ,ak,E1,AT,AU,ak,aH,E2,AV,AW,ak,aH,E3,ak,E4,AX,AY,ak,aH,E5,ak,E6,AZ,A2,ak,aH,E7,ak,E8,A3,A4,ak,aH,E9,A6,A7,ak,aH,E_,A8,A9,ak,aH,Fa,A_,Bc,ak,aH,Fe,ak,Ff,Be,Bf,ak,aH,Fg,Bg,Bh,ak,aH,Fh,Bi,Bj,ak,aH,Fi,Bk,Bl,ak,ia,Bm P,ak,Fj,Fk,Fl,ak,aH,Fm,ak,Fn,Bn,Bo,ak,aH,Fo,Br,Bs,ak,aH,Fp,ak,Fs,Bu,Bv,ak,aH,Ft,ak,Fu,Bw,Bx,ak,aH,Fv,By,Bz,ak,aH,Fy,ak,Fz,BA,BB,ak,aH,FA,ak,FB,BC,BD,ak,aH,FC,BE,BF,ak,aH,FE,BG,BH,ak,aH,FF,ak,FG,BI,BJ,FH,BK P,BL,FI,FJ,FK,FL,ak,aH,FM,ak,FO,BM,BN,ak,aH,FP,BO,BP,ak,aH,FQ,BQ,BR,ak,aH,FR,BS,BU,ak,aH,FS,ak,FT,BV,BW,ak,aH,FV,BX,BY,ak,aH,FW,BZ,B3,ak,aH,NL,ak,NM,FY,FZ,ak,aH,NN,ak,NO,F1,F3,ak,aH,NP,F4,F5,ak,aH,NQ,ak,NR,F6,F7,ak,aH,NS,ak,NU,F8,F9,ak,aH,NV,ak,NW,F_,Ga,ak,aH,NX,ak,NY,Gb,Gd,ak,aH,NZ,ak,N8,Ge,Gf,ak,aH,N9,ak,N_,Gg,Gh,ak,aH,Oa,ak,Ob,Gi,Gj,ak,aH,Oc,Gk,Gm,ak,aH,Od,ak,Oe,Gn,Go,ak,aH,Of,ak,Og,Gp,Gr,ak,aH,Oh,ak,Oi,Gs,Gt,ak,aH,Oj,Gu,Gv,ak,aH,Ol,Gx,Gy,ak,aH,Om,Gz,GA,ak,aH,On,ak,Oo,GB,GC,ak,aH,Op,GD,GE]⟩,{}⟩
theorem Oq (w:World)(os:OsState):topGo treeTable zgx w 11 (some (.ref 6)) 12 (⟨boot_heap w.params,Array.mk [],boot_drawn,boot_toks,os⟩:Shared) (topStub zgx)=some ((⟨hp1 w.params,#[],{},187,os⟩:Shared),⟨denote treeTable cd0,cd0,{ line:=0,col:=0,endLine:=0,endCol:=0 },fr0⟩):=∅
theorem Os (w:World)(os:OsState):segRun treeTable zgx w 11 (some (.ref 6)) 1 1 (⟨hp1 w.params,#[],{},187,os⟩:Shared) (blockOf (behindTheImports zgx) env0 cd0 { line:=0,col:=0,endLine:=0,endCol:=0 } fr0)=some (.next,(⟨hp1 w.params,#[],{},187,os⟩:Shared),cd0,{ line:=0,col:=0,endLine:=0,endCol:=0 }):=∅
noncomputable def gl3:List Stmt:=[top 0,top 1,top 2,top 3,top 4,top 5,top 6,top 7,top 8,top 9,top 10,top 11,top 12,top 13,top 14,top 15,top 16,top 17,top 18,top 19]
theorem pc3 (w:World)(os:OsState):segRun treeTable zgx w 11 (some (.ref 6)) 1 1211 (⟨hp1 w.params,#[],{},187,os⟩:Shared) (piecesOf gl3 env0 cd0 { line:=0,col:=0,endLine:=0,endCol:=0 } fr0)=some (.next,(⟨hp3 w.params,#[],{},378,os⟩:Shared),cd0,{ line:=91,col:=0,endLine:=95,endCol:=17 }):=∅
noncomputable def gl4:List Stmt:=[top 20,top 21,top 22,top 23,top 24,top 25,top 26,top 27,top 28,top 29,top 30,top 31,top 32,top 33,top 34,top 35,top 36,top 37,top 38,top 39,top 40,top 41,top 42,top 43,top 44,top 45,top 46,top 47,top 48,top 49]
theorem pc4 (w:World)(os:OsState):segRun treeTable zgx w 11 (some (.ref 6)) 1 1212 (⟨hp3 w.params,#[],{},378,os⟩:Shared) (piecesOf gl4 env0 cd0 { line:=91,col:=0,endLine:=95,endCol:=17 } fr0)=some (.next,(⟨hp4 w.params,#[],{},670,os⟩:Shared),cd0,{ line:=323,col:=0,endLine:=327,endCol:=17 }):=∅
noncomputable def gl5:List Stmt:=[top 50,top 51,top 52,top 53,top 54,top 55,top 56,top 57,top 58,top 59,top 60,top 61,top 62,top 63,top 64,top 65,top 66,top 67,top 68,top 69]
theorem pc5 (w:World)(os:OsState):segRun treeTable zgx w 11 (some (.ref 6)) 1 575 (⟨hp4 w.params,#[],{},670,os⟩:Shared) (piecesOf gl5 env0 cd0 { line:=323,col:=0,endLine:=327,endCol:=17 } fr0)=some (.next,(⟨hp5 w.params,#[],{},831,os⟩:Shared),cd0,{ line:=462,col:=0,endLine:=482,endCol:=42 }):=∅
theorem Ot (w:World)(os:OsState):topRun treeTable zgx w 11 (some (.ref 6)) 2 (⟨hp5 w.params,#[],{},831,os⟩:Shared) ⟨doneF .next,cd0,{ line:=462,col:=0,endLine:=482,endCol:=42 },fr0⟩=some (⟨hp5 w.params,#[],{},831,os⟩:Shared):=∅
theorem Ou:behindTheImports zgx=gl3++(gl4++(gl5++[])):=∅
theorem Ov (w:World)(os:OsState):topRun treeTable zgx w 11 (some (.ref 6)) (12+(1+(1211+(1212+(575+2))))) (⟨boot_heap w.params,Array.mk [],boot_drawn,boot_toks,os⟩:Shared) (topStub zgx)=some (⟨hp5 w.params,#[],{},831,os⟩:Shared):=
 go_top (Oq w os) (piece_block (Os w os) (by
  rw[Ou];exact piece_app (pc3 w os) (piece_app (pc4 w os) (piece_app (pc5 w os) (piece_nil (Ot w os))))))
noncomputable def KK (P:Params):Frag:=[(3,FX P),(17,q8 P),(23,q9 P),(24,q_),(30,ra P),(36,re P),(37,rf),(42,rg P),(48,rh P),(49,rj),(54,rl P),(60,rm P),(61,rn),(69,ro),(70,rq),(76,rA),(77,rB),(81,rC),(82,rD),(88,rE),(89,rF),(95,rG),(96,rH),(102,rJ),(103,rK),(109,rL),(110,rM),(116,rN),(117,rO),(123,rP),(124,rQ),(130,rR),(131,rS),(135,AK),(136,AL),(140,AM),(141,AN),(147,AO),(148,AQ),(152,AR),(153,AS),(159,AT),(160,AU),(164,AV),(165,AW),(171,AX),(172,AY),(178,AZ),(179,A2),(185,A3),(186,A4),(190,A6),(191,A7),(195,A8),(196,A9),(200,A_),(201,Bc),(207,Be),(208,Bf),(212,Bg),(213,Bh),(217,Bi),(218,Bj),(222,Bk),(223,Bl),(226,Bm P),(236,Bn),(237,Bo),(241,Br),(242,Bs),(248,Bu),(249,Bv),(255,Bw),(256,Bx),(260,By),(261,Bz),(267,BA),(268,BB),(274,BC),(275,BD),(279,BE),(280,BF),(284,BG),(285,BH),(291,BI),(292,BJ),(294,BK P),(295,BL),(305,BM),(306,BN),(310,BO),(311,BP),(315,BQ),(316,BR),(320,BS),(321,BU),(327,BV),(328,BW),(332,BX),(333,BY),(337,BZ),(338,B3),(344,FY),(345,FZ),(351,F1),(352,F3),(356,F4),(357,F5),(363,F6),(364,F7),(370,F8),(371,F9),(377,F_),(378,Ga),(384,Gb),(385,Gd),(391,Ge),(392,Gf),(398,Gg),(399,Gh),(405,Gi),(406,Gj),(410,Gk),(411,Gm),(417,Gn),(418,Go),(424,Gp),(425,Gr),(431,Gs),(432,Gt),(436,Gu),(437,Gv),(441,Gx),(442,Gy),(446,Gz),(447,GA),(453,GB),(454,GC),(458,GD),(459,GE)]
noncomputable def KA:List Addr:=[3,17,23,24,30,36,37,42,48,49,54,60,61,69,70,76,77,81,82,88,89,95,96,102,103,109,110,116,117,123,124,130,131,135,136,140,141,147,148,152,153,159,160,164,165,171,172,178,179,185,186,190,191,195,196,200,201,207,208,212,213,217,218,222,223,226,236,237,241,242,248,249,255,256,260,261,267,268,274,275,279,280,284,285,291,292,294,295,305,306,310,311,315,316,320,321,327,328,332,333,337,338,344,345,351,352,356,357,363,364,370,371,377,378,384,385,391,392,398,399,405,406,410,411,417,418,424,425,431,432,436,437,441,442,446,447,453,454,458,459]
noncomputable def qv:Program:=view zgx [1,2,3,4,6,7,8,9,10,11,12,14,15,16,17,19,20,21,22,23,24,25,26,27,29,31,32,34,35,36,37,38,39,40,41,43,44,45,46,47,48,49,50,51,52,54,55,56,57,58,59,60,61,62,63,64,65,66,67,68,69]
def xt (s:Shared):Bool:=xlAt qv [] s && recOk (zgy.row.toRowW).records s
def hk:Hook:=kHook KK KA λ_=>rfl
theorem left:LeftO zgx qv [] xt hk.obs hk.val 6116:=
 LeftO.of_pieces (H₀:=boot_heap) (H₁:=hp5) (gs₁:=#[]) (d₁:={}) (k₁:=831)
  (boot_open ∅ rfl λs=>∅)
  (λw=>∅) Ov ∅
  λw=>∅
theorem Ow:zgy.wellSaid=true:=∅
theorem Ox:zgy.row.prog.bare:=⟨rfl,rfl,rfl,rfl,rfl,by decide +kernel⟩
end My
local macro_rules | `(⋯) => `(by simp)
local macro_rules | `(tactic| let $d:letDecl) => `(tactic| have $d:letDecl)
local macro_rules | `(tactic| calc $e:term) => `(tactic| refine $e)
local macro_rules | `(tactic| lk) => `(tactic| omega)
local macro_rules | `(tactic| cases $x:elimTarget,*) => do
  let t : Array Lean.Term := x.getElems.map fun y => ⟨y.raw[1]⟩
  if t.size < 2 then Lean.Macro.throwUnsupported
  let e := t[0]!
  let xs := t.extract 1 t.size
  `(tactic| exists $e, $xs,*)
def Dc.q0 (h:1=1∨1=1:=by first|exact .inl rfl|exact .inr rfl|assumption):Nat:=0
def y':=Dc.q0._auto_1
def Dc.q1 (h:1=1:=by decide):Nat:=0
def B':=Dc.q1._auto_1
def Dc.q2 (h:∀_:Nat,1=1:=by intro _;rfl):Nat:=0
def C':=Dc.q2._auto_1
def Dc.q3 (h:1=1:=by rfl):Nat:=0
def F':=Dc.q3._auto_1
def Dc.q4 (h:1=1:=by decide +kernel):Nat:=0
def J':=Dc.q4._auto_1
open _root_ renaming autoParam->f'
open _root_ renaming rfl->U,Nat->O,Int->Y,List->G,if_neg->N,if_pos->Zt,absurd->Zq,Option->Zk,congrArg->ZL,decide_eq_false->Yo,Bool->Yl,or_false->Yi,String->YL,Array->YK,if_true->zaf,if_false->zaw,decide_eq_true_eq->zax,DecidableEq->zdf,decide_eq_true_iff->zdt,beq_iff_eq->zdw,Decidable->zer,decide_eq_true->ze0
open PySem renaming Addr->Zs,Value->Zr,Shared->Zp,wpAny_bind->Zm,sizeLine->Zg,wpAny->Zf,model->Ze,wpAny_pure->Zd,Program->Zb,starEach->Za,Params->ZZ,World->ZW,Expr->ZU,relabel->ZP,wpAny_mono->ZO,Heap->ZN,Around->ZK,eval->ZJ,wpAny_comprehension_free->ZH,bootBuiltins->ZF,foldedSetIterable->ZA,mainGlobals->Z0,Scope->Z4,assign->Z5,compareOp->Z7,mem_of_lookup->Z8,wpAny_assign_Name->Yz,keywordEach->Yy,codeAny->Yv,FuncData->Yt,wpAny_Call_Name_kw->Ys,backTo->Yr,wpAny_passesOwn->Yp,compEnvC->Ym,wpAny_standAt->Yk,binaryOp->Yh,behindInMarks->YY,attributeBase->YX,wpAny_truthy_bool->YW,wpAny_newObj_type->YV,newFunctionEnv->YU,codeAny_compStart_list->YT,backToKw->YS,exec_Assign_Name_used->YQ,sliceBounds->YN,letOwnedTupleGo->YM,wpAny_tryCatch->YI,sysModules->YH,Stmt->YD,wpAny_holding->YB,swapsWith->Y6,closureFor->Y9,assignEach->XZ,wpAny_execs_nil->X5,wpAny_newFunctionEnv->X9,sizeLine_eq->zaa,lookup_relabel_local->zab,compPost->zac,newList->zae,holding->zag,cellsFrom->zah,argBest->zai,Keyword->zaj,plainId_quiet->zao,nums_intItems->zap,comprehension->zaq,call_meets->zas,Result->zat,seqIndex_neg->zav,codeAny_mono->zay,callerA->zaz,Operator->za2,wpAny_execs_cons->za5,wpAny_letGo->zba,seqIndex_of->zbb,intItems_at->zbc,IsRangeIter->zbg,wpAny_updateSeq->zbi,codeAny_builtin->zbj,Within->zbk,valueAt->zbm,BindsTo->zbp,wpAny_seqItems->zbq,typeIs_int->zbr,pyNext->zbs,numAt->zbt,NameKind->zbv,IntMulOk->zbw,eval_ListComp->zb3,call->zb4,call->zb5,getMethod->zb8,bindL->zb9,bindC->zca,wpAny_pyNext_range_end->zch,wpAny_pyIter_rangeiter->zci,wpAny_getItem_list_neg->zcj,standAt->zcl,wpAny_storeName_local->zcw,wpAny_isTrue_Compare1->zcx,wpAny_pyIter_revIter->zc5,wpAny_loadName_local->zc6,intItems->zc9,wpAny_loadName_cell->zdh,wpAny_pyIter_range->zdr,wpAny_Name->zds,builtinsNs->zdu,Paired->zdx,wpAny_pyIter_enum->zd1,getItem->zd2,Value->zd7,wpAny_pyIter_zip->zee,storeName->zef,seqItems?->zeg,pushCells->zeh,inplaceOp->zei,Addr->zel,theTreesLotGoes->zet
open PySem.Heap renaming lt_size->Zo,get?_push_of_some->Zl,get?_push_size->ZV,get?_update_other->ZD,size_push->Yx,get?_update_self->Y4,SameBut->zak
open Iff renaming rfl->Zj
open List renaming toArray->Zi,sum->zb2,getElem?_drop->zce,foldl->zcf,getElem_take->zcs,nodup_range->zc2,getElem_set->zc3,getElem_inj->zc4,take_zero->zdl,headD_nil->zdm,forIn_nil->zdn,all_cons->zdy,map_set->zd9
open Bool renaming false_ne_true->Zh,eq_iff_iff->Ye,and_eq_true->YE,beq_eq_decide_eq->zbx,false_eq_true->zcg,or_eq_true->zdg,true->K',false->O'
open Classical renaming byContradiction->Zc
open Option.some renaming inj->ZY
open Nat.succ renaming inj->ZX
open PySem.W renaming findIn->ZT,kia_one->ZI,emptyDict->ZB,instObj->Z2,keepIn->Z6,fnOf->Yc,callWith_K->YO,plainGet->YJ,lookIn->Y2,codeIn->Y3,plainGet_of->Y7,methodObj->X7,hasDictIn->X8,takerIn->zan,nsIn->za6,isFn->za7,cellsFrom_some->za8,methodCall_KW->zbf,plainOver->zby,kitx_list->zbz,kitx_dict->zb0,handedIn->zb6,makesIn->zcb,OpenLaw->zcc,kitOne->zcn,mg_of->zcy,WalkO->zcz
open PyProof.Rows renaming callWith_type1->ZS,AllBare->YC,envOfC->zar,IntsAre->zbn,subscriptTail_builtinR->zck,floordiv_int->zcm,boot_range->zdv
open PySem.Builtin.Range renaming rangeSize->ZR,small->Z3,rangeFitsLong->X6
open Ne renaming symm->ZQ
open False renaming elim->ZM
open PySem.Value renaming ref->ZG,int->YG,str->zal,none->za0,bool->za1,float->zbu,isStrOf->zdi,isInt->zd5,bytes->zd6,type->zej
open PySem.F renaming plain_max_loop->ZE,entry_max_loop->YF,slot_int_rmul->zea
open PySem.Builtin.Int renaming intBits->ZC
open PySem.PyData renaming canLay0->Z9,int->Yw,eqvAll->Yu,eqv->Yg,depth->Yb,canLayAll0->YZ,depthAll->YR
open PySem.Builtin.List renaming listTooLong->Yq
open Array renaming length_toList->Yj,append_assoc->zb7
open True renaming intro->Yd
open Sum renaming inl->YA,inr->zam
open PySem.Str renaming ofString->Y1
open PySem.Around renaming under_plainId->Y5,under->zbh
open PySem.Builtin.Builtins renaming bindParams->Y8
open PySem.Data renaming cell->X4,fields->zau,seq->zdq
open PySem.Obj renaming mapSeq->zad
open PySem.Calls renaming Name_function_global->za3,callWith_builtin->zbl
open List.Pairwise renaming map->za4
open PyProof renaming noPylong_small->za9
open PySem.SeqAt.EqAt renaming str_int->zbd,int_str->zbe
open PySem.Code renaming isFrame->zbo,frames->zes
open Or renaming inr->zb1,inl->zd8
open Option renaming getD_none->zcd
open Nat renaming lt_or_gt_of_ne->zco,gcd_zero_right->zcp,eq_zero_or_pos->zcq,add_sub_cancel->zcr,le_succ_of_le->zc0,dvd_mul_right->zc1,lt_log2_self->zdb,le_add_right->zdc,not_lt_zero->zdj,min_eq_left->zdk,zero_mul->zem,lt_trans->zen,add_zero->zeo,sub_mul->zev
open Int renaming sub_add_cancel->zct,natCast_nonneg->zcu,fmod_lt_of_pos->zcv,natCast_zero->zdd,natCast_emod->zde,mul_dvd_mul->zdp,pow_nonneg->zdz,natAbs_neg->zd0,le_trans->zep,ediv_one->zeq,sub_mul->zew,neg_neg->zex,neg_mul->zey
open PySem.Paired renaming length->zda
open PySem.IsRange renaming new->zdo
open PySem.Walks renaming range->zd3
open PySem.W.WShape renaming has->zd4
open PySem.CmpOp renaming NotIn->zeb,In->ze6
open PySem.SeqAt renaming EqAt->zek
open PySem.W.WData renaming int->zeu
local macro_rules | `(#[$x,*]) => `(⟨$x,*⟩)
local macro_rules | `($x.$i:fieldIdx) => do
  let n := (i.raw.isFieldIdx?).getD 0
  if n < 7 then Lean.Macro.throwUnsupported
  let f := Lean.mkIdent (if n == 9 then `length else if n == 8 then `natAbs else `heap.objs.size)
  `(($x).$f:ident)
open Option renaming some->Zz,none->Zy
open Option renaming some->W
abbrev ap:=G zel
abbrev aN:=G (zel×PySem.Obj)
abbrev aE:=G O
abbrev ck:=PySem.Str->Zk zd7
abbrev bD:=zd7->PySem.Shared->Prop
abbrev b_:=O->Y
abbrev ao:=PySem.W.Frag
namespace L2
open PySem PySem.Spec PyProof.Rows
abbrev Key:=Sum Y Str
def nn:Key->Zr->Yl
 |.inl k,v=>zd5 k v
 |.inr x,v=>zdi x v
def Oy (w:ZW):Key->Y
 |.inl k=>hashInt k
 |.inr x=>hashStr w x
theorem jA:∀{k:Key}{v:Zr},nn k v=K'->(∃i t,k=YA i/\v=YG i t)\/(∃x t,k=zam x/\v=zal x t)
 |.inl i,v,h=>by
  cases Value.isInt_shape (k:=i) (v:=v) h,t,e;calc .inl #[i,t,U,e]
 |.inr x,v,h=>by
  cases Value.isStrOf_shape (x:=x) (v:=v) h,t,e;calc .inr #[x,t,U,e]
def Oz (i:Y)(t:Tok):nn (.inl i) (.int i t)=K':=by simp[nn,zd5]
def OA (x:Str)(t:Tok):nn (.inr x) (.str x t)=K':=by simp[nn,zdi]
def OB (a b:Y):decide ((Sum.inl a:Key)=Sum.inl b)=(a == b):=by
 by_cases e:a=b
 .subst e;simp
 .let h:¬(Sum.inl a:Key)=Sum.inl b:=λq=>e (Sum.inl.inj q);rw[Yo h];calc (beq_eq_false_iff_ne.mpr e).symm
def OC (a b:Str):decide ((Sum.inr a:Key)=Sum.inr b)=decide (a=b):=by
 by_cases e:a=b
 .subst e;simp
 .let h:¬(Sum.inr a:Key)=Sum.inr b:=λq=>e (Sum.inr.inj q);rw[Yo h,Yo e]
def OD (a:Y)(b:Str):decide ((Sum.inl a:Key)=zam b)=O':=Yo (λq=>nomatch q)
def OE (a:Str)(b:Y):decide ((Sum.inr a:Key)=YA b)=O':=Yo (λq=>nomatch q)
def jB (prog:Zb)(w:ZW):PySem.KeyKind prog w Key where
 is:=nn
 hash:=Oy w
 inj:=λv a b ha hb=>by
  rcases jA ha with ⟨i,t,rfl,rfl⟩|⟨x,t,rfl,rfl⟩
  .rcases jA hb with ⟨j,u,rfl,e⟩|⟨y,u,rfl,e⟩
   .injection e with e1 _;rw[e1]
   .exact nomatch e
  .rcases jA hb with ⟨j,u,rfl,e⟩|⟨y,u,rfl,e⟩
   .exact nomatch e
   .injection e with e1 _;rw[e1]
 byValue:=λk v h=>by
  rcases jA h with ⟨i,t,rfl,rfl⟩|⟨x,t,rfl,rfl⟩ <;> rfl
 pyHash:=λhv h=>by
  rcases jA hv with ⟨i,t,rfl,rfl⟩|⟨x,t,rfl,rfl⟩
  .exact wpAny_pyHash_int h
  .exact wpAny_pyHash_str h
 eqBool:=λhu hv h=>by
  rcases jA hu with ⟨i,t,rfl,rfl⟩|⟨x,t,rfl,rfl⟩
  .rcases jA hv with ⟨j,u,rfl,rfl⟩|⟨y,u,rfl,rfl⟩
   .rw[OB]at h;exact wpAny_eqBool_int h
   .rw[OD]at h;exact zbe i t y u _ _ _ _ h
  .rcases jA hv with ⟨j,u,rfl,rfl⟩|⟨y,u,rfl,rfl⟩
   .rw[OE]at h;exact zbd x t j u _ _ _ _ h
   .rw[OC]at h;exact wpAny_eqBool_str h
 «strs»:=λk x t v h=>by
  rcases jA h with ⟨i,u,rfl,e⟩|⟨y,u,rfl,e⟩
  .exact nomatch e
  .injection e with e1 _;subst e1
   cases v <;> rfl
def OF (prog:Zb)(w:ZW)(i:Y)(t:Tok):(jB prog w).is (.inl i) (.int i t)=K':=Oz i t
def OG (prog:Zb)(w:ZW)(x:Str)(t:Tok):(jB prog w).is (.inr x) (.str x t)=K':=OA x t
inductive V where
 | non|bl (b:Yl)|int (i:Y)|str (x:Str)|byt (b:YK UInt8)|flt (b:UInt64)|ref (a:Zs)|ty (n:YL)
 deriving zdf
def RelV:V->Zr->Prop
 |.non,u=>u=za0
 |.bl b,u=>u=za1 b
 |.int i,u=>∃t,u=YG i t
 |.str x,u=>∃t,u=zal x t
 |.byt b,u=>∃t,u=zd6 b t
 |.flt b,u=>∃t,u=zbu b t
 |.ref a,u=>u=ZG a
 |.ty n,u=>u=zej n
abbrev Vals:G V->G Zr->Prop:=zdx RelV
def Vals.length (r:Vals xs us):xs.9=us.9:=zda r
theorem Vals.get:∀{a:G V}{b:G Zr}{i:O}{x:V},Vals a b->a[i]?=W x->∃u,b[i]?=W u/\RelV x u
 |_,_,_,_,.nil,e=>by simp at e
 |_,_,0,_,.cons r _,e=>by simp at e;subst e;calc#[_,U,r]
 |_,_,i+1,x,.cons _ t,e=>by
  cases Vals.get (i:=i) (x:=x) t (⇑e),u,c,d;calc#[u,by simpa using c,d]
theorem Vals.set (r:RelV x u):∀{a:G V}{b:G Zr}(i:O),Vals a b->Vals (a.set i x) (b.set i u)
 |_,_,_,.nil=>.nil
 |_,_,0,.cons _ t=>.cons r t
 |_,_,i+1,.cons q t=>.cons q (Vals.set r i t)
theorem Vals.append:∀{a b:G V}{c d:G Zr},Vals a c->Vals b d->Vals (a++b) (c++d)
 |_,_,_,_,.nil,s=>s
 |_,_,_,_,.cons r t,s=>.cons r (Vals.append t s)
theorem Vals.take:∀{a:G V}{b:G Zr}(n:O),Vals a b->Vals (a.take n) (b.take n)
 |_,_,0,_=>.nil
 |_,_,_+1,.nil=>.nil
 |_,_,n+1,.cons r t=>.cons r (Vals.take n t)
theorem Vals.drop:∀{a:G V}{b:G Zr}(n:O),Vals a b->Vals (a.drop n) (b.drop n)
 |_,_,0,r=>r
 |_,_,_+1,.nil=>.nil
 |_,_,n+1,.cons _ t=>Vals.drop n t
def RelO:Zk V->Zk Zr->Prop
 |some v,W u=>RelV v u
 |none,Zy=>True
 |_,_=>False
def KV {κ:Type}:G (κ×V)->G (κ×Zr)->Prop:=zdx λ(p:κ×V)(q:κ×Zr)=>p.1=q.1/\RelV p.2 q.2
def kV:Key->V
 |.inl i=>.int i
 |.inr x=>.str x
inductive HO where
  | lst (xs:G V)
  | tup (xs:G V)
  | dK (kvs:G (Key×V))|dT (kvs:G (G Key×V))
  | set (S:Y->Yl) (n:O)
  | ins (C dx:Zs) (fs:G (Str×V))
  | own (x:Zs)
  | xd (fs:G (Str×V))
  | met (f x:Zs)
  | rng (lo hi:Y)
  | frz (o:Obj) (u:HO)
  | tbl (ps:YK Zr)
  | ext (φ:ZN->Prop)
abbrev Hp:=Zs->Zk HO
def upd (H:Hp)(a:Zs)(o:HO):Hp:=λb=>if b=a then W o else H b
def ai:upd H a o a=W o:=by unfold upd;rw[Zt U]
def aK {a b:Zs}(h:b≠a):upd H a o b=H b:=by unfold upd;rw[N h]
def GF:upd (upd H a o) a u=upd H a u:=by
 funext b;unfold upd;split <;> rfl
def B4 {H:Hp}{a b:Zs}(h:H a=W o)(h':H b=W u)(d:o≠u):a≠b:=by
 intro e;subst e;rw[h]at h';calc d (ZY h')
def fH {H:Hp}{a b:Zs}(h:H a=W o)(h':H b=Zy):a≠b:=by
 intro e;subst e;rw[h]at h';cases h'
section
variable (P:Zb)(w:ZW)
def ObjOk (H:Hp)(h:ZN)(a:Zs):HO->Prop
 |.lst xs=>xs.9<=Zg/\∃(its:G Zr)(n:O),Vals xs its/\h.get? a=W {cls:=.type "list",data:=.seq its.toArray n}
 |.tup xs=>xs.9<=Zg/\∃its:G Zr,Vals xs its/\IsTup h a its.toArray
 |.dK kvs=>kvs.9<=Zg/\(a == YH)=O'/\∃vs,KV kvs vs/\h.DictOf (jB P w) a vs
 |.dT kvs=>kvs.9<=Zg/\(a == YH)=O'/\∃xs:G (G Key×Zs×Zr),
   zdx (λ(p:G Key×V)(q:G Key×Zs×Zr)=>p.1=q.1/\H q.2.1=W (.tup (p.1.map kV))/\RelV p.2 q.2.2) kvs xs/\
   ∃o es ep,h.get? a=W o/\o.ExactDict/\o.data=.dict es ep/\es.toList=xs.map (entryOfKey (tupleKind (jB P w)))/\(xs.map (·.1)).Nodup
 |.set S n=>h.SetOf (intKind P w) a S n
 |.ins C dx fs=>H dx=W (.own a)/\fs.9<=1000/\dx≠a/\h.get? a=W (Z2 C dx)/\
   ∃mA,h.Ns1 dx mA/\(∀f,RelO (fs.lookup f) (mA f))/\zbk mA (fs.map (·.1))
 |.own _=>∃o,h.get? a=W o
 |.xd fs=>∃mA,h.Ns1 a mA/\∀f,RelO (fs.lookup f) (mA f)
 |.rng lo hi=>∃t u v,h.get? a=W {cls:=.type "range",data:=.fields (Zi [.int lo t,.int hi u,.int 1 v])}
 |.frz o u=>h.get? a=W o/\ObjOk H h a u
 |.tbl ps=>h.get? a=W {cls:=.none,data:=.fields ps}
 |.met f x=>h.get? a=W (X7 (.ref f) (.ref x))
 |.ext φ=>φ h/\(∃o,h.get? a=W o)/\∀h1 h2:ZN,φ h1->(∀o,h1.get? a=W o->h2.get? a=W o)->φ h2
def HOk (H:Hp)(h:ZN):Prop:=∀a o,H a=W o->ObjOk P w H h a o
end
section
variable {P:Zb}{w:ZW}{H H':Hp}{h h':ZN}{a:Zs}{o:HO}
def ObjOk.lt (x:ObjOk P w H h a o):a<h.objs.size:=by
 cases o with
 |lst xs=>cases x,_,_,_,_,e;calc Zo e
 |tup xs=>cases x,_,_,_,p;calc p.lt
 |dK kvs=>cases x,_,_,_,_,o,_,_,e,_;calc Zo e
 |dT kvs=>cases x,_,_,_,_,o,_,_,e,_;calc Zo e
 |set S n=>cases x,o,_,_,_,e,_;calc Zo e
 |ins C dx fs=>cases x,_,_,_,e,_;calc Zo e
 |own y=>cases x,_,e;calc Zo e
 |xd fs=>cases x,_,#[_,_,_,e,_],_;calc Zo e
 |rng lo hi=>cases x,_,_,_,e;calc Zo e
 |frz ob u=>cases x,e,_;calc Zo e
 |tbl ps=>calc Zo (show h.get? a=W _ from x)
 |met f y=>calc Zo (show h.get? a=W _ from x)
 |ext φ=>cases x,_,#[_,e],_;calc Zo e
theorem Paired.mapP {α β:Type}{F G:α->β->Prop}:∀{c:List α}{d:List β},zdx F c d->(∀a b,F a b->G a b)->zdx G c d
 |_,_,.nil,_=>.nil
 |_,_,.cons r t,f=>.cons (f _ _ r) (Paired.mapP t f)
def ObjOk.stay (x:ObjOk P w H h a o)(k:∀b u,(b=a\/H b=W (.own a))->h.get? b=W u->h'.get? b=W u)(I:∀b,H b=W (.own a)->H' b=W (.own a))(M:∀b s,H b=W (.tup s)->H' b=W (.tup s)):ObjOk P w H' h' a o:=by
 induction o with
 |lst s=>cases x,z,m,n,r,e;calc#[z,m,n,r,k _ _ (.inl U) e]
 |tup s=>cases x,z,m,r,i,e,c;calc#[z,m,r,i,k _ _ (.inl U) e,c]
 |dK kvs=>cases x,z,y,Q,r,i,j,l,e,c;calc#[z,y,Q,r,i,j,l,k _ _ (.inl U) e,c]
 |dT kvs=>
  cases x,z,y,s,r,i,j,l,e,c;calc#[z,y,s,Paired.mapP r λp q z=>#[z.1,M _ _ z.2.1,z.2.2],i,j,l,k _ _ (.inl U) e,c]
 |set S n=>cases x,i,j,l,t,e,c;calc#[i,j,l,t,k _ _ (.inl U) e,c]
 |ins C dx fs=>
  cases x,d,z,ne,e,E,#[F,j,l,R,c],r;calc#[I _ d,z,ne,k _ _ (.inl U) e,E,#[F,j,l,k _ _ (.inr d) R,c],r]
 |own y=>cases x,i,e;calc#[i,k _ _ (.inl U) e]
 |xd fs=>cases x,E,#[F,j,l,e,c],r;calc#[E,#[F,j,l,k _ _ (.inl U) e,c],r]
 |rng lo hi=>cases x,t,u,v,e;calc#[t,u,v,k _ _ (.inl U) e]
 |frz i u ih=>cases x,e,q;calc#[k _ _ (.inl U) e,ih q]
 |tbl ps=>
  let e:h.get? a=W {cls:=.none,data:=.fields ps}:=x;show h'.get? a=W {cls:=.none,data:=.fields ps};calc k a _ (.inl U) e
 |met f y=>
  let e:h.get? a=W (X7 (.ref f) (.ref y)):=x;show h'.get? a=W (X7 (.ref f) (.ref y));calc k a _ (.inl U) e
 |ext φ=>cases x,p,#[o,e],st;calc#[st _ _ p λo q=>k _ _ (.inl U) q,#[o,k _ _ (.inl U) e],st]
def HOk.lt (x:HOk P w H h)(e:H a=W o):a<h.objs.size:=(x a o e).lt
def HOk.fresh (x:HOk P w H h)(e:h.objs.size<=a):H a=Zy:=by
 cases q:H a with
 |none=>rfl
 |some u=>calc Zq (dE (x.lt q) e) (kW _)
theorem HOk.kept (x:HOk P w H h)(k:∀b u,h.get? b=W u->h'.get? b=W u):HOk P w H h':=λa o e=>
 (x a o e).stay (λb u _ q=>k b u q) (λ_ q=>q) λ_ _ q=>q
def HOk.laid (x:HOk P w H h)(k:∀b u,h.get? b=W u->h'.get? b=W u)(i:h.objs.size<=a)(d:ObjOk P w (upd H a o) h' a o):HOk P w (upd H a o) h':=λb u e=>by
 let f:=x.fresh i;by_cases hb:b=a
 .subst hb;rw[ai]at e;cases e;exact d
 .rw[aK hb]at e;calc (x b u e).stay (λc v _ q=>k c v q) (λc q=>#v[aK (fH q f),q]) λc j q=>#v[aK (fH q f),q]
end
def Rd (H:Hp)(a:Zs)(u:HO):Prop:=H a=W u\/∃o,H a=W (.frz o u)
def Rd.ok (r:Rd H a u)(x:HOk P w H h):ObjOk P w H h a u:=by
 rcases r with r|⟨o,r⟩
 .exact x a u r
 .cases x a _ r,_,q;calc q
def Mut:Zk HO->Prop
 |some (.lst _)=>True
 |some (.dK _)=>True
 |some (.dT _)=>True
 |some (.set _ _)=>True
 |some (.ins _ _ _)=>True
 |some (.ext _)=>True
 |_=>False
section
variable {P:Zb}{w:ZW}{H:Hp}{h h':ZN}{x e:Zs}{o':HO}
def HOk.write (ok:HOk P w H h)(f:Mut (H x))(n:e=x\/H e=W (.own x))(k:∀b u,b≠e->h.get? b=W u->h'.get? b=W u)(l:∃u,h'.get? e=W u)(m:ObjOk P w (upd H x o') h' x o'):HOk P w (upd H x o') h':=λb u q=>by
 let a:∀c y,H c=W (.own y)->c≠x:=λc y r z=>by subst z;rw[r]at f;exact f
 let d:∀c i,H c=W (.tup i)->c≠x:=λc i r z=>by subst z;rw[r]at f;exact f
 by_cases hb:b=x
 .subst hb;rw[ai]at q;cases q;exact m
 .rw[aK hb]at q;by_cases hbe:b=e
  .let o:H b=W (.own x):=by
    rcases n with z|z
    .exact Zq (hbe.trans z) hb
    .rw[hbe];exact z
   rw[q]at o;cases o;cases l,v,s;exact#[v,#v[hbe,s]]
  .refine (ok b u q).stay (λc v j r=>k c v ?_ r) (λc r=>#v[aK (a c b r),r]) λc i r=>by rw[aK (d c i r)];exact r
   rcases j with rfl|j
   .exact hbe
   .rintro rfl
    rcases n with z|z
    .exact a c b j z
    .rw[j]at z;cases z;calc hb U
end
structure Un (fs ex:ap)(H H':Hp)(h h':ZN):Prop where
 keep:∀b o,h.get? b=W o->H b=Zy->b∉fs->b∉ex->h'.get? b=W o
 slot:∀b o,h.get? b=W o->H b=Zy->b∈fs->b∉ex->∃sl,h'.get? b=W { o with slots:=sl }
 free:∀b o,h.get? b=W o->H b=Zy->b∉ex->H' b=Zy
 there:∀b o,h.get? b=W o->b∉ex->∃o',h'.get? b=W o'
 tups:∀b xs,H b=W (.tup xs)->H' b=W (.tup xs)
 frzs:∀b o u,H b=W (.frz o u)->H' b=W (.frz o u)
 tbls:∀b ps,H b=W (.tbl ps)->∃more,H' b=W (.tbl (ps++more))
section
variable {fs fs' ex ex':ap}{H H1 H2:Hp}{h h1 h2 h':ZN}{a x e:Zs}{o:HO}
def Un.any (u:Un fs ex H H1 h h1){a:Obj}(q:h.get? b=W a)(n:H b=Zy)(hx:b∉ex):∃c,h1.get? b=W {a with slots:=c}:=by
 by_cases hb:b∈fs
 .exact u.slot b a q n hb hx
 .calc#[a.slots,u.keep b a q n hb hx]
theorem Un.trans (a:Un fs ex H H1 h h1)(b:Un fs ex H1 H2 h1 h2):Un fs ex H H2 h h2 where
 keep:=λc d q n f hx=>b.keep c d (a.keep c d q n f hx) (a.free c d q n hx) f hx
 slot:=λc d q n f hx=>by
  cases a.slot c d q n f hx,s,e;cases b.slot c _ e (a.free c d q n hx) f hx,j,k;exact#[j,k]
 free:=λc d q n hx=>by
  cases a.there c d q hx,l,e;exact b.free c l e (a.free c d q n hx) hx
 there:=λc d q hx=>by
  cases a.there c d q hx,l,e;exact b.there c l e hx
 tups:=λc i q=>b.tups c i (a.tups c i q)
 frzs:=λc d i q=>b.frzs c d i (a.frzs c d i q)
 tbls:=λc m q=>by
  cases a.tbls c m q,o,e;cases b.tbls c _ e,r,k;calc#[o++r,by rw[k,zb7]]
theorem Un.kept (k:∀b u,h.get? b=W u->h'.get? b=W u):Un fs ex H H h h':=
 #[λb a q _ _ _=>k b a q,λb a q _ _ _=>#[a.slots,k b a q],λ_ _ _ n _=>n,λb a q _=>#[a,k b a q],λ_ _ q=>q,λ_ _ _ q=>q,λ_ c q=>#[(Zi []),by rw[q];simp]]
def Un.refl:Un fs ex H H h h:=Un.kept λ_ _ q=>q
theorem Un.laid (k:∀b u,h.get? b=W u->h'.get? b=W u)(d:h.objs.size<=a)(c:H a=Zy):Un fs ex H (upd H a o) h h' where
 keep:=λb u q _ _ _=>k b u q
 slot:=λb u q _ _ _=>#[u.slots,k b u q]
 free:=λb u q n _=>by rw[aK (eK (dE (Zo q) d))];exact n
 there:=λb u q _=>#[u,k b u q]
 tups:=λb e q=>by rw[aK (fH q c)];exact q
 frzs:=λb u e q=>by rw[aK (fH q c)];exact q
 tbls:=λb f q=>#[(Zi []),by rw[aK (fH q c),q];simp]
def Un.write (a:Mut (H x))(i:e=x\/H e=W (.own x))(k:∀b u,b≠e->h.get? b=W u->h'.get? b=W u)(c:∃u,h'.get? e=W u):Un fs ex H (upd H x o) h h':=by
 let hx:∀b,H b=Zy->b≠x:=λb n z=>by subst z;rw[n]at a;exact a
 let f:∀b,H b=Zy->b≠e:=λb n z=>by
  subst z;rcases i with r|r
  .exact hx b n r
  .rw[n]at r;cases r
 let d:∀b u,H b=W u->¬Mut (W u)->b≠x:=λb u q nm z=>by subst z;rw[q]at a;exact nm a
 refine⟨λb u q n _ _=>k b u (f b n) q,λb u q n _ _=>#[u.slots,k b u (f b n) q],λb u q n _=>#v[aK (hx b n),n],λb u q _=>?_,
  λb j q=>by rw[aK (d b _ q λz=>z)];exact q,λb u j q=>by rw[aK (d b _ q λz=>z)];exact q,λb l q=>#[(Zi []),by rw[aK (d b _ q λz=>z),q];simp]⟩
 by_cases hbe:b=e
 .subst hbe;exact c
 .calc#[u,k b u hbe q]
end
def trk (h:ZN)(H:Hp):ap:=(aT h.objs.size).filter λa=>(H a).isSome
def jC (h:ZN)(H:Hp):Heap:=PySem.W.hideAll h (trk h H)
def OH (h:ZN)(H:Hp):(jC h H).objs.size=h.objs.size:=PySem.W.hideAll_size _ _
def OI {h:ZN}{H:Hp}{b:Zs}(e:h.get? b=W o)(n:H b=Zy):(jC h H).get? b=W o:=
 PySem.W.hideAll_get _ e λa=>by
  let q:(H b).isSome=K':=(mQ.mp a).2;rw[n]at q;simp at q
def OJ (e:(jC h H).get? b=W o):h.get? b=W o/\H b=Zy:=by
 let a:h.get? b=W o:=PySem.W.of_hideAll (trk h H) e;refine#[a,?_]
 cases q:H b with
 |none=>rfl
 |some x=>
  let c:b∈trk h H:=mQ.mpr #[eN.mpr (Zo a),by simp[q]];let z:(jC h H).get? b=Zy:=PySem.W.hideAll_none (trk h H) c;rw[z]at e;cases e
noncomputable def OK (g h:ZN) (L:Zs):aN:=(aT h.objs.size).filterMap λa=>if a=L\/(g.get? a).isSome=K' then Zy else (h.get? a).map λo=>(a,o)
def rest (g h:ZN)(L d:Zs):aN:=(OK g h L).filter λp=>decide (p.1≠d)
structure Mod (K:ao)(mg:ck)(base:ZN):Prop where
 kin:K.In base
 glob:base.Ns Z0 mg
 blt:∃mb,base.Ns zdu mb/\∀x:Str,x ≠ "__name__" -> mb x=ZF x
 nolimit:base.NoLimit
structure Cx where
 prog:Zb
 w:ZW
 K:ao
 mg:ck
 base:ZN
 A:ZK
 N:G Str
 s₀:Zp
 H₀:Hp
 env:Env
 outer:G Env
 stack:G Env
 ex:ap
 fn:Str->Yl
 calm:Yl
 pn:aN
 xe:bD
noncomputable def frs (l:G Env):ap:=l.filterMap (·.frame)
abbrev Cx.fs (X:Cx):ap:=frs X.outer
def Vis (sc:Z4)(x:Str):Prop:=sc.names.lookup x=W .local\/sc.names.lookup x=W .cell\/sc.names.lookup x=W .free
def Loc (sc:Z4)(x:Str):Prop:=sc.names.lookup x=W .local\/sc.names.lookup x=W .cell
def OL (env:Env)(h:ZN)(m:ck)(x:Str)(u:Zr):Prop:=
 (env.kindOf x=W .local/\m x=W u)\/((env.kindOf x=W .cell\/env.kindOf x=W .free)/\∃c,env.cells.lookup x=W c/\h.IsCell c (W u))
structure Cx.Ok (X:Cx):Prop where
 mod:Mod X.K X.mg X.base
 kind:X.env.scope.kind=.function
 glob:X.env.globals=Z0
 blt:X.env.builtins=zdu
 above:X.s₀.7<=X.env.locals
 inj:∀x y c,X.env.cells.lookup x=W c->X.env.cells.lookup y=W c->x=y
 has:∀x,(X.env.kindOf x=W .cell\/X.env.kindOf x=W .free)->∃c,X.env.cells.lookup x=W c
 cab:∀x c,X.fn x=true->X.env.cells.lookup x=W c->X.s₀.7<=c
 hd:X.calm=true->X.A.handled=Zy
 frames:X.A.frames=W X.stack
 stk:X.stack=X.outer\/(X.stack=X.env :: X.outer/\X.env.frame=W X.env.locals)
 exf:∀b∈X.ex,b≠X.env.locals/\∀x c,X.env.cells.lookup x=W c->c≠b
 bs:∀b o,X.base.get? b=W o->X.s₀.heap.get? b=W o/\X.H₀ b=Zy
 bsz:X.base.objs.size<=X.s₀.7
 noex:∀b o,X.base.get? b=W o->b∉X.ex
 exfs:∀b∈X.ex,b∉X.fs
 funs:X.s₀.heap.FunFrames X.base X.outer
 frf:∀b∈X.fs,X.H₀ b=Zy
structure Inv (X:Cx)(XX:aN)(σ:G (Zk V))(H:Hp)(s:Zp):Prop where
 ok:X.Ok
 os:s.os=X.s₀.os
 bare:YC s.gens
 base:Un X.fs X.ex X.H₀ H X.s₀.heap s.heap
 loc:∃m,s.heap.Ns X.env.locals m/\∀(i:O)(x:Str)(v:V),X.N[i]?=W x->σ[i]?=W (W v)->Vis X.env.scope x->∃u,RelV v u/\OL X.env s.heap m x u
 cell:∀x c,X.env.cells.lookup x=W c->∃v,s.heap.IsCell c v
 free:H X.env.locals=Zy
 freeC:∀x c,X.env.cells.lookup x=W c->H c=Zy
 pin:∀p∈X.pn++XX,s.heap.get? p.1=W p.2/\H p.1=Zy/\p.1≠X.env.locals/\p.1∉X.fs/\∀v,p.2.data≠.cell v
 hok:HOk X.prog X.w H s.heap
 len:σ.9=X.N.9
section
variable {X:Cx}{XX:aN}{σ:G (Zk V)}{H H':Hp}{s:Zp}{h':ZN}
def Cx.Ok.nofr (ok:X.Ok)(e:X.base.get? b=W o):b∉X.fs:=λa=>by
 let:=(ok.funs.mem a).1;rw[e]at this;cases this
def Inv.bs (I:Inv X XX σ H s):∀b o,X.base.get? b=W o->s.heap.get? b=W o/\H b=Zy:=λb o e=>
 #[I.base.keep b o (I.ok.bs b o e).1 (I.ok.bs b o e).2 (I.ok.nofr e) (I.ok.noex b o e),I.base.free b o (I.ok.bs b o e).1 (I.ok.bs b o e).2 (I.ok.noex b o e)]
def Inv.bk (I:Inv X XX σ H s):∀b o,X.base.get? b=W o->s.heap.get? b=W o:=λb o e=>(I.bs b o e).1
def Inv.mod (I:Inv X XX σ H s):Mod X.K X.mg X.base:=I.ok.mod
def Inv.kIn (I:Inv X XX σ H s):X.K.In s.heap:=I.ok.mod.kin.keeps I.bk
def Inv.lt (I:Inv X XX σ H s):X.env.locals<s.7:=let ⟨_,hn,_⟩:=I.loc;hn.lt
def Inv.sz (I:Inv X XX σ H s):X.s₀.7<=s.7:=aP I.ok.above (dj I.lt)
def Inv.nofs (I:Inv X XX σ H s){a:Zs}(h:s.7<=a):a∉X.fs:=λb=>by
 cases I.ok.funs.mem b,_,o,c,_;calc Zq (dE (Zo c) (aP I.sz h)) (kW _)
def Inv.cne (I:Inv X XX σ H s):∀x c,X.env.cells.lookup x=W c->c≠X.env.locals:=λx c e z=>by
 cases I.cell x c e,v,o,d,hd;cases I.loc,m,#[f,h,i,a,b,_],_;rw[z,a]at d;cases d;rw[b]at hd;cases hd
def Inv.funs (I:Inv X XX σ H s):s.heap.FunFrames X.base X.outer:=by
 let all:∀(l:G Env),(∀b∈frs l,b∈X.fs)->X.s₀.heap.FunFrames X.base l->s.heap.FunFrames X.base l:=by
  intro l
  induction l with
  |nil=>intro _ _;trivial
  |cons env r ih=>
   intro hs f;cases f,hk,#[L,o,a,h,i,hd],j;let c:L∈X.fs:=hs L (by unfold frs;rw[M_,a];calc e9);obtain⟨k,e⟩:=I.base.slot L o i (I.ok.frf L c) c λz=>I.ok.exfs L z c;exact#[hk,#[L,_,a,h,e,hd],ih (λb d=>hs b (by unfold frs;rw[M_,a];calc eQ _ d)) j]
 calc all X.outer (λ_ d=>d) I.ok.funs
def Inv.stack (I:Inv X XX σ H s):s.heap.FunFrames X.base X.stack:=by
 rcases I.ok.stk with e|⟨e,a⟩
 .rw[e];exact I.funs
 .rw[e];cases I.loc,m,b,_;refine .cons (by rw[I.ok.kind];decide) a b ?_ I.funs;calc Heap.get?_none_of_le (aP I.ok.bsz I.ok.above)
def Inv.stkSub (I:Inv X XX σ H s):∀b∈frs X.stack,b∈X.env.locals::X.fs:=λb a=>by
 rcases I.ok.stk with e|⟨e,c⟩
 .rw[e]at a;exact eQ _ a
 .rw[e]at a;unfold frs at a;rw[M_,c]at a;calc a
def Inv.stkFree (I:Inv X XX σ H s):∀b∈frs X.stack,H b=Zy:=λb a=>by
 rcases bV.mp (I.stkSub b a) with e|a
 .rw[e];exact I.free
 .cases I.ok.funs.mem a,_,o,c,_;calc I.base.free b o c (I.ok.frf b a) λz=>I.ok.exfs b z a
theorem Inv.step {t':O}{d':Drawn}{ch:ap}(I:Inv X XX σ H s)(a:∀b∈ch,(b∈X.ex\/X.s₀.7<=b)/\b≠X.env.locals/\(∀x c,X.env.cells.lookup x=W c->c≠b)/\∀p∈X.pn++XX,p.1≠b)(keep:∀b o,b≠X.env.locals->b∉X.fs->b∉ch->s.heap.get? b=W o->H b=Zy->h'.get? b=W o)(slot:∀b o,b≠X.env.locals->b∈X.fs->b∉ch->s.heap.get? b=W o->H b=Zy->∃sl,h'.get? b=W {o with slots:=sl})(free:∀b o,b∉ch->s.heap.get? b=W o->H b=Zy->H' b=Zy)(there:∀b o,b∉ch->s.heap.get? b=W o->∃M,h'.get? b=W M)(tups:∀b C,H b=W (.tup C)->H' b=W (.tup C))(frzs:∀b o u,H b=W (.frz o u)->H' b=W (.frz o u))(tbls:∀b R,H b=W (.tbl R)->∃more,H' b=W (.tbl (R++more)))(ns:∀m,s.heap.Ns X.env.locals m->h'.Ns X.env.locals m)(hok:HOk X.prog X.w H' h')(hg:YC g'):
  Inv X XX σ H' {s with heap:=h',gens:=g',drawn:=d',toks:=t'}:=by
 let P:∀b o,X.s₀.heap.get? b=W o->b≠X.env.locals:=λb o e=>eK (dE (Zo e) I.ok.above);let j:∀b o,X.s₀.heap.get? b=W o->b∉X.ex->b∉ch:=λb o e hx E=>by
  rcases (a b E).1 with z|z
  .exact hx z
  .exact Zq (dE (Zo e) z) (kW _)
 let f:∀x c,X.env.cells.lookup x=W c->∀v,s.heap.IsCell c v->h'.IsCell c v:=λx c e v ⟨o,F,hd⟩=>by
  let h:c∉ch:=λz=>(a c z).2.2.1 x c e U;by_cases hc:c∈X.fs
  .cases slot c o (I.cne x c e) hc h F (I.freeC x c e),sl,q;exact#[_,q,hd]
  .exact#[o,keep c o (I.cne x c e) hc h F (I.freeC x c e),hd]
 refine#[I.ok,I.os,hg,#[λb o e n E hx=>?_,λb o e n E hx=>?_,λb o e n hx=>?_,λb o e hx=>?_,λb C e=>tups b C (I.base.tups b C e),λb o C e=>frzs b o C (I.base.frzs b o C e),λb R e=>?_],?_,λx c e=>?_,?_,λx c e=>?_,λp hp=>?_,hok,I.len]
 .exact keep b o (P b o e) E (j b o e hx) (I.base.keep b o e n E hx) (I.base.free b o e n hx)
 .cases I.base.slot b o e n E hx,sl,y;cases slot b _ (P b o e) E (j b o e hx) y (I.base.free b o e n hx),x0,Q;exact#[x0,Q]
 .cases I.base.there b o e hx,M,y;exact free b M (j b o e hx) y (I.base.free b o e n hx)
 .cases I.base.there b o e hx,M,y;exact there b M (j b o e hx) y
 .cases I.base.tbls b R e,m1,y;cases tbls b _ y,m2,Q;exact#[m1++m2,by rw[Q,zb7]]
 .cases I.loc,m,hn,hl;calc#[m,ns m hn,λi x v y Q e3=>?_];cases hl i x v y Q e3,u,r,l;calc#[u,r,?_];rcases l with l|⟨k,c,e,z⟩
  .exact .inl l
  .exact .inr #[k,c,e,f x c e _ z]
 .cases I.cell x c e,v,z;exact#[v,f x c e v z]
 .cases I.loc,m,#[o,_,_,F,_],_;exact free _ o (λz=>(a _ z).2.1 U) F I.free
 .cases I.cell x c e,v,o,F,hd;exact free c o (λz=>(a c z).2.2.1 x c e U) F (I.freeC x c e)
 .cases I.pin p hp,e,n,ne,nf,d;let h:p.1∉ch:=λz=>(a p.1 z).2.2.2 p hp U;calc#[keep p.1 p.2 ne nf h e n,free p.1 p.2 h e n,ne,nf,d]
def Inv.un {t':O}(I:Inv X XX σ H s)(u:Un X.fs [] H H' s.heap h')(hok:HOk X.prog X.w H' h'):Inv X XX σ H' {s with heap:=h',toks:=t'}:=by
 cases id I.loc,m,#[o,l,q,h,r],_;obtain⟨x,i⟩:=u.any h I.free ⋯;exact I.step (g':=s.gens) (d':=s.drawn) (ch:=[]) (λ_ z=>nomatch z) (λb o _ c _ e n=>u.keep b o e n c ⋯) (λb o _ c _ e n=>u.slot b o e n c ⋯) (λb o _ e n=>u.free b o e n ⋯) (λb o _ e=>u.there b o e ⋯) u.tups u.frzs u.tbls (λy j=>by
  cases j,C,d,f,a,k;rw[h]at a;cases a;calc#[_,d,f,i,k]) hok I.bare
def Inv.call {t':O}{d':Drawn}(I:Inv X XX σ H s)(u:Un (frs X.stack) ch H H' s.heap h')(hok:HOk X.prog X.w H' h')(l:YC g')(d:∀b∈ch,(b∈X.ex\/X.s₀.7<=b)/\b≠X.env.locals/\(∀x c,X.env.cells.lookup x=W c->c≠b)/\∀p∈X.pn++XX,p.1≠b):
  Inv X XX σ H' {s with heap:=h',gens:=g',drawn:=d',toks:=t'}:=by
 cases id I.loc,m,#[o,E,F,k,r],_;obtain⟨M,h⟩:=u.any k I.free λz=>(d _ z).2.1 rfl;exact I.step (ch:=ch) d (λb o h q a e n=>u.keep b o e n (λz=>(bV.mp (I.stkSub b z)).elim h q) a) (λb o _ _ a e n=>u.any e n a) (λb o a e n=>u.free b o e n a) (λb o a e=>u.there b o e a) u.tups u.frzs u.tbls (λP y=>by
  cases y,Q,i,j,f,C;rw[k]at f;cases f;calc#[_,i,j,h,C]) hok l
def Inv.turned {t':O}{it:Zs}(I:Inv X XX σ H s)(k:∀b o,b≠it->s.heap.get? b=W o->h'.get? b=W o)(h:H it=Zy)(f:it≠X.env.locals)(i:it∈X.ex\/X.s₀.7<=it)(j:∀x c,X.env.cells.lookup x=W c->c≠it)(l:∀p∈X.pn++XX,p.1≠it):Inv X XX σ H {s with heap:=h',toks:=t'}:=by
 let d:∀b u,H b=W u->b≠it:=λb u e z=>by rw[z,h]at e;cases e
 refine I.step (g':=s.gens) (d':=s.drawn) (ch:=[it]) (λb y=>?_) (λb o _ _ a e _=>k b o (λz=>a (by simp[z])) e) (λb o _ _ a e _=>#[o.slots,k b o (λz=>a (by simp[z])) e]) (λ_ _ _ _ n=>n)
  (λb o a e=>#[o,k b o (λz=>a (by simp[z])) e]) (λ_ _ e=>e) (λ_ _ _ e=>e) (λb P e=>#[(Zi []),by rw[e];simp]) (λm C=>?_) (λb u e=>?_) I.bare
 .let e:b=it:=by simpa using y
  subst e;exact#[i,f,j,l]
 .cases C,o,E,F,M,r;exact#[o,E,F,k _ o (ZQ f) M,r]
 .calc (I.hok b u e).stay (λc v a q=>k c v ?_ q) (λ_ q=>q) λ_ _ q=>q;rcases a with z|z
  .rw[z];exact d b u e
  .calc d c _ z
theorem Inv.tok (I:Inv X XX σ H s)(t:O):Inv X XX σ H {s with toks:=t}:=I.un (h':=s.heap) (t':=t) Un.refl I.hok
def Inv.kept {t':O}(I:Inv X XX σ H s)(k:∀b u,s.heap.get? b=W u->h'.get? b=W u):Inv X XX σ H {s with heap:=h',toks:=t'}:=I.un (Un.kept k) (I.hok.kept k)
def Inv.laid {a:Zs}{t':O}(I:Inv X XX σ H s)(k:∀b u,s.heap.get? b=W u->h'.get? b=W u)(c:s.7<=a)(d:ObjOk X.prog X.w (upd H a o) h' a o):
  Inv X XX σ (upd H a o) {s with heap:=h',toks:=t'}:=I.un (Un.laid k c (I.hok.fresh c)) (I.hok.laid k c d)
def Inv.write {x e:Zs}{t':O}(I:Inv X XX σ H s)(d:Mut (H x))(f:e=x\/H e=W (.own x))(k:∀b u,b≠e->s.heap.get? b=W u->h'.get? b=W u)(a:∃u,h'.get? e=W u)(c:ObjOk X.prog X.w (upd H x o) h' x o):Inv X XX σ (upd H x o) {s with heap:=h',toks:=t'}:=I.un (Un.write d f k a) (I.hok.write d f k a c)
def Inv.pins_of {a:aN}(I:Inv X XX σ H s)(h:∀p∈a,s.heap.get? p.1=W p.2/\H p.1=Zy/\p.1≠X.env.locals/\p.1∉X.fs/\∀v,p.2.data≠.cell v):Inv X a σ H s:=
 #[I.ok,I.os,I.bare,I.base,I.loc,I.cell,I.free,I.freeC,λp b=>(b5.mp b).elim (λz=>I.pin p (iE _ z)) (h p),I.hok,I.len]
def GG {N:G Str}(c:N.Nodup){i j:O}(a:N[i]?=W x)(b:N[j]?=W x):i=j:=by
 cases a_.mp a,f,d;cases a_.mp b,h,e;calc (zc4 c).mp (d.trans e.symm)
theorem oZ {i:O}{Q:Unit->Zp->Prop}(I:Inv X XX σ H s)(hN:X.N.Nodup)(hi:X.N[i]?=W x)(hx:Loc X.env.scope x)(r:RelV v u)(h:∀s',Inv X XX (σ.set i (W v)) H s'->(∃a,zak a s.heap s'.heap/\(a=X.env.locals\/X.env.cells.lookup x=W a))->Q #[] s')(hf:f' (X.fn x=K'\/X.env.scope.names.lookup x=W .local) y'):Zf M A (zef X.env x u) Q E s:=by
 cases id I.loc,m,hn,hl;let y0:(X.env.scope.kind == .class || (X.env.scope.kind == .module && X.env.locals != X.env.globals))=O':=by rw[I.ok.kind];rfl
 let R:i < σ.9:=by rw[I.len];exact (a_.mp hi).1
 let cne:=I.cne;let f:∀{a:Zs}{h':ZN},(∃o,s.heap.get? a=W o/\H a=Zy)->zak a s.heap h'->HOk X.prog X.w H h':=λ{a h'} ha hs b ob e=>by
  cases ha,_,_,F;refine (I.hok b ob e).stay (λc w' C q=>(hs.2 c ?_).trans q) (λ_ q=>q) λ_ _ q=>q
  rintro rfl
  rcases C with rfl|C
  .rw[F]at e;cases e
  .rw[F]at C;cases C
 rcases hx with hk|hk
 .calc zcw hk hn (λh' k0 hs=>?_) y0;cases id hn,oL,_,_,n0,_;refine h _ #[I.ok,I.os,I.bare,#[λb o e n hb hx=>?_,λb o e n hb hx=>?_,I.base.free,λb o e hx=>?_,I.base.tups,I.base.frzs,I.base.tbls],#[_,k0,λj y v' l P e3=>?_],λy c e=>?_,I.free,I.freeC,λp hp=>?_,f #[oL,n0,I.free] hs,by simpa using I.len] #[_,hs,.inl U]
  .exact (hs.2 b (eK (dE (Zo e) I.ok.above))).trans (I.base.keep b o e n hb hx)
  .cases I.base.slot b o e n hb hx,sl,l;exact#[sl,(hs.2 b (eK (dE (Zo e) I.ok.above))).trans l]
  .cases I.base.there b o e hx,o',l;exact#[o',(hs.2 b (eK (dE (Zo e) I.ok.above))).trans l]
  .by_cases hj:j=i
   .subst hj;rw[hi]at l;cases l;rw[x_ R]at P
    cases P
    exact#[u,r,.inl #[hk,by simp]]
   .rw[qD (ZQ hj)]at P;cases hl j y v' l P e3,u',r',q;calc#[u',r',?_];rcases q with ⟨k,e⟩|⟨k,c,e,z⟩
    .calc .inl #[k,?_];let:y≠x:=λe=>hj (GG hN l (e ▸ hi));simp[this,e]
    .exact .inr #[k,c,e,z.sameBut hs (cne y c e)]
  .cases I.cell y c e,w',z;exact#[w',z.sameBut hs (cne y c e)]
  .cases I.pin p hp,e,n,ne,nf,d;exact#[(hs.2 p.1 ne).trans e,n,ne,nf,d]
 .let x0:X.fn x=K':=by
   rcases hf with z|z
   .exact z
   .rw[z]at hk;cases hk
  cases I.ok.has x (.inl hk),c,C;cases I.cell x c C,w',z;calc wpAny_storeName_cell I.ok.kind hk C z (λh' z0 hs=>?_);cases id z,oc,u0,j0;refine h {s with heap:=h'} #[I.ok,I.os,I.bare,#[λb o e n hb hx=>?_,λb o e n hb hx=>?_,I.base.free,λb o e hx=>?_,I.base.tups,I.base.frzs,I.base.tbls],#[m,hn.sameBut hs (ZQ (cne x c C)),λj y v' l P e3=>?_],λy c' e=>?_,I.free,I.freeC,λp hp=>?_,f #[oc,u0,I.freeC x c C] hs,by simpa using I.len] #[c,hs,.inr C]
  .exact (hs.2 b (eK (dE (Zo e) (I.ok.cab x c x0 C)))).trans (I.base.keep b o e n hb hx)
  .cases I.base.slot b o e n hb hx,sl,l;exact#[sl,(hs.2 b (eK (dE (Zo e) (I.ok.cab x c x0 C)))).trans l]
  .cases I.base.there b o e hx,o',l;exact#[o',(hs.2 b (eK (dE (Zo e) (I.ok.cab x c x0 C)))).trans l]
  .by_cases hj:j=i
   .subst hj;rw[hi]at l;cases l;rw[x_ R]at P
    cases P
    exact#[u,r,.inr #[.inl hk,c,C,z0]]
   .rw[qD (ZQ hj)]at P;cases hl j y v' l P e3,u',r',q;calc#[u',r',?_];rcases q with q|⟨k,c',e,z'⟩
    .exact .inl q
    .refine .inr #[k,c',e,z'.sameBut hs ?_]
     rintro rfl
     exact hj (GG hN l (I.ok.inj _ _ _ e C ▸ hi))
  .by_cases hcc:c'=c
   .subst hcc;exact#[_,z0]
   .cases I.cell y c' e,w2,z2;exact#[w2,z2.sameBut hs hcc]
  .cases I.pin p hp,e,n,ne,nf,d;calc#[(hs.2 p.1 ?_).trans e,n,ne,nf,d];intro q;rw[q,u0]at e;let q':oc=p.2:=ZY e;calc d w' #v[<-q',j0]
def rT {i:O}{Q:Unit->Zp->Prop}(I:Inv X XX σ H s)(b:X.N.Nodup)(hi:X.N[i]?=W x)(hx:Loc X.env.scope x)(r:RelV v u)(h:∀a,Inv X XX (σ.set i (W v)) H a->Q #[] a)(c:f' (X.fn x=K'\/X.env.scope.names.lookup x=W .local) y'):Zf M A (zef X.env x u) Q E s:=
 oZ I b hi hx r (λa d _=>h a d) c
theorem Inv.call' {a:Zp}(I:Inv X XX σ H s)(f:a.os=s.os)(u:Un (frs X.stack) ch H H' s.heap a.heap)(hok:HOk X.prog X.w H' a.heap)(h:YC a.gens)(d:∀b∈ch,(b∈X.ex\/X.s₀.7<=b)/\b≠X.env.locals/\(∀x c,X.env.cells.lookup x=W c->c≠b)/\∀p∈X.pn++XX,p.1≠b):Inv X XX σ H' a:=by
 cases a,h',g',d',t',i;let e:i=s.os:=f;subst e;calc I.call (g':=g') (t':=t') (d':=d') u hok h d
end
abbrev XK:=Zr->Zk Zs->Hp->Prop
abbrev St:=G (Zk V)
abbrev fM:=St->Hp->Prop
abbrev dG:=O->Hp->Prop
abbrev VK:=V->Hp->Prop
abbrev TE:=St->Hp->VK->Prop
abbrev TT:=St->Hp->(Yl->Hp->Prop)->Prop
abbrev TA:=St->Hp->(G V->Hp->Prop)->Prop
structure Ends where
 nx:fM
 rt:VK
 bk:fM:=λ_ _=>False
 ct:fM:=λ_ _=>False
abbrev TS:=Ends->St->Hp->Prop
def EP (X:Cx)(XX:aN)(σ:St)(Q:VK)(u:Zr)(s':Zp):Prop:=∃v H',Inv X XX σ H' s'/\RelV v u/\Q v H'
def TP (X:Cx)(XX:aN)(σ:St)(Q:Yl->Hp->Prop)(b:Yl)(s':Zp):Prop:=∃H',Inv X XX σ H' s'/\Q b H'
def AP (X:Cx)(XX:aN)(σ:St)(Q:G V->Hp->Prop)(us:G Zr)(s':Zp):Prop:=∃vs H',Inv X XX σ H' s'/\Vals vs us/\Q vs H'
def SP (X:Cx)(XX:aN)(D:Ends)(f:Flow)(s':Zp):Prop:=
 match f with
 |.next=>∃σ' H',Inv X XX σ' H' s'/\D.nx σ' H'
 |.brk=>∃σ' H',Inv X XX σ' H' s'/\D.bk σ' H'
 |.cont=>∃σ' H',Inv X XX σ' H' s'/\D.ct σ' H'
 |.ret u=>∃v σ' H',Inv X XX σ' H' s'/\RelV v u/\D.rt v H'
def PE (X:Cx)(e:ZU)(t:TE):Prop:=
 ∀(XX:aN)(s:Zp)(σ:St)(H:Hp)(Q:VK),Inv X XX σ H s->t σ H Q->Zf (Ze X.prog X.w) X.A (ZJ e X.env) (EP X XX σ Q) X.xe s
def PT (X:Cx)(e:ZU)(t:TT):Prop:=
 ∀(XX:aN)(s:Zp)(σ:St)(H:Hp)(Q:Yl->Hp->Prop),Inv X XX σ H s->t σ H Q->Zf (Ze X.prog X.w) X.A (isTrue e X.env (ZJ e X.env)) (TP X XX σ Q) X.xe s
def PW (X:Cx)(e:ZU)(t:TT):Prop:=
 ∀(whole:Sem Zr)(XX:aN)(s:Zp)(σ:St)(H:Hp)(Q:Yl->Hp->Prop),Inv X XX σ H s->t σ H Q->Zf (Ze X.prog X.w) X.A (isTrue e X.env whole) (TP X XX σ Q) X.xe s
def PW.pt (h:PW X e t):PT X e t:=h _
def PA (X:Cx)(es:G ZU)(t:TA):Prop:=
 ∀(pos:Pos)(XX:aN)(s:Zp)(σ:St)(H:Hp)(Q:G V->Hp->Prop),Inv X XX σ H s->t σ H Q->Zf (Ze X.prog X.w) X.A (spliced (Yr pos (Za es X.env))) (AP X XX σ Q) X.xe s
def PS (X:Cx)(st:YD)(t:TS):Prop:=
 ∀(XX:aN)(s:Zp)(σ:St)(H:Hp)(D:Ends),Inv X XX σ H s->t D σ H->Zf (Ze X.prog X.w) X.A (exec st X.env) (SP X XX D) X.xe s
def PSs (X:Cx)(st:G YD)(t:TS):Prop:=
 ∀(XX:aN)(s:Zp)(σ:St)(H:Hp)(D:Ends),Inv X XX σ H s->t D σ H->Zf (Ze X.prog X.w) X.A (execs st X.env) (SP X XX D) X.xe s
def thn {α:Type}{t:Sem α}{Q b:α->Zp->Prop}{M:Model}{A:ZK}{E:bD}{s:Zp}(h:Zf M A t Q E s)(hQ:∀a s,Q a s->b a s):Zf M A t b E s:=ZO h hQ λ_ _ x=>x
section
variable {X:Cx}
def bin {a b:ZU}{n tb:TE}(o:PE X a n)(q:PE X b tb){c:aN}{s:Zp}{d:St}{H:Hp}{R:V->V->Hp->Prop}(I:Inv X c d H s)(h:n d H λx l=>tb d l λy e=>R x y e){α:Type}{Q:α->Zp->Prop}{f:Zr->Zr->Sem α}(r:∀v u k x y e,Inv X c d e k->RelV x v->RelV y u->R x y e->Zf (Ze X.prog X.w) X.A (f v u) Q X.xe k):
  Zf (Ze X.prog X.w) X.A (ZJ a X.env) (λv i=>Zf (Ze X.prog X.w) X.A (ZJ b X.env) (λu j=>Zf (Ze X.prog X.w) X.A (f v u) Q X.xe j) X.xe i) X.xe s:=by
 calc thn (o c s d H _ I h) λv z m=>?_;cases m,x,l,C,E,F;calc thn (q c z d l _ C F) λu k m=>?_;cases m,y,e,M,P,q2;calc r v u k x y e M E P q2
def kn:Zk (Zk V)->(V->Prop)->Prop
 |some (W v),F=>F v
 |_,_=>False
def kI:V->(Y->Prop)->Prop
 |.int i,F=>F i
 |_,_=>False
def kB:V->(Yl->Prop)->Prop
 |.bl k,F=>F k
 |_,_=>False
def kR:V->(Zs->Prop)->Prop
 |.ref a,F=>F a
 |_,_=>False
def k1:G V->(V->Prop)->Prop
 |[x],F=>F x
 |_,_=>False
theorem rV {x:V}:k1 [x] F=F x:=rfl
theorem rW:∀{o:G V},k1 o F->∃x,o=[x]/\F x
 |[x],h=>#[x,U,h]
theorem rX:kn (W (W v)) F=F v:=rfl
theorem rY {i:Y}{F:Y->Prop}:kI (.int i) F=F i:=rfl
theorem rZ {k:Yl}{F:Yl->Prop}:kB (.bl k) F=F k:=rfl
theorem r_ {a:Zs}{F:Zs->Prop}:kR (.ref a) F=F a:=rfl
theorem B5:∀{o:Zk (Zk V)},kn o F->∃v,o=W (W v)/\F v
 |some (W v),h=>#[v,U,h]
theorem gg:∀{x:V},kI x F->∃i,x=.int i/\F i
 |.int i,h=>#[i,U,h]
theorem se:∀{x:V},kB x F->∃i,x=.bl i/\F i
 |.bl i,h=>#[i,U,h]
theorem ib:∀{x:V},kR x F->∃i,x=.ref i/\F i
 |.ref i,h=>#[i,U,h]
def B6:kn o F=∃v,o=W (W v)/\F v:=propext #[B5,λ⟨_,e,h⟩=>e ▸ h]
def GH:k1 o F=∃v,o=[v]/\F v:=propext #[rW,λ⟨_,e,h⟩=>e ▸ h]
def GI:kI x F=∃v,x=.int v/\F v:=propext #[gg,λ⟨_,e,h⟩=>e ▸ h]
def GJ:kB x F=∃v,x=.bl v/\F v:=propext #[se,λ⟨_,e,h⟩=>e ▸ h]
def GK:kR x F=∃v,x=.ref v/\F v:=propext #[ib,λ⟨_,e,h⟩=>e ▸ h]
def B7 (i:O):TE:=λσ H Q=>kn σ[i]? λv=>Q v H
def tC (v:V):TE:=λ_ H Q=>Q v H
def GL {i:O}{pos:Pos}(k:X.N[i]?=W x)(n:Vis X.env.scope x)(hd:f' ((x == ("__debug__" : Str))=O') B')(f:f' ((x == ("__classdict__" : Str))=O') B'):PE X (.Name x pos) (B7 i):=by
 intro d s o H Q I h;cases B5 h,v,e,h;cases I.loc,m,q,y;cases y i x v k e n,u,r,l;let b:EP X d o Q u s:=#[v,H,I,r,h]
 rcases l with ⟨hk,z⟩|⟨hk,c,j,a⟩
 .exact zds (zc6 I.ok.kind hk q z b) hd
 .rcases hk with hk|hk
  .exact zds (zdh I.ok.kind hk j a b) hd
  .calc zds (wpAny_loadName_free I.ok.kind hk j a b f) hd
def aj {i j pos}:PE X (.Constant (.int i) j pos) (tC (.int i)):=λ_ _ _ H _ I h=>wpAny_Constant_int #[.int i,H,I.tok _,#[_,U],h]
def jD {b j pos}:PE X (.Constant (.bool b) j pos) (tC (.bl b)):=λ_ _ _ H _ I h=>Constant_bool #[.bl b,H,I,U,h]
def fS {j pos}:PE X (.Constant .none j pos) (tC .non):=λ_ _ _ H _ I h=>Constant_none #[.non,H,I,U,h]
def Gl (X:Cx)(x:Str):Prop:=X.env.kindOf x=W .globalImplicit
def B8 {E:bD}{pos:Pos}{Q:bD}(I:Inv X a b H s)(c:Gl X x)(d:X.mg x=W u)(h:Q u s)(hd:f' ((x == ("__debug__" : Str))=O') B'):Zf (Ze X.prog X.w) X.A (ZJ (.Name x pos) X.env) Q E s:=
 za3 I.ok.kind c (Calls.loadGlobal_global #v[I.ok.glob,I.mod.glob.keeps I.bk] d h) hd
def jg {E:bD}{pos:Pos}{Q:bD}(I:Inv X a b H s)(c:Gl X x)(d:X.mg x=Zy)(e:ZF x=W u)(h:Q u s)(f:f' (x ≠ "__name__") B')(hd:f' ((x == ("__debug__" : Str))=O') B'):Zf (Ze X.prog X.w) X.A (ZJ (.Name x pos) X.env) Q E s:=by
 cases I.mod.blt,k,i,j;calc za3 I.ok.kind c (Calls.loadGlobal_builtin #v[I.ok.glob,I.mod.glob.keeps I.bk] d #v[I.ok.blt,i.keeps I.bk] ((j x f).trans e) h) hd
def lI {pos:Pos}(a:Gl X x)(b:X.mg x=W u)(r:RelV v u)(hd:f' ((x == ("__debug__" : Str))=O') B'):PE X (.Name x pos) (tC v):=
 λ_ _ _ H _ I h=>B8 I a b #[v,H,I,r,h] hd
def sf {pos:Pos}(a:Gl X x)(b:X.mg x=Zy)(c:ZF x=W u)(r:RelV v u)(d:f' (x ≠ "__name__") B')(hd:f' ((x == ("__debug__" : Str))=O') B'):PE X (.Name x pos) (tC v):=
 λ_ _ _ H _ I h=>jg I a b c #[v,H,I,r,h] d hd
variable {a b:ZU}{ta tb:TE}{pos:Pos}
def PC (X:Cx)(op:CmpOp)(a b:ZU)(t:TE):Prop:=
 ∀(XX:aN)(s:Zp)(σ:St)(H:Hp)(Q:VK),Inv X XX σ H s->t σ H Q->
  Zf (Ze X.prog X.w) X.A (ZJ a X.env) (λv s₁=>Zf (Ze X.prog X.w) X.A (ZJ b X.env) (λu s₂=>Zf (Ze X.prog X.w) X.A (Z7 op v u) (EP X XX σ Q) X.xe s₂) X.xe s₁) X.xe s
def OM (b:ZU){a:CmpOp}(h:a≠.In)(c:a≠.NotIn):YY a b=O':=by
 let d:(a == ze6)=O':=by cases a <;> first|rfl|exact Zq U h
 let e:(a == zeb)=O':=by cases a <;> first|rfl|exact Zq U c
 cases b <;> simp[YY,d,e]
def tB (t:TE):TT:=λσ H Q=>t σ H λx H1=>kB x λc=>Q c H1
theorem VY (h:PC X f a b t)(i:YY f b=O':=by first|exact OM _ () ()|rfl):PT X (.Compare a [f] [b] pos) (tB t):=by
 intro e s j H Q I k;calc zcx (thn (h e s j H _ I k) λv z i=>thn i λu C l=>thn l λc E m=>?_) i;cases m,x,n,o,r,y;obtain⟨d,rfl,q⟩:=se y
 cases r
 calc YW #[n,o,q]
theorem jh (h:PE X e t)(c:f' (∀a,isTrue e X.env a=(do let v <-a;zcl e.pos;zag [v] (truthy v))) C'):PT X e (tB t):=by
 intro b s f H Q I i;calc isTrue_plain (thn (h b s f H _ I i) λv o j=>?_) (c _);cases j,x,k,l,m,n;obtain⟨d,rfl,q⟩:=se n
 cases m
 calc YW #[k,l,q]
variable {tA tB':TT}{rest:G ZU}
def GM (t u:TT):TT:=λσ H Q=>t σ H λc H1=>if c=K' then u σ H1 Q else Q O' H1
def tOr (t u:TT):TT:=λσ H Q=>t σ H λc H1=>if c=K' then Q K' H1 else u σ H1 Q
def GN (t:TT):TT:=λσ H Q=>t σ H λc H1=>Q (!c) H1
theorem lJ (d:PT X a tA):PW X (.BoolOp .And [a] pos) tA:=by
 intro i b s f H Q I h;refine isTrue_and (thn (d b s f H Q I h) λc j e=>?_)
 cases c with
 |true=>calc isTrue_and_nil e
 |false=>calc e
theorem kq (d:PT X a tA):PW X (.BoolOp .Or [a] pos) tA:=by
 intro i b s f H Q I h;refine isTrue_or (thn (d b s f H Q I h) λc j e=>?_)
 cases c with
 |false=>calc isTrue_or_nil e
 |true=>calc e
def lP (k:PT X a tA)(l:PW X (.BoolOp .And (b::rest) pos) tB'):PW X (.BoolOp .And (a::b::rest) pos) (GM tA tB'):=by
 intro m d s e H Q I h;calc isTrue_and (thn (k d s e H _ I h) λc n o=>?_);obtain⟨f,i,j⟩:=o
 cases c with
 |true=>calc l m d n e f Q i j
 |false=>calc#[f,i,j]
def jE (k:PT X a tA)(l:PW X (.BoolOp .Or (b::rest) pos) tB'):PW X (.BoolOp .Or (a::b::rest) pos) (tOr tA tB'):=by
 intro m d s e H Q I h;calc isTrue_or (thn (k d s e H _ I h) λc n o=>?_);obtain⟨f,i,j⟩:=o
 cases c with
 |true=>calc#[f,i,j]
 |false=>calc l m d n e f Q i j
theorem kr (d:PT X a tA):PT X (.UnaryOp .Not a pos) (GN tA):=by
 intro b s e H Q I h;calc isTrue_not (d b s e H (λc f=>Q (!c) f) I h)
def ON (ta tb:TE):TE:=λσ H Q=>ta σ H λx H1=>∃c,x=.bl c/\if c=K' then tb σ H1 Q else Q (.bl O') H1
def GO (ta tb:TE):TE:=λσ H Q=>ta σ H λx H1=>∃c,x=.bl c/\if c=K' then Q (.bl K') H1 else tb σ H1 Q
def OO (ta:TE):TE:=λσ H Q=>ta σ H λx H1=>∃c,x=.bl c/\Q (.bl (!c)) H1
theorem OP {op}(h:PE X a t):PE X (.BoolOp op [a] pos) t:=λb s c H Q I d=>BoolOp_one (h b s c H Q I d)
def OQ (k:PE X a ta)(l:PE X (.BoolOp .Or (b::rest) pos) tb):PE X (.BoolOp .Or (a::b::rest) pos) (GO ta tb):=by
 intro d s f H Q I h;calc BoolOp_or (thn (k d s f H _ I h) λv m n=>?_);cases n,x,i,j,o,e;obtain⟨c,rfl,e⟩:=e
 cases o
 refine YW ?_
 cases c with
 |false=>calc l d m f i Q j e
 |true=>calc#[.bl K',i,j,U,e]
def tIf (t:TT)(ta tb:TE):TE:=λσ H Q=>t σ H λc H1=>if c=K' then ta σ H1 Q else tb σ H1 Q
def si (m:PT X c tA)(n:PE X a ta)(o:PE X b tb):PE X (.IfExp c a b pos) (tIf tA ta tb):=by
 intro e s f H Q I h;calc wpAny_IfExp (thn (m e s f H _ I h) λd i q=>?_);obtain⟨j,k,l⟩:=q
 cases d with
 |true=>calc n e i f j Q k l
 |false=>calc o e i f j Q k l
end
def SqL (K:ao)(H:Hp)(a:Zs)(xs:G V):Prop:=
 Rd H a (.lst xs)\/
  ∃(o:Obj)(its:YK Zr)(n:O),K.lookup a=W o/\o.cls=.type "list"/\o.dict=Zy/\o.data=.seq its n/\its.size<=Zg/\Vals xs its.toList
def SqT (K:ao)(H:Hp)(a:Zs)(xs:G V):Prop:=
 Rd H a (.tup xs)\/
  ∃(o:Obj)(its:YK Zr)(n:O),K.lookup a=W o/\o.cls=.type "tuple"/\o.data=.seq its n/\its.size<=Zg/\Vals xs its.toList
noncomputable def OR:Zr->Zk V
 |.none=>W .non
 |.bool b=>W (.bl b)
 |.int i _=>W (.int i)
 |.str x _=>W (.str x)
 |.bytes b _=>W (.byt b)
 |.float b _=>W (.flt b)
 |.ref a=>W (.ref a)
 |.type n=>W (.ty n)
 |_=>Zy
def RelV.abs (r:RelV x u):OR u=W x:=by
 cases x with
 |non=>cases r;rfl
 |bl _=>cases r;rfl
 |int _=>cases r,t,rfl;rfl
 |str _=>cases r,t,rfl;rfl
 |byt _=>cases r,t,rfl;rfl
 |flt _=>cases r,t,rfl;rfl
 |ref _=>cases r;rfl
 |ty _=>cases r;rfl
def RelV.inj (r:RelV x u)(q:RelV y u):x=y:=ZY (r.abs.symm.trans q.abs)
theorem Vals.inj:∀{a b:G V}{c:G Zr},Vals a c->Vals b c->a=b
 |_,_,_,.nil,.nil=>rfl
 |_,_,_,.cons r t,.cons r' t'=>by rw[r.inj r',Vals.inj t t']
section
variable {X:Cx}{XX:aN}{σ:St}{H:Hp}{s:Zp}{a:Zs}{xs ys:G V}
def SqL.of {K:ao}(h:H a=W (.lst xs)):SqL K H a xs:=.inl (.inl h)
def SqT.of {K:ao}(h:H a=W (.tup xs)):SqT K H a xs:=.inl (.inl h)
def Inv.list (I:Inv X XX σ H s)(h:SqL X.K H a xs):∃b:G Zr,Vals xs b/\PlainL s.heap a b.toArray/\xs.9<=Zg:=by
 rcases h with h|⟨o,b,n,hk,c,hd,hs,d,r⟩
 .cases h.ok I.hok,z,b,n,r,e;exact#[b,r,#[_,n,e,U,U,U],z]
 .refine#[b.toList,r,#[o,n,I.kIn a o hk,c,hd,by simpa using hs],?_];let e:=r.9;simp only[Yj]at e;lk
def Inv.tuple (I:Inv X XX σ H s)(h:SqT X.K H a xs):∃b:G Zr,Vals xs b/\IsTup s.heap a b.toArray/\xs.9<=Zg:=by
 rcases h with h|⟨o,b,n,hk,c,hs,d,r⟩
 .cases h.ok I.hok,z,b,r,p;exact#[b,r,p,z]
 .refine#[b.toList,r,#[o,I.kIn a o hk,c,n,by simpa using hs],?_];let e:=r.9;simp only[Yj]at e;lk
def Inv.list_inj (I:Inv X XX σ H s)(h:SqL X.K H a xs)(h':SqL X.K H a ys):xs=ys:=by
 cases I.list h,c,r,#[o,n,e,_,_,d],_;cases I.list h',b,j,#[k,l,f,_,_,i],_;rw[e]at f;cases f;rw[d]at i;injection i with d1 _;let:c=b:=by simpa using ZL Array.toList d1
 subst this;calc r.inj j
end
abbrev Cx.wish (X:Cx) (E:bD):Cx:={X with xe:=E}
abbrev Cx.nox (X:Cx):Cx:=X.wish λ_ _=>False
def Cx.Ok.wish {X:Cx}(ok:X.Ok)(E:bD):(X.wish E).Ok:=
 #[ok.mod,ok.kind,ok.glob,ok.blt,ok.above,ok.inj,ok.has,ok.cab,ok.hd,ok.frames,ok.stk,ok.exf,ok.bs,ok.bsz,ok.noex,ok.exfs,ok.funs,ok.frf]
def Cx.Ok.unwish {X:Cx}{E:bD}(ok:(X.wish E).Ok):X.Ok:=
 #[ok.mod,ok.kind,ok.glob,ok.blt,ok.above,ok.inj,ok.has,ok.cab,ok.hd,ok.frames,ok.stk,ok.exf,ok.bs,ok.bsz,ok.noex,ok.exfs,ok.funs,ok.frf]
section
variable {X:Cx}{XX:aN}{σ:St}{H:Hp}{s:Zp}{E:bD}
def Inv.wish (I:Inv X XX σ H s)(E:bD):Inv (X.wish E) XX σ H s:=#[I.ok.wish E,I.os,I.bare,I.base,I.loc,I.cell,I.free,I.freeC,I.pin,I.hok,I.len]
def Inv.unwish (I:Inv (X.wish E) XX σ H s):Inv X XX σ H s:=#[I.ok.unwish,I.os,I.bare,I.base,I.loc,I.cell,I.free,I.freeC,I.pin,I.hok,I.len]
def SP.unwish (h:SP (X.wish E) XX D f c):SP X XX D f c:=by
 cases f with
 |next=>cases h,a,b,I,q;calc#[a,b,I.unwish,q]
 |brk=>cases h,a,b,I,q;calc#[a,b,I.unwish,q]
 |cont=>cases h,a,b,I,q;calc#[a,b,I.unwish,q]
 |ret u=>cases h,v,a,b,I,r,q;calc#[v,a,b,I.unwish,r,q]
theorem PSs.nox {st:G YD}(h:PSs X.nox st t):PSs X st t:=λXX s σ H D I a=>
 ZO (h XX s σ H D (I.wish _) a) (λ_ _ q=>q.unwish) λ_ _ z=>ZM z
end
section
variable {X:Cx}{st:YD}{rest:G YD}{t u:TS}{e:ZU}{te:TE}{pos:Pos}
def GP:TS:=λD σ H=>D.nx σ H
def ku (t u:TS):TS:=λD σ H=>t {D with nx:=u D} σ H
def cM:PSs X [] GP:=λ_ _ a H _ I h=>X5 #[a,H,I,h]
theorem am (c:PS X st t)(d:PSs X rest u):PSs X (st::rest) (ku t u):=by
 intro a s e H D I h;refine za5 (thn (c a s e H {D with nx:=u D} I h) λf i q=>?_)
 cases f with
 |next=>
  cases q,b,j,k,q;calc d a i b j D k q
 |ret v=>calc q
 |brk=>calc q
 |cont=>calc q
def ay (b:PS X st t):PSs X [st] t:=by
 intro a s c H D I h;refine za5 (thn (b a s c H D I h) λf d q=>?_)
 cases f with
 |next=>calc X5 q
 |ret v=>calc q
 |brk=>calc q
 |cont=>calc q
def GQ:TS:=λD σ H=>D.ct σ H
def OS:PS X (.Continue pos) GQ:=λ_ _ a H _ I h=>wpAny_Continue #[a,H,I,h]
def Inv.quiet (I:Inv X a b H s):interactive X.env=O':=by simp[interactive,I.ok.kind]
def GR (te:TE):TS:=λD σ H=>te σ H λ_ H1=>D.nx σ H1
def gh (c:PE X e te)(hs:f' (Y6 e Zy pos.line X.env=pure O') F'):PS X (.Expr e pos) (GR te):=by
 intro a s b H D I h;calc wpAny_Expr_any (thn (c a s b H _ I h) λv j ⟨x,d,f,k,i⟩=>#[b,d,f,i]) I.quiet hs
def GS (te:TE):TS:=λD σ H=>te σ H D.rt
def aS (c:PE X e te):PS X (.Return (W e) pos) (GS te):=by
 intro a s b H D I h;calc wpAny_Return_some (thn (c a s b H _ I h) λv k ⟨x,d,f,i,j⟩=>#[x,b,d,f,i,j])
def GT (c:TT)(t u:TS):TS:=λD σ H=>c σ H λb H1=>if b=K' then t D σ H1 else u D σ H1
theorem cN (n:PT X c i)(o:PSs X a t)(q:PSs X b u):PS X (.If c a b pos) (GT i t u):=by
 intro e s f H D I h;calc wpAny_If (thn (n e s f H _ I h) λd j r=>?_);obtain⟨k,l,m⟩:=r
 cases d with
 |true=>calc o e j f k D l m
 |false=>calc q e j f k D l m
def OT:TS:=λ_ _ _=>False
def sj:PSs X a OT:=λ_ _ _ _ _ _ h=>h.elim
end
abbrev TG:=V->St->Hp->fM->Prop
abbrev TGs:=G V->St->Hp->fM->Prop
def PG (X:Cx)(target:ZU)(t:TG):Prop:=
 ∀(XX:aN)(s:Zp)(σ:St)(H:Hp)(v:V)(u:Zr)(Q:fM),Inv X XX σ H s->RelV v u->t v σ H Q->
  Zf (Ze X.prog X.w) X.A (Z5 target X.env u) (λ_ s'=>∃σ' H',Inv X XX σ' H' s'/\Q σ' H') X.xe s
def PGs (X:Cx)(ts:G ZU)(t:TGs):Prop:=
 ∀(XX:aN)(s:Zp)(σ:St)(H:Hp)(vs:G V)(us:G Zr)(Q:fM),Inv X XX σ H s->Vals vs us->t vs σ H Q->
  Zf (Ze X.prog X.w) X.A (assignInOrder ((XZ ts X.env).map (·.2)) us) (λ_ s'=>∃σ' H',Inv X XX σ' H' s'/\Q σ' H') X.xe s
abbrev lY:=V->V->V->Hp->(Hp->Prop)->Prop
def B9 (X:Cx)(t:lY):Prop:=
 ∀(XX:aN)(s:Zp)(σ:St)(H:Hp)(o i v:V)(ov iv u:Zr)(Q:Hp->Prop),Inv X XX σ H s->RelV o ov->RelV i iv->RelV v u->t o i v H Q->
  Zf (Ze X.prog X.w) X.A (setItem ov iv u) (λ_ s'=>∃H',Inv X XX σ H' s'/\Q H') X.xe s
abbrev TIp:=V->V->Hp->VK->Prop
def PIp (X:Cx)(op:za2)(t:TIp):Prop:=
 ∀(XX:aN)(s:Zp)(σ:St)(H:Hp)(x y:V)(v u:Zr)(Q:VK),Inv X XX σ H s->RelV x v->RelV y u->t x y H Q->
  Zf (Ze X.prog X.w) X.A (zei op v u) (EP X XX σ Q) X.xe s
section
variable {X:Cx}{pos:Pos}
def ip (i:O):TG:=λv σ H Q=>Q (σ.set i (W v)) H
def cJ {i:O}(b:X.N.Nodup)(hi:X.N[i]?=W x)(hx:Loc X.env.scope x)(c:f' (X.fn x=K'\/X.env.scope.names.lookup x=W .local) y'):PG X (.Name x pos) (ip i):=by
 intro a s e H v u Q I r h;calc Yz (rT I b hi hx r (λf d=>#[_,H,d,h]) c)
def B_:TGs:=λvs σ H Q=>vs=[]/\Q σ H
def sn (t:TG)(u:TGs):TGs:=λvs σ H Q=>∃v r,vs=v::r/\t v σ H λσ' H'=>u r σ' H' Q
def jF:PGs X [] B_:=by
 intro a s b H c d Q I r h;cases h,e,h;subst e
 cases r
 calc assignInOrder_nil #[b,H,I,h]
def gi (d:PG X e t)(f:PGs X b u)(hs:f' ((XZ (e::b) X.env).map (·.2)=Z5 e X.env::(XZ b X.env).map (·.2)) F'):PGs X (e::b) (sn t u):=by
 intro a s i H q x Q I r h;cases h,v,y,j,h;subst j
 cases r with
 |cons r rr=>
  rw[hs];calc assignInOrder_cons (thn (d a s i H _ _ _ I r h) λ_ k l=>?_);cases l,c,m,n,o;calc f a k c m _ _ Q n rr o
def Ca (K:ao)(n:O)(t:TGs):TG:=λv σ H Q=>∃a xs,v=.ref a/\SqT K H a xs/\xs.9=n/\t xs σ H Q
def jG {k:O}{n:O}(m:X.calm=K')(h:PGs X d t)(q:f' ((XZ d X.env).9=n) F')(f:f' ((XZ d X.env).findIdx? (·.1)=Zy) F'):PG X (.Tuple d k pos) (Ca X.K n t):=by
 intro c s j H v u Q I r i;cases i,a,x,y,z,C,i;subst y
 cases r
 cases I.tuple z,E,l,F,R;refine assign_Tuple_tuple (I.ok.hd m) F (by simp[q,<-C,l.9]) f λM hx=>?_;let P:Inv X c j H {s with heap:=M}:=I.kept (t':=s.toks) λb o e=>hx b o (eK (Zo e)) e;calc h c _ j H x _ Q P (⇑l) i
def GU (to ti:TE)(t:lY):TG:=λv σ H Q=>to σ H λo H1=>ti σ H1 λi H2=>t o i v H2 λH3=>Q σ H3
def jH (j:PE X o to)(hi:PE X i f)(hs:B9 X t)(k:f' (∀v,Z5 (.Subscript o i pos) X.env v=(do
   let b <-zag [v] (ZJ o X.env)
   let c <-zag [v,b] (ZJ i X.env)
   zcl pos
   zag [v,b,c] (setItem b c v)
   release [v,b,c] [])) C'):PG X (.Subscript o i pos) (GU to f t):=by
 intro a s e H v u Q I r h;rw[k];calc Zm (YB (thn (j a s e H _ I h) λb l d=>?_));cases d,x,m,n,q,z;calc Zm (YB (thn (hi a l e m _ n z) λc C d=>?_));cases d,y,E,F,M,P;calc Zm (Yk (Zm (YB (thn (hs a C e E x y v b c u _ F q M r P) λ_ s3 d=>?_))));cases d,R,I3,q3;calc wpAny_release #[e,R,I3,q3]
def l_ (te:TE)(g:TG):TS:=λD σ H=>te σ H λx H1=>g x σ H1 D.nx
def jI (f:PE X e c)(i:PG X b g)(hs:f' (swapsWithSole [b] e pos.line X.env=pure O') F')(j:f' (swappedStores [b] e X.env=pure Zy) F')(k:f' ((XZ [b] X.env).map (·.2)=[Z5 b X.env]) F'):PS X (.Assign [b] e pos) (l_ c g):=by
 intro a s d H D I h;calc wpAny_Assign_stores (thn (f a s d H _ I h) λv l m=>?_) hs j;cases m,x,n,o,r,u;rw[k];calc thn (i a l d n x v _ o r u) λ_ y q=>q
def az {i:O}{a:Pos}(d:X.N.Nodup)(hi:X.N[i]?=W x)(hx:Loc X.env.scope x)(f:PE X e c)(hs:f' (Y6 e (W (.Name x a)) pos.line X.env=pure O') F')(j:f' (X.fn x=K'\/X.env.scope.names.lookup x=W .local) y'):
  PS X (.Assign [.Name x a] e pos) (l_ c (ip i)):=by
 intro b s k H D I h;calc wpAny_Assign_Name (thn (f b s k H _ I h) λv u l=>?_) hs;cases l,y,m,n,o,q;calc rT n d hi hx o (λz r=>#[_,m,r,q]) j
def GV (i:O)(te:TE)(ti:TIp):TS:=λD σ H=>kn σ[i]? λx=>te σ H λy H1=>ti x y H1 λz H2=>D.nx (σ.set i (W z)) H2
def Cb {i:O}{d:Pos}(M:X.N.Nodup)(hi:X.N[i]?=W x)(hx:Loc X.env.scope x)(P:PE X e C)(Q:PIp X n E)(R:f' (X.fn x=K'\/X.env.scope.names.lookup x=W .local) y'):
  PS X (.AugAssign (.Name x d) n e pos) (GV i C E):=by
 intro a s F H D I h;cases B5 h,v,e1,h;cases I.loc,m,hn,hl;let o:Vis X.env.scope x:=by rcases hx with k|k;calc .inl k;exact .inr (.inl k)
 cases hl i x v hi e1 o,u,r,l;calc wpAny_AugAssign_Name ?_;let go:Zf (Ze X.prog X.w) X.A (ZJ e X.env) (λw f=>Zf (Ze X.prog X.w) X.A (zei n u w) (λr j=>Zf (Ze X.prog X.w) X.A (zef X.env x r) (λ_=>SP X a D .next) X.xe j) X.xe f) X.xe s:=by
  calc thn (P a s F H _ I h) λw s1 q=>?_;cases q,y,H1,I1,r1,q1;calc thn (Q a s1 F H1 v y u w _ I1 r r1 q1) λz s2 q=>?_;cases q,zv,H2,I2,r2,q2;exact rT I2 M hi hx r2 (λs3 I3=>#[_,H2,I3,q2]) R
 rcases l with ⟨hk,hm⟩|⟨hk,c,hc,b⟩
 .exact zc6 I.ok.kind hk hn hm go
 .rcases hk with hk|hk
  .exact zdh I.ok.kind hk hc b go
  .rcases hx with k|k
   .let:X.env.scope.names.lookup x=W .free:=hk;rw[k]at this;cases this
   .let:X.env.scope.names.lookup x=W .free:=hk;rw[k]at this;cases this
def GW (to ti te:TE)(tget:V->V->Hp->VK->Prop)(tip:TIp)(tset:lY):TS:=λD σ H=>to σ H λo H1=>ti σ H1 λi H2=>tget o i H2 λx H3=>te σ H3 λy H4=>tip x y H4 λz H5=>tset o i z H5 λH6=>D.nx σ H6
def GX (X:Cx)(t:V->V->Hp->VK->Prop):Prop:=
 ∀(XX:aN)(s:Zp)(σ:St)(H:Hp)(o i:V)(ov iv:Zr)(Q:VK),Inv X XX σ H s->RelV o ov->RelV i iv->t o i H Q->
  Zf (Ze X.prog X.w) X.A (zd2 ov iv) (EP X XX σ Q) X.xe s
theorem sr {tpos:Pos}(E:PE X o to)(hi:PE X i q)(F:GX X d)(M:PE X e r)(P:PIp X u m)(hs:B9 X f)(Q:∀j k b,augStore i j k b=(do zag [b,j,k] (setItem j k b);release [b,j,k] [];pure .next):=by intros;rfl):PS X (.AugAssign (.Subscript o i tpos) u e pos) (GW to q r d m f):=by
 intro a s l H D I h;calc wpAny_AugAssign_SubscriptAny (thn (E a s l H _ I h) λj R c=>?_) Q;cases c,x,H1,I1,y,q1;calc thn (hi a R l H1 _ I1 q1) λk s2 c=>?_;cases c,z,H2,I2,C,q2;calc thn (F a s2 l H2 x z j k _ I2 y C q2) λn s3 c=>?_;cases c,x3,H3,I3,r3,q3;calc thn (M a s3 l H3 _ I3 q3) λv s4 c=>?_;cases c,x4,H4,I4,r4,q4;calc thn (P a s4 l H4 x3 x4 n v _ I4 r3 r4 q4) λb s5 c=>?_;cases c,x5,H5,I5,r5,q5;calc thn (hs a s5 l H5 x z x5 j k b _ I5 y C r5 q5) λ_ s6 ⟨H6,I6,q6⟩=>#[l,H6,I6,q6]
def ipI (f:Y->Y->Y):TIp:=λx y H Q=>kI x λi=>kI y λj=>Q (.int (f i j)) H
def ss:PIp X .Add (ipI λi j=>i+j):=by
 intro a s k H x y v u Q I b c h;cases gg h,i,d,e;cases gg e,j,f,q;subst d;subst f;cases b,t,rfl;cases c,l,rfl;calc iadd_int #[.int _,H,I.tok _,#[_,U],q]
def Cc:PIp X .Sub (ipI λi j=>i-j):=by
 intro a s k H x y v u Q I b c h;cases gg h,i,d,e;cases gg e,j,f,q;subst d;subst f;cases b,t,rfl;cases c,l,rfl;calc isub_int #[.int _,H,I.tok _,#[_,U],q]
end
section
variable {X:Cx}{pos:Pos}
def GY (c:TT)(tb:TS):TS:=λD σ H=>∃W:O->St->Hp->Prop,(∃m,W m σ H)/\∀m σ H,W m σ H->
 c σ H λb H1=>if b=K' then ∃N:fM,(∀σ' H',N σ' H'->∃m',m'<m/\W m' σ' H')/\tb {D with nx:=N,ct:=N,bk:=D.nx} σ H1 else D.nx σ H1
def iq (z:PassesOwn (Ze X.prog X.w) X.A X.env X.xe)(P:PT X c y)(Q:PSs X e tb):PS X (.While c e [] pos) (GY y tb):=by
 intro a s R H D I h;cases h,W,#[m0,w0],i;refine wpAny_While (codeAny_whileLoop (λn s'=>∃j C,Inv X a j C s'/\W n j C) ?_ m0 #[R,H,I,w0])
 rintro n s1 ⟨σ1,H1,I1,w1⟩
 calc Yp z (thn (P a s1 σ1 H1 _ I1 (i n σ1 H1 w1)) λb s2 zz=>?_);obtain⟨E,F,l⟩:=zz
 cases b with
 |true=>
  cases l,N,M,l;rw[Zt U];refine Yp z (thn (Q a s2 σ1 E _ F l) λf s3 m=>?_)
  cases f with
  |next=>
   cases m,d,k,o,q;cases M d k q,r,u,x;calc#[r,u,d,k,o,x]
  |cont=>
   cases m,d,k,o,q;cases M d k q,r,u,x;calc#[r,u,d,k,o,x]
  |brk=>calc m
  |ret v=>calc m
 |false=>
  rw[if_neg Zh];calc X5 #[σ1,E,F,l]
end
structure It where
 go:dG
 yld:O->Hp->V->Hp->Prop
 stop:dG
def eI (X:Cx)(XX:aN)(H:Hp)(b:Zs):Prop:=
 H b=Zy/\b≠X.env.locals/\b∉X.fs/\(b∈X.ex\/X.s₀.7<=b)/\(∀x c,X.env.cells.lookup x=W c->c≠b)/\∀p∈X.pn++XX,p.1≠b
def Inv.fpOk {H f:Hp}{b:Zs}(I:Inv X a h H s)(d:s.7<=b)(i:f b=Zy):eI X a f b:=by
 refine#[i,Na (dE I.lt d),I.nofs d,.inr (aP I.sz d),λx c e z=>?_,λp j z=>?_]
 .cases I.cell x c e,v,q;exact Zq (dE q.lt #v[z,d]) (kW _)
 .calc Zq (dE (Zo (I.pin p j).1) #v[z,d]) (kW _)
structure Turn (P:Zb)(w:ZW)(K:ao)(tg:ZU)(J:It)(fp:ap)(it:Zs)(tn:O->ZN->Prop):Prop where
 mem:it∈fp
 obj:∀i h,tn i h->∀b∈fp,∃o,h.get? b=W o/\∀v,o.data≠.cell v
 keep:∀i h h',tn i h->(∀b∈fp,∀o,h.get? b=W o->h'.get? b=W o)->tn i h'
 item:∀(X:Cx),X.prog=P->X.w=w->X.K=K->X.calm=true->∀(i:O)(XX:aN)(s:Zp)(σ:St)(H:Hp)(E:bD),Inv X XX σ H s->(∀b∈fp,eI X XX H b)->tn i s.heap->J.go i H->
  Zf (Ze P w) X.A (zbs (.ref it)) (λr s1=>∃u,r=W u/\
   Zf (Ze P w) X.A (YM tg (.ref it) u) (λ_ s2=>∃x H',Inv X XX σ H' s2/\RelV x u/\J.yld i H x H'/\tn (i+1) s2.heap/\∀b∈fp,H' b=Zy) E s1) E s
 done:∀(X:Cx),X.prog=P->X.w=w->X.K=K->X.calm=true->∀(i:O)(XX:aN)(s:Zp)(σ:St)(H:Hp)(E:bD),Inv X XX σ H s->(∀b∈fp,eI X XX H b)->tn i s.heap->J.stop i H->
  Zf (Ze P w) X.A (zbs (.ref it)) (λr s1=>r=Zy/\Inv X XX σ H s1) E s
 self:∀(A:ZK)(i:O)(s:Zp)(Q:bD)(E:bD),tn i s.heap->Q (.ref it) s->Zf (Ze P w) A (pyIter (.ref it)) Q E s
abbrev TI:=St->Hp->(It->Hp->Prop)->Prop
def PIE (X:Cx)(XX:aN)(σ:St)(tg:ZU)(R:It->Hp->Prop)(itv:Zr)(s2:Zp):Prop:=
 ∃(it:Zs)(fp:ap)(tn:O->ZN->Prop)(J:It)(H':Hp),itv=.ref it/\Inv X XX σ H' s2/\Turn X.prog X.w X.K tg J fp it tn/\tn 0 s2.heap/\(∀b∈fp,eI X XX H' b)/\R J H'
def PI (X:Cx)(tg iter:ZU)(wi:TI):Prop:=
 ∀(XX:aN)(s:Zp)(σ:St)(H:Hp)(R:It->Hp->Prop),Inv X XX σ H s->wi σ H R->
  Zf (Ze X.prog X.w) X.A (ZJ iter X.env) (λv s1=>Zf (Ze X.prog X.w) X.A (pyIter v) (PIE X XX σ tg R) X.xe s1) X.xe s
def su {E:bD}{s:Zp}{it:Zs}{u:Zr}{n:YL}{vs:YK Zr}{Q:Unit->Zp->Prop}(b:s.heap.get? it=W o)(c:o.cls=.type n)(hd:o.data=.fields vs)(d:["enumerate","zip","dict_itemiterator","dict_reverseitemiterator","odict_iterator","itertools.zip_longest","itertools.pairwise"].contains n=O')(hQ:Q #[] s):Zf M A (YM a (.ref it) u) Q E s:=by
 unfold YM
 cases a <;> first
  |exact Zd hQ
  |(cases u <;> first
    |exact Zd hQ
    |(refine Zm (wpAny_load b ?_)
      rw[c,hd];show Zf M A (if (["enumerate","zip","dict_itemiterator","dict_reverseitemiterator","odict_iterator","itertools.zip_longest","itertools.pairwise"].contains n && vs[0]? == W (rawInt _))=K' then _ else _) Q E s;rw[N (by intro h;rw[d,Bool.false_and]at h;cases h)];calc Zd hQ))
def Itl (K:ao)(a:Zs):It:=
 #[λi H=>∃xs x,SqL K H a xs/\xs[i]?=W x,λi H x H'=>H'=H/\∀xs,SqL K H a xs->xs[i]?=W x,λi H=>∃xs,SqL K H a xs/\xs.9<=i]
def Itr (lo:Y)(n:O):It:=#[λi _=>i<n,λi H x H'=>H'=H/\x=.int (lo+i),λi _=>n<=i]
def OU {K:ao}(a it:Zs):Turn P w K tg (Itl K a) [it] it (λi h=>h.IsListIter it a i) where
 mem:=by simp
 obj:=λi h st b j=>by
  let e:b=it:=by simpa using j
  subst e;cases st,o,e,c,d;exact#[o,e,λv z=>by rw[d]at z;cases z]
 keep:=λi h m st k=>st.at λo e=>k it ⋯ o e
 item:=by
  intro X hP r hK hc i f s σ H E I n st y;subst hP r hK;cases y,xs,x,q,hx;cases I.list q,C,F,p,hz;cases F.get hx,u,hu,ru;obtain⟨M,Q,f2,R,f4,f5⟩:=n it ⋯;calc wpAny_pyNext_list_item st p.isList (x:=u) (⇑hu) λm l sb=>?_;let I1:Inv X f σ H {s with heap:=m}:=I.turned (t':=s.toks) (λb o j e=>(sb.2 b j).trans e) M Q R f4 f5;cases id l,o,e,c,d;exact#[u,U,su (s:={s with heap:=m}) e c d () #[x,H,I1,ru,#[U,λys hy=>#v[I.list_inj hy q,hx]],l,λb j=>(n b j).1]]
 done:=by
  intro X hP r hK hc i f s σ H E I n st y;subst hP r hK;cases y,xs,q,hx;cases I.list q,C,F,p,hz;obtain⟨M,Q,f2,R,f4,f5⟩:=n it ⋯;let hl:=F.9;exact wpAny_pyNext_list_end (I.ok.hd hc) st p.isList (by simp;lk) λm eb=>#[U,I.turned (t':=s.toks) (λb o j e=>eb b o j e) M Q R f4 f5]
 self:=λ_ _ _ _ _ st h=>wpAny_pyIter_listiter st h
def OV {K:ao}(it:Zs)(lo:Y)(n:O):Turn P w K Q (Itr lo n) [it] it (λi h=>zbg h it (lo+(i:O)*1) ((n:Y)-(i:O)) 1) where
 mem:=by simp
 obj:=λi h st b c=>by
  let e:b=it:=by simpa using c
  subst e;exact⟨_,st,λv z=>by
   let R:zau _=X4 v:=z
   cases R⟩
 keep:=λi h f st k=>k it ⋯ _ st
 item:=by
  intro X hP l hK m i a s F H E I j st q;subst hP l hK;obtain⟨r,u,f2,x,y,C⟩:=j it ⋯;let W:=zd3 (prog:=X.prog) (w:=X.w) (I.ok.hd m) it lo 1 n;calc W.item i s _ _ q st λv f M hv d kk=>?_;cases hv,t,rfl;let I1:Inv X a F H {s with heap:=f,toks:=M}:=I.turned (λb o c e=>kk b o (⇑c) e) r u x y C;calc#[_,U,su (s:={s with heap:=f,toks:=M}) (n := "range_iterator") d U U () #[.int (lo+i),H,I1,#[t,?_],#[U,U],d,λb c=>(j b c).1]];rw[ya]
 done:=by
  intro X hP l hK m i a s F H E I j st q;subst hP l hK;obtain⟨r,u,f2,x,y,C⟩:=j it ⋯;exact zch (I.ok.hd m) st (by let:n<=i:=q;lk) λf eb=>#[U,I.turned (t':=s.toks) (λb o c e=>eb b o c e) r u x y C]
 self:=λ_ _ _ _ _ st h=>zci st h
section
variable {X:Cx}{tg:ZU}
def Cd (K:ao)(tl:TE):TI:=λσ H R=>tl σ H λx H1=>kR x λa=>(∃xs,SqL K H1 a xs)/\R (Itl K a) H1
def dm (j:PE X l i):PI X tg l (Cd X.K i):=by
 intro c s k H R I h;calc thn (j c s k H _ I h) λv d m=>?_;cases m,x,n,f,r,u;cases ib u,a,e,#[E,y],q;subst e
 cases r
 cases f.list y,z,F,p,M;calc wpAny_pyIter_list p.isList ?_;calc#[d.7,[d.7],_,_,n,rfl,f.kept (t':=d.toks) λb o e=>Zl _ e,OU a _,#[_,ZV _ U,U,U],λb C=>?_,q];let e:b=d.7:=by simpa using C
 subst e;calc f.fpOk (aC _) (f.hok.fresh (aC _))
def GZ {R:It->Hp->Prop}{lo hi:Y}{t u v:Tok}{tk:O}(I:Inv X a c H s)(f:-(2^62)<=lo)(h:lo<2^62)(i:-(2^62)<=hi)(j:hi<2^62)(q:R (Itr lo (hi-lo).toNat) H):Zf (Ze X.prog X.w) X.A (pyIter (.ref s.7)) (PIE X a c tg R) E {s with heap:=s.heap.push {cls:=.type "range",data:=.fields (Zi [.int lo t,.int hi u,.int 1 v])},toks:=tk}:=by
 calc zdr (zdo ..) (small_one f h i j) ?_;let d:Inv X a c H {s with heap:=s.heap.push {cls:=.type "range",data:=.fields (Zi [.int lo t,.int hi u,.int 1 v])},toks:=tk}:=I.kept λb o e=>Zl _ e;refine⟨(s.heap.push {cls:=.type "range",data:=.fields (Zi [.int lo t,.int hi u,.int 1 v])}).objs.size,[(s.heap.push {cls:=.type "range",data:=.fields (Zi [.int lo t,.int hi u,.int 1 v])}).objs.size],_,_,H,rfl,
  d.kept (t':=tk) λb o e=>Zl _ e,OV _ lo (hi-lo).toNat,?_,λb k=>?_,q⟩
 .let l:lo+((0:O):Y)*1=lo:=by simp
  let m:(((hi-lo).toNat:O):Y)-((0:O):Y)=ZR lo hi 1:=by rw[rangeSize_one];split <;> lk
  show zbg _ _ (lo+((0:O):Y)*1) ((((hi-lo).toNat:O):Y)-((0:O):Y)) 1;rw[l,m];exact ZV _ U
 .let e:b=(s.heap.push {cls:=.type "range",data:=.fields (Zi [.int lo t,.int hi u,.int 1 v])}).objs.size:=by simpa using k
  subst e;calc d.fpOk (aC _) (d.hok.fresh (aC _))
def G5 (ta:TA):TI:=λσ H R=>ta σ H λvs H1=>k1 vs λx=>kI x λj=>-(2^62)<=j/\j<2^62/\R (Itr 0 j.toNat) H1
def G6 (ta:TA):TI:=λσ H R=>ta σ H λvs H1=>∃i j:Y,vs=[.int i,.int j]/\(-(2^62)<=i/\i<2^62/\-(2^62)<=j/\j<2^62)/\R (Itr i (j-i).toNat) H1
def gF {a:ZU}{p pos:Pos}(f:Gl X "range")(i:X.mg "range" = Zy)(k:PA X [a] d)(hs:f' (Za [a] X.env=[(O',ZJ a X.env)]) F'):PI X tg (.Call (.Name "range" p) [a] [] pos) (G5 d):=by
 intro b s l H R I h;calc Call_ (jg I f i zdv (ZS (thn (k pos b s l H _ I h) λz C m=>?_) hs U));cases m,E,F,n,o,c;cases rW c,x,e,u;clear c;cases gg u,j,rfl,c,y,q;subst e
 cases o with
 |cons r rr=>
  cases rr
  cases r,t,rfl;calc call_range_1 (GZ n () () c y (⇑q))
def G7 {a b:ZU}{p pos:Pos}(l:Gl X "range")(m:X.mg "range" = Zy)(n:PA X [a,b] k)(hs:f' (Za [a,b] X.env=[(O',ZJ a X.env),(O',ZJ b X.env)]) F')(c:f' (Za [b] X.env=[(O',ZJ b X.env)]) F'):
  PI X tg (.Call (.Name "range" p) [a,b] [] pos) (G6 k):=by
 intro d s o H R I h;refine Call_ (jg I l m zdv (ZS (thn (n pos d s o H _ I h) λF M u=>?_) (by rw[hs,c]) (by rw[c];rfl)));cases u,P,Q,x,y,f;cases f,i,j,e,#[f,z,C,E],q;subst e
 cases y with
 |cons r rr=>
  cases rr with
  |cons r' rr=>
   cases rr
   cases r,t,rfl;cases r',t',rfl;calc call_range_2 (GZ x f z C E q)
def G8 (wi:TI)(g:TG)(tb:TS):TS:=λD σ H=>wi σ H λJ H1=>∃W:O->O->St->Hp->Prop,(∃m,W 0 m σ H1)/\∀i m σ H,W i m σ H->
 (J.stop i H/\D.nx σ H)\/(J.go i H/\∃N:fM,(∀σ' H',N σ' H'->∃m',m'<m/\W (i+1) m' σ' H')/\∀x H',J.yld i H x H'->g x σ H' λσ2 H2=>tb {D with nx:=N,ct:=N,bk:=D.nx} σ2 H2)
def o3 (fp:ap)(h:ZN):aN:=fp.filterMap λb=>(h.get? b).map λo=>(b,o)
def nE {a:ap}{h:ZN}{b:Zs}(c:b∈a)(e:h.get? b=W o):(b,o)∈o3 a h:=List.mem_filterMap.mpr #[b,c,by rw[e];rfl]
def OW {p:Zs×Obj}(c:p∈o3 a h):p.1∈a/\h.get? p.1=W p.2:=by
 obtain⟨b,d,e⟩:=List.mem_filterMap.mp c
 cases q:h.get? b with
 |none=>rw[q]at e;cases e
 |some o=>
  rw[q]at e;let f:(b,o)=p:=ZY e;subst f;calc#[d,q]
def Inv.pinned {c:ap}(I:Inv X a f H s)(j:∀b∈c,eI X a H b)(k:∀b∈c,∃o,s.heap.get? b=W o/\∀v,o.data≠.cell v):Inv X (a++o3 c s.heap) f H s:=
 I.pins_of λp l=>(b5.mp l).elim (λz=>I.pin p (hE _ z)) λz=>by
  cases OW z,h,e;cases j p.1 h,m,n,q,_;cases k p.1 h,o,i,d;rw[e]at i;cases i;calc#[e,m,n,q,d]
def Inv.unpinned {a pl:aN}(I:Inv X (a++pl) b H s):Inv X a b H s:=I.pins_of λp c=>I.pin p (hE _ (iE _ c))
def dy {pos:Pos}(R:PassesOwn (Ze X.prog X.w) X.A X.env X.xe)(hc:X.calm=K')(hi:PI X tg j wi)(hg:PG X tg g)(k:PSs X F tb)(hs:f' (∀x,ZA j X.env x=pure x) C'):PS X (.For tg j F [] pos) (G8 wi g tb):=by
 intro a s σ H D I h;calc wpAny_For (thn (hi a s σ H _ I h) λv s1 h1=>thn h1 λk0 s2 h2=>?_) hs;cases h2,it,fp,tn,J,H2,e,I2,T,y0,f2,W,#[m0,w0],x0;subst e;let l:∀{E:Hp},(∀b∈fp,E b=Zy)->∀b∈fp,eI X a E b:=λhn b k=>#[hn b k,(f2 b k).2]
 refine codeAny_forLoop_any (λn s'=>∃i q E,Inv X a q E s'/\tn i s'.heap/\(∀b∈fp,E b=Zy)/\W i n q E) ?_ m0 #[0,σ,H2,I2,y0,λb k=>(f2 b k).1,w0]
 rintro n s3 ⟨i,σ3,H3,I3,st3,fr3,w3⟩
 rcases x0 i n σ3 H3 w3 with ⟨stop,qn⟩|⟨go,N,hN,step⟩
 .calc Yp R (thn (T.done X U U U hc i a s3 σ3 H3 X.xe I3 (l fr3) st3 stop) λr s4 P=>?_);cases P,hr,I4;subst hr;exact X5 #[σ3,H3,I4,qn]
 .calc Yp R (thn (T.item X U U U hc i a s3 σ3 H3 X.xe I3 (l fr3) st3 go) λr s4 P=>?_);cases P,u,hr,h4;subst hr;calc Yp R (thn h4 λ_ s5 P=>?_);cases P,x,H5,I5,r5,y5,Q,z0;let u0:=I5.pinned (l z0) (T.obj _ _ Q);calc Yp R (thn (hg _ s5 σ3 H5 x u _ u0 r5 (step x H5 y5)) λ_ s6 P=>?_);cases P,j0,H6,I6,q6;calc Yp R (thn (k _ s6 j0 H6 _ I6 q6) λf s7 M=>?_);let y:∀{c:St}{z:Hp},Inv X (a++o3 fp s5.heap) c z s7->N c z->∃m,m<n/\∃i q E,Inv X a q E s7/\tn i s7.heap/\(∀b∈fp,E b=Zy)/\W i m q E:=λ{c z} C n7=>by
   cases hN c z n7,m',hm,w7;calc#[m',hm,i+1,c,z,C.unpinned,T.keep _ _ _ Q λb k o e=>(C.pin (b,o) (hE _ (hE _ (nE k e)))).1,λb k=>?_,w7];cases T.obj _ _ Q b k,o,e,d;exact (C.pin (b,o) (hE _ (hE _ (nE k e)))).2.1
  cases f with
  |next=>cases M,c,z,C,n7;calc y C n7
  |cont=>cases M,c,z,C,n7;calc y C n7
  |brk=>cases M,c,z,C,M;calc#[c,z,C.unpinned,M]
  |ret v=>cases M,x7,c,z,C,r7,M;calc#[x7,c,z,C.unpinned,r7,M]
end
def OX {K:ao}{xs:G V}{g:TG}{tb:TS}{D:Ends}{b:St}{H:Hp}(c:O->St->Hp->Prop)(l:c 0 b H)(n:∀i b H,i<=xs.9->c i b H->SqL K H a xs)(hs:∀i x b H,xs[i]?=W x->c i b H->g x b H λd j=>tb {D with nx:=c (i+1),ct:=c (i+1),bk:=D.nx} d j)(hd:∀b H,c xs.9 b H->D.nx b H):
  ∃r:O->O->St->Hp->Prop,(∃m,r 0 m b H)/\∀i m b H,r i m b H->
   ((Itl K a).stop i H/\D.nx b H)\/((Itl K a).go i H/\∃N:fM,(∀f h,N f h->∃k,k<m/\r (i+1) k f h)/\∀x h,(Itl K a).yld i H x h->g x b h λd j=>tb {D with nx:=N,ct:=N,bk:=D.nx} d j):=by
 refine#[λi m b H=>m=xs.9-i/\i<=xs.9/\c i b H,#[xs.9,by simp,bh _,l],?_]
 rintro i m b H ⟨rfl,hi,p⟩
 let q:=n i b H hi p;by_cases hlt:i<xs.9
 .refine .inr #[#[xs,xs[i],q,by simp[hlt]],c (i+1),λf h o=>#[xs.9-(i+1),(),U,hlt,o],λx h y=>?_];cases y,e,y;subst e;exact hs i x b _ (y xs q) p
 .let e:i=xs.9:=()
  subst e;calc .inl #[#[xs,q,aC _],hd b H p]
def OY {lo:Y}{n:O}{g:TG}{tb:TS}{D:Ends}{a:St}{H:Hp}(b:O->St->Hp->Prop)(k:b 0 a H)(hs:∀i a H,i<n->b i a H->g (.int (lo+i)) a H λc h=>tb {D with nx:=b (i+1),ct:=b (i+1),bk:=D.nx} c h)(hd:∀a H,b n a H->D.nx a H):
  ∃o:O->O->St->Hp->Prop,(∃m,o 0 m a H)/\∀i m a H,o i m a H->
   ((Itr lo n).stop i H/\D.nx a H)\/((Itr lo n).go i H/\∃N:fM,(∀d f,N d f->∃j,j<m/\o (i+1) j d f)/\∀x f,(Itr lo n).yld i H x f->g x a f λc h=>tb {D with nx:=N,ct:=N,bk:=D.nx} c h):=by
 refine#[λi m a H=>m=n-i/\i<=n/\b i a H,#[n,by simp,bh _,k],?_]
 rintro i m a H ⟨rfl,hi,p⟩
 by_cases hlt:i<n
 .calc .inr #[hlt,b (i+1),λd f l=>#[n-(i+1),(),U,hlt,l],λx f y=>?_];cases y,e,y;subst e y;exact hs i a _ hlt p
 .let e:i=n:=()
  subst e;calc .inl #[aC _,hd a H p]
abbrev R2:=V->V->Hp->VK->Prop
def OpR (X:Cx)(f:Zr->Zr->Sem Zr)(r:R2):Prop:=
 ∀(XX:aN)(s:Zp)(σ:St)(H:Hp)(x y:V)(v u:Zr)(Q:VK),Inv X XX σ H s->RelV x v->RelV y u->r x y H Q->
  Zf (Ze X.prog X.w) X.A (f v u) (EP X XX σ Q) X.xe s
def UnR (X:Cx)(f:Zr->Sem Zr)(r:V->Hp->VK->Prop):Prop:=
 ∀(XX:aN)(s:Zp)(σ:St)(H:Hp)(x:V)(v:Zr)(Q:VK),Inv X XX σ H s->RelV x v->r x H Q->
  Zf (Ze X.prog X.w) X.A (f v) (EP X XX σ Q) X.xe s
def ir (X:Cx)(f:Zr)(r:G V->Hp->VK->Prop):Prop:=
 ∀(XX:aN)(s:Zp)(σ:St)(H:Hp)(xs:G V)(us:G Zr)(Q:VK),Inv X XX σ H s->Vals xs us->r xs H Q->
  Zf (Ze X.prog X.w) X.A (zb4 f us) (EP X XX σ Q) X.xe s
def tOp (r:R2)(ta tb:TE):TE:=λσ H Q=>ta σ H λx H1=>tb σ H1 λy H2=>r x y H2 Q
def tUn (r:V->Hp->VK->Prop)(ta:TE):TE:=λσ H Q=>ta σ H λx H1=>r x H1 Q
def rI (C:Y->Y->Prop)(g:Y->Y->V):R2:=λx y H Q=>kI x λi=>kI y λj=>C i j/\Q (g i j) H
def rI0 (g:Y->Y->V):R2:=λx y H Q=>kI x λi=>kI y λj=>Q (g i j) H
def rU (g:Y->V):V->Hp->VK->Prop:=λx H Q=>kI x λi=>Q (g i) H
section
variable {X:Cx}{a b c:ZU}{ta tb tc:TE}{pos:Pos}
def Ce (n:PE X a ta)(o:PE X b tb){c:aN}{R:V->V->Hp->Prop}(I:Inv X c d H s)(h:ta d H λx l=>tb d l λy e=>R x y e){Q:bD}{f:Zr->Zr->Sem Zr}(q:∀v u k x y e,Inv X c d e k->RelV x v->RelV y u->R x y e->Zf (Ze X.prog X.w) X.A (f v u) Q X.xe k):
  Zf (Ze X.prog X.w) X.A (ZJ a X.env) (λv i=>Zf (Ze X.prog X.w) X.A (ZJ b X.env) (λu j=>Zf (Ze X.prog X.w) X.A (f v u) Q X.xe j) X.xe i) X.xe s:=by
 calc thn (n c s d H _ I h) λv r m=>?_;cases m,x,l,z,C,E;calc thn (o c r d l _ z E) λu k m=>?_;cases m,y,e,F,M,P;calc q v u k x y e F C M P
theorem aF (e:OpR X (Yh d) r)(f:PE X a ta)(i:PE X b tb):PE X (.BinOp a d b pos) (tOp r ta tb):=by
 intro c s j H Q I h;calc wpAny_BinOp (Ce f i I h λv u k x y l m n o q=>e c k j l x y v u Q m n o q)
theorem c_ {c:UnaryOp}(e:UnR X (unaryOp c) r)(f:PE X a ta):PE X (.UnaryOp c a pos) (tUn r ta):=by
 intro b s d H Q I h;calc UnaryOp_ (thn (f b s d H _ I h) λv i ⟨x,j,k,l,m⟩=>e b i d j x v Q k l m)
theorem opI {f:Zr->Zr->Sem Zr}{C:Y->Y->Prop}{g:Y->Y->Y}(a:∀(i j:Y)(t u:Tok)(s:Zp)(Q:bD)(E:bD),C i j->Q (.int (g i j) s.toks) {s with toks:=s.toks+1}->Zf (Ze X.prog X.w) X.A (f (.int i t) (.int j u)) Q E s):
  OpR X f (rI C λi j=>.int (g i j)):=by
 intro b s m H x y v u Q I c d h;cases gg h,i,rfl,e;cases gg e,j,rfl,k,q;cases c,t,rfl;cases d,l,rfl;calc a i j t l s _ _ k #[.int (g i j),H,I.tok _,#[_,U],q]
theorem G9 {f:Zr->Zr->Sem Zr}{g:Y->Y->Y}(a:∀(i j:Y)(t u:Tok)(s:Zp)(Q:bD)(E:bD),Q (.int (g i j) s.toks) {s with toks:=s.toks+1}->Zf (Ze X.prog X.w) X.A (f (.int i t) (.int j u)) Q E s):
  OpR X f (rI0 λi j=>.int (g i j)):=by
 intro b s l H x y v u Q I c d h;cases gg h,i,rfl,e;cases gg e,j,rfl,q;cases c,t,rfl;cases d,k,rfl;calc a i j t k s _ _ #[.int (g i j),H,I.tok _,#[_,U],q]
theorem sB {f:Zr->Zr->Sem Zr}{g:Y->Y->Yl}(a:∀(i j:Y)(t u:Tok)(s:Zp)(Q:bD)(E:bD),Q (.bool (g i j)) s->Zf (Ze X.prog X.w) X.A (f (.int i t) (.int j u)) Q E s):
  OpR X f (rI0 λi j=>.bl (g i j)):=by
 intro b s l H x y v u Q I c d h;cases gg h,i,rfl,e;cases gg e,j,rfl,q;cases c,t,rfl;cases d,k,rfl;calc a i j t k s _ _ #[.bl (g i j),H,I,U,q]
def OZ (i j:Y):Prop:=0<j/\j<1073741824
def O0 (i j:Y):Prop:=0<=j/\j<=1000000/\i.8<2^64
def CMul (i j:Y):Prop:=(-(2^64)<i/\i<2^64)\/(-(2^64)<j/\j<2^64)
theorem CMul.ok (h:CMul i j):zbw i j:=by
 rcases h with ⟨a,b⟩|⟨a,b⟩
 .exact .of_left (intBits_le_64 a b)
 .calc .of_right (intBits_le_64 a b)
def O8 (k:O):(0:Y)<=2^k:=by
 rw[two_pow_cast];calc zcu _
def dZ:OpR X (Yh .Add) (rI0 λi j=>.int (i+j)):=G9 λ_ _ _ _ _ _ _ q=>add_int q
def dz:OpR X (Yh .Sub) (rI0 λi j=>.int (i-j)):=G9 λ_ _ _ _ _ _ _ q=>sub_int q
theorem G_:OpR X (Yh .Mult) (rI CMul λi j=>.int (i*j)):=opI λ_ _ _ _ _ _ _ a q=>mul_int q a.ok
theorem sC:OpR X (Yh .FloorDiv) (rI OZ λi j=>.int (i / j)):=opI λi j _ _ _ _ _ a q=>by
 let b:(0:Y)<j:=a.1;let c:j<1073741824:=a.2;calc zcm () #v[Ep i (),q] (.inl (za9 ()))
theorem ji:OpR X (Yh .Mod) (rI (λ_ j=>0<j) λi j=>.int (i % j)):=opI λi j _ _ _ _ _ a q=>by
 let b:(0:Y)<j:=a;calc mod_int' () #v[Int.fmod_eq_emod_of_nonneg i (),q]
theorem O9:OpR X (Yh .LShift) (rI O0 λi j=>.int (i*2^j.toNat)):=opI λ_ _ _ _ _ _ _ a q=>lshift_int_small a.1 a.2.1 a.2.2 q
theorem Ha:OpR X (Yh .RShift) (rI (λ_ j=>0<=j) λi j=>.int (i / 2^j.toNat)):=opI λi j _ _ _ _ _ a q=>
 rshift_int a #v[Ep i (O8 _),q]
theorem unI {f:Zr->Sem Zr}{g:Y->Y}(a:∀(i:Y)(t:Tok)(s:Zp)(Q:bD)(E:bD),Q (.int (g i) s.toks) {s with toks:=s.toks+1}->Zf (Ze X.prog X.w) X.A (f (.int i t)) Q E s):
  UnR X f (rU λi=>.int (g i)):=by
 intro b s d H x v Q I c h;cases gg h,i,rfl,q;cases c,t,rfl;calc a i t s _ _ #[.int (g i),H,I.tok _,#[_,U],q]
def dc:UnR X (unaryOp .USub) (rU λi=>.int (-i)):=unI λ_ _ _ _ _ q=>neg_int q
end
noncomputable def He:V->V->Yl
 |.non,.non=>K' | .non,.int _=>K' | .int _,.non=>K' | .non,.bl _=>K' | .bl _,.non=>K' | .non,.str _=>K' | .str _,.non=>K'
 |.int _,.int _=>K' | .bl _,.bl _=>K' | .str _,.str _=>K' | .byt _,.byt _=>K'
 |.int _,.str _=>K' | .str _,.int _=>K' | .bl _,.str _=>K' | .str _,.bl _=>K'
 |_,_=>O'
def rEq:R2:=λx y H Q=>He x y=K'/\Q (.bl (decide (x=y))) H
def rNe:R2:=λx y H Q=>He x y=K'/\Q (.bl (!decide (x=y))) H
def sD:decide (V.int i=V.int j)=(i == j):=by
 rw[Ye];simp
def Hf:decide (V.bl i=V.bl j)=(i == j):=by
 rw[Ye];simp
def Hg:decide (V.str i=V.str j)=(i == j):=by
 rw[Ye];simp
def Hh:decide (V.byt i=V.byt j)=(i.toList == j.toList):=by
 rw[Ye]
 cases i
 cases j
 simp
section
variable {X:Cx}{a b c:ZU}{ta tb tc:TE}{pos:Pos}
def dS {a:aN}{b:St}{Q:VK}{k c:Yl}(I:Inv X a b H s)(q:Q (.bl k) H)(e:k=c):EP X a b Q (.bool c) s:=by
 subst e;calc#[.bl k,H,I,U,q]
theorem fT:OpR X (Z7 .Eq) rEq:=by
 intro d s e H x y v u Q I c a h;obtain⟨hs,q⟩:=h
 cases x with
 |non=>
  cases c
  cases y with
  |non=>cases a;calc PySem.EqNone.eq_none_none (dS I q ⋯)
  |bl j=>cases a;calc PySem.EqNone.eq_none_bool (dS I q ⋯)
  |int j=>cases a,b,rfl;calc PySem.EqNone.eq_none_int (dS I q ⋯)
  |str j=>cases a,b,rfl;calc PySem.EqNone.eq_none_str (dS I q ⋯)
  |_=>calc Zq (show O'=K' from hs) Zh
 |bl i=>
  cases c
  cases y with
  |non=>cases a;calc PySem.EqNone.eq_bool_none (dS I q ⋯)
  |bl j=>cases a;calc eq_bool (dS I q Hf)
  |str j=>cases a,b,rfl;calc PySem.EqMixed.eq_bool_str (dS I q ⋯)
  |_=>calc Zq (show O'=K' from hs) Zh
 |int i=>
  obtain⟨t,rfl⟩:=c
  cases y with
  |non=>cases a;calc PySem.EqNone.eq_int_none (dS I q ⋯)
  |int j=>cases a,b,rfl;calc eq_int (dS I q sD)
  |str j=>cases a,b,rfl;calc PySem.EqMixed.eq_int_str (dS I q ⋯)
  |_=>calc Zq (show O'=K' from hs) Zh
 |str i=>
  obtain⟨t,rfl⟩:=c
  cases y with
  |non=>cases a;calc PySem.EqNone.eq_str_none (dS I q ⋯)
  |bl j=>cases a;calc PySem.EqMixed.eq_str_bool (dS I q ⋯)
  |int j=>cases a,b,rfl;calc PySem.EqMixed.eq_str_int (dS I q ⋯)
  |str j=>cases a,b,rfl;calc eq_str (dS I q Hg)
  |_=>calc Zq (show O'=K' from hs) Zh
 |byt i=>
  obtain⟨t,rfl⟩:=c
  cases y with
  |byt j=>cases a,b,rfl;calc PySem.W.eq_bytes (dS I q Hh)
  |_=>calc Zq (show O'=K' from hs) Zh
 |_=>cases y <;> exact Zq (show O'=K' from hs) Zh
theorem jJ:OpR X (Z7 .NotEq) rNe:=by
 intro d s e H x y v u Q I c a h;obtain⟨hs,q⟩:=h
 cases x with
 |non=>
  cases c
  cases y with
  |non=>cases a;calc PySem.EqNone.ne_none_none (dS I q ⋯)
  |bl j=>cases a;calc PySem.EqNone.ne_none_bool (dS I q ⋯)
  |int j=>cases a,b,rfl;calc PySem.EqNone.ne_none_int (dS I q ⋯)
  |str j=>cases a,b,rfl;calc PySem.EqNone.ne_none_str (dS I q ⋯)
  |_=>calc Zq (show O'=K' from hs) Zh
 |bl i=>
  cases c
  cases y with
  |non=>cases a;calc PySem.EqNone.ne_bool_none (dS I q ⋯)
  |bl j=>cases a;calc ne_bool (dS I q (ZL not Hf))
  |str j=>cases a,b,rfl;calc PySem.EqMixed.ne_bool_str (dS I q ⋯)
  |_=>calc Zq (show O'=K' from hs) Zh
 |int i=>
  obtain⟨t,rfl⟩:=c
  cases y with
  |non=>cases a;calc PySem.EqNone.ne_int_none (dS I q ⋯)
  |int j=>cases a,b,rfl;calc ne_int (dS I q (ZL not sD))
  |str j=>cases a,b,rfl;calc PySem.EqMixed.ne_int_str (dS I q ⋯)
  |_=>calc Zq (show O'=K' from hs) Zh
 |str i=>
  obtain⟨t,rfl⟩:=c
  cases y with
  |non=>cases a;calc PySem.EqNone.ne_str_none (dS I q ⋯)
  |bl j=>cases a;calc PySem.EqMixed.ne_str_bool (dS I q ⋯)
  |int j=>cases a,b,rfl;calc PySem.EqMixed.ne_str_int (dS I q ⋯)
  |str j=>cases a,b,rfl;calc ne_str (dS I q (ZL not Hg))
  |_=>calc Zq (show O'=K' from hs) Zh
 |byt i=>
  obtain⟨t,rfl⟩:=c
  cases y with
  |byt j=>cases a,b,rfl;calc PySem.W.ne_bytes (dS I q (ZL not Hh))
  |_=>calc Zq (show O'=K' from hs) Zh
 |_=>cases y <;> exact Zq (show O'=K' from hs) Zh
def jj:OpR X (Z7 .Lt) (rI0 λi j=>.bl (decide (i<j))):=sB λ_ _ _ _ _ _ _ q=>lt_int q
def O_:OpR X (Z7 .LtE) (rI0 λi j=>.bl (decide (i<=j))):=sB λ_ _ _ _ _ _ _ q=>le_int q
def iH:OpR X (Z7 .Gt) (rI0 λi j=>.bl (decide (j<i))):=sB λ_ _ _ _ _ _ _ q=>gt_int q
def sE:OpR X (Z7 .GtE) (rI0 λi j=>.bl (decide (j<=i))):=sB λ_ _ _ _ _ _ _ q=>ge_int q
theorem sI:OpR X (Z7 .Is) (λx y H Q=>y=.non/\Q (.bl (decide (x=.non))) H):=by
 intro a s d H x y v u Q I b c h;obtain⟨rfl,q⟩:=h
 cases c
 refine is_none_gen (dS I q ?_)
 cases x <;> first
  |(cases b;rfl)
  |(cases b,t,rfl;rfl)
theorem o4:OpR X (Z7 .IsNot) (λx y H Q=>y=.non/\Q (.bl (!decide (x=.non))) H):=by
 intro a s d H x y v u Q I b c h;obtain⟨rfl,q⟩:=h
 cases c
 refine isnot_none_gen (dS I q ?_)
 cases x <;> first
  |(cases b;rfl)
  |(cases b,t,rfl;rfl)
def bE (b:ZU){a:CmpOp}(h:f' (a≠.In) B')(c:f' (a≠.NotIn) B'):YY a b=O':=by
 let d:(a == ze6)=O':=by cases a <;> first|rfl|exact Zq U h
 let e:(a == zeb)=O':=by cases a <;> first|rfl|exact Zq U c
 cases b <;> simp[YY,d,e]
theorem Cf (e:OpR X (Z7 d) r)(f:PE X a ta)(i:PE X b tb)(j:YY d b=O'):PE X (.Compare a [d] [b] pos) (tOp r ta tb):=by
 intro c s k H Q I h;calc wpAny_Compare1 (Ce f i I h λv u l x y m n o z q=>e c l k m x y v u Q n o z q) j
def Hi (t:TE):TT:=λσ H Q=>t σ H λx H'=>kB x λk=>Q k H'
def bK (j:OpR X (Z7 f) r)(l:PE X a ta)(m:PE X b tb)(n:YY f b=O'):PT X (.Compare a [f] [b] pos) (Hi (tOp r ta tb)):=by
 intro d s i H Q I h;refine zcx (thn (l d s i H _ I h) λv o ⟨x,q,C,E,F⟩=>thn (m d o i q _ C F) λu M ⟨y,P,R,r2,q2⟩=>
  thn (j d M i P x y v u _ R E r2 q2) λc s3 ⟨z,H3,I3,r3,q0⟩=>?_) n
 cases se q0,k,e,q3;subst e
 cases r3
 calc YW #[H3,I3,q3]
def o7:(sizeLine:O)<2^63:=by rw[zaa];decide
def ky {x:V}(r:Vals [x] us):∃u,us=[u]/\RelV x u:=by
 cases r with
 |cons r1 r2=>cases r2;calc#[_,U,r1]
def Hj {x y:V}(r:Vals [x,y] us):∃u a,us=[u,a]/\RelV x u/\RelV y a:=by
 cases r with
 |cons r1 r2=>
  cases r2 with
  |cons r3 r4=>cases r4;calc#[_,_,U,r1,r3]
theorem ma:ir X (.builtin "abs") (λa H Q=>∃i,a=[.int i]/\Q (.int (if i<0 then -i else i)) H):=by
 intro b s c H a d Q I r h;cases h,i,rfl,q;cases ky r,u,rfl,t,rfl;calc call_abs_int λu e=>#[.int (if i<0 then -i else i),H,I.tok _,#[_,U],q]
theorem sJ (c:X.calm=K'):ir X (.builtin "max") (λa H Q=>∃i j,a=[.int i,.int j]/\Q (.int (if j > i then j else i)) H):=by
 intro b s d H a e Q I r h;cases h,i,j,rfl,q;cases Hj r,u,f,rfl,#[t,rfl],#[l,rfl];refine max_two_ints (I.ok.hd c) λm n k=>#[_,H,I.kept k,?_,q]
 by_cases hj:j > i
 .rw[Zt hj,Zt hj];exact#[_,U]
 .rw[N hj,N hj];calc#[_,U]
theorem Cg (c:X.calm=K'):ir X (.builtin "min") (λa H Q=>∃i j,a=[.int i,.int j]/\Q (.int (if j<i then j else i)) H):=by
 intro b s d H a e Q I r h;cases h,i,j,rfl,q;cases Hj r,u,f,rfl,#[t,rfl],#[l,rfl];refine min_two_ints (I.ok.hd c) λm n k=>#[_,H,I.kept k,?_,q]
 by_cases hj:j<i
 .rw[Zt hj,Zt hj];exact#[_,U]
 .rw[N hj,N hj];calc#[_,U]
end
structure ObjM (h:ZN)(x dx C:Zs)(mA:ck):Prop where
 obj:h.get? x=W (Z2 C dx)
 ns:h.Ns1 dx mA
 ne:dx≠x
def Pa {h:ZN}{dx:Zs}{d:ck}(n:h.Ns1 dx d):∃f,h.get? dx=W f/\∀b,Y2 b f=W (d b):=by
 cases n,o,i,m,j,hd,hk,_,k;calc#[o,j,λb=>?_];let e:=k b;unfold nsFind findBy at e;rw[<-Array.find?_toList]at e;unfold Y2;rw[hd];dsimp only
 split
 .rename_i y q;rw[q]at e;exact ZL W e
 .rename_i q;rw[q]at e;let a:i.toList.any (·.refKey)=O':=by
   rw[List.any_eq_false];intro y hy;cases hk y (Array.mem_toList_iff.mp hy),z,t,c;simp[DictEntry.refKey,c]
  let l:¬i.toList.any (·.refKey)=K':=by rw[a];exact Zh
  rw[N l];calc ZL W e
def ObjM.look (I:ObjM h x dx C c):∃b,PySem.W.InstAt h x (Z2 C dx) C (W b)/\∀a,Y2 a b=W (c a):=
 let ⟨b,ho,hl⟩:=Pa I.ns
 #[b,#[I.obj,U,U,ho],hl]
section
variable {prog:Zb}{w:ZW}{A:ZK}{E:bD}{s:Zp}{K:ao}{x dx C f:Zs}{mA:ck}{name:Str}{v:Zr}
theorem Pb {a:Yl}{Q:bD}(X:K.In s.heap)(I:ObjM s.heap x dx C mA)(c:YJ K C name=K')(d:X8 K C=K')(e:ZT K (.ref C) name=W Zy)(f:mA name=W v)(b:zb6 v=K')(h:Q v {s with toks:=s.toks+1}):
  Zf (Ze prog w) A (getAttr (.ref x) name a) Q E s:=by
 cases I.look,j,k,i;calc PySem.W.get_value X k (Y7 c).1 (PySem.W.findObj_own d e U (by rw[i,f])) b h
def Pd {pl:Sem Yl}{Q:Zr×G Zr->Zp->Prop}(X:K.In s.heap)(I:ObjM s.heap x dx C mA)(a:YJ K C name=K')(b:ZT K (.ref C) name=W (W (.ref f)))(c:za7 K (.ref f)=K')(d:mA name=Zy)(h:Q (.ref f,[.ref x]) s):
  Zf (Ze prog w) A (zb8 (.ref x) name pl) Q E s:=by
 cases I.look,e,j,i;calc PySem.W.method_fn X j (Y7 a).1 (Y7 a).2 b (beq_iff_eq.mp c) (by show (Y2 name e).map (·.isSome)=W O';rw[i,d];rfl) h
theorem Pe {Q:Unit->Zp->Prop}(X:K.In s.heap)(I:ObjM s.heap x dx C mA)(hs:ZT K (.ref C) "__setattr__" = W (W (.builtin "object.__setattr__")))(l:zby K C=K')(m:zan K C name=W Zy)(n:X8 K C=K')(o:zbk mA ns)(q:ns.9<=Zg)(h:∀e,ObjM e x dx C (λy=>if y=name then W v else mA y)->zak dx s.heap e->Q #[] {s with heap:=e,toks:=s.toks+2}):
  Zf (Ze prog w) A (setAttr (.ref x) name v) Q E s:=by
 cases I.look,H,J,M;calc PySem.W.set_plain X J hs (PySem.W.osa_open (s:={s with toks:=s.toks+1}) (r:=Zy) X J l m λb=>?_);cases PySem.W.any_some n,P,u,f;let hx:s.heap.get? x=W #[.ref C,W dx,.plain,(Zi [])]:=I.obj;calc Zm (Zd (Zm (Zm (wpAny_loadPart hx (Zm (PySem.W.Looks.here (s:={s with toks:=s.toks+1}) (PySem.W.looks_clsIn X u) ?_))))));rw[f];calc Zd (a:=W dx) (Zm (Zd (Zm ?_)));calc wpAny_nsSet1 (s:={s with toks:=s.toks+1}) I.ns λe c d=>?_;cases c.count (PySem.Within.cons name v o),R,z,F,i,j,k;refine Zm (wpAny_lookBehind i (by rw[j];exact pastItsLine_dict (aP k (by rw[dO];lk))) ?_);calc Zd (h _ #[(d.2 _ (ZQ I.ne)).trans I.obj,c,I.ne] d)
def Pg {R:zat->Zp->Prop}{vs:G Zr}{kw:G (Str×Zr)}(X:K.In s.heap)(a:zcb K C=K')(hi:ZT K (.ref C) "__init__" = W (W (.ref f)))(b:PySem.W.typeIn K (.ref f)=W (.type "function"))(h:Yv (Ze prog w) (A.under (.builtin "type.__call__" ⟨.ref C::vs,kw⟩)) (.call (.ref f) ⟨.ref (s.7+1)::vs,kw⟩) (PySem.W.InitBack (s.7+1) R)
   {s with heap:=(s.heap.push ZB).push (Z2 C s.7)}):
  Yv (Ze prog w) A (.call (.ref C) #[vs,kw]) R s:=by
 cases s,c,g,d,t,os;calc PySem.W.make_core (PySem.W.makes_of X a) (PySem.W.looks_findIn X hi) (λself=>PySem.W.bind_fn X self b) (.inl U) h
end
noncomputable def bW (f:Str) (v:V):G (Str×V)->G (Str×V)
 |[]=>[(f,v)]
 |(g,x)::r=>if g=f then (g,v)::r else (g,x)::bW f v r
theorem Hk (f g:Str)(v:V):∀fs:G (Str×V),(bW f v fs).lookup g=if g=f then W v else fs.lookup g
 |[]=>by
  show oC g [(f,v)]=_;by_cases h:g=f
  .let a:(g == f)=K':=beq_iff_eq.mpr h;simp only[oC,a,Zt h]
  .let a:(g == f)=O':=beq_eq_false_iff_ne.mpr h;simp only[oC,a,N h]
 |(k,x)::r=>by
  let b:=Hk f g v r;rw[show bW f v ((k,x)::r)=(if k=f then (k,v)::r else (k,x)::bW f v r) from rfl];by_cases hk:k=f
  .rw[Zt hk];by_cases h:g=k
   .let a:(g == k)=K':=beq_iff_eq.mpr h;simp only[oC,a,Zt (h.trans hk)]
   .let a:(g == k)=O':=beq_eq_false_iff_ne.mpr h;simp only[oC,a,N (λe:g=f=>h (e.trans hk.symm))]
  .rw[N hk];by_cases h:g=k
   .let a:(g == k)=K':=beq_iff_eq.mpr h;simp only[oC,a,N (λe:g=f=>hk (h.symm.trans e))]
   .let a:(g == k)=O':=beq_eq_false_iff_ne.mpr h;simp only[oC,a];calc b
theorem Ch (f:Str)(v:V):∀fs:G (Str×V),f∈(bW f v fs).map (·.1)/\∀g,g∈fs.map (·.1)->g∈(bW f v fs).map (·.1)
 |[]=>#[by simp[bW],λg h=>by simp at h]
 |(k,x)::r=>by
  cases Ch f v r,a,b;rw[show bW f v ((k,x)::r)=(if k=f then (k,v)::r else (k,x)::bW f v r) from rfl];by_cases hk:k=f
  .rw[Zt hk];subst hk;exact#[by simp,λg h=>by simpa using h]
  .rw[N hk];refine#[?_,λg h=>?_]
   .rw[fo];exact eQ _ a
   .rw[fo]at h ⊢;rcases bV.mp h with e|e
    .exact bV.mpr (.inl e)
    .calc eQ _ (b g e)
theorem Hl (f:Str)(v:V):∀fs:G (Str×V),(bW f v fs).9<=fs.9+1
 |[]=>by simp[bW]
 |(k,x)::r=>by
  let a:=Hl f v r;rw[show bW f v ((k,x)::r)=(if k=f then (k,v)::r else (k,x)::bW f v r) from rfl];by_cases hk:k=f
  .rw[Zt hk,dO,dO];lk
  .rw[N hk,dO,dO];lk
def RelO.some_of (r:RelO (W v) o):∃u,o=W u/\RelV v u:=by
 cases o with
 |none=>calc (show False from r).elim
 |some u=>calc#[u,U,r]
def RelO.none_of (r:RelO Zy o):o=Zy:=by
 cases o with
 |none=>rfl
 |some u=>calc (show False from r).elim
def Ph (r:RelV v u):zb6 u=K':=by
 cases v with
 |non=>cases (show u=za0 from r);rfl
 |bl b=>cases (show u=za1 b from r);rfl
 |int i=>obtain⟨t,e⟩:=(show ∃t,u=YG i t from r);cases e;rfl
 |str x=>obtain⟨t,e⟩:=(show ∃t,u=zal x t from r);cases e;rfl
 |byt b=>obtain⟨t,e⟩:=(show ∃t,u=zd6 b t from r);cases e;rfl
 |flt b=>obtain⟨t,e⟩:=(show ∃t,u=zbu b t from r);cases e;rfl
 |ref a=>cases (show u=ZG a from r);rfl
 |ty n=>cases (show u=zej n from r);rfl
section
variable {P:Zb}{w:ZW}{H H':Hp}{h h':ZN}{a C dx:Zs}{fs fs':G (Str×V)}
def sK (hok:HOk P w H h)(e:H a=W (.ins C dx fs)):∃b,ObjM h a dx C b/\(∀f,RelO (fs.lookup f) (b f))/\zbk b (fs.map (·.1))/\fs.9<=1000/\H dx=W (.own a):=by
 obtain⟨d,z,ne,c,b,n,r,q⟩:=(show ObjOk P w H h a (.ins C dx fs) from hok a _ e)
 calc#[b,#[c,n,ne],r,q,z,d]
end
structure Cls (K:ao)(C:Zs):Prop where
 pg:YJ K C Str.empty=true
 hd:X8 K C=true
 po:zby K C=true
 sa:ZT K (.ref C) "__setattr__" = W (W (.builtin "object.__setattr__"))
def Cls.get {K:ao}(c:Cls K C)(f:Str):YJ K C f=K':=c.pg
def NoAttr (K:ao)(C:Zs)(f:Str):Prop:=ZT K (.ref C) f=W Zy
def NoAttr.taker {K:ao}(n:NoAttr K C f):zan K C f=W Zy:=by
 unfold zan;rw[show ZT K (.ref C) f=W Zy from n];rfl
structure Meth (K:ao)(C:Zs)(m:Str)(f:Zs):Prop where
 at_:ZT K (.ref C) m=W (W (.ref f))
 fn:za7 K (.ref f)=true
 kp:Z6 K (.ref f)=true
section
variable {X:Cx}{XX:aN}{σ:St}{H:Hp}{s:Zp}{a C dx:Zs}{fs:G (Str×V)}{f:Str}{v:V}{A:ZK}{E:bD}
def Hm {b:Yl}{Q:bD}(I:Inv X XX σ H s)(e:H a=W (.ins C dx fs))(c:Cls X.K C)(n:NoAttr X.K C f)(l:fs.lookup f=W v)(h:∀u d,Inv X XX σ H d->RelV v u->Q u d):Zf (Ze X.prog X.w) A (getAttr (.ref a) f b) Q E s:=by
 cases sK I.hok e,j,m,r,_,_,_;cases RelO.some_of (v:=v) (o:=j f) #v[<-l,r f],u,k,i;calc Pb I.kIn m (c.get f) c.hd n k (Ph i) (h u _ (I.tok _) i)
theorem Hn {pl:Sem Yl}{Q:Zr×G Zr->Zp->Prop}(I:Inv X XX σ H s)(e:H a=W (.ins C dx fs))(c:Cls X.K C)(k:Meth X.K C m g)(l:fs.lookup m=Zy)(h:Q (.ref g,[.ref a]) s):Zf (Ze X.prog X.w) A (zb8 (.ref a) m pl) Q E s:=by
 cases sK I.hok e,b,f,r,_,_,_;let d:b m=Zy:=RelO.none_of #v[<-l,r m];calc Pd I.kIn f (c.get m) k.at_ k.fn d h
theorem Ho {Q:Unit->Zp->Prop}(I:Inv X XX σ H s)(e:H a=W (.ins C dx fs))(c:Cls X.K C)(n:NoAttr X.K C f)(hl:fs.9<1000)(m:RelV y u)(h:∀i,Inv X XX σ (upd H a (.ins C dx (bW f y fs))) i->Q #[] i):Zf (Ze X.prog X.w) A (setAttr (.ref a) f u) Q E s:=by
 cases sK I.hok e,j,O,r,k,_,l;let F:(fs.map (·.1)).9<=Zg:=by rw[af,zaa];lk
 calc Pe I.kIn O c.sa c.po n.taker c.hd k F λM d P=>h _ ?_;let hd:∃o,M.get? dx=W o:=let ⟨o,_,_,e',_⟩:=d.ns;#[o,e']
 calc I.write (x:=a) (e:=dx) #v[e,Yd] (.inr l) (λb q R z=>(P.2 b R).trans z) hd ?_;refine#[#v[aK O.ne,l],?_,O.ne,d.obj,_,d.ns,λg=>?_,λg hg=>?_]
 .let:=Hl f y fs;lk
 .show RelO ((bW f y fs).lookup g) (if g=f then W u else j g);rw[Hk];by_cases q:g=f
  .rw[Zt q,Zt q];exact m
  .rw[N q,N q];exact r g
 .by_cases q:g=f
  .rw[q];exact (Ch f y fs).1
  .calc (Ch f y fs).2 g (k g λz=>hg ?_);show (if g=f then W u else j g)=Zy;rw[N q];calc z
theorem Inv.made (I:Inv X XX σ H s):Inv X XX σ (upd (upd H s.7 (.own (s.7+1))) (s.7+1) (.ins C s.7 []))
  {s with heap:=(s.heap.push ZB).push (Z2 C s.7)}:=by
 let c:(s.heap.push ZB).get? s.7=W PySem.W.emptyDict:=ZV s.heap U;let d:((s.heap.push ZB).push (Z2 C s.7)).get? (s.7+1)=W (Z2 C s.7):=by
  let:=ZV (s.heap.push ZB) (o:=Z2 C s.7) U
  rwa [Yx]at this
 let f:(s.heap.push ZB).Ns s.7 (λ_=>Zy):=#[ZB,(Zi []),_,c,rfl,(λe h=>Zq h ⋯),λ_=>U]
 let i:=I.laid (a:=s.7) (o:=.own (s.7+1)) (h':=s.heap.push ZB) (t':=s.toks) (λb u q=>Zl _ q) (aC _) #[_,c];calc i.laid (a:=s.7+1) (o:=.ins C s.7 []) (t':=s.toks) (λb u q=>Zl _ q) (yc (Yx _ _)) ?_;let ne:s.7≠s.7+1:=eK (qE _);calc#[by rw[aK ne,ai],bh _,ne,d,λ_=>Zy,(Heap.Ns1.of_empty f).at λo q=>Zl _ q,λ_=>Yd,λy hy=>Zq rfl hy]
def Pj {f:Str}{pos:Pos}{s:Zp}(b:YX e f env (ZJ e env)=ZJ e env)(h:Zf (Ze prog w) A (ZJ e env) (λo a=>Zf (Ze prog w) A (getAttr o f K') Q E a) E s):Zf (Ze prog w) A (ZJ (.Attribute e f pos) env) Q E s:=
 Attribute_any_ h (by rw[arm_eval_Attribute,b])
end
def Ci (K:ao)(ta:TE)(f:Str):TE:=λσ H Q=>ta σ H λx H1=>kR x λa=>∃C dx fs v,H1 a=W (.ins C dx fs)/\Cls K C/\NoAttr K C f/\fs.lookup f=W v/\Q v H1
def Hq (K:ao)(ta tv:TE)(f:Str):TS:=λD σ H=>tv σ H λy H1=>ta σ H1 λx H2=>∃a C dx fs,x=.ref a/\H2 a=W (.ins C dx fs)/\Cls K C/\NoAttr K C f/\fs.9<1000/\
 D.nx σ (upd H2 a (.ins C dx (bW f y fs)))
def Hr (X:Cx)(op:za2)(rd:V->V->Hp->VK->Prop):Prop:=
 ∀(XX:aN)(s:Zp)(σ:St)(H:Hp)(x y:V)(u v:Zr)(Q:VK),Inv X XX σ H s->RelV x u->RelV y v->rd x y H Q->Zf (Ze X.prog X.w) X.A (zei op u v) (EP X XX σ Q) X.xe s
def Hs (K:ao)(ta tv:TE)(rd:V->V->Hp->VK->Prop)(f:Str):TS:=λD σ H=>ta σ H λx H1=>∃a C dx fs v,x=.ref a/\H1 a=W (.ins C dx fs)/\Cls K C/\NoAttr K C f/\fs.lookup f=W v/\
 tv σ H1 λy H2=>rd v y H2 λz H3=>∃dx' fs',H3 a=W (.ins C dx' fs')/\fs'.9<1000/\D.nx σ (upd H3 a (.ins C dx' (bW f z fs')))
section
variable {X:Cx}{o e value:ZU}{f:Str}{pos pos' tpos:Pos}{ta tv:TE}
theorem fc (d:PE X e ta)(i:YX e f X.env (ZJ e X.env)=ZJ e X.env):PE X (.Attribute e f pos) (Ci X.K ta f):=by
 intro b s j H Q I h;calc Pj i (thn (d b s j H _ I h) λu M k=>?_);cases k,x,m,o,r,y;cases ib y,a,ex,C,dx,fs,v,z,c,n,l,q;subst ex;obtain rfl:u=ZG a:=r;calc Hm o z c n l λP R E F=>#[v,m,E,F,q]
def o8 (e:PE X o ta)(i:PE X value tv)(hs:Y6 value (W (.Attribute o f pos')) pos.line X.env=pure O'):PS X (.Assign [.Attribute o f pos'] value pos) (Hq X.K ta tv f):=by
 intro b s d H D I h;calc plainObj_wpAny_Assign_Attribute (thn (i b s d H _ I h) λu j ⟨y,k,m,r,q⟩=>thn (e b j d k _ m q) λz s2 E=>?_) hs;cases E,x,H2,F,M,a,C,dx,fs,ex,P,c,n,l,Q;subst ex;obtain rfl:z=ZG a:=M;calc Ho F P c n l r λs3 R=>#[d,_,R,Q]
def Pk (r:PE X o ta)(E:PE X value tv)(e:Hr X k m):PS X (.AugAssign (.Attribute o f tpos) k value pos) (Hs X.K ta tv m f):=by
 intro b s d H D I h;calc wpAny_AugAssign_AttributeAny (thn (r b s d H _ I h) λF s1 i=>?_);cases i,x,M,P,Q,a,C,dx,fs,v,ex,R,c,n,l,q;subst ex;obtain rfl:F=ZG a:=Q;calc Hm P R c n l λu s2 I2 ru=>thn (E b s2 d M _ I2 q) λw3 s3 ⟨y,H2,I3,ry,q3⟩=>thn (e b s3 d H2 v y u w3 _ I3 ru ry q3) λw4 s4 i=>?_;cases i,z,H3,I4,rz,x0,y0,j,l',q4;calc Ho I4 j c n l' rz λs5 I5=>#[d,_,I5,q4]
def Ht:V->V->Hp->VK->Prop:=λx y H Q=>∃i j,x=.int i/\y=.int j/\Q (.int (i+j)) H
theorem Pm:Hr X .Add Ht:=by
 rintro a s e H x y u v Q I c d ⟨i,j,rfl,rfl,q⟩
 obtain⟨t,rfl⟩:=(show ∃t,u=YG i t from c)
 obtain⟨b,rfl⟩:=(show ∃b,v=YG j b from d)
 calc PyProof.Rows.iadd_int #[.int (i+j),H,I.tok _,#[_,U],q]
def VZ {d:Pos}{Q:bD}(E:PE X e r)(I:Inv X i j H s)(h:r j H λx o=>∃a C dx fs g,x=.ref a/\o a=W (.ins C dx fs)/\Cls X.K C/\Meth X.K C m g/\fs.lookup m=Zy/\
   ∀n,Inv X i j o n->Zf (Ze X.prog X.w) X.A (callWith pos (.ref g) [.ref a] (Yr pos (Za b X.env)) (YS pos (Yy [] X.env))) Q X.xe n)(F:ZJ (.Call (.Attribute e m d) b [] pos) X.env=(do
   let y <-ZJ e X.env
   zcl d.atName
   let (f,first) <-zag [y] (zb8 y m pl)
   callWith pos f first (Yr pos (Za b X.env)) (YS pos (Yy [] X.env)))):
  Zf (Ze X.prog X.w) X.A (ZJ (.Call (.Attribute e m d) b [] pos) X.env) Q X.xe s:=by
 calc zbf (pl:=pl) (thn (E i s j H _ I h) λu n M=>?_) F;cases M,x,o,z,P,a,C,dx,fs,g,ex,R,c,k,l,q;subst ex;obtain rfl:u=ZG a:=P;calc Hn z R c k l (q n z)
end
section
variable {X:Cx}{XX:aN}{σ:St}{H:Hp}{s:Zp}{A:ZK}{E:bD}{Q:bD}{c:Zr}{b:Yl}
inductive TyOf (K:ao) (H:Hp):V->Zr->Prop where
 | non:TyOf K H .non (.type "NoneType")
 | bl (x:Yl):TyOf K H (.bl x) (.type "bool")
 | int (i:Y):TyOf K H (.int i) (.type "int")
 | str (x:Str):TyOf K H (.str x) (.type "str")
 | flt (x:UInt64):TyOf K H (.flt x) (.type "float")
 | lst {a:Zs}{xs:G V}(e:H a=W (.lst xs)):TyOf K H (.ref a) (.type "list")
 | frz {a:Zs}{o:Obj}{xs:G V}(e:H a=W (.frz o (.lst xs))):TyOf K H (.ref a) (.type "list")
 | tup {a:Zs}{xs:G V}(e:H a=W (.tup xs)):TyOf K H (.ref a) (.type "tuple")
 | dK {a:Zs}{kvs:G (Key×V)}(e:H a=W (.dK kvs)):TyOf K H (.ref a) (.type "dict")
 | dT {a:Zs}{kvs:G (G Key×V)}(e:H a=W (.dT kvs)):TyOf K H (.ref a) (.type "dict")
 | ins {a C dx:Zs}{fs:G (Str×V)}(e:H a=W (.ins C dx fs)) (cl:Cls K C) (ha:ZT K (.ref C) "__class__" = W (W (.builtin "object.__class__")))
   (hn:PySem.W.specialIn K (.builtin "object.__class__") "__get__" = W (W (.builtin "getset_descriptor.__get__"))) (htk:PySem.W.takesIn K (.builtin "object.__class__")=W true)
   (hm:PySem.W.mroIn K C (.type "object")=W true):TyOf K H (.ref a) (.ref C)
theorem Po (I:Inv X XX σ H s)(d:RelV x u)(l:TyOf X.K H x t)(e:zcn X.K t c=W b)(h:∀m,Q (.bool b) {s with toks:=m}):
  Zf (Ze X.prog X.w) A (zb4 (.builtin "isinstance") [u,c]) Q E s:=by
 cases l with
 |non=>cases (show u=za0 from d);calc ZI PySem.W.kitx_none I.kIn Yd e (λz=>nomatch z) h
 |bl y=>cases (show u=za1 y from d);calc ZI PySem.W.kitx_bool I.kIn Yd e (λz=>nomatch z) h
 |int i=>obtain⟨t,q⟩:=(show ∃t,u=YG i t from d);cases q;calc ZI PySem.W.kitx_int I.kIn Yd e (λz=>nomatch z) h
 |str y=>obtain⟨t,q⟩:=(show ∃t,u=zal y t from d);cases q;calc ZI PySem.W.kitx_str I.kIn Yd e (λz=>nomatch z) h
 |flt y=>obtain⟨t,q⟩:=(show ∃t,u=zbu y t from d);cases q;calc ZI PySem.W.kitx_float I.kIn Yd e (λz=>nomatch z) h
 | @lst a j ea=>
  cases (show u=ZG a from d)
  obtain⟨_,_,n,_,f⟩:=(show ObjOk X.prog X.w H s.heap a (.lst j) from I.hok a _ ea)
  calc ZI zbz I.kIn #[_,f,U] e (λz=>nomatch z) h
 | @frz a ob j ea=>
  cases (show u=ZG a from d)
  obtain⟨_,_,_,n,_,f⟩:=(show ObjOk X.prog X.w H s.heap a (.frz ob (.lst j)) from I.hok a _ ea)
  calc ZI zbz I.kIn #[_,f,U] e (λz=>nomatch z) h
 | @tup a j ea=>
  cases (show u=ZG a from d)
  obtain⟨_,_,_,p⟩:=(show ObjOk X.prog X.w H s.heap a (.tup j) from I.hok a _ ea)
  cases p,o,f,k,_;calc ZI PySem.W.kitx_tuple I.kIn #[o,f,k] e (λz=>nomatch z) h
 | @dK a kvs ea=>
  cases (show u=ZG a from d)
  obtain⟨_,_,M,_,p⟩:=(show ObjOk X.prog X.w H s.heap a (.dK kvs) from I.hok a _ ea)
  cases p,o,r,F,f,k,_;calc ZI zb0 I.kIn #[o,f,k.1] e (λz=>nomatch z) h
 | @dT a kvs ea=>
  cases (show u=ZG a from d)
  obtain⟨_,_,j,_,o,r,F,f,k,_⟩:=(show ObjOk X.prog X.w H s.heap a (.dT kvs) from I.hok a _ ea)
  calc ZI zb0 I.kIn #[o,f,k.1] e (λz=>nomatch z) h
 | @ins a C dx fs ea cl ha hn htk hm=>
  cases (show u=ZG a from d)
  cases sK I.hok ea,P,O,_;cases O.look,R,J,_;calc ZI (PySem.W.kitx_own (cl.get _) cl.hd ha hn htk hm) I.kIn J e (λz=>nomatch z) h
end
structure Room (k:O)(A:ZK):Prop where
 hd:A.handled=Zy
 dp:A.depth+3*k+5<recursionLimit
 un:A.units+16*k+200<cLine
def Room.mono {j k:O}(r:Room k A)(h:j<=k):Room j A:=#[r.hd,by let:=r.dp;lk,by let:=r.un;lk]
def Room.deeper {k:O}{A:ZK}(r:Room (k+1) A)(env:Env):Room k (A.deeper env):=
 #[r.hd,by let:=r.dp;show A.depth+1+3*k+5<_;lk,by let:=r.un;show A.units+3+16*k+200<_;lk]
def Pp {A:ZK}{C:Zs}{us:G Zr}{kw:G (Str×Zr)}:(A.under (.builtin "type.__call__" #[.ref C::us,kw])).depth=A.depth+1:=by
 first|rfl|simp[zbh,Code.weight,Code.isCreation,Code.isGuard,Code.isCaller,zes,zbo,guardIds]
def Pq {A:ZK}{C:Zs}{us:G Zr}{kw:G (Str×Zr)}:(A.under (.builtin "type.__call__" #[.ref C::us,kw])).units=A.units+1:=by
 first|rfl|simp[zbh,Code.cUnits,zes,zbo]
def Room.make {k:O}{A:ZK}(r:Room (k+1) A)(C:Zs)(us:G Zr)(kw:G (Str×Zr)):Room k (A.under (.builtin "type.__call__" #[.ref C::us,kw])):=
 #[r.hd,by let:=r.dp;rw[Pp];lk,by let:=r.un;rw[Pq];lk]
def Room.depth {k:O}(r:Room k A):A.depth<recursionLimit:=by let:=r.dp;lk
def Room.units {k:O}(r:Room k A):A.units+64<cLine:=by let:=r.un;lk
def Cj:TA:=λ_ H Q=>Q [] H
def Ck (ta:TE)(tr:TA):TA:=λσ H Q=>ta σ H λx H1=>tr σ H1 λxs H2=>Q (x::xs) H2
section
variable {X:Cx}{e:ZU}{es:G ZU}{te:TE}{t:TA}{pos:Pos}
def ac:PA X [] Cj:=λ_ _ _ _ H Q I h=>Calls.spliced_nil #[[],H,I,.nil,h]
theorem ab (c:PE X e te)(d:PA X es t)(hs:f' (Za (e::es) X.env=(O',ZJ e X.env)::Za es X.env) F'):PA X (e::es) (Ck te t):=by
 intro pos a s b H Q I h;rw[hs];show Zf _ _ (spliced ((O',ZJ e X.env)::Yr pos (Za es X.env))) _ _ s;calc Calls.spliced_cons (thn (c a s b H _ I h) λu f i=>?_);cases i,x,j,k,l,m;calc thn (d pos a f b j _ k m) λz C ⟨n,o,q,r,y⟩=>#[x::n,o,q,.cons l r,y]
def Hu (t:TA):TE:=λσ H Q=>t σ H λxs H1=>xs.9<=Zg/\∀p,H1 p=Zy->Q (.ref p) (upd H1 p (.tup xs))
def HB (t:TA):TE:=λσ H Q=>t σ H λxs H1=>xs.9<=Zg/\∀p,H1 p=Zy->Q (.ref p) (upd H1 p (.lst xs))
theorem o9 {x1}(h:PA X es t):PE X (.Tuple es x1 pos) (Hu t):=by
 intro a s i H Q I j;calc wpAny_Tuple_spliced (thn (h pos a s i H _ I j) λk c ⟨l,d,f,r,z,q⟩=>#[#v[<-r.9,z],?_]);let m:d c.7=Zy:=f.hok.fresh (aC _);calc#[.ref c.7,upd d c.7 (.tup l),f.laid (t':=c.toks) (λb u e=>Zl _ e) (aC _) ?_,U,q _ m];calc#[z,k,r,#[_,ZV _ U,U,_,U]]
theorem be (h:PA X es t):PE X (.List es pos) (HB t):=by
 intro a s i H Q I j;calc wpAny_List_spliced (thn (h pos a s i H _ I j) λk c ⟨l,d,f,r,z,q⟩=>#[#v[<-r.9,z],?_]);let m:d c.7=Zy:=f.hok.fresh (aC _);calc#[.ref c.7,upd d c.7 (.lst l),f.laid (t':=c.toks) (λb u e=>Zl _ e) (aC _) ?_,U,q _ m];calc#[z,k,0,r,ZV _ U]
end
abbrev Sp:=G V->Hp->VK->XK->Prop
abbrev CXT:=G Env->Hp->Zp->XK->Zr->Zp->Prop
structure Env0 (P:Zb)(w:ZW)(K:ao)(mg:ck)(base:ZN)(A:ZK)(outer:G Env)(s:Zp)(H:Hp):Prop where
 frames:A.frames=W outer
 mod:Mod K mg base
 bs:∀b o,base.get? b=W o->s.heap.get? b=W o/\H b=Zy
 bsz:base.objs.size<=s.7
 funs:s.heap.FunFrames base outer
 frf:∀b∈frs outer,H b=Zy
 hok:HOk P w H s.heap
 bare:YC s.gens
def CE (outer:G Env)(P:Zb)(w:ZW)(H:Hp)(s:Zp)(Q:VK)(u:Zr)(s':Zp):Prop:=
 ∃v H',s'.os=s.os/\YC s'.gens/\Un (frs outer) [] H H' s.heap s'.heap/\HOk P w H' s'.heap/\RelV v u/\Q v H'
def CR (CX:CXT)(outer:G Env)(P:Zb)(w:ZW)(H:Hp)(s:Zp)(Q:VK)(E:XK)(r:zat)(s':Zp):Prop:=
 match r with
 |.ok (.ret u)=>CE outer P w H s Q u s'
 |.ok _=>False
 |.error e=>CX outer H s E e s'
structure FnOk (P:Zb)(w:ZW)(K:ao)(mg:ck)(base:ZN)(CX:CXT)(k:O)(f:Zs)(fd:Yt)(ps:G Str)(sp:Sp):Prop where
 len:∀vs H Q E,sp vs H Q E->vs.9=ps.9
 run:∀(A:ZK)(outer:G Env)(s:Zp)(H:Hp)(args:Args)(us:G Zr)(vs:G V)(Q:VK)(E:XK),Room k A->Env0 P w K mg base A outer s H->zbp s fd args (ps.zip us)->Vals vs us->sp vs H Q E->
  Yv (Ze P w) A (.call (.ref f) args) (CR CX outer P w H s Q E) s
def FnOk.mono {K:ao}{j k:O}(F:FnOk P w K mg base CX j f b ps sp)(h:j<=k):
  FnOk P w K mg base CX k f b ps sp:=#[F.len,λA outer s H a c d Q E e=>F.run A outer s H a c d Q E (e.mono h)]
def Env0.make {K:ao}(e:Env0 P w K mg base A outer s H)(C:Zs)(us:G Zr)(kw:G (Str×Zr)):
  Env0 P w K mg base (A.under (.builtin "type.__call__" #[.ref C::us,kw])) outer s H:=#[by first|exact e.frames|(simpa [zbh,Code.envs,zbo,pushEnvs] using e.frames),e.mod,e.bs,e.bsz,e.funs,e.frf,e.hok,e.bare]
section
variable {X:Cx}{XX:aN}{σ:St}{H:Hp}{s s':Zp}
def Inv.env0 (I:Inv X XX σ H s):Env0 X.prog X.w X.K X.mg X.base X.A X.stack s H:=
 #[I.ok.frames,I.ok.mod,I.bs,aP I.ok.bsz I.sz,I.stack,I.stkFree,I.hok,I.bare]
def Inv.after (I:Inv X XX σ H s)(h:CE X.stack X.prog X.w H s Q u s'):EP X XX σ Q u s':=by
 cases h,v,c,os,bare,un,hok,r,q;cases s',e,g,d,t,a;obtain rfl:a=s.os:=os;calc#[v,c,I.call (h':=e) (g':=g) (d':=d) (t':=t) (ch:=[]) un hok bare (λb z=>Zq z ⋯),r,q]
end
def sL (sp:Sp)(dvs:G V)(E:XK)(t:TA):TE:=λσ H Q=>t σ H λvs H1=>sp (vs++dvs) H1 Q E
def HC (C:Zs)(m:Str)(sp:Sp)(dvs:G V)(E:XK)(ta:TE)(t:TA):TE:=λσ H Q=>ta σ H λx H1=>kR x λa=>∃dx fs,H1 a=W (.ins C dx fs)/\fs.lookup m=Zy/\
 t σ H1 λvs H2=>sp (x::(vs++dvs)) H2 Q E
def HD (C:Zs)(sp:Sp)(dvs:G V)(E:XK)(t:TA):TE:=λσ H Q=>t σ H λvs H1=>∀x dx,H1 x=Zy->H1 dx=Zy->dx≠x->
 sp (.ref x::(vs++dvs)) (upd (upd H1 dx (.own x)) x (.ins C dx [])) (λv H2=>v=.non/\Q (.ref x) H2) E
def Binds (K:ao)(fd:Yt)(ps:G Str)(ds:G Zr):Prop:=
 ∀(s:Zp)(us:G Zr),K.In s.heap->(us++ds).9=ps.9->zbp s fd #[us,[]] (ps.zip (us++ds))
def Binds.all {K:ao}{ps:G Str}(h:∀a:G Zr,a.9=ps.9->bindArgs b #[a,[]]=pure (ps.zip a)):Binds K b ps []:=λs a _ c=>by
 rw[oD]at c ⊢;calc .of_eq (h a c)
def md (CX:CXT)(X:Cx)(E:XK):Prop:=∀(XX:aN)(σ:St)(H:Hp)(s:Zp)(e:Zr)(s':Zp),Inv X XX σ H s->CX X.stack H s E e s'->X.xe e s'
section
variable {X:Cx}{CX:CXT}{k:O}{f C:Zs}{fd:Yt}{ps:G Str}{sp:Sp}{dvs:G V}{ds:G Zr}{E:XK}{x m:Str}{p pos apos:Pos}{e o:ZU}{es:G ZU}{ta:TE}{t:TA}
theorem Cm (F:FnOk X.prog X.w X.K X.mg X.base CX k f fd ps sp)(i:Room k X.A)(j:Binds X.K fd ps ds)(hd:Vals dvs ds)(hx:md CX X E)(I:Inv X a c H s)(r:Vals vs us)(h:sp (vs++dvs) H Q E):Zf (Ze X.prog X.w) X.A (zb4 (.ref f) us) (EP X a c Q) X.xe s:=by
 let d:Vals (vs++dvs) (us++ds):=r.append hd;let l:(us++ds).9=ps.9:=by rw[<-d.9];exact F.len _ _ _ _ h
 refine wpAny_call (zay (F.run X.A X.stack s H #[us,[]] (us++ds) (vs++dvs) Q E i I.env0 (j s us I.kIn l) d h) λr m b=>?_)
 cases r with
 |error e=>calc hx a c H s e m I b
 |ok fl=>
  cases fl with
  |ret u=>calc I.after b
  |next=>calc ZM b
  |brk=>calc ZM b
  |cont=>calc ZM b
theorem aA (F:FnOk X.prog X.w X.K X.mg X.base CX k f fd ps sp)(i:Room k X.A)(j:Gl X x)(l:X.mg x=W (.ref f))(hk:Z6 X.K (.ref f)=K')(m:Binds X.K fd ps ds)(hd:Vals dvs ds)(hx:md CX X E)(n:PA X (e::es) t)(b:f' ((x == ("__debug__" : Str))=O') B')(o:f' (Za (e::es) X.env=(O',ZJ e X.env)::Za es X.env) F')(c:f' ((Yr pos (Za es X.env)).any (·.1)=O') F'):
  PE X (.Call (.Name x p) (e::es) [] pos) (sL sp dvs E t):=by
 intro a s u H Q I h;calc Ys (B8 I j l ?_ b);calc YO (h₀:=X.base) I.ok.mod.kin hk (thn (n pos a s u H _ I h) λy z ⟨C,M,d,r,q⟩=>#[d.kIn,?_]) o c;calc Cm F i m hd hx d r q
theorem ic (P:PE X o ta)(c:Cls X.K C)(j:Meth X.K C m f)(F:FnOk X.prog X.w X.K X.mg X.base CX k f fd ps sp)(R:Room k X.A)(hb:Binds X.K fd ps ds)(hd:Vals dvs ds)(hx:md CX X E)(ha:PA X (e::es) t)(d:f' (Za (e::es) X.env=(O',ZJ e X.env)::Za es X.env) F')(i:f' ((Yr pos (Za es X.env)).any (·.1)=O') F')(ht:f' (ZJ (.Call (.Attribute o m apos) (e::es) [] pos) X.env=(do
   let n <-ZJ o X.env
   zcl apos.atName
   let (f,first) <-zag [n] (zb8 n m pl)
   callWith pos f first (Yr pos (Za (e::es) X.env)) (YS pos (Yy [] X.env)))) F'):
  PE X (.Call (.Attribute o m apos) (e::es) [] pos) (HC C m sp dvs E ta t):=by
 intro b s y H Q I h;calc zbf (pl:=pl) (thn (P b s y H _ I h) λu s1 zz=>?_) ht;cases zz,x,H1,z,rx,q0;cases ib q0,a,ex,dx,fs,ea,l,q;subst ex;obtain rfl:u=ZG a:=rx;calc Hn z ea c j l ?_;calc YO (first:=[.ref a]) (h₀:=X.base) I.ok.mod.kin j.kp (thn (ha pos b s1 y H1 _ z q) λus s2 ⟨vs,H2,M,r,q2⟩=>#[M.kIn,?_]) d i;calc Cm (us:=.ref a::us) (vs:=.ref a::vs) F R hb hd hx M (.cons U r) q2
structure Mk (K:ao)(C f:Zs):Prop where
 makes:zcb K C=true
 init:ZT K (.ref C) "__init__" = W (W (.ref f))
 fn:za7 K (.ref f)=true
 kp:Z6 K (.ref C)=true
theorem Pr {Q:VK}(M:Mk X.K C f)(F:FnOk X.prog X.w X.K X.mg X.base CX k f fd ps sp)(l:Room (k+1) X.A)(m:Binds X.K fd ps ds)(hd:Vals dvs ds)(hx:md CX X E)(I:Inv X a d H s)(r:Vals vs us)(h:∀x dx,H x=Zy->H dx=Zy->dx≠x->sp (.ref x::(vs++dvs)) (upd (upd H dx (.own x)) x (.ins C dx [])) (λv n=>v=.non/\Q (.ref x) n) E):
  Zf (Ze X.prog X.w) X.A (zb4 (.ref C) us) (EP X a d Q) X.xe s:=by
 let i:=h (s.7+1) s.7 (I.hok.fresh (Er _)) (I.hok.fresh (aC _)) (eK (qE _));let c:=Inv.made (C:=C) I;let j:Vals (V.ref (s.7+1)::(vs++dvs)) (ZG (s.7+1)::(us++ds)):=.cons U (r.append hd);let o:(ZG (s.7+1)::us++ds).9=ps.9:=by
  let e:=j.9;rw[F.len _ _ _ _ i]at e;exact e.symm
 refine wpAny_call (Pg (f:=f) I.kIn M.makes M.init (beq_iff_eq.mp M.fn) (zay (F.run _ X.stack _ _ #[ZG (s.7+1)::us,[]] (ZG (s.7+1)::(us++ds)) _ _ E (l.make C us [])
  (c.env0.make C us []) (m _ (ZG (s.7+1)::us) c.kIn o) j i) λr q b=>?_))
 cases r with
 |error e=>calc hx a d _ _ e q c b
 |ok fl=>
  cases fl with
  |ret u=>
   cases c.after b,v,y,z,P,ev,R;subst ev;calc#[P,#[V.ref (s.7+1),y,z,U,R]]
  |next=>calc ZM b
  |brk=>calc ZM b
  |cont=>calc ZM b
def HE (M:Mk X.K C f)(F:FnOk X.prog X.w X.K X.mg X.base CX k f fd ps sp)(i:Room (k+1) X.A)(j:Gl X x)(l:X.mg x=W (.ref C))(m:Binds X.K fd ps ds)(hd:Vals dvs ds)(hx:md CX X E)(n:PA X (e::es) t)(b:f' ((x == ("__debug__" : Str))=O') B')(o:f' (Za (e::es) X.env=(O',ZJ e X.env)::Za es X.env) F')(c:f' ((Yr pos (Za es X.env)).any (·.1)=O') F'):
  PE X (.Call (.Name x p) (e::es) [] pos) (HD C sp dvs E t):=by
 intro a s u H Q I h;calc Ys (B8 I j l ?_ b);calc YO (h₀:=X.base) I.ok.mod.kin M.kp (thn (n pos a s u H _ I h) λy z ⟨P,R,d,r,q⟩=>#[d.kIn,?_]) o c;calc Pr M F i m hd hx d r q
end
def PK (X:Cx)(kws:G zaj)(t:TA):Prop:=
 ∀(pos:Pos)(XX:aN)(s:Zp)(σ:St)(H:Hp)(Q:G V->Hp->Prop),Inv X XX σ H s->t σ H Q->Zf (Ze X.prog X.w) X.A (evalAll ((YS pos (Yy kws X.env)).map (·.2))) (AP X XX σ Q) X.xe s
section
variable {X:Cx}{CX:CXT}{k:O}{f C:Zs}{fd:Yt}{ps ks:G Str}{sp:Sp}{E:XK}{x m:Str}{p pos apos kpos:Pos}{e o:ZU}{es:G ZU}{kws:G zaj}{te ta:TE}{t tk:TA}{nm:Zk Str}
def Ps:PK X [] Cj:=λ_ _ _ _ H Q I h=>wpAny_evalAll_nil #[[],H,I,.nil,h]
theorem Pt (c:PE X e te)(d:PK X kws t):PK X (#[nm,e,kpos]::kws) (Ck te t):=by
 intro pos a s b H Q I h;show Zf _ _ (evalAll ((do let v <-ZJ e X.env;zcl pos;pure v)::(YS pos (Yy kws X.env)).map (·.2))) _ _ s;calc wpAny_evalAll_cons (Zm (thn (c a s b H _ I h) λu f ⟨x,i,j,k,l⟩=>Zm (Yk (Zd ?_))));calc thn (d pos a f b i _ j l) λy z ⟨m,n,o,q,r⟩=>#[x::m,n,o,.cons k q,r]
variable {g:G Zr->G Zr->G Zr}{gV:G V->G V->G V}
end
structure FnScope (N P:G Str)(sc:Z4):Prop where
 kind:sc.kind=.function
 co:sc.isCoroutine=false
 gen:sc.isGenerator=false
 nd:N.Nodup
 pre:N.take P.9=P
 par:∀x∈P,sc.names.lookup x=W .local\/sc.names.lookup x=W .cell
 nofree:∀y∈sc.names,y.2≠.free
theorem HF {x:Str}:∀{binds:G (Str×Zr)}{m:ck},(∀v,(x,v)∉binds)->zb9 a binds m x=m x
 |[],_,_=>rfl
 |(n,v)::r,m,h=>by
  unfold zb9;rw[HF λw b=>h w (eQ _ b)]
  split
  .let:x≠n:=by rintro rfl;exact h v e9
   simp[this]
  .rfl
theorem HG {x:Str}:∀{binds:G (Str×Zr)}{m:ck},(∀v,(x,v)∉binds)->zca a binds m x=m x
 |[],_,_=>rfl
 |(n,v)::r,m,h=>by
  unfold zca;rw[HG λw b=>h w (eQ _ b)]
  split
  .rfl
  .let:x≠n:=by rintro rfl;exact h v e9
   simp[this]
theorem HH {a:Str->Zk zbv}:∀{P:G Str}{b:G Zr}{i:O}{m:ck},P.Nodup->P[i]?=W x->b[i]?=W v->a x=W .local->
  zb9 a (P.zip b) m x=W v
 |[],_,_,_,_,h,_,_=>by simp at h
 |_::_,[],_,_,_,_,h,_=>by simp at h
 |p::P,w::b,0,m,nd,h1,h2,hk=>by
  simp at h1 h2;subst h1;subst h2;show zb9 a ((p,w)::P.zip b) m p=_;unfold zb9;rw[HF λv c=>(mR.mp nd).1 (Nb c).1,Zt hk];simp
 |p::P,w::b,i+1,m,nd,h1,h2,hk=>by
  show zb9 a ((p,w)::P.zip b) m x=_;unfold zb9;calc HH (i:=i) (mR.mp nd).2 (⇑h1) (⇑h2) hk
theorem HI {a:Str->Zk zbv}:∀{P:G Str}{b:G Zr}{i:O}{m:ck},P.Nodup->P[i]?=W x->b[i]?=W v->a x≠W .local->
  zca a (P.zip b) m x=W v
 |[],_,_,_,_,h,_,_=>by simp at h
 |_::_,[],_,_,_,_,h,_=>by simp at h
 |p::P,w::b,0,m,nd,h1,h2,hk=>by
  simp at h1 h2;subst h1;subst h2;show zca a ((p,w)::P.zip b) m p=_;unfold zca;rw[HG λv c=>(mR.mp nd).1 (Nb c).1,N hk];simp
 |p::P,w::b,i+1,m,nd,h1,h2,hk=>by
  show zca a ((p,w)::P.zip b) m x=_;unfold zca;calc HI (i:=i) (mR.mp nd).2 (⇑h1) (⇑h2) hk
def start (N:G Str)(vs:G V):St:=vs.map W++bj (N.9-vs.9) Zy
noncomputable def me (CX:CXT) (P:Zb) (w:ZW) (K:ao) (mg:ck) (base:ZN) (N:G Str) (qual:Str) (scope:Z4) (f:Zs) (cd:Zr) (A:ZK) (outer:G Env) (s:Zp) (H:Hp) (E:XK):Cx where
 prog:=P
 w:=w
 K:=K
 mg:=mg
 base:=base
 A:=A.deeper (zar qual scope s.7 f cd)
 N:=N
 s₀:=s
 H₀:=H
 env:=zar qual scope s.7 f cd
 outer:=outer
 stack:=zar qual scope s.7 f cd::outer
 ex:=[]
 calm:=K'
 fn:=λ_=>K'
 pn:=[]
 xe:=λe s'=>Zf (Ze P w) (A.deeper (zar qual scope s.7 f cd)) (leaving (zar qual scope s.7 f cd) e) (λ_ s''=>CX outer H s E e s'') (λe' s''=>CX outer H s E e' s'') s'
def HJ {sc:Z4}{n:O}{x:Str}(h:sc.names.lookup x=W .cell):∃c,(zah n sc.names []).lookup x=W c:=by
 let q:=za8 sc.names n [] (.inl h);calc Vr.mp q
def Px {K:ao}{N ps:G Str}{A:ZK}{vs:G V}(S:FnScope N ps d)(hd:A.handled=Zy)(m:Env0 P w K mg base A outer s H)(hl:vs.9=ps.9)(r:Vals vs us)(x:InCallC s s.7 (zb9 (zar j d s.7 f I).kindOf (ps.zip us) λ_=>Zy) (zah (s.7+1) d.names []) (zca (zar j d s.7 f I).kindOf (ps.zip us) λ_=>Zy) Q):
  Inv (me CX P w K mg base N j d f I A outer s H E) [] (start N vs) H Q:=by
 let X:ps.9<=N.9:=by let:=ZL ka S.pre;rw[cB]at this;lk
 cases x.done,M,tk,rfl,hk;let o:∀b:Zs,b∉(me CX P w K mg base N j d f I A outer s H E).ex:=λb z=>Zq (show b∈([]:ap) from z) ⋯;refine⟨#[m.mod,S.kind,U,U,aC _,λy z c M l=>?_,λy hy=>?_,λy c _ h=>?_,λ_=>hd,Around.frames_deeper m.frames,.inr #[U,U],λb z=>Zq z (o b),m.bs,m.bsz,λb _ _=>o b,λb z=>Zq z (o b),m.funs,m.frf],
  rfl,m.bare,Un.kept hk,#[_,x.toInCall.ns,λi y v M l h3=>?_],λy c h=>#[_,x.cell y c h],m.hok.fresh (aC _),λy c h=>?_,λp C=>Zq (show p∈([]:aN) from C) ⋯,m.hok.kept hk,?_⟩
 .exact name_of_addr x.apart (Z8 M) (Z8 l)
 .let hy:d.names.lookup y=W .cell\/d.names.lookup y=W .free:=hy;rcases hy with hy|hy
  .exact HJ hy
  .exact Zq U (S.nofree _ (Z8 hy))
 .exact dj (x.above y c (Z8 h))
 .let hi:i<vs.9:=by
   unfold start at l;by_cases hi:i<vs.9
   .exact hi
   .rw[dQ (⇑hi)]at l;rw[ke]at l
    split at l <;> cases l
  let ha:vs[i]?=W v:=by
   unfold start at l;rw[dH (⇑hi),a7]at l
   cases e:vs[i]? with
   |none=>rw[e]at l;cases l
   |some a=>rw[e]at l;cases l;rfl
  cases r.get ha,u,R,rv;let C:ps[i]?=W y:=by
   rw[<-S.pre,qF ()];exact M
  let F:ps.Nodup:=by rw[<-S.pre];exact S.nd.sublist (yd _ _)
  calc#[u,rv,?_];rcases S.par y (cH C) with k|k
  .exact .inl #[k,HH F C R k]
  .cases HJ (n:=s.7+1) k,c,e;calc .inr #[.inl k,c,e,?_];let q:=x.cell y c e;rw[HI F C R (by show d.names.lookup y≠_;rw[k];decide)]at q;exact q
 .exact m.hok.fresh (dj (x.above y c (Z8 h)))
 .unfold start;show _=N.9;rw[cC,af,mS];lk
def Py {K:ao}{k:O}{f:Zs}{dV kV M pm d ct oc:Zr}{an od:Zk Zs}{y0:YK (Zk Zr)}{N ps:G Str}{sp:Sp}(lk:K.lookup f=W #[oc,od,.func (Yc m c h i a dV kV M pm an d ct),y0])(z0:Y3 K d c=K')(S:FnScope N ps a)(len:∀j H Q E,sp j H Q E->j.9=ps.9)(C:∀(A:ZK)(outer:G Env)(s:Zp)(H:Hp)(j:G V)(Q:VK)(E:XK),Room k (A.deeper (zar c a s.7 f d))->sp j H Q E->
   ∃t,PSs (me CX P w K mg base N c a f d A outer s H E) i t/\t {nx:=λ_ z=>Q .non z,rt:=Q} (start N j) H):
  FnOk P w K mg base CX (k+1) f (Yc m c h i a dV kV M pm an d ct) ps sp:=by
 calc#[len,λA outer s H j0 us j Q E hr R hb r X=>?_];let hl:=len _ _ _ _ X;let KX:K.In s.heap:=R.mod.kin.keeps λb o e=>(R.bs b o e).1;let u0:s.heap.NoLimit:=R.mod.nolimit.keeps λb o e=>(R.bs b o e).1;let F:∀y∈ps.zip us,a.names.lookup y.1=W .local\/(a.names.lookup y.1=W .cell/\((zah (s.7+1) a.names []).lookup y.1).isSome=K'):=λ⟨n,v⟩ hy=>by
  rcases S.par n (Nb hy).1 with q|q
  .exact .inl q
  .exact .inr #[q,za8 _ _ _ (.inl q)]
 calc codeAny_call_function hr.depth (KX _ _ lk) U S.co S.gen U (PySem.W.codeRec_of KX z0) (hb _ _ _ _ ?_);calc wpAny_newFunctionEnv_cells S.kind F λenv he s1 x=>?_;subst he;calc#[u0.keeps x.toInCall.keep,codeAny_func ?_];cases C A outer s H j Q E (hr.deeper _) X,t,ht,hq;let I:Inv (me CX P w K mg base N c a f d A outer s H E) [] (start N j) H s1:=Px S hr.hd R hl r x;calc ZO (ht [] s1 (start N j) H _ I hq) (λfl s' hs=>?_) λe s' hs=>hs;let x0:∀{l:St}{z:Hp}{v:V}{u:Zr},Inv (me CX P w K mg base N c a f d A outer s H E) [] l z s'->RelV v u->Q v z->CE outer P w H s Q u s':=
  λ{l z v u} J rv q=>#[v,z,J.os,J.bare,J.base,J.hok,rv,q]
 cases fl with
 |ret u=>
  cases hs,v,l,z,J,rv,q;calc x0 J rv q
 |next=>
  cases hs,l,z,J,q;calc x0 (v:=V.non) (u:=za0) J U q
 |brk=>
  cases hs,_,_,_,q;calc ZM q
 |cont=>
  cases hs,_,_,_,q;calc ZM q
section
variable {X:Cx}{x:Str}{p pos:Pos}{e:ZU}{es:G ZU}{t:TA}{id T:YL}{r:G V->Hp->VK->Prop}
def tCB (r:G V->Hp->VK->Prop)(t:TA):TE:=λσ H Q=>t σ H λvs H1=>r vs H1 Q
def aQ (f:ir X (.builtin id) r)(i:Gl X x)(j:X.mg x=Zy)(k:ZF x=W (.builtin id))(l:PA X (e::es) t)(m:f' (x ≠ "__name__") B')(b:f' ((x == ("__debug__" : Str))=O') B')(n:f' (Za (e::es) X.env=(O',ZJ e X.env)::Za es X.env) F')(c:f' ((Yr pos (Za es X.env)).any (·.1)=O') F'):PE X (.Call (.Name x p) (e::es) [] pos) (tCB r t):=by
 intro a s d H Q I h;calc Ys (jg I i j k ?_ m b);calc PyProof.Rows.callWith_builtin1 (thn (l pos a s d H _ I h) λo q ⟨u,y,z,C,E⟩=>f a q d y u o Q z C E) n c
def iu (f:ir X (.type T) r)(i:Gl X x)(j:X.mg x=Zy)(k:ZF x=W (.type T))(l:PA X (e::es) t)(m:f' (x ≠ "__name__") B')(b:f' ((x == ("__debug__" : Str))=O') B')(n:f' (Za (e::es) X.env=(O',ZJ e X.env)::Za es X.env) F')(c:f' ((Yr pos (Za es X.env)).any (·.1)=O') F'):PE X (.Call (.Name x p) (e::es) [] pos) (tCB r t):=by
 intro a s d H Q I h;calc Ys (jg I i j k ?_ m b);calc ZS (thn (l pos a s d H _ I h) λo q ⟨u,y,z,C,E⟩=>f a q d y u o Q z C E) n c
end
end L2
open L2 renaming FnScope->T
namespace HT
open PySem PyProof.Rows
section
variable {prog:Zb}{w:ZW}{A:ZK}{E:bD}{s:Zp}
def sIx (n d:O):Zk Y->O
 |none=>d
 |some v=>if v<0 then (v+(n:Y)).toNat else min v.toNat n
theorem sIx_none (n d:O):sIx n d Zy=d:=rfl
def sIx_nat (n d k:O):sIx n d (W (k:Y))=min k n:=by
 show (if (k:Y)<0 then ((k:Y)+(n:Y)).toNat else min (k:Y).toNat n)=min k n;rw[N (),gB]
end
end HT
namespace L2
open PySem PySem.Spec PyProof.Rows
abbrev TO:=St->Hp->(Zk Y->Hp->Prop)->Prop
def PO (X:Cx)(e:Zk ZU)(t:TO):Prop:=
 ∀(XX:aN)(s:Zp)(σ:St)(H:Hp)(Q:Zk Y->Hp->Prop),Inv X XX σ H s->t σ H Q->
  Zf (Ze X.prog X.w) X.A (evalPart e X.env) (λu s'=>∃o H',Inv X XX σ H' s'/\IsPart u o/\Q o H') X.xe s
def HK:TO:=λ_ H Q=>Q Zy H
def HL (t:TE):TO:=λσ H Q=>t σ H λx H1=>∃i,x=.int i/\Q (W i) H1
section
variable {X:Cx}{e:ZU}{te:TE}{lo hi:Zk ZU}{tl th:TO}{pos p2:Pos}
def sM:PO X Zy HK:=by
 intro a s b H Q I h;rw[evalPart_none];calc Zd #[Zy,H,I,.none,h]
def sO (h:PE X e te):PO X (W e) (HL te):=by
 intro a s b H Q I c;rw[evalPart_some];calc thn (h a s b H _ I c) λu m d=>?_;cases d,x,f,j,k,l;cases l,i,rfl,q;cases k,t,rfl;calc#[W i,f,j,.int i t,q]
def SlR (X:Cx)(r:V->Zk Y->Zk Y->Hp->VK->Prop):Prop:=
 ∀(XX:aN)(s:Zp)(σ:St)(H:Hp)(x:V)(v vl vu:Zr)(lo hi:Zk Y)(sl:Zs)(Q:VK),Inv X XX σ H s->RelV x v->s.heap.IsSliceOf sl vl vu .none->IsPart vl lo->IsPart vu hi->r x lo hi H Q->
  ∃T id,typeLookup (.type T) "__getitem__" = pure (W (.builtin id))/\s.TypeIs v T/\Zf (Ze X.prog X.w) X.A (zd2 v (.ref sl)) (EP X XX σ Q) X.xe s
def tSl (r:V->Zk Y->Zk Y->Hp->VK->Prop)(te:TE)(tl th:TO):TE:=λσ H Q=>te σ H λx H1=>tl σ H1 λl H2=>th σ H2 λu H3=>r x l u H3 Q
def sR (k:SlR X r)(m:PE X e te)(n:PO X lo tl)(o:PO X hi th):PE X (.Subscript e (.Slice lo hi Zy p2) pos) (tSl r te tl th):=by
 intro a s d H Q I h;calc Subscript_ (thn (m a s d H _ I h) λv y i=>?_);cases i,x,z,C,E,F;calc wpAny_Slice (thn (n a y d z _ C F) λvl M ⟨l,P,R,pl,q2⟩=>thn (o a M d P _ R q2) λf c i=>?_);cases i,u,j,I3,pu,q3;rw[evalPart_none];calc Zd ?_;let I4:Inv X a d j {c with heap:=c.heap.push {cls:=.type "slice",data:=.fields (Zi [vl,f,.none])}}:=I3.kept (t':=c.toks) λb ob q=>Zl _ q;exists k a {c with heap:=c.heap.push {cls:=.type "slice",data:=.fields (Zi [vl,f,.none])}} d j x v vl f l u c.7 Q I4 E (Heap.IsSliceOf.new ..) pl pu q3,T,id,hT,ht,hg;show Zf (Ze X.prog X.w) X.A (subscriptTail e (.Slice lo hi Zy p2) v (.ref c.7)) (EP X a d Q) X.xe {c with heap:=c.heap.push {cls:=.type "slice",data:=.fields (Zi [vl,f,.none])}};calc tail_any (ops:=[.ref c.7,v]) ht hT hg (by with_unfolding_all rfl)
noncomputable def gj (xs:G V) (lo hi:Zk Y):G V:=(xs.drop (HT.sIx xs.9 0 lo)).take (HT.sIx xs.9 xs.9 hi-HT.sIx xs.9 0 lo)
def PD (xs:G V)(lo hi:Zk Y):(gj xs lo hi).9<=xs.9:=by
 unfold gj;rw[cB,qG];lk
end
noncomputable def ixN (n:O) (i:Y):Zk Nat:=if 0<=i then (if i<n then W i.toNat else Zy) else if -(n:Y)<=i then W (i+n).toNat else Zy
def atI {α:Type}(xs:G α)(i:Y):Zk α:=(ixN xs.9 i).bind λj=>xs[j]?
def HM {n:O}{j:O}(h:ixN n i=W j):seqIndex? i n=W j/\j<n/\-(n:Y)<=i/\i<n:=by
 unfold ixN at h;by_cases h0:0<=i
 .rw[Zt h0]at h;by_cases h1:i<n
  .rw[Zt h1]at h;let e:i.toNat=j:=ZY h;exact#[by rw[zbb h0 h1,e],(),(),h1]
  .rw[N h1]at h;cases h
 .rw[N h0]at h;by_cases h1:-(n:Y)<=i
  .rw[Zt h1]at h;let e:(i+n).toNat=j:=ZY h;exact#[by rw[zav () h1,e],(),h1,()]
  .rw[N h1]at h;cases h
def Cn {α:Type}{xs:G α}{i:Y}{v:α}(h:atI xs i=W v):∃j,seqIndex? i xs.9=W j/\xs[j]?=W v/\j<xs.9/\-(xs.9:Y)<=i/\i<xs.9:=by
 unfold atI at h
 cases e:ixN xs.9 i with
 |none=>rw[e]at h;cases h
 |some j=>
  rw[e]at h;cases HM e,a,b,c,d;calc#[j,a,h,b,c,d]
def jK {α:Type}{xs:G α}{j:O}{v:α}(h:xs[j]?=W v):atI xs (j:Y)=W v:=by
 let a:j<xs.9:=(a_.mp h).1;let e:ixN xs.9 (j:Y)=W j:=by
  unfold ixN;rw[Zt (),Zt ()];simp
 unfold atI;rw[e];calc h
def HN {α:Type}(xs:G α)(v:α):atI (xs++[v]) (-1)=W v:=by
 let a:(xs++[v]).9=xs.9+1:=by simp
 let e:ixN (xs++[v]).9 (-1)=W xs.9:=by
  unfold ixN;rw[a,N (),Zt ()];congr 1;lk
 unfold atI;rw[e];show (xs++[v])[xs.9]?=W v;simp
def PH (b:ZU):Prop:=∀o i,subscripted b O' o i=operate [o,i] (zd2 o i)
def IxR (X:Cx)(r:R2):Prop:=
 ∀(value slice:ZU)(XX:aN)(s:Zp)(σ:St)(H:Hp)(x y:V)(v u:Zr)(Q:VK),Inv X XX σ H s->RelV x v->RelV y u->r x y H Q->
  subscripted slice O' v u=operate [v,u] (zd2 v u)->Zf (Ze X.prog X.w) X.A (subscriptTail value slice v u) (EP X XX σ Q) X.xe s
def MtR (X:Cx)(id:YL)(r:V->G V->Hp->VK->Prop):Prop:=
 ∀(XX:aN)(s:Zp)(σ:St)(H:Hp)(x:V)(xs:G V)(v:Zr)(us:G Zr)(Q:VK),Inv X XX σ H s->RelV x v->Vals xs us->r x xs H Q->
  Zf (Ze X.prog X.w) X.A (zb4 (.builtin id) (v::us)) (EP X XX σ Q) X.xe s
section
variable {X:Cx}{a b:ZU}{ta tb:TE}{pos:Pos}
def aI (d:IxR X r)(e:PE X a ta)(f:PE X b tb)(hs:PH b):PE X (.Subscript a b pos) (tOp r ta tb):=by
 intro c s i H Q I h;calc Subscript_ (Ce e f I h λv u j x y k l m n q=>d a b c j i k x y v u Q l m n q (hs _ _))
def sU (K:ao):R2:=λx y H Q=>kR x λp=>kI y λi=>∃xs v,SqL K H p xs/\atI xs i=W v/\Q v H
def Co (K:ao):R2:=λx y H Q=>kR x λp=>kI y λi=>∃xs v,SqT K H p xs/\atI xs i=W v/\Q v H
theorem aM:IxR X (sU X.K):=by
 intro d e a s n H x y v u Q I C E h hs;cases ib h,p,rfl,f;obtain⟨i,rfl,xs,z,F,M,q⟩:=gg f
 cases C
 cases E,t,rfl;cases I.list F,k,r,pl,hz;cases Cn M,j,c,f,h3,P,R;cases r.get f,w,o,l;let hl:=r.9;let hn:=o7;let b:EP X a n Q w s:=#[z,H,I,l,q]
 by_cases h0:0<=i
 .let m:i.toNat=j:=by
   rw[zbb h0 R]at c;exact ZY c
  exact item_listR pl.isList h0 () (by rw[m];simpa using o) b hs
 .let m:(i+(k.toArray.size:Y)).toNat=j:=by
   rw[zav () P]at c;rw[fh,<-hl];exact ZY c
  exact zck (x:=w) pl.isList.typeIs slot_list_getitem.lookup
   (zcj (Q:=λr s'=>r=w/\EP X a n Q r s') pl.isList () (by rw[fh] <;> lk) () (by rw[m];simpa using o) #[U,b]) hs
theorem gk:IxR X (Co X.K):=by
 intro b c a s k H x y v u Q I l m h hs;cases ib h,p,rfl,d;obtain⟨i,rfl,R,z,n,o,q⟩:=gg d
 cases l
 cases m,t,rfl;cases I.tuple n,C,r,pl,hz;cases Cn o,j,E,d,h3,h4,h5;cases r.get d,w,F,e;let M:=r.9;let hn:=o7;let f:EP X a k Q w s:=#[z,H,I,e,q]
 exact zck (x:=w) pl.typeIs slot_tuple_getitem.lookup
  (getItem_tuple (j:=j) (Q:=λr P=>r=w/\EP X a k Q r P) pl () () #v[fh,<-M,E] (⇑F) #[U,f]) hs
def PJ (its:G Zr)(n j:O)(u:Zr):zad (·.setIfInBounds j u) {cls:=.type "list",data:=.seq its.toArray n}={cls:=.type "list",data:=.seq (its.set j u).toArray n}:=by
 simp[zad]
def Inv.lst {b:aN}{p:Zs}{xs:G V}(I:Inv X b c H s)(h:H p=W (.lst xs)):
  ∃(a:G Zr)(n:O),Vals xs a/\s.heap.get? p=W {cls:=.type "list",data:=.seq a.toArray n}/\xs.9<=Zg:=by
 cases I.hok p _ h,z,a,n,r,e;calc#[a,n,r,e,z]
def Inv.lstUpd {a:aN}{p:Zs}{xs ys:G V}{its its':G Zr}{n c:O}{f:Obj->Obj}(I:Inv X a d H s)(h:H p=W (.lst xs))(j:s.heap.get? p=W {cls:=.type "list",data:=.seq its.toArray n})(i:f {cls:=.type "list",data:=.seq its.toArray n}={cls:=.type "list",data:=.seq its'.toArray c})(r:Vals ys its')(k:ys.9<=Zg)(t:O):
  Inv X a d (upd H p (.lst ys)) {s with heap:=s.heap.update p f,toks:=t}:=by
 let e:(s.heap.update p f).get? p=W {cls:=.type "list",data:=.seq its'.toArray c}:=by
  rw[Y4 f j (by rw[i] <;> rfl),i]
 refine I.write (x:=p) (e:=p) (by rw[h];trivial) (.inl U) (λb u l q=>(ZD _ _ (ZQ l)).trans q) #[_,e] ?_;calc#[k,its',c,r,e]
def HP:V->V->V->Hp->(Hp->Prop)->Prop:=λo i v H Q=>kR o λp=>kI i λk=>∃xs j,H p=W (.lst xs)/\ixN xs.9 k=W j/\Q (upd H p (.lst (xs.set j v)))
theorem iw:B9 X HP:=by
 intro a s z H o i v ov iv u Q I C E F h;cases ib h,p,rfl,f;obtain⟨k,rfl,M,j,l,P,q⟩:=gg f
 cases C
 cases E,t,rfl;cases I.lst l,b,n,r,d,R;cases HM P,c,f,m,x;let e:=r.9;let hn:=o7;let y:Inv X a z (upd H p (.lst (M.set j v))) {s with heap:=s.heap.update p (zad (·.setIfInBounds j u))}:=
  I.lstUpd l d (PJ b n j u) (r.set F j) #v[jt,R] s.toks
 by_cases h0:0<=k
 .let hk:k.toNat=j:=by
   rw[zbb h0 x]at c;exact ZY c
  exact PySem.W.ki_setAt d h0 () #v[fh,<-e,x] (by rw[hk];calc#[_,y,q])
 .let hk:(k+(b.toArray.size:Y)).toNat=j:=by
   rw[zav () m]at c;rw[fh,<-e];exact ZY c
  calc PySem.W.ki_setBack d () #v[fh,<-e,m] () (by rw[hk];calc#[_,y,q])
def PL (lo hi:Zk Y)(n:O):(YN lo hi Zy n).1=((HT.sIx n 0 lo:O):Y)/\(YN lo hi Zy n).2.1=((HT.sIx n n hi:O):Y)/\(YN lo hi Zy n).2.2=1:=by
 refine#[?_,?_,U]
 .cases lo with
  |none=>simp[YN,HT.sIx]
  |some i=>
   simp only[YN,HT.sIx,zcd,show (1:Y) > 0 by decide,zaf];by_cases h:i<0
   .simp only[h,zaf] <;> lk
   .simp only[h,zaw] <;> lk
 .cases hi with
  |none=>simp[YN,HT.sIx]
  |some i=>
   simp only[YN,HT.sIx,zcd,show (1:Y) > 0 by decide,zaf];by_cases h:i<0
   .simp only[h,zaf] <;> lk
   .simp only[h,zaw] <;> lk
theorem PM (its:G Zr)(lo hi:Zk Y):slicePick its.toArray lo hi Zy=((its.drop (HT.sIx its.9 0 lo)).take (HT.sIx its.9 its.9 hi-HT.sIx its.9 0 lo)).toArray:=by
 cases PL lo hi its.toArray.size,a,b,c;unfold slicePick;rw[a,b,c];simp only[sliceRange_one,pick_run,fh] <;> rfl
def HQ (K:ao):V->Zk Y->Zk Y->Hp->VK->Prop:=λx lo hi H Q=>kR x λa=>∃xs,SqL K H a xs/\∀p,H p=Zy->Q (.ref p) (upd H p (.lst (gj xs lo hi)))
theorem sV:SlR X (HQ X.K):=by
 intro e s m H x v vl n lo hi u Q I i hs pl j h;obtain⟨a,rfl,c,hx,q⟩:=ib h
 cases i
 cases I.list hx,k,r,f,l;let d:=r.9;calc#["list",_,slot_list_getitem.lookup,f.isList.typeIs,?_];refine wpAny_getItem_list_slice f.isList hs pl j .none ⋯ ?_ (by rw[fh] <;> lk);rw[PM,<-d];calc#[.ref s.7,_,I.laid (t':=s.toks) (o:=.lst (gj c lo hi)) (λb y q=>Zl _ q) (aC _) ?_,U,q _ (I.hok.fresh (aC _))];calc#[aP (PD c lo hi) l,_,0,(r.drop (HT.sIx c.9 0 lo)).take (HT.sIx c.9 c.9 hi-HT.sIx c.9 0 lo),ZV _ U]
def iI:V->Yl
 |.non=>K'
 |.bl _=>K'
 |.int _=>K'
 |.str _=>K'
 |_=>O'
noncomputable def eqV:V->V->Yl
 |.non,.non=>K'
 |.bl a,.bl b=>a == b
 |.bl a,.int b=>(if a then 1 else 0) == b
 |.int a,.bl b=>a == (if b then 1 else 0)
 |.int a,.int b=>a == b
 |.str a,.str b=>a == b
 |_,_=>O'
theorem PN (e:RelV y u)(c:RelV x v)(h:iI y=K')(f:iI x=K'):zek A s u v (eqV y x):=by
 cases y with
 |non=>
  cases e
  cases x with
  |non=>cases c;calc SeqAt.EqAt.same _
  |bl b=>cases c;calc SeqAt.EqAt.none_bool b
  |int b=>cases c,t,rfl;calc SeqAt.EqAt.none_int b t
  |str b=>cases c,t,rfl;calc SeqAt.EqAt.none_str b t
  |_=>calc Zq (show O'=K' from f) Zh
 |bl a=>
  cases e
  cases x with
  |non=>cases c;calc SeqAt.EqAt.bool_none a
  |bl b=>cases c;calc SeqAt.EqAt.bool_bool a b
  |int b=>cases c,t,rfl;calc SeqAt.EqAt.bool_int a b t
  |str b=>cases c,t,rfl;calc SeqAt.EqAt.bool_str a b t
  |_=>calc Zq (show O'=K' from f) Zh
 |int a=>
  obtain⟨d,rfl⟩:=e
  cases x with
  |non=>cases c;calc SeqAt.EqAt.int_none a d
  |bl b=>cases c;calc SeqAt.EqAt.int_bool a d b
  |int b=>cases c,t,rfl;calc SeqAt.EqAt.int_int a d b t
  |str b=>cases c,t,rfl;calc zbe a d b t
  |_=>calc Zq (show O'=K' from f) Zh
 |str a=>
  obtain⟨d,rfl⟩:=e
  cases x with
  |non=>cases c;calc SeqAt.EqAt.str_none a d
  |bl b=>cases c;calc SeqAt.EqAt.str_bool a d b
  |int b=>cases c,t,rfl;calc zbd a d b t
  |str b=>cases c,t,rfl;calc SeqAt.EqAt.str_str a d b t
  |_=>calc Zq (show O'=K' from f) Zh
 |_=>calc Zq (show O'=K' from h) Zh
def eqU (x:V)(u:Zr):Bool:=match u with
 |.none=>eqV .non x
 |.bool b=>eqV (.bl b) x
 |.int i _=>eqV (.int i) x
 |.str z _=>eqV (.str z) x
 |_=>O'
theorem HR (r:RelV y u)(f:iI y=K'):eqU x u=eqV y x:=by
 cases y with
 |non=>cases r;rfl
 |bl b=>cases r;rfl
 |int i=>cases r,t,rfl;rfl
 |str z=>cases r,t,rfl;rfl
 |_=>calc Zq (show O'=K' from f) Zh
theorem Cp:∀{a:G V}{b:G Zr},Vals a b->a.all iI=K'->b.any (eqU x)=a.any λy=>eqV y x
 |_,_,.nil,_=>rfl
 |y::a,u::b,.cons r t,f=>by
  rw[zdy,YE]at f;rw[ye,ye,HR r f.1,Cp t f.2]
theorem Cq (d:RelV x v)(e:iI x=K'):∀{b:G V}{c:G Zr},Vals b c->b.all iI=K'->∀u∈c,zek A s u v (eqU x u)
 |_,_,.nil,_=>λu a=>by cases a
 |y::b,u::c,.cons r t,f=>λh a=>by
  rw[zdy,YE]at f;rcases bV.mp a with rfl|a
  .rw[HR r f.1];exact PN r d f.1 e
  .calc Cq d e t f.2 h a
def inV (x:V)(xs:G V):Bool:=xs.any λy=>eqV y x
def rIn (K:ao)(neg:Yl):R2:=λx y H Q=>∃p xs,y=.ref p/\(SqL K H p xs\/SqT K H p xs)/\iI x=K'/\xs.all iI=K'/\Q (.bl (if neg then !inV x xs else inV x xs)) H
theorem PP:OpR X (Z7 .In) (rIn X.K O'):=by
 intro d s k H x y v u Q I e i h;obtain⟨p,l,rfl,b,f,fs,q⟩:=h
 cases i
 rcases b with b|b
 .cases I.list b,a,r,pl,j;calc SeqAt.in_listAt (eqU x) pl.isList (λw c=>Cq e f r fs w (⇑c)) #[.bl _,H,I,U,?_];rw[show a.toArray.any (eqU x)=a.any (eqU x) by simp,Cp r fs];exact q
 .cases I.tuple b,a,r,pl,j;calc SeqAt.in_tupleAt (eqU x) pl (λw c=>Cq e f r fs w (⇑c)) #[.bl _,H,I,U,?_];rw[show a.toArray.any (eqU x)=a.any (eqU x) by simp,Cp r fs];calc q
theorem cj:ir X (.builtin "len") (λf H Q=>k1 f λx=>kR x λp=>∃b,(SqL X.K H p b\/SqT X.K H p b)/\Q (.int b.9) H):=by
 intro i s m H f n Q I r h;cases rW h,x,rfl,j;cases ib j,p,rfl,b,c,q;obtain⟨u,rfl,k⟩:=ky r
 cases k
 let o:=o7;rcases c with c|c
 .cases I.list c,d,e,pl,l;let a:=e.9;exact Calls.call_len_list pl.isList (by simp only[fh] <;> lk) #[.int b.9,H,I.tok _,#[s.toks+1,by rw[fh,a]],q]
 .cases I.tuple c,d,e,pl,l;let a:=e.9;calc len_tuple pl (by simp only[fh] <;> lk) #[.int b.9,H,I.tok _,#[s.toks+1,by rw[fh,a]],q]
theorem jk:ir X (.type "list") (λE H Q=>∃p d,E=[.ref p]/\(SqL X.K H p d\/SqT X.K H p d)/\∀l,H l=Zy->Q (.ref l) (upd H l (.lst d))):=by
 intro j s M H E R Q I r h;cases h,p,d,rfl,k,q;obtain⟨u,rfl,P⟩:=ky r
 cases P
 have m:∀(a:G Zr),Vals d a->d.9<=Zg->∀(c:ZN)(f:O),(∀b F,s.heap.get? b=W F->c.get? b=W F)->
   c.get? s.7=W {cls:=.type "list",dict:=Zy,data:=.seq a.toArray f,slots:=(Zi [])}->EP X j M Q (.ref s.7) {s with heap:=c}:=λa i x c f kp e=>
  #[.ref s.7,_,I.laid (t':=s.toks) kp (aC _) (show ObjOk X.prog X.w _ c _ (.lst d) from #[x,a,f,i,e]),rfl,q _ (I.hok.fresh (aC _))]
 rcases k with k|k
 .cases I.list k,a,i,pl,x;let y:=i.9;cases pl.isList,o,z,C,n,hd;exact call_list_seq p (.inl U) z C hd (λc f kp e=>m a i x c f kp e) (by simp only[fh] <;> lk)
 .cases I.tuple k,a,i,pl,x;let y:=i.9;cases pl,o,z,C,n,hd;calc call_list_seq p (.inr U) z C hd (λc f kp e=>m a i x c f kp e) (by simp only[fh] <;> lk)
def tyV (K:ao)(T:YL)(x:V)(H:Hp):Prop:=match x with
 |.str _=>T = "str"
 |.int _=>T = "int"
 |.ref p=>(T = "list"/\∃xs,SqL K H p xs)\/(T = "tuple"/\∃o,K.lookup p=W o/\o.cls=.type "tuple"/\o.dict=Zy)\/
   (T = "dict"/\((∃kvs,H p=W (.dK kvs))\/∃kvs,H p=W (.dT kvs)))\/(T = "set"/\∃S n,H p=W (.set S n))
 |_=>False
def HS {b:aN}{T:YL}(I:Inv X b k H s)(r:RelV x v)(d:tyV X.K T x H):
  s.TypeIs v T/\∀a,v=.ref a->∃j,s.heap.get? a=W j/\j.dict=Zy:=by
 cases x with
 |str z=>
  obtain⟨t,rfl⟩:=r
  cases (show T = "str" from d)
  calc#[typeIs_str s z t,λ_ e=>nomatch e]
 |int i=>
  obtain⟨t,rfl⟩:=r
  cases (show T = "int" from d)
  calc#[zbr s i t,λ_ e=>nomatch e]
 |ref p=>
  cases r
  rcases d with ⟨rfl,u,l⟩|⟨rfl,o,hk,m,hd⟩|⟨rfl,hk⟩|⟨rfl,y,n,hk⟩
  .cases I.list l,q,_,pl,_;refine#[pl.isList.typeIs,λa e=>?_]
   cases e
   cases pl,o,n,e,c,hd,_;exact#[o,e,hd]
  .refine#[#[o,I.kIn p o hk,m],λa e=>?_]
   cases e
   exact#[o,I.kIn _ o hk,hd]
  .let z:∃o,s.heap.get? p=W o/\o.ExactDict:=by
    rcases hk with ⟨f,hk⟩|⟨f,hk⟩
    .cases I.hok p _ hk,_,_,_,_,o,_,_,e,ex,_;exact#[o,e,ex]
    .cases I.hok p _ hk,_,_,_,_,o,_,_,e,ex,_;exact#[o,e,ex]
   cases z,o,e,ex;refine#[#[o,e,ex.1],λa h=>?_]
   cases h
   exact#[o,e,ex.2.1]
  .cases I.hok p _ hk,o,_,_,_,e,ex,_;refine#[#[o,e,ex.1],λa h=>?_]
   cases h
   calc#[o,e,ex.2.1]
 |_=>calc ZM d
def HU (K:ao)(T:YL)(r:V->G V->Hp->VK->Prop)(to:TE):TE:=λσ H Q=>to σ H λx H1=>tyV K T x H1/\r x [] H1 Q
def tBM (K:ao)(T:YL)(r:V->G V->Hp->VK->Prop)(to:TE)(t:TA):TE:=λσ H Q=>to σ H λx H1=>tyV K T x H1/\t σ H1 λxs H2=>r x xs H2 Q
variable {o e:ZU}{es:G ZU}{to:TE}{t:TA}{name:Str}{apos cpos:Pos}{T id:YL}{r:V->G V->Hp->VK->Prop}
theorem Cr (pa:PlainAttrs T)(slot:Slot T name id)(d:typeOf (.builtin id)=pure (.type "method_descriptor"))(j:MtR X id r)(k:PE X o to)(b:f' (YX o name X.env (ZJ o X.env)=ZJ o X.env) F')(c:f' ((apos.endLine == cpos.line)=K') F'):PE X (.Call (.Attribute o name apos) [] [] cpos) (HU X.K T r to):=by
 intro a s e H Q I h;calc wpAny_Call_method0_late b c (thn (k a s e H _ I h) λv l m=>?_);cases m,x,n,f,i,q,u;cases HS f i q,y,z;calc#[T,id,pa,slot,d,y,z,zbl U (PySem.evalArgs_none (j a l e n x [] v [] Q f i .nil u))]
theorem iy (pa:PlainAttrs T)(slot:Slot T name id)(i:typeOf (.builtin id)=pure (.type "method_descriptor"))(n:MtR X id r)(q:PE X o to)(u:PA X (e::es) t)(c:f' (YX o name X.env (ZJ o X.env)=ZJ o X.env) F')(f:f' (((Yr cpos (Za (e::es) X.env)).all (λx=>!x.1) && (YS cpos (Yy [] X.env)).all (λx=>x.1.isSome)
   && decide ((e::es).9+([]:G zaj).9+(if ([]:G zaj).isEmpty then 0 else 1)<30))=K') F')(d:f' ((apos.endLine == cpos.line)=K') F')(hs:f' (Za (e::es) X.env=(O',ZJ e X.env)::Za es X.env) F')(b:f' ((Yr cpos (Za es X.env)).any (·.1)=O') F'):
  PE X (.Call (.Attribute o name apos) (e::es) [] cpos) (tBM X.K T r to t):=by
 intro a s j H Q I h;calc wpAny_Call_method_late c f d U (thn (q a s j H _ I h) λv y z=>?_);cases z,x,C,k,l,E,F;cases HS k l E,M,P;calc#[T,id,pa,slot,i,M,P,?_];let m:=u cpos a y j C _ k F;rw[hs]at m ⊢;refine zbl (by show (O' || (Yr cpos (Za es X.env)).any (·.1))=O';rw[b] <;> rfl) (Calls.evalArgs_plain ?_);exact thn m λR s2 ⟨vs,H2,I2,r2,q2⟩=>n a s2 j H2 x vs v R Q I2 l r2 q2
/- xs.append(e),list.index on a module's tuple .. are MtR facts of 06m -/
end
def MtM (X:Cx)(id:YL)(r:V->G V->Hp->VK->Prop):Prop:=
 ∀(XX:aN)(s:Zp)(σ:St)(H:Hp)(x:V)(xs:G V)(v:Zr)(us:G Zr)(Q:VK),Inv X XX σ H s->RelV x v->Vals xs us->r x xs H Q->
  Zf (Ze X.prog X.w) X.A (zb4 (.builtin id) (v::us)) (EP X XX σ Q) X.xe s
theorem Vals.one:∀{x:V}{a:G Zr},Vals [x] a->∃u,a=[u]/\RelV x u
 |_,_,.cons r .nil=>#[_,U,r]
theorem Vals.zero:∀{a:G Zr},Vals [] a->a=[]
 |_,.nil=>rfl
def Vals.dropLast (h:Vals xs us):Vals xs.dropLast us.dropLast:=by
 induction h with
 |nil=>calc .nil
 |cons r t ih=>
  cases t with
  |nil=>calc .nil
  |cons q t'=>calc .cons r ih
theorem Vals.rep (h:Vals xs us):∀k:O,Vals (bj k xs).flatten (bj k us).flatten
 |0=>.nil
 |k+1=>by
  rw[jb,jb,yf,yf];calc Vals.append h (Vals.rep h k)
def PR {α:Type}(l:G α):l.eraseIdx (l.9-1)=l.dropLast:=by
 induction l with
 |nil=>rfl
 |cons a r ih=>
  cases r with
  |nil=>rfl
  |cons b r=>
   let e:(a::b::r).9-1=((b::r).9-1)+1:=by
    let c:(a::b::r).9=r.9+2:=rfl;let d:(b::r).9=r.9+1:=rfl;lk
   rw[e,List.eraseIdx_cons_succ,ih]
   all_goals rfl
theorem HV (its:G Zr):∀(k:O)(a:G Zr),
  zcf (λb c=>b++c) a.toArray (bj k its.toArray)=(a++(bj k its).flatten).toArray
 |0,a=>by simp
 |k+1,a=>by
  let e:a.toArray++its.toArray=(a++its).toArray:=by simp
  let d:(a++its)++(bj k its).flatten=a++(bj (k+1) its).flatten:=by
   rw[jb,yf,qH]
  rw[<-d,<-HV its k (a++its),<-e,jb,List.foldl_cons]
section
variable {X:Cx}{XX:aN}{σ:St}{H:Hp}{s:Zp}{l b:Zs}{xs ys zs:G V}
theorem Inv.lset {its its':G Zr}{n:O}{f:YK Zr->YK Zr}{t':O}(I:Inv X XX σ H s)(a:H l=W (.lst xs))(e:s.heap.get? l=W {cls:=.type "list",data:=.seq its.toArray n})(b:f its.toArray=its'.toArray)(c:Vals ys its')(d:ys.9<=Zg):
  Inv X XX σ (upd H l (.lst ys)) {s with heap:=s.heap.update l (zad f),toks:=t'}:=by
 let q:=PySem.IsL.update e f;rw[b]at q;calc I.write (x:=l) (e:=l) #v[a,trivial] (.inl U) (λj u h i=>(ZD s.heap (zad f) (ZQ h)).trans i) #[_,q] ?_;calc#[d,its',_,c,q]
def Inv.lnew {t':O}(I:Inv X XX σ H s)(a:Vals ys its)(b:ys.9<=Zg):
  Inv X XX σ (upd H s.7 (.lst ys)) {s with heap:=s.heap.push {cls:=.type "list",data:=.seq its.toArray},toks:=t'}:=
 I.laid (λ_ _ q=>Zl _ q) (aC _) #[b,its,0,a,ZV _ U]
def Inv.fresh (I:Inv X XX σ H s):H s.7=Zy:=I.hok.fresh (aC _)
def Inv.lstM (I:Inv X XX σ H s)(b:H l=W (.lst xs)):xs.9<=Zg/\∃(a:G Zr)(n:O),Vals xs a/\xs.9=a.9/\s.heap.get? l=W {cls:=.type "list",data:=.seq a.toArray n}:=by
 cases I.hok l _ b,z,a,n,r,e;calc#[z,a,n,r,r.9,e]
def HW {n:O}(h:n<=Zg):Yq n=O':=by
 unfold Yq;calc Yo ()
end
section
variable {X:Cx}
def HZ:V->G V->Hp->VK->Prop:=λx vs H Q=>kR x λl=>k1 vs λy=>∃xs,H l=W (.lst xs)/\xs.9<Zg/\Q .non (upd H l (.lst (xs++[y])))
def iJ:MtM X "list.append" HZ:=by
 intro b s k H x m v o Q I d f h;cases ib h,l,rfl,i;obtain⟨y,rfl,C,c,E,q⟩:=rW i
 cases d
 cases f.one,u,rfl,j;cases I.lstM c,z,a,n,r,M,e;refine zas F.slot_list_append #[_,e,U] F.entry_list_append (F.args_list_append_2 _ _) (PySem.list_append l a.toArray n u (by rw[fh];lk)) #[e,?_];calc#[.non,_,I.lset (its':=a++[u]) c e ⋯ (r.append (.cons j .nil)) ?_,rfl,q];rw[cC,oE];lk
def H_:V->G V->Hp->VK->Prop:=λx vs H Q=>∃l b xs zs,x=.ref l/\vs=[.ref b]/\H l=W (.lst xs)/\H b=W (.lst zs)/\xs.9+zs.9<=Zg/\Q .non (upd H l (.lst (xs++zs)))
def PU:MtM X "list.extend" H_:=by
 intro i s R H x vs v us Q I k m h;obtain⟨l,b,xs,zs,rfl,rfl,j,o,hz,q⟩:=h
 cases k
 obtain⟨u,rfl,y⟩:=m.one
 cases y
 cases I.lstM j,z,c,n,r,hl,e;cases I.lstM o,z2,a,C,E,M,P;let f:c.toArray.size+a.toArray.size<=Zg:=by rw[fh,fh];lk
 let d:¬(!c.toArray.isEmpty && Yq (c.toArray.size+a.toArray.size))=K':=by
  rw[HW f,Bool.and_false];exact Zh
 refine zas F.slot_list_extend #[_,e,U] F.entry_list_extend (F.args_list_extend_2 _ _)
  (AutoSeq1.list_extend_list_list_0 l c.toArray n b a.toArray C d (by rw[fh];lk) ()) #[e,P,?_]
 calc#[.non,_,I.lset (its':=c++a) j e ⋯ (r.append E) ?_,U,q];rw[cC];lk
def Ia:V->G V->Hp->VK->Prop:=λx vs H Q=>∃l xs y,x=.ref l/\vs=[]/\H l=W (.lst xs)/\xs[xs.9-1]?=W y/\Q y (upd H l (.lst xs.dropLast))
def PV:MtM X "list.pop" Ia:=by
 intro d s C H x E v M Q I i j h;obtain⟨l,P,y,rfl,rfl,f,hy,q⟩:=h
 cases i
 let b:=j.zero;subst b;cases I.lstM f,z,a,n,r,k,e;cases r.get hy,u,m,o;let c:a.toArray[a.toArray.size-1]?=W u:=by
  show a.toArray[a.9-1]?=W u;rw[<-Array.getElem?_toList,<-k];exact m
 refine zas F.slot_list_pop #[_,e,U] F.entry_list_pop (F.args_list_pop_1 _) (MeetsSeq.list_pop_last l a.toArray n u c (by rw[fh];lk)) #[e,?_];refine#[y,_,I.lset (its':=a.dropLast) f e ?_ r.dropLast ?_,o,q]
 .show a.toArray.eraseIdxIfInBounds (a.toArray.size-1)=a.dropLast.toArray;rw[fh,List.eraseIdxIfInBounds_toArray,PR]
 .rw[Nc];lk
def PX:V->G V->Hp->VK->Prop:=λx vs H Q=>∃l xs,x=.ref l/\vs=[]/\H l=W (.lst xs)/\Q .non (upd H l (.lst []))
def Ic:R2:=λx y H Q=>kR x λl=>kR y λb=>∃xs zs,H l=W (.lst xs)/\H b=W (.lst zs)/\xs.9+zs.9<=Zg/\∀p,H p=Zy->Q (.ref p) (upd H p (.lst (xs++zs)))
def iL:OpR X (Yh .Add) Ic:=by
 intro d s M H x y v u Q I f i h;cases ib h,l,rfl,j;obtain⟨b,rfl,P,R,k,m,hz,q⟩:=ib j
 cases f
 cases i
 cases I.lstM k,z,c,n,r,hl,e;cases I.lstM m,z2,a,n2,o,C,E;refine PySem.P.add_list e E ?_ (by rw[fh,fh];lk);let F:c.toArray++a.toArray=(c++a).toArray:=by simp
 rw[F];calc#[.ref _,_,I.lnew (t':=s.toks) (r.append o) (by rw[cC];lk),rfl,q _ I.fresh]
def Ie:R2:=λx y H Q=>kR x λl=>kI y λk=>∃xs,H l=W (.lst xs)/\-(2^63)<=k/\k<2^63/\xs.9*k.toNat<=Zg/\
 ∀p,H p=Zy->Q (.ref p) (upd H p (.lst (bj k.toNat xs).flatten))
def PY {α:Type}(xs:G α)(k:O):(bj k xs).flatten.9=k*xs.9:=by
 induction k with
 |zero=>simp
 |succ k ih=>rw[jb,yf,cC,ih,Nd,oG]
def mh:OpR X (Yh .Mult) Ie:=by
 intro M s σ H x y v u Q I R ry h;cases ib h,l,rfl,o;obtain⟨k,rfl,xs,hH,h1,o,P,q⟩:=gg o
 cases R
 cases ry,t,rfl;cases I.lstM hH,z,b,n,r,hl,e;let d:b.toArray.size*k.toNat<=sizeLine:=by rw[fh,<-hl];exact P
 let f:¬b.toArray.size*k.toNat > (2^63-1) / 8:=by
  let:(sizeLine:O)<=(2^63-1) / 8:=by decide
  lk
 let i:¬(!Builtin.List.listFitsIndex k)=K':=by
  rw[fitsIndex_both h1 o];exact Zh
 let c:¬Yq (b.toArray.size*k.toNat)=K':=by
  rw[HW d];exact Zh
 let j:zcf (λC E=>C++E) (Zi []) (bj (if b.toArray.isEmpty=K' then 0 else k.toNat) b.toArray)=(bj k.toNat b).flatten.toArray:=by
  let f0:∀m:O,zcf (λC E=>C++E) (Zi []) (bj m b.toArray)=(bj m b).flatten.toArray:=λm=>by
   let:=HV b m [];rw[gT]at this;exact this
  rw[f0]
  cases b with
  |nil=>simp
  |cons a r'=>rw[N ⋯]
 refine wpAny_binaryOp_repeat_ref (T := "list") (U := "int") () #[_,e,rfl] (λs'=>zbr s' k t) noFill_list_mul F.fills_int_mul zea repeat_list F.slot_int_index.lookup
  (zas zea (zbr s k t) F.entry_int_rmul (F.args_int_rmul_2 _ _) (int___rmul___int_list k t l b.toArray n)
   #[e,rfl,#[_,e,rfl],zas F.slot_list_mul #[_,e,rfl] F.entry_list_mul (F.args_list_mul_2 _ _) (AutoListH.list___mul___list_int_3 l b.toArray n k t i f c) #[e,?_]])
 rw[j];calc#[.ref _,_,I.lnew (t':=s.toks) (r.rep k.toNat) #v[PY,hI,P],rfl,q _ I.fresh]
end
end L2
namespace Att
open PySem PySem.W PySem.Calls PyProof.Rows
def PZ:∀(ns:aa)(c:G Zr),WellAll P h c (ns.map zeu)->zbn c ns:=by
 intro ns
 induction ns with
 |nil=>
  intro c w;rw[yh]at w
  cases w
  calc .nil
 |cons n ns ih=>
  intro c w;rw[fo]at w
  cases w with
  |cons a b=>
   cases a
   calc .cons _ _ (ih _ b)
def P3 {l:OpenLaw}{n:O}(u:l.most=W n){b:G WData}(e:l.row.toRowW.claim.pre b=K')(k:WellAll P h c b):
  ∃a o ns,c=[ZG a]/\b=[WData.list (ns.map zeu)]/\h.get? a=W {cls:=.type "list",data:=.seq o.toArray}/\zbn o ns/\ns.9<=n:=by
 let m:WShape.hasAll [] b [.list .int]=K':=(pre_splitW e).1;let s:l.pre.holds [] {args:=b}=K':=(pre_splitW e).2;cases hasAllW_cons m,d,r,rfl,x,y;obtain rfl:=hasAllW_nil y;cases hasW_list x,E,rfl,z;cases items_int z,ns,rfl;let f:ns.9<=n:=by
  unfold OpenLaw.pre at s;let i:(WTm.not (.lt (.lit (.int (n:Y))) (.len (.arg 0)))).holds [] {args:=[.list (ns.map .int)]}=K':=by
   let i:=(holds_andW s).1;rw[u]at i;exact i
  let j:=condW_of i (w_not (w_lt w_lit (w_len_list (w_arg U))));rw[af]at j;calc qI λq=>?_;let C:(n:Y)<((ns.9:O):Y):=()
  first
   |(rw[ze0 C]at j;calc Zq j ())
   |(simp at j;lk)
 cases k with
 |cons w1 w2=>
  cases w2
  cases w1 with
  |list ho hall=>calc#[_,_,ns,U,U,ho,PZ ns _ hall,f]
def P4 (l:OpenLaw)(a:G WData):l.row.toRowW.claim.post a (.bool K') a=K':=
 postW_of (r:=l.row.toRowW) (X:=(K' == K'))
  (show zd4 [] (.bool K') .bool=K' by first|rfl|decide|simp[zd4,WShape.arms,WShape.armsAll])
  (show (WTm.eq .res (.lit (.bool K'))).value [] {args:=a,res:=W (.bool K'),after:=a}=W (.bool (K' == K')) from w_eq_bool (w_res U) w_lit) U
def attach_call {l:OpenLaw}{n:O}{XP:ck->ZN->Prop}{YP:ZW->ZN->Prop}{d:DefRec}(P:l.most=W n)(x:d.params.defaults=[])(call:∀(w:ZW)(s₀ b:Zp)(mg y:ck)(i:Zs)(o:Obj)(pm s c:Zr)(a:Zs)(h:List Zr)(ns:aa),
   Ground q loose [] XP w s₀ mg y b.heap->YP w b.heap->
   b.heap.get? i=W o->o.data=.func (docDef d.name d.params d.body d.scope pm s c)->b.heap.CodeRec s d.name->mg d.name=W (.ref i)->
   b.heap.get? a=W {cls:=.type "list",data:=.seq h.toArray}->zbn h ns->ns.9<=n->b.gens=(Zi [])->
   Yv (Ze l.prog w) zaz (.call (.ref i) #[[.ref a],[]]) (λr u=>r=.ok (.ret (.bool K'))/\OldK b.heap u.heap/\u.os=b.os/\YC u.gens) b):
  WalkO q loose XP YP l.row.toRowW d [] (λf h=>zb5 f h):=by
 intro w s₀ b mg y G Y i o pm s c Q kV R hd z F C X H I as j M x0 E y0;obtain rfl:Q=.none:=Dflts.none F x;obtain rfl:kV=.none:=Dflts.noKw F;cases P3 P j E,a,h,ns,rfl,rfl,k,e,m;calc enter_call (zay (call w s₀ b mg y i o pm s c a h ns G Y R (fd_plain hd) z C k e m X) λr u hq=>?_);cases hq,rfl,h2,h3,h4;calc#[.inl #[.bool K',.bool K',[],rfl,λ_=>U,.bool K',P4 l _,λ_=>#[List.Pairwise.nil,λ_ hm=>(nomatch hm)]],h2,h3,h4]
section
variable {prog:Zb}{w:ZW}{A:ZK}{E:bD}{s:Zp}{K:Frag}
def V9 (h:ZN)(L d:Zs):aN:=(aT h.objs.size).filterMap λa=>if a=L\/a=d then Zy else (h.get? a).map λo=>(a,o)
end
end Att
namespace L2
open PySem PySem.Spec PyProof.Rows
theorem If:∀{a:G Zr}{ns:aa},zbn a ns->Vals (ns.map V.int) a
 |_,_,.nil=>.nil
 |_,_,.cons n t h=>.cons #[t,U] (If h)
def Cs (H:Hp):Prop:=∀b,H b=Zy\/∃o xs,H b=W (.frz o (.lst xs))
def P5 {K:ao}{mg mb:ck}{k:O}{fa a:Zs}{x:Str}{c:Zp}{vs:G Zr}(KX:K.In c.heap)(E:c.heap.Ns Z0 mg)(i:c.heap.Ns zdu mb)(y0:∀x:Str,x ≠ "__name__" -> mb x=ZF x)(I:c.heap.NoLimit)(hg:c.gens=(Zi []))(ha:c.heap.get? a=W {cls:=.type "list",data:=.seq vs.toArray})(hi:zbn vs ns)(hl:ns.9<=Zg)(hr:Room k zaz)(F:∀base:ZN,K.In base->base.Ns Z0 mg->FnOk P w K mg base CX k fa fd [x] sp)(C:∀(s:Zp)(u:Zr),zbp s fd #[[u],[]] [(x,u)])(z0:∀H:Hp,Cs H->SqL K H a (ns.map V.int)->sp [.ref a] H (λv _=>v=.bl K') λ_ _ _=>False)(u0:∀H e j,CX [] H c (λ_ _ _=>False) e j->False):
  Yv (Ze P w) zaz (.call (.ref fa) #[[.ref a],[]]) (λr j=>r=.ok (.ret (.bool K'))/\OldK c.heap j.heap/\j.os=c.os/\YC j.gens) c:=by
 let rv:=If hi;let M:=hi.9;have y:∀H:Hp,Cs H->SqL K H a (ns.map V.int)->HOk P w H c.heap->(∀b,H b≠Zy->b=a)->(H a≠Zy->K.lookup a=Zy)->
   Yv (Ze P w) zaz (.call (.ref fa) #[[.ref a],[]]) (λr j=>r=.ok (.ret (.bool K'))/\OldK c.heap j.heap/\j.os=c.os/\YC j.gens) c:=by
  intro H hO hS hok hA hK;let f:∀{b:Zs}{o:Obj},c.heap.get? b=W o->H b=Zy->(jC c.heap H).get? b=W o:=λe n=>OI e n;let j0:∀{b:Zs}{o:Obj}{Q:YK DictEntry}{R:O},c.heap.get? b=W o->o.data=.dict Q R->H b=Zy:=λ{b o Q R} e d=>by
   cases q:H b with
   |none=>rfl
   |some u=>
    let e':b=a:=hA b (by rw[q];simp);subst e';rw[ha]at e;cases e;let d':zdq vs.toArray _=Data.dict Q R:=d
    cases d'
  let l:∀{b:Zs}{m:ck},c.heap.Ns b m->(jC c.heap H).Ns b m:=λ{b m} ⟨o,Q,R,e,d,r⟩=>#[o,Q,R,f e (j0 e d),d,r]
  let X:K.In (jC c.heap H):=λb o e=>f (KX b o e) (by
   cases q:H b with
   |none=>rfl
   |some u=>
    let e':b=a:=hA b (by rw[q];simp);subst e';rw[hK (by rw[q];simp)]at e;cases e)
  let hM:Mod K mg (jC c.heap H):=#[X,l E,#[mb,l i,y0],let ⟨mc,h1,h2⟩:=I;#[mc,l h1,h2]]
  let e0:Env0 P w K mg (jC c.heap H) zaz [] c H:=#[U,hM,λb o e=>OJ e,yc (OH _ _),trivial,λb i=>Zq (show b∈([]:ap) from i) ⋯,hok,.of_eq hg]
  refine zay ((F _ X (l E)).run zaz [] c H #[[.ref a],[]] [.ref a] [.ref a] _ _ hr e0 (C c (.ref a)) (.cons U .nil) (z0 H hO hS)) λr j h=>?_
  cases r with
  |error e=>calc (u0 H e j h).elim
  |ok fl=>
   cases fl with
   |next=>calc ZM h
   |brk=>calc ZM h
   |cont=>calc ZM h
   |ret u=>
    cases h,v,H',os,bare,un,x0,r',q;let q':v=.bl K':=q;subst q';obtain rfl:u=za1 K':=r';refine#[U,OldK.of_keep λb o e=>?_,os,bare]
    cases q:H b with
    |none=>calc un.keep b o e q (by intro z;calc Zq (show b∈([]:ap) from z) ⋯) ⋯
    |some u=>
     rcases hO b with z|⟨ob,xs,z⟩
     .rw[q]at z;cases z
     .let z2:=un.frzs b ob _ z;cases hok b _ z,e1,_;cases x0 b _ z2,e2,_;rw[e]at e1;cases e1;exact e2
 cases hk:K.lookup a with
 |some o=>
  let e:=KX a o hk;rw[ha]at e
  cases e
  calc y (λ_=>Zy) (λ_=>.inl U) (.inr #[_,vs.toArray,_,hk,U,U,U,#v[fh,M,hl],by simpa using rv]) (λb u z=>by let z':(Zy:Zk HO)=W u:=z;cases z') (λb z=>Zq rfl z) λz=>Zq rfl z
 |none=>
  refine y (λb=>if b=a then W (.frz {cls:=.type "list",data:=.seq vs.toArray} (.lst (ns.map V.int))) else Zy) (λb=>?_) (.inl (.inr #[{cls:=.type "list",data:=.seq vs.toArray},Zt U])) (λb u z=>?_) (λb z=>?_) λ_=>hk
  .by_cases i:b=a
   .exact .inr #[_,_,Zt i]
   .exact .inl (N i)
  .by_cases i:b=a
   .let z':=(Zt i).symm.trans z
    cases z'
    subst i;exact#[ha,#v[af,hl],vs,_,rv,ha]
   .let z':=(N i).symm.trans z
    cases z'
  .by_cases i:b=a
   .exact i
   .calc Zq (N i) z
def P6 {l:zcc}{n k:O}{YP:ZW->ZN->Prop}{d:DefRec}{K:ZZ->ao}{CX:ZW->CXT}{sp:ZW->Sp}{x:Str}(Q:l.most=W n)(r:n<=Zg)(y:d.params.defaults=[])(R:Room k zaz)(X:∀(w:ZW)(h:ZN),YP w h->(K w.params).In h)(F:∀(w:ZW)(mg:ck)(m:Zs)(h:ZN),(K w.params).In h->h.Ns Z0 mg->mg d.name=W (.ref m)->
   ∃z:Yt,(∀(s:Zp)(u:Zr),zbp s z #[[u],[]] [(x,u)])/\
    ∀base:ZN,(K w.params).In base->base.Ns Z0 mg->FnOk l.prog w (K w.params) mg base (CX w) k m z [x] (sp w))(C:∀(w:ZW)(H:Hp)(a:Zs)(ns:aa),ns.9<=n->Cs H->SqL (K w.params) H a (ns.map V.int)->sp w [.ref a] H (λv _=>v=.bl K') λ_ _ _=>False)(E:∀(w:ZW)(H:Hp)(s:Zp)(e:Zr)(I:Zp),CX w [] H s (λ_ _ _=>False) e I->False):
  zcz q loose XP YP l.row.toRowW d [] (λf P=>zb5 f P):=by
 calc Att.attach_call Q y λw s₀ i mg mb m o pm cd x0 a P ns G Y ho hd y0 M j c b hg=>?_;let KX:=X w _ Y;cases F w mg m _ KX G.T.g M,z,hb,hF;calc P5 KX G.T.g G.T.b G.T.builtins G.T.nolimit hg j c (aP b r) R hF hb (λH hO hS=>C w H a ns b hO hS) λH e I=>E w H i e I
noncomputable def o_ (s:YD):Arguments:=match s with
 |.FunctionDef _ a _ _ _ _ _ _ _ _=>a
 |_=>{posonlyargs:=[],args:=[],vararg:=Zy,kwonlyargs:=[],kw_defaults:=[],kwarg:=Zy,defaults:=[]}
noncomputable def nH (s:YD):G Stmt:=match s with
 |.FunctionDef _ _ b _ _ _ _ _ _ _=>b
 |_=>[]
noncomputable def bO (s:YD):Scope:=match s with
 |.FunctionDef _ _ _ _ _ _ sc _ _ _=>sc
 |_=>{kind:=.function,names:=[],isGenerator:=O',isCoroutine:=O'}
abbrev CX0:CXT:=λ_ _ _ _ _ _=>False
abbrev E0:XK:=λ_ _ _=>False
def ar:md CX0 X E0:=λ_ _ _ _ _ _ _ h=>h.elim
structure Fun (K:ao)(x qual:Str)(st:YD)(f:Zs)(fd:Yt):Prop where
 ex:∃(oc:Zr)(od:Zk Zs)(kV doc pm:Zr)(an:Zk Zs)(cdv ct:Zr)(osl:YK (Zk Zr)),
  fd=Yc x qual (o_ st) (nH st) (bO st) .none kV doc pm an cdv ct/\K.lookup f=W #[oc,od,.func fd,osl]/\Y3 K cdv qual=true
 kp:Z6 K (.ref f)=true
section
variable {P:Zb}{w:ZW}{K:ao}{mg:ck}{base:ZN}
def Fun.ok {st:YD}{N ps:G Str}{k:O}{sp:Sp}(F:Fun K x a st f j)(y:T N ps (bO st))(len:∀c H Q E,sp c H Q E->c.9=ps.9)(d:∀(b:Zr)(A:ZK)(outer:G Env)(s:Zp)(H:Hp)(c:G V)(Q:VK)(E:XK),Room k (A.deeper (zar a (bO st) s.7 f b))->sp c H Q E->
   ∃t,PSs (me CX0 P w K mg base N a (bO st) f b A outer s H E).nox (nH st) t/\t {nx:=λ_ l=>Q .non l,rt:=Q} (start N c) H):FnOk P w K mg base CX0 (k+1) f j ps sp:=by
 cases F.ex,oc,r,kV,m,pm,u,b,ct,n,rfl,lk,e;calc Py lk e y len λA outer s H c Q E o i=>?_;cases d b A outer s H c Q E o i,t,h,q;calc#[t,h.nox,q]
def Fun.binds {st:YD}{ps:G Str}(F:Fun K x a st f i)(h:∀(kV b pm:Zr)(d:Zk Zs)(c ct:Zr)(e:G Zr),e.9=ps.9->bindArgs (Yc x a (o_ st) (nH st) (bO st) .none kV b pm d c ct) #[e,[]]=pure (ps.zip e)):Binds K i ps []:=by
 cases F.ex,oc,l,kV,b,pm,d,c,ct,j,rfl,lk,k;calc .all (h kV b pm d c ct)
def P8 {st:YD}{oc:Zr}{i h:Zk Zs}{e:YK (Zk Zr)}{kV d pm b ct:Zr}(l:K.lookup f=W #[oc,i,.func (Yc x a (o_ st) (nH st) (bO st) .none kV d pm h b ct),e])(c:Y3 K b a=K')(k:Z6 K (.ref f)=K'):Fun K x a st f (Yc x a (o_ st) (nH st) (bO st) .none kV d pm h b ct):=#[#[oc,i,kV,d,pm,h,b,ct,e,U,l,c],k]
end
def cy {n:O}(h:n<=1000):n<sizeLine:=dF h ()
section
variable {X:Cx}
def pv (i:O){pos:Pos}(b:f' (X.N[i]?=W x) F')(c:Vis X.env.scope x:=by first|exact zd8 U|exact zb1 (zd8 U)|exact zb1 (zb1 U))(hd:f' ((x == ("__debug__" : Str))=O') B')(a:f' ((x == ("__classdict__" : Str))=O') B'):PE X (.Name x pos) (B7 i):=GL b c hd a
end
def cu {c A B:Prop}[zer c](a:c->A)(b:¬c->B):if c then A else B:=by
 by_cases h:c
 .rw[Zt h];exact a h
 .rw[N h];calc b h
def Same (H H':Hp):Prop:=∀b o,H b=W o->H' b=W o
def Same.refl (H:Hp):Same H H:=λ_ _ h=>h
def Same.trans (a:Same H d)(b:Same d e):Same H e:=λc o h=>b c o (a c o h)
def Same.free (e:Same H a){l:Zs}(h:a l=Option.none):H l=Option.none:=by
 cases q:H l with
 |none=>rfl
 |some o=>
  rw[e l o q]at h
  cases h
def Same.seq {K:ao}(e:Same H b)(h:SqL K H a xs):SqL K b a xs:=by
 rcases h with (h|⟨o,h⟩)|h
 .exact .inl (.inl (e _ _ h))
 .exact .inl (.inr #[o,e _ _ h])
 .exact .inr h
@[reducible] def blk (X:Cx) (x:Str) (fv:G (O×Str)) (scope:Z4) (cl:G (Str×Zs)) (C:Zs) (s:Zp) (H:Hp) (fp:ap):Cx where
 prog:=X.prog
 w:=X.w
 K:=X.K
 mg:=X.mg
 base:=X.base
 A:=X.A
 N:=x::fv.map (·.2)
 s₀:=s
 H₀:=H
 env:=Ym scope cl C X.env
 outer:=X.stack
 stack:=X.stack
 ex:=fp
 fn:=λ_=>O'
 calm:=X.calm
 pn:=[]
 xe:=λ_ _=>False
def bst (fv:G (O×Str))(σ:St)(v:Zk V):St:=v::fv.map λp=>(σ[p.1]?).getD Zy
structure BlkOk (X:Cx)(x:Str)(fv:G (O×Str))(scope:Z4)(cl:G (Str×Zs)):Prop where
 clos:Y9 scope X.env=pure cl
 nocell:∀y∈scope.names,y.2≠.cell
 kind:scope.kind=.function
 names:∀y∈scope.names,y.2=.local->scope.names.lookup y.1=W .local
 here:scope.names.lookup x=W .local
 sub:∀y c,cl.lookup y=W c->X.env.cells.lookup y=W c
 has:∀y,((ZP scope X.env).names.lookup y=W .cell\/(ZP scope X.env).names.lookup y=W .free)->∃c,cl.lookup y=W c
 fvs:∀p∈fv,p.2≠x/\X.N[p.1]?=W p.2/\(X.env.scope.names.lookup p.2=W .cell\/X.env.scope.names.lookup p.2=W .free)/\
  ((ZP scope X.env).names.lookup p.2=W .cell\/(ZP scope X.env).names.lookup p.2=W .free)/\∃c,cl.lookup p.2=W c
theorem Ct {R:zat->Zp->Prop}{s:Zp}{l a d:ZU}{b:Z4}{pos:Pos}{it o:Zr}(I:O->Zp->Prop)(q:∀n s (E:bD),I n s->Zf (Ze prog w) A (zbs it) (λr c=>match r with
   |none=>R (.ok .next) c
   |some v=>Zf (Ze prog w) A (YM a it v) (λ_ e=>Zf (Ze prog w) A (Z5 a env v) (λ_ f=>Zf (Ze prog w) A (ZJ l env) (λx i=>
     Zf (Ze prog w) A (zb4 (.builtin "list.append") [o,x]) (λ_ j=>∃m,m<n/\I m j) E i) E f) E e) E c) E s)(n:O)(h:I n s):
  Yv (Ze prog w) A (.compLoop (.ListComp l [#[a,d,[],0]] b pos) 0 it o env) R s:=by
 calc codeAny_loop U I (λn s F=>?_) n h;show Zf _ _ ((compTurn (.ListComp l [#[a,d,[],0]] b pos) 0 it o env).onRaise (λx=>do noteFrame x env;zet x)) _ _ s;calc wpAny_noted ?_;rw[PySem.compTurn_list1];refine Zm (Yk (Zm (ZO (q n s _ F) (λr c k=>?_) λ_ _ H=>H)))
 cases r with
 |none=>calc Zd k
 |some v=>
  calc Zm (thn k λ_ e u=>Zm (thn u λ_ f y=>Zm (Zm (thn y λx i z=>Zm (thn z λ_ j C=>Zd (Zd #[U,C]))))))
section
variable {X:Cx}{elt iter:ZU}{x:Str}{px:Pos}{fv:G (O×Str)}{scope:Z4}{cl:G (Str×Zs)}{pos:Pos}{te:TE}{wi:TI}
def pd (fv:G (O×Str))(wi:TI)(te:TE):TE:=λσ H Q=>wi σ H λJ H1=>∀D,H1 D=Zy->∃W:O->O->Hp->Prop,(∃m,W 0 m (upd H1 D (.lst [])))/\∀i m H,W i m H->
 (J.stop i H/\Q (.ref D) H)\/(J.go i H/\∃N:Hp->Prop,(∀H',N H'->∃m',m'<m/\W (i+1) m' H')/\∀v H',J.yld i H v H'->te (bst fv σ (Zz v)) H' λy H2=>∃ys,H2 D=Zz (.lst ys)/\ys.9<Zg/\N (upd H2 D (.lst (ys++[y]))))
def P9 {f:ap}{C:Zs}(B:BlkOk X x fv scope cl)(I:Inv X a k H s)(i:∀b∈f,eI X a H b)(hC:s.7<=C)(j:∀b∈f,b≠C):
  (blk X x fv scope cl C s H f).Ok where
 mod:=I.ok.mod
 kind:=B.kind
 glob:=I.ok.glob
 blt:=I.ok.blt
 above:=hC
 inj:=λy z c l m=>I.ok.inj y z c (B.sub y c l) (B.sub z c m)
 has:=λy hy=>B.has y hy
 cab:=λy c h=>nomatch h
 hd:=I.ok.hd
 frames:=I.ok.frames
 stk:=.inl U
 exf:=λb d=>#[j b d,λy c e=>(i b d).2.2.2.2.1 y c (B.sub y c e)]
 bs:=I.bs
 bsz:=aP I.ok.bsz I.sz
 noex:=λb o e d=>by
  cases i b d,_,_,_,n,_;rcases n with z|z
  .exact I.ok.noex b o e z
  .exact Zq (dE (Zo e) (aP I.ok.bsz z)) (kW _)
 exfs:=λb d hs=>by
  cases i b d,_,q,r,_;rcases bV.mp (I.stkSub b hs) with z|z
  .exact q z
  .exact r z
 funs:=I.stack
 frf:=I.stkFree
def Cu {fv:G (O×Str)}{j:O}(e:(x::fv.map (·.2))[j+1]?=W y)(f:(bst fv a o)[j+1]?=W (W v)):∃p∈fv,p.2=y/\a[p.1]?=W (W v):=by
 let b:(fv.map (·.2))[j]?=W y:=by simpa using e
 let d:(fv.map λp=>(a[p.1]?).getD Zy)[j]?=W (W v):=by simpa [bst] using f
 rw[a7]at b d
 cases q:fv[j]? with
 |none=>rw[q]at b;cases b
 |some p=>
  rw[q]at b d;calc#[p,cH q,ZY b,?_];let c:(a[p.1]?).getD Zy=W v:=ZY d
  cases r:a[p.1]? with
  |none=>rw[r]at c;cases c
  |some w=>rw[r]at c;calc ZL W c
def Ig {s d:Zp}{h:ap}{C:Zs}{m:ck}(B:BlkOk X x fv scope cl)(I:Inv X a Q H s)(hf:∀b∈h,eI X a H b)(hC:C=s.7)(n:∀b∈h,b≠C)(os:d.os=s.os)(f:d.gens=s.gens)(keep:∀b o,s.heap.get? b=W o->d.heap.get? b=W o)(ns:d.heap.Ns C m):
  Inv (blk X x fv scope cl C s H h) [] (bst fv Q Zy) H d:=by
 subst hC;refine#[P9 B I hf (aC _) n,os,#v[f,I.bare],Un.kept keep,#[m,ns,λi y v h1 R h3=>?_],λy c e=>?_,I.hok.fresh (aC _),λy c e=>I.freeC y c (B.sub y c e),λp q=>Zq (show p∈([]:aN) from q) ⋯,I.hok.kept keep,by simp[bst]]
 .cases i with
  |zero=>simp[bst]at R
  |succ j=>
   cases Cu h1 R,p,q,rfl,hv;cases B.fvs p q,_,hN,hk,E,c,hc;cases I.loc,m0,_,hl;let F:Vis X.env.scope p.2:=hk.elim (λz=>.inr (.inl z)) λz=>.inr (.inr z);cases hl p.1 p.2 v hN hv F,u,r,l;calc#[u,r,.inr #[E,c,hc,?_]];rcases l with ⟨z,_⟩|⟨_,c',M,o,P,hd⟩
   .let z':X.env.scope.names.lookup p.2=W .local:=z;rcases hk with k|k <;> (rw[k]at z';cases z')
   .let:=B.sub p.2 c hc;rw[M]at this;cases this;exact#[o,keep _ o P,hd]
 .cases I.cell y c (B.sub y c e),v,o,P,hd;calc#[v,o,keep c o P,hd]
def Ih {Q:Unit->Zp->Prop}(B:BlkOk X x fv scope cl)(I:Inv (blk X x fv scope cl C s H0 fp) a (bst fv P o) H s5)(r:RelV v u)(h:∀s6,Inv (blk X x fv scope cl C s H0 fp) a (bst fv P (W v)) H s6->Q #[] s6):
  Zf (Ze X.prog X.w) X.A (Z5 (.Name x px) (Ym scope cl C X.env) u) Q E s5:=by
 cases id I.loc,m,hn,hl;let hk:(ZP scope X.env).names.lookup x=W .local:=zab B.here;let M:((Ym scope cl C X.env).scope.kind == .class || ((Ym scope cl C X.env).scope.kind == .module && (Ym scope cl C X.env).locals != (Ym scope cl C X.env).globals))=O':=by
  let:(Ym scope cl C X.env).scope.kind=.function:=B.kind;rw[this];rfl
 calc Yz (zcw hk hn (λh' R hs=>?_) M);let cne:=I.cne;cases id hn,oL,_,_,y0,_;let f:HOk X.prog X.w H h':=λb ob e=>by
  calc (I.hok b ob e).stay (λc w' F q=>(hs.2 c ?_).trans q) (λ_ q=>q) λ_ _ q=>q;intro z;let z':c=C:=z;let fr:H C=Zy:=I.free;rcases F with F|F
  .rw[<-F,z',fr]at e;cases e
  .rw[z',fr]at F;cases F
 refine h _ #[I.ok,I.os,I.bare,#[λb o e n hb hx=>?_,λb o e n hb hx=>?_,I.base.free,λb o e hx=>?_,I.base.tups,I.base.frzs,I.base.tbls],#[_,R,λj y v' i e2 e3=>?_],λy c e=>?_,I.free,I.freeC,λp hp=>?_,f,by simp[bst]]
 .exact (hs.2 b (eK (dE (Zo e) I.ok.above))).trans (I.base.keep b o e n hb hx)
 .cases I.base.slot b o e n hb hx,sl,i;exact#[sl,(hs.2 b (eK (dE (Zo e) I.ok.above))).trans i]
 .cases I.base.there b o e hx,o',i;exact#[o',(hs.2 b (eK (dE (Zo e) I.ok.above))).trans i]
 .cases j with
  |zero=>
   let x0:x=y:=by simpa using i
   subst x0;let l:v=v':=by simpa [bst] using e2
   subst l;calc#[u,r,.inl #[hk,by simp]]
  |succ j=>
   let l:(bst fv P o)[j+1]?=W (W v'):=by simpa [bst] using e2
   cases hl (j+1) y v' i l e3,u',r',q;calc#[u',r',?_];cases Cu i e2,p,hp,rfl,_;rcases q with ⟨k,e⟩|⟨k,c,e,z⟩
   .exact .inl #[k,by simp[(B.fvs p hp).1,e]]
   .exact .inr #[k,c,e,z.sameBut hs (cne _ c e)]
 .cases I.cell y c e,w',z;exact#[w',z.sameBut hs (cne y c e)]
 .cases I.pin p hp,e,n,ne,nf,d;calc#[(hs.2 p.1 ne).trans e,n,ne,nf,d]
theorem sZ {X:Cx}{c i d:Zp}(I:Inv X a h H c)(hk:HOk X.prog X.w e d.heap)(bare:YC d.gens)(k:H c.7=Zy)(f:∀b o,c.heap.get? b=W o->i.heap.get? b=W o)(l:Un (frs X.stack) j (upd H c.7 (.lst [])) e i.heap d.heap)(os:d.os=c.os)(m:∀b∈j,eI X a H b):Inv X a h e d:=by
 refine I.call' ?_ ((Un.laid f (aC _) k).trans l) hk bare λb n=>?_
 .exact os
 .cases m b n,_,q,x,r,s,u;calc#[r,q,s,u]
theorem s_ {Y:Cx}{K:ao}{J:It}{x:ap}(T:Turn prog w K M J x it C){I E:Zp}{D:Zs}{ys:G V}{i n:O}{N:Hp->Prop}{W:O->O->Hp->Prop}{E':bD}(hx:∀u s,¬Y.xe u s)(j:C (i+1) I.heap)(P:Inv Y ([]++o3 x I.heap) f h E)(Q:RelV l y)(F:h D=Zz (.lst ys))(R:ys.9<Zg)(n9:N (upd h D (.lst (ys++[l]))))(hN:∀d,N d->∃q,q<n/\W (i+1) q d):
  Zf (Ze Y.prog Y.w) Y.A (zb4 (.builtin "list.append") [.ref D,y]) (λ_ a=>∃m,m<n/\∃d,Inv Y [] f d a/\C (i+1) a.heap/\(∀b∈x,d b=Zy)/\W (i+1) m d) E' E:=by
 let a9:=iJ (X:=Y) _ E _ h (.ref D) [l] (.ref D) [y] (λ_ k=>k=upd h D (.lst (ys++[l]))) P U (.cons Q .nil)
  #[ys,F,R,U]
 calc ZO a9 (λ_ x0 zz=>?_) λ_ _ z=>(hx _ _ z).elim;cases zz,_,k,c,_,H;subst H;cases hN _ n9,q,hm,w9;calc#[q,hm,_,c.unpinned,T.keep _ _ _ j λb r o e=>(c.pin (b,o) (hE _ (hE _ (nE r e)))).1,λb r=>?_,w9];cases T.obj _ _ j b r,o,e,_;calc (c.pin (b,o) (hE _ (hE _ (nE r e)))).2.1
def Ii {it:Zs}{tn:O->ZN->Prop}{J:It}{Q:VK}{E:bD}{RR:Zr->Zs->zat->Zp->Prop}(hc:X.calm=K')(B:BlkOk X x fv scope cl)(he:∀C s H j,PE (blk X x fv scope cl C s H j) elt te)(I:Inv X a σ H d)(T:Turn X.prog X.w X.K (.Name x px) J j it tn)(st:tn 0 d.heap)(hf:∀b∈j,eI X a H b)(rd:∀D,H D=Zy->∃W:O->O->Hp->Prop,(∃m,W 0 m (upd H D (.lst [])))/\∀i m H,W i m H->
   (J.stop i H/\Q (.ref D) H)\/(J.go i H/\∃N:Hp->Prop,(∀h,N h->∃m',m'<m/\W (i+1) m' h)/\∀v h,J.yld i H v h->te (bst fv σ (Zz v)) h λy H2=>∃ys,H2 D=Zz (.lst ys)/\ys.9<Zg/\N (upd H2 D (.lst (ys++[y])))))(m1:∀D C s' h m',Inv X a σ h s'->eI X a h C->s'.heap.Ns C m'->Q (.ref D) h->RR (.ref D) C (.ok .next) s'):
  Zf (Ze X.prog X.w) X.A (zae []) (λj0 k0=>Zf (Ze X.prog X.w) X.A (YU scope X.env.globals cl [] X.env.qual Zy .none (Zz X.env)) (λx0 n0=>
   Yv (Ze X.prog X.w) X.A (.compStart (.ListComp elt [#[.Name x px,iter,[],0]] scope pos) 0 (.ref it) j0 {x0 with scope:=ZP scope X.env}) (RR j0 x0.locals) n0) E k0) E d:=by
 refine YV ?_ (by show 0<=Zg;calc bh _);let hD:H d.7=Zy:=I.hok.fresh (aC _);let I3:=I.lnew (ys:=[]) (its:=[]) (t':=d.toks) .nil (bh _);generalize z0:({d with heap:=d.heap.push {cls:=.type "list",data:=.seq ([]:G Zr).toArray},toks:=d.toks}:Zp)=f at I3;let x2:f.7=d.7+1:=by rw[<-z0];exact Yx ..
 let x1:∀b o,d.heap.get? b=Zz o->f.heap.get? b=Zz o:=λb o e=>by rw[<-z0];exact Zl _ e
 let y1:∀b∈j,eI X a (upd H d.7 (.lst [])) b:=λb k=>by
  cases hf b k,f0,r;calc#[?_,r];cases T.obj 0 _ st b k,o,e,_;rw[aK (eK (Zo e))];exact f0
 let y2:∀b∈j,b<d.7:=λb k=>by
  cases T.obj 0 _ st b k,o,e,_;exact Zo e
 let z2:tn 0 f.heap:=T.keep 0 _ _ st λb _ o e=>x1 b o e;cases rd _ hD,W,#[m0,w0],z1;refine X9 B.nocell (by intro y hy;simp at hy) (λl M P=>?_) B.kind;let u1:∀b∈j,b≠f.7:=λb k=>eK #v[x2,qJ (y2 b k)];let v1:∀b o,f.heap.get? b=Zz o->l.get? b=Zz o:=λb o e=>P.extBut b o (eK (Zo e)) (Zl _ e);generalize u0:({f with heap:=l,toks:=f.toks+([]:G (Str×Zr)).9}:Zp)=s4;let h4:s4.heap=l:=by rw[<-u0]
 let I4:Inv (blk X x fv scope cl f.7 f (upd H d.7 (.lst [])) j) [] (bst fv σ Zy) (upd H d.7 (.lst [])) s4:=
  Ig B I3 y1 U u1 (by rw[<-u0]) (by rw[<-u0]) (λb o e=>#v[h4,v1 b o e]) #v[h4,M]
 let j1:tn 0 s4.heap:=by rw[h4];exact T.keep 0 _ _ z2 λb _ o e=>v1 b o e
 let F:∀{h:Hp},(∀b∈j,h b=Zy)->∀b∈j,eI (blk X x fv scope cl f.7 f (upd H d.7 (.lst [])) j) [] h b:=λ{h} hn b k=>by
  cases hf b k,_,f1,f2,f3,f4,f5;calc#[hn b k,u1 b k,λz=>?_,.inl k,λy c e=>f4 y c (B.sub y c e),λp hp=>Zq (show p∈([]:aN) from hp) ⋯];rcases bV.mp (I.stkSub b z) with q|q
  .exact f1 q
  .exact f2 q
 let y0:Yv (Ze X.prog X.w) X.A (.compLoop (.ListComp elt [#[.Name x px,iter,[],0]] scope pos) 0 (.ref it) (.ref d.7) (Ym scope cl f.7 X.env)) (RR (.ref d.7) f.7) s4:=by
  refine Ct (λn s'=>∃i h o,Inv (blk X x fv scope cl f.7 f (upd H d.7 (.lst [])) j) [] (bst fv σ o) h s'/\tn i s'.heap/\(∀b∈j,h b=Zy)/\W i n h) ?_ m0
   #[0,_,Zy,I4,j1,λb k=>(y1 b k).1,w0]
  rintro n s5 E' ⟨i,H5,o5,I5,st5,fr5,w5⟩
  rcases z1 i n H5 w5 with ⟨stop,q⟩|⟨go,N,hN,step⟩
  .calc thn (T.done (blk X x fv scope cl f.7 f (upd H d.7 (.lst [])) j) U U U hc i [] s5 _ H5 _ I5 (F fr5) st5 stop) λr s6 R=>?_;cases R,hr,I6;subst hr;cases I6.loc,m6,u2,_;let J6:Inv X a σ H5 s6:=sZ I I6.hok I6.bare hD x1 I6.base (I6.os.trans (by rw[<-z0])) hf;calc m1 _ _ s6 H5 m6 J6 ?_ u2 q;exact I3.fpOk (aC _) I6.free
  .calc thn (T.item (blk X x fv scope cl f.7 f (upd H d.7 (.lst [])) j) U U U hc i [] s5 _ H5 _ I5 (F fr5) st5 go) λr s6 R=>?_;cases R,u,hr,h6;subst hr;calc thn h6 λ_ s7 R=>?_;cases R,v,H7,I7,r7,y7,g1,v2;let j2:=I7.pinned (F v2) (T.obj _ _ g1);calc Ih B j2 r7 λs8 I8=>?_;let e8:=he _ _ _ _ _ s8 _ H7 _ I8 (step v H7 y7);calc ZO e8 (λy s9 R=>?_) λ_ _ z=>ZM z;cases R,yv,H9,I9,r9,ys,k2,hz,n9;let a9:=s_ (E':=E') T (λ_ _ z=>z) g1 I9 r9 k2 hz n9 hN;calc ZO a9 (λ_ y3 R=>?_) λ_ _ z=>z;cases R,m',hm,g2,m2,n2,x3,w9;exact#[m',hm,i+1,g2,_,m2,n2,x3,w9]
 calc YT y0 (T.self _ 0 _ _ _ j1 y0)
end
section
variable {X:Cx}{elt iter:ZU}{x:Str}{px:Pos}{fv:G (O×Str)}{scope:Z4}{cl:G (Str×Zs)}{pos:Pos}{te:TE}{wi:TI}
def fu (k:X.calm=K')(B:BlkOk X x fv scope cl)(hi:PI X (.Name x px) iter wi)(l:∀C s H i,PE (blk X x fv scope cl C s H i) elt te)(hs:f' (∀v,ZA iter X.env v=pure v) C'):PE X (.ListComp elt [#[.Name x px,iter,[],0]] scope pos) (pd fv wi te):=by
 intro a s j H Q I h;rw[zb3];calc ZH (use:=Zy) U hs B.clos B.kind B.names (thn (hi a s j H _ I h) λv s1 m=>thn m λn s2 r=>?_);cases r,it,i,tn,J,H2,e,u,T,d,y,z;subst e;calc Ii (RR:=λf C=>zac (Ze X.prog X.w) X.A X.xe Zy (EP X a j Q) f C) k B l u T d y z ?_;intro D C E F M P c R q;calc#[M,R,λh' sb=>#[.ref D,F,P.turned (t':=E.toks) (λb o hb e=>(sb.2 b hb).trans e) c.1 c.2.1 c.2.2.2.1 c.2.2.2.2.1 c.2.2.2.2.2,U,q]]
def jL {i:O}{j d:Pos}(hc:X.calm=K')(B:BlkOk X x fv scope cl)(hi:PI X (.Name x px) iter wi)(he:∀C s H P,PE (blk X x fv scope cl C s H P) elt te)(hN:X.N.Nodup)(l:X.N[i]?=W y)(hy:X.env.scope.names.lookup y=W .local)(m:f' (Y6 (.ListComp elt [#[.Name x px,iter,[],0]] scope pos) (W (.Name y j)) d.line X.env=pure K') F')(hs:f' (∀v,ZA iter X.env v=pure v) C'):
  PS X (.Assign [.Name y j] (.ListComp elt [#[.Name x px,iter,[],0]] scope pos) d) (l_ (pd fv wi te) (ip i)):=by
 intro c s R H D I h;rw[YQ _ _ _ _ m];calc Zm (Yk (Zm ?_));show Zf _ X.A (do let _ <-zaq (.ListComp elt [#[.Name x px,iter,[],0]] scope pos) scope X.env _ (zae []) O' (ZJ iter X.env) (W (Z5 (.Name y j) X.env))) _ _ s;refine Zm (ZO (ZH (use:=W (Z5 (.Name y j) X.env)) (Q:=λ_ k=>SP X c D .next k) U hs B.clos B.kind B.names
  (thn (hi c s R H _ I h) λv s1 h1=>thn h1 λx0 s2 h2=>?_)) (λ_ k hq=>Zd (Zd hq)) λ_ _ e=>e)
 cases h2,it,P,tn,J,H2,e,I2,T,n,f2,rd;subst e;calc Ii (Q:=λx H1=>ip i x R H1 D.nx) (RR:=λr C=>zac (Ze X.prog X.w) X.A X.xe (W (Z5 (.Name y j) X.env)) (λ_ k=>SP X c D .next k) r C) hc B he I2 T n f2 rd ?_;intro Dl C k H' m' I' f hn q;show Zf _ X.A (Z5 (.Name y j) X.env (.ref Dl)) _ _ _;calc Yz (oZ I' hN l (.inl hy) (v:=.ref Dl) U (λu z E=>?_) (.inr hy));cases E,a,sb,ha;let F:C≠a:=by
  rcases ha with rfl|e
  .exact f.2.1
  .exact ZQ (f.2.2.2.2.1 _ _ e)
 calc#[m',hn.sameBut sb F,λh' M=>#[_,H',z.turned (t':=u.toks) (λb o hb e=>(M.2 b hb).trans e) f.1 f.2.1 f.2.2.2.1 f.2.2.2.2.1 f.2.2.2.2.2,q]]
end
def mj (lo c:Y)(n:O):It:=#[λi _=>i<n,λi H x H'=>H'=H/\x=.int (lo+i*c),λi _=>n<=i]
def P_ {K:ao}(it:Zs)(lo c:Y)(n:O):Turn P w K R (mj lo c n) [it] it (λi h=>zbg h it (lo+(i:O)*c) ((n:Y)-(i:O)) c) where
 mem:=by simp
 obj:=λi h st b d=>by
  let e:b=it:=by simpa using d
  subst e;exact⟨_,st,λv z=>by
   let z':zau _=X4 v:=z
   cases z'⟩
 keep:=λi h j st k=>k it ⋯ _ st
 item:=by
  intro X hP m hK q i a s M H E I l st r;subst hP m hK;obtain⟨u,x,f2,y,C,F⟩:=l it ⋯;let W:=zd3 (prog:=X.prog) (w:=X.w) (I.ok.hd q) it lo c n;calc W.item i s _ _ r st λv j Q hv f kk=>?_;cases hv,t,rfl;let I1:Inv X a M H {s with heap:=j,toks:=Q}:=I.turned (λb o d e=>kk b o (⇑d) e) u x y C F;exact#[_,U,su (s:={s with heap:=j,toks:=Q}) (n := "range_iterator") f U U () #[.int (lo+i*c),H,I1,#[t,U],#[U,U],f,λb d=>(l b d).1]]
 done:=by
  intro X hP m hK q i a s M H E I l st r;subst hP m hK;obtain⟨u,x,f2,y,C,F⟩:=l it ⋯;exact zch (I.ok.hd q) st (by let:n<=i:=r;lk) λj eb=>#[U,I.turned (t':=s.toks) (λb o d e=>eb b o d e) u x y C F]
 self:=λ_ _ _ _ _ st h=>zci st h
section
variable {X:Cx}{tg:ZU}
def Ij (ta:TA):TI:=λσ H R=>ta σ H λvs H1=>∃(i j k:Y)(n:O),vs=[.int i,.int j,.int k]/\k≠0/\k.8<1073741824/\Z3 i j k=K'/\ZR i j k=n/\R (mj i k n) H1
def pf {a b c:ZU}{p pos:Pos}(F:Gl X "range")(M:X.mg "range" = Zy)(P:PA X [a,b,c] z)(hs:f' (Za [a,b,c] X.env=[(O',ZJ a X.env),(O',ZJ b X.env),(O',ZJ c X.env)]) F')(m:f' (Za [b,c] X.env=[(O',ZJ b X.env),(O',ZJ c X.env)]) F'):PI X tg (.Call (.Name "range" p) [a,b,c] [] pos) (Ij z):=by
 intro f s C H R I h;refine Call_ (jg I F M zdv (ZS (thn (P pos f s C H _ I h) λus l Q=>?_) (by rw[hs,m]) (by rw[m];rfl)));cases Q,vs,E,I1,r1,q1;cases q1,i,j,k,n,e,hk,u,x,hn,q;subst e
 cases r1 with
 |cons r rr=>
  cases rr with
  |cons r' rr=>
   cases rr with
   |cons r'' rr=>
    cases rr
    cases r,t,rfl;cases r',t',rfl;cases r'',d,rfl;calc call_range_3 hk ?_ (.inl (za9 u));calc zdr (zdo ..) x ?_;let y:Inv X f C E {l with heap:=l.heap.push {cls:=.type "range",data:=.fields (Zi [.int i t,.int j t',.int k d])},toks:=l.toks}:=I1.kept λb o e=>Zl _ e;refine⟨(l.heap.push {cls:=.type "range",data:=.fields (Zi [.int i t,.int j t',.int k d])}).objs.size,[(l.heap.push {cls:=.type "range",data:=.fields (Zi [.int i t,.int j t',.int k d])}).objs.size],_,_,E,rfl,
     y.kept (t':=l.toks) λb o e=>Zl _ e,P_ _ i k n,?_,λb hb=>?_,q⟩
    .let e1:i+((0:O):Y)*k=i:=by simp
     let e2:((n:O):Y)-((0:O):Y)=ZR i j k:=by rw[hn];simp
     show zbg _ _ (i+((0:O):Y)*k) (((n:O):Y)-((0:O):Y)) k;rw[e1,e2];exact ZV _ U
    .let e:b=(l.heap.push {cls:=.type "range",data:=.fields (Zi [.int i t,.int j t',.int k d])}).objs.size:=by simpa using hb
     subst e;calc y.fpOk (aC _) (y.hok.fresh (aC _))
end
def Qa {lo c:Y}{n:O}{g:TG}{tb:TS}{D:Ends}{a:St}{H:Hp}(b:O->St->Hp->Prop)(l:b 0 a H)(hs:∀i a H,i<n->b i a H->g (.int (lo+i*c)) a H λd j=>tb {D with nx:=b (i+1),ct:=b (i+1),bk:=D.nx} d j)(hd:∀a H,b n a H->D.nx a H):
  ∃q:O->O->St->Hp->Prop,(∃m,q 0 m a H)/\∀i m a H,q i m a H->
   ((mj lo c n).stop i H/\D.nx a H)\/((mj lo c n).go i H/\∃N:fM,(∀f h,N f h->∃k,k<m/\q (i+1) k f h)/\∀x h,(mj lo c n).yld i H x h->g x a h λd j=>tb {D with nx:=N,ct:=N,bk:=D.nx} d j):=by
 refine#[λi m a H=>m=n-i/\i<=n/\b i a H,#[n,by simp,bh _,l],?_]
 rintro i m a H ⟨rfl,hi,p⟩
 by_cases hlt:i<n
 .calc .inr #[hlt,b (i+1),λf h o=>#[n-(i+1),(),U,hlt,o],λx h y=>?_];cases y,e,y;subst e y;exact hs i a _ hlt p
 .let e:i=n:=()
  subst e;calc .inl #[aC _,hd a H p]
def Qb {K:ao}{xs:G V}{j:TE}{Q:VK}(b:dG)(o:b 0 (upd l D (.lst [])))(r:∀i H,i<=xs.9->b i H->SqL K H a xs)(hs:∀i v H,xs[i]?=W v->b i H->j (bst h k (W v)) H λy f=>∃c,f D=W (.lst c)/\c.9<Zg/\b (i+1) (upd f D (.lst (c++[y]))))(hd:∀H,b xs.9 H->Q (.ref D) H):
  ∃u:O->O->Hp->Prop,(∃m,u 0 m (upd l D (.lst [])))/\∀i m H,u i m H->
   ((Itl K a).stop i H/\Q (.ref D) H)\/((Itl K a).go i H/\∃N:Hp->Prop,(∀d,N d->∃n,n<m/\u (i+1) n d)/\∀v d,(Itl K a).yld i H v d->j (bst h k (W v)) d λy f=>∃c,f D=W (.lst c)/\c.9<Zg/\N (upd f D (.lst (c++[y])))):=by
 refine#[λi m H=>m=xs.9-i/\i<=xs.9/\b i H,#[xs.9,by simp,bh _,o],?_]
 rintro i m H ⟨rfl,hi,p⟩
 let q:=r i H hi p;by_cases hlt:i<xs.9
 .calc .inr #[#[xs,xs[i],q,aq hlt],b (i+1),λd s=>#[xs.9-(i+1),(),U,hlt,s],λv d y=>?_];cases y,e,y;subst e;exact hs i v _ (y xs q) p
 .let e:i=xs.9:=()
  subst e;calc .inl #[#[xs,q,aC _],hd H p]
def Qc {lo:Y}{n:O}{h:TE}{Q:VK}(c:dG)(o:c 0 (upd k D (.lst [])))(hs:∀i H,i<n->c i H->h (bst f j (W (.int (lo+i)))) H λy d=>∃a,d D=W (.lst a)/\a.9<Zg/\c (i+1) (upd d D (.lst (a++[y]))))(hd:∀H,c n H->Q (.ref D) H):
  ∃r:O->O->Hp->Prop,(∃m,r 0 m (upd k D (.lst [])))/\∀i m H,r i m H->
   ((Itr lo n).stop i H/\Q (.ref D) H)\/((Itr lo n).go i H/\∃N:Hp->Prop,(∀b,N b->∃l,l<m/\r (i+1) l b)/\∀v b,(Itr lo n).yld i H v b->h (bst f j (W v)) b λy d=>∃a,d D=W (.lst a)/\a.9<Zg/\N (upd d D (.lst (a++[y])))):=by
 refine#[λi m H=>m=n-i/\i<=n/\c i H,#[n,by simp,bh _,o],?_]
 rintro i m H ⟨rfl,hi,p⟩
 by_cases hlt:i<n
 .calc .inr #[hlt,c (i+1),λb q=>#[n-(i+1),(),U,hlt,q],λv b y=>?_];cases y,e,y;subst e y;exact hs i _ hlt p
 .let e:i=n:=()
  subst e;calc .inl #[aC _,hd H p]
def cU {a:G (Str×Zs)}:∀y c,([]:G (Str×Zs)).lookup y=W c->a.lookup y=W c:=λ_ _ h=>nomatch h
def eC {n:Str}{r a:G (Str×Zs)}(d:a.lookup n=W b)(h:∀y c,r.lookup y=W c->a.lookup y=W c):∀y c,((n,b)::r).lookup y=W c->a.lookup y=W c:=λy c q=>by
 rw[Es]at q
 cases e:y == n with
 |true=>
  rw[e]at q
  cases q
  rw[eq_of_beq e];calc d
 |false=>
  rw[e]at q;calc h y c q
def Cv {l:G (Str×zbv)}{cl:G (Str×Zs)}(h:(l.all λp=>(p.2 != .cell && p.2 != .free) || (cl.lookup p.1).isSome)=K'):∀y,(l.lookup y=W .cell\/l.lookup y=W .free)->∃c,cl.lookup y=W c:=λy hy=>by
 let a:∀k,l.lookup y=W k->(k=.cell\/k=.free)->∃c,cl.lookup y=W c:=λk e hk=>by
  let q:=List.all_eq_true.mp h (y,k) (Z8 e);let z:(k != .cell && k != .free)=O':=by rcases hk with rfl|rfl <;> rfl
  rw[show ((y,k).2 != .cell && (y,k).2 != .free)=O' from z,Bool.false_or]at q;exact Vr.mp q
 rcases hy with e|e
 .exact a _ e (.inl U)
 .calc a _ e (.inr U)
def ph (X:Cx)(x:Str)(scope:Z4)(cl:G (Str×Zs))(fv:G (O×Str)):Prop:=
 ∀p∈fv,p.2≠x/\X.N[p.1]?=W p.2/\(X.env.scope.names.lookup p.2=W .cell\/X.env.scope.names.lookup p.2=W .free)/\
  ((ZP scope X.env).names.lookup p.2=W .cell\/(ZP scope X.env).names.lookup p.2=W .free)/\∃c,cl.lookup p.2=W c
def dC:ph X x a cl []:=λ_ h=>nomatch h
def fy {X:Cx}{x:Str}{cl:G (Str×Zs)}(i:O)(y:Str)(e:y≠x)(f:X.N[i]?=W y)(h:X.env.scope.names.lookup y=W .cell\/X.env.scope.names.lookup y=W .free)(j:(ZP a X.env).names.lookup y=W .cell\/(ZP a X.env).names.lookup y=W .free)(k:∃c,cl.lookup y=W c)(r:ph X x a cl d):ph X x a cl ((i,y)::d):=λp b=>by
 rcases bV.mp b with rfl|b
 .exact#[e,f,h,j,k]
 .calc r p b
def dJ {X:Cx}(clos:Y9 a X.env=pure cl)(sub:∀y c,cl.lookup y=W c->X.env.cells.lookup y=W c)(fvs:ph X x a cl b)(kind:f' (a.kind=.function) F')(here:f' (a.names.lookup x=W .local) F')(nocell:f' (∀y∈a.names,y.2≠.cell) J')(names:f' (∀y∈a.names,y.2=.local->a.names.lookup y.1=W .local) J')(has:f' (((ZP a X.env).names.all λp=>(p.2 != .cell && p.2 != .free) || (cl.lookup p.1).isSome)=K') F'):BlkOk X x b a cl:=
 #[clos,nocell,kind,names,here,sub,Cv has,fvs]
section
variable {X:Cx}
def tf:ir X (.builtin "isinstance") (λa H Q=>∃x n t b,a=[x,.ty n]/\TyOf X.K H x t/\zcn X.K t (.type n)=W b/\Q (.bl b) H):=by
 intro c s i H a j Q I d h;obtain⟨x,n,t,b,rfl,f,e,q⟩:=h
 cases d with
 |cons r rr=>
  cases rr with
  |cons r' rr=>
   cases rr
   cases r'
   calc Po I r f e λk=>#[.bl b,H,I.tok _,U,q]
def Ik:MtR X "int.bit_length" (λx a H Q=>∃i,x=.int i/\a=[]/\Q (.int (Builtin.Int.intBits i:O)) H):=by
 intro b s e H x a v f Q I c d h;obtain⟨i,rfl,rfl,q⟩:=h
 cases d
 cases c,t,rfl;calc call_gives F.slot_int_bit_length (zbr s i t) F.entry_int_bit_length (F.args_int_bit_length_1 _) (PySem.AutoIntG2.int_bit_length_int_0 i t) #[.int _,H,I.tok _,#[_,U],q]
end
def Cw {i:Y}{k:O}(h:i.8<2^k):ZC i<=k:=by
 unfold ZC
 split
 .exact bh _
 .rename_i a;let b:i≠0:=by simpa using a
  let:i.natAbs.log2<k:=(Et ()).mpr h;lk
def Qd {i j:Y}{k l:O}(a:i.8<2^k)(b:j.8<2^l)(h:k+l<=134217728):zbw i j:=IntMulOk.of_le (Cw a) (Cw b) h
def mn:OpR X (Yh .FloorDiv) (rI (λ_ j=>j≠0/\j.8<2^9000) λi j=>.int (i.fdiv j)):=
 opI λ_ j _ _ _ _ _ a q=>zcm a.1 q (.inl (PyProof.noPylong_of_log2 ((Et (by let:=a.1;lk)).mpr a.2)))
section
variable {σ:St}{H:Hp}{Q:VK}{D:Ends}{t u:TS}{te ta tb tc to ti:TE}{tt:TT}{tA:TA}{i:O}{x y v:V}{r r':R2}{QT:Yl->Hp->Prop}{QA:G V->Hp->Prop}
theorem Cy:ku t u D σ H=t {D with nx:=u D} σ H:=rfl
theorem tj:GP D σ H=D.nx σ H:=rfl
theorem tm:GQ D σ H=D.ct σ H:=rfl
theorem tq:GR te D σ H=te σ H λ_ a=>D.nx σ a:=rfl
theorem tu:GS te D σ H=te σ H D.rt:=rfl
theorem tD:GT tt t u D σ H=tt σ H λb a=>if b=K' then t D σ a else u D σ a:=rfl
theorem tE:l_ te g D σ H=te σ H λx a=>g x σ a D.nx:=rfl
theorem tG {Q:fM}:ip i v σ H Q=Q (σ.set i (W v)) H:=rfl
theorem tH {Q:fM}:GU to ti a v σ H Q=to σ H λo b=>ti σ b λi c=>a o i v c λd=>Q σ d:=rfl
theorem tI {K:ao}{n:O}{Q:fM}:Ca K n c v σ H Q=∃a b,v=.ref a/\SqT K H a b/\b.9=n/\c b σ H Q:=rfl
theorem tJ {Q:fM}:B_ vs σ H Q=(vs=[]/\Q σ H):=rfl
theorem tK {Q:fM}:sn g gs vs σ H Q=∃v r,vs=v::r/\g v σ H λa b=>gs r a b Q:=rfl
theorem tL:GV i te a D σ H=kn σ[i]? λx=>te σ H λy b=>a x y b λz c=>D.nx (σ.set i (W z)) c:=rfl
theorem tO:GW to ti te a c b D σ H=to σ H λo d=>ti σ d λi e=>a o i e λx f=>te σ f λy h=>c x y h λz j=>b o i z j λk=>D.nx σ k:=rfl
theorem tQ:ipI f x y H Q=kI x λi=>kI y λj=>Q (.int (f i j)) H:=rfl
theorem tS:B7 i σ H Q=kn σ[i]? λv=>Q v H:=rfl
theorem a_c:tC v σ H Q=Q v H:=rfl
theorem tT:tOp r ta tb σ H Q=ta σ H λx a=>tb σ a λy b=>r x y b Q:=rfl
theorem tU {r:V->Hp->VK->Prop}:tUn r ta σ H Q=ta σ H λx a=>r x a Q:=rfl
theorem tV:rI C g x y H Q=kI x λi=>kI y λj=>C i j/\Q (g i j) H:=rfl
theorem tX:rI0 g x y H Q=kI x λi=>kI y λj=>Q (g i j) H:=rfl
theorem tY:rU g x H Q=kI x λi=>Q (g i) H:=rfl
def tZ {i j:Y}:rEq (.int i) (.int j) H Q=Q (.bl (decide (i=j))) H:=by
 show (K'=K'/\Q (.bl (decide (V.int i=V.int j))) H)=_;rw[show decide (V.int i=V.int j)=decide (i=j) by rw[sD];calc zbx i j];simp
def t_ {i j:Y}:rNe (.int i) (.int j) H Q=Q (.bl (!decide (i=j))) H:=by
 show (K'=K'/\Q (.bl (!decide (V.int i=V.int j))) H)=_;rw[show decide (V.int i=V.int j)=decide (i=j) by rw[sD];calc zbx i j];simp
def ua {i j:Yl}:rEq (.bl i) (.bl j) H Q=Q (.bl (decide (i=j))) H:=by
 show (K'=K'/\Q (.bl (decide (V.bl i=V.bl j))) H)=_
 cases i <;> cases j <;> simp
def ub {i j:Yl}:rNe (.bl i) (.bl j) H Q=Q (.bl (!decide (i=j))) H:=by
 show (K'=K'/\Q (.bl (!decide (V.bl i=V.bl j))) H)=_
 cases i <;> cases j <;> simp
theorem uc:tB te σ H QT=te σ H λx a=>kB x λc=>QT c a:=rfl
theorem ud:Hi te σ H QT=te σ H λx a=>kB x λk=>QT k a:=rfl
theorem ue:GM tt a σ H QT=tt σ H λc b=>if c=K' then a σ b QT else QT O' b:=rfl
theorem uf:tOr tt a σ H QT=tt σ H λc b=>if c=K' then QT K' b else a σ b QT:=rfl
theorem ug:GN tt σ H QT=tt σ H λc a=>QT (!c) a:=rfl
theorem uh:ON ta tb σ H Q=ta σ H λx a=>∃c,x=.bl c/\if c=K' then tb σ a Q else Q (.bl O') a:=rfl
theorem ui:GO ta tb σ H Q=ta σ H λx a=>∃c,x=.bl c/\if c=K' then Q (.bl K') a else tb σ a Q:=rfl
theorem uk:OO ta σ H Q=ta σ H λx a=>∃c,x=.bl c/\Q (.bl (!c)) a:=rfl
theorem um:tIf tt ta tb σ H Q=tt σ H λc a=>if c=K' then ta σ a Q else tb σ a Q:=rfl
theorem uo:Cj σ H QA=QA [] H:=rfl
theorem uq:Ck ta tA σ H QA=ta σ H λx a=>tA σ a λb c=>QA (x::b) c:=rfl
theorem ur:HB tA σ H Q=tA σ H λa b=>a.9<=Zg/\∀p,b p=Zy->Q (.ref p) (upd b p (.lst a)):=rfl
theorem uu:Hu tA σ H Q=tA σ H λa b=>a.9<=Zg/\∀p,b p=Zy->Q (.ref p) (upd b p (.tup a)):=rfl
theorem uv:sL sp a E tA σ H Q=tA σ H λb c=>sp (b++a) c Q E:=rfl
theorem uw {r:G V->Hp->VK->Prop}:tCB r tA σ H Q=tA σ H λa b=>r a b Q:=rfl
theorem uz {K:ao}{T:YL}{r:V->G V->Hp->VK->Prop}:HU K T r to σ H Q=to σ H λx a=>tyV K T x a/\r x [] a Q:=rfl
theorem uA {K:ao}{T:YL}{r:V->G V->Hp->VK->Prop}:tBM K T r to tA σ H Q=to σ H λx a=>tyV K T x a/\tA σ a λb c=>r x b c Q:=rfl
theorem uB {r:V->Zk Y->Zk Y->Hp->VK->Prop}:tSl r te a b σ H Q=te σ H λx c=>a σ c λl d=>b σ d λu e=>r x l u e Q:=rfl
theorem uC {Q:Zk Y->Hp->Prop}:HK σ H Q=Q Zy H:=rfl
theorem uD {Q:Zk Y->Hp->Prop}:HL te σ H Q=te σ H λx a=>∃i,x=.int i/\Q (W i) a:=rfl
theorem uE {K:ao}{T:YL}{i:Y}:tyV K T (.int i) H=(T = "int"):=rfl
def iz {K:ao}(h:SqL K H p xs):tyV K "list" (.ref p) H:=.inl #[U,xs,h]
end
def kz (J:It)(g:TG)(tb:TS)(D:Ends)(σ:St)(H:Hp):Prop:=∃W:O->O->St->Hp->Prop,(∃m,W 0 m σ H)/\∀i m σ H,W i m σ H->
 (J.stop i H/\D.nx σ H)\/(J.go i H/\∃N:fM,(∀σ' H',N σ' H'->∃m',m'<m/\W (i+1) m' σ' H')/\∀x H',J.yld i H x H'->g x σ H' λσ2 H2=>tb {D with nx:=N,ct:=N,bk:=D.nx} σ2 H2)
theorem uF:G8 b g tb D a H=b a H λd c=>kz d g tb D a c:=rfl
def mo (J:It)(fv:G (O×Str))(te:TE)(Q:VK)(σ:St)(H1:Hp)(D:Zs):Prop:=∃W:O->O->Hp->Prop,(∃m,W 0 m (upd H1 D (.lst [])))/\∀i m H,W i m H->
 (J.stop i H/\Q (.ref D) H)\/(J.go i H/\∃N:Hp->Prop,(∀H',N H'->∃m',m'<m/\W (i+1) m' H')/\∀v H',J.yld i H v H'->te (bst fv σ (Zz v)) H' λy H2=>∃ys,H2 D=Zz (.lst ys)/\ys.9<Zg/\N (upd H2 D (.lst (ys++[y]))))
theorem uG:pd b c d a H Q=c a H λf e=>∀D,e D=Zy->mo f b d Q a e D:=rfl
theorem uH {K:ao}:Cd K b c H R=b c H λx d=>kR x λa=>(∃e,SqL K d a e)/\R (Itl K a) d:=rfl
theorem uI:G5 a b H R=a b H λc d=>k1 c λx=>kI x λj=>-(2^62)<=j/\j<2^62/\R (Itr 0 j.toNat) d:=rfl
theorem uJ:G6 a b H R=a b H λc d=>∃i j:Y,c=[.int i,.int j]/\(-(2^62)<=i/\i<2^62/\-(2^62)<=j/\j<2^62)/\R (Itr i (j-i).toNat) d:=rfl
theorem uK:Ij a b H R=a b H λc d=>∃(i j k:Y)(n:O),c=[.int i,.int j,.int k]/\k≠0/\k.8<1073741824/\Z3 i j k=K'/\ZR i j k=n/\R (mj i k n) d:=rfl
def iA {c:TT}{tb:TS}{D:Ends}{a:St}{H:Hp}(e:O->St->Hp->Prop)(m:O)(j:e m a H)(hs:∀m a H,e m a H->c a H λb f=>if b=K' then ∃N:fM,(∀d h,N d h->∃i,i<m/\e i d h)/\tb {D with nx:=N,ct:=N,bk:=D.nx} a f else D.nx a f):GY c tb D a H:=#[e,#[m,j],hs]
section
variable {σ:St}{H:Hp}{Q:VK}{x y v:V}{K:ao}
theorem uL {lo hi:Zk Y}:HQ K x lo hi H Q=kR x λa=>∃b,SqL K H a b/\∀p,H p=Zy->Q (.ref p) (upd H p (.lst (gj b lo hi))):=rfl
theorem uM:sU K x y H Q=kR x λp=>kI y λi=>∃a v,SqL K H p a/\atI a i=W v/\Q v H:=rfl
theorem uN:Co K x y H Q=kR x λp=>kI y λi=>∃a v,SqT K H p a/\atI a i=W v/\Q v H:=rfl
theorem uO {Q:Hp->Prop}:HP x y v H Q=kR x λp=>kI y λk=>∃a j,H p=W (.lst a)/\ixN a.9 k=W j/\Q (upd H p (.lst (a.set j v))):=rfl
theorem uP:HZ x vs H Q=kR x λl=>k1 vs λy=>∃a,H l=W (.lst a)/\a.9<Zg/\Q .non (upd H l (.lst (a++[y]))):=rfl
def Qe (ns:aa)(lo hi:Zk Y):gj (ns.map V.int) lo hi=((ns.drop (HT.sIx ns.9 0 lo)).take (HT.sIx ns.9 ns.9 hi-HT.sIx ns.9 0 lo)).map V.int:=by
 unfold gj;rw[af,Nf,Ng]
end
def b4:ZF "len" = W (.builtin "len"):=by decide +kernel
def mq:ZF "abs" = W (.builtin "abs"):=by decide +kernel
def uQ:ZF "isinstance" = W (.builtin "isinstance"):=by decide +kernel
def nI:ZF "min" = W (.builtin "min"):=by decide +kernel
def jM:ZF "max" = W (.builtin "max"):=by decide +kernel
def Qf:ZF "int" = W (.type "int"):=by decide +kernel
def Qg:ZF "bool" = W (.type "bool"):=by decide +kernel
def gY:ZF "list" = W (.type "list"):=by decide +kernel
def uR (t u:TS):TS:=λD σ H=>∃M:fM,t {D with nx:=M} σ H/\∀σ' H',M σ' H'->u D σ' H'
def gG {st:YD}{rest:G YD}(d:PS X st t)(e:PSs X rest u):PSs X (st::rest) (uR t u):=by
 intro a s i H D I h;cases h,M,h,j;refine za5 (thn (d a s i H {D with nx:=M} I h) λf k q=>?_)
 cases f with
 |next=>
  cases q,b,c,l,q;calc e a k b c D l (j b c q)
 |ret v=>calc q
 |brk=>calc q
 |cont=>calc q
def gl {t u:TS}{D:Ends}{b:St}{H:Hp}(M:fM)(d:t {D with nx:=M} b H)(e:∀a c,M a c->u D a c):uR t u D b H:=#[M,d,e]
theorem uS {K:ao}{N:G Str}:
  (me CX P w K mg base N b a f c A outer s H E).K=K:=rfl
section
variable {K:ao}{a:Zs}{xs:G V}{g:TG}{tb:TS}{D:Ends}{σ:St}{H H1:Hp}{fv:G (O×Str)}{te:TE}{Q:VK}{L:Zs}{lo c:Y}{n:O}
def fZ (b:dG)(e:b 0 (upd H1 L (.lst [])))(f:∀i H,i<=xs.9->b i H->SqL K H a xs)(hs:∀i v H,xs[i]?=W v->b i H->te (bst fv σ (W v)) H λy d=>∃c,d L=W (.lst c)/\c.9<Zg/\b (i+1) (upd d L (.lst (c++[y]))))(hd:∀H,b xs.9 H->Q (.ref L) H):
  mo (Itl K a) fv te Q σ H1 L:=Qb b e f hs hd
def uT (a:dG)(d:a 0 (upd H1 L (.lst [])))(hs:∀i H,i<n->a i H->te (bst fv σ (W (.int (lo+i)))) H λy c=>∃b,c L=W (.lst b)/\b.9<Zg/\a (i+1) (upd c L (.lst (b++[y]))))(hd:∀H,a n H->Q (.ref L) H):
  mo (Itr lo n) fv te Q σ H1 L:=Qc a d hs hd
theorem kC (b:O->St->Hp->Prop)(d:b 0 σ H)(e:∀i σ H,i<=xs.9->b i σ H->SqL K H a xs)(hs:∀i v σ H,xs[i]?=W v->b i σ H->g v σ H λc f=>tb {D with nx:=b (i+1),ct:=b (i+1),bk:=D.nx} c f)(hd:∀σ H,b xs.9 σ H->D.nx σ H):kz (Itl K a) g tb D σ H:=OX b d e hs hd
def ie (a:O->St->Hp->Prop)(c:a 0 σ H)(hs:∀i σ H,i<n->a i σ H->g (.int (lo+i)) σ H λb d=>tb {D with nx:=a (i+1),ct:=a (i+1),bk:=D.nx} b d)(hd:∀σ H,a n σ H->D.nx σ H):kz (Itr lo n) g tb D σ H:=OY a c hs hd
def mr (a:O->St->Hp->Prop)(d:a 0 σ H)(hs:∀i σ H,i<n->a i σ H->g (.int (lo+i*c)) σ H λb e=>tb {D with nx:=a (i+1),ct:=a (i+1),bk:=D.nx} b e)(hd:∀σ H,a n σ H->D.nx σ H):kz (mj lo c n) g tb D σ H:=Qa a d hs hd
end
def V_ {j:Y}(a:0<=j)(b:j<2^60):Z3 0 j 2=K':=by
 unfold Z3;simp only[X6,ZR,YE,zdg,zax,zdw,show (2:Y) > 0 by decide,zaf]
 split <;> lk
section
variable {X:Cx}
def uU:GX X (sU X.K):=by
 intro a s m H o i M P Q I n u h;cases ib h,p,rfl,d;obtain⟨i,rfl,R,z,x,y,q⟩:=gg d
 cases n
 cases u,t,rfl;cases I.list x,e,r,pl,hz;cases Cn y,j,c,d,h3,C,E;cases r.get d,w,l,f;let F:=r.9;let hn:=o7;let b:EP X a m Q w s:=#[z,H,I,f,q]
 by_cases h0:0<=i
 .let k:i.toNat=j:=by
   rw[zbb h0 E]at c;exact ZY c
  exact wpAny_getItem_list pl.isList h0 () (by rw[k];simpa using l) b
 .let k:(i+(e.toArray.size:Y)).toNat=j:=by
   rw[zav () C]at c;rw[fh,<-F];exact ZY c
  exact zcj pl.isList () (by rw[fh] <;> lk) () (by rw[k];simpa using l) b
mutual
inductive DV (K:ao) (H:Hp):V->PyData->Prop
 | non:DV K H .non .none
 | bl (b):DV K H (.bl b) (.bool b)
 | int (i):DV K H (.int i) (.int i)
 | str (x):DV K H (.str x) (.str x)
 | lst {a xs ds}:SqL K H a xs->DVs K H xs ds->DV K H (.ref a) (.list ds)
 | tup {a xs ds}:SqT K H a xs->DVs K H xs ds->DV K H (.ref a) (.tuple ds)
inductive DVs (K:ao) (H:Hp):G V->G PyData->Prop
 | nil:DVs K H [] []
 | cons {x xs d ds}:DV K H x d->DVs K H xs ds->DVs K H (x :: xs) (d :: ds)
end
theorem DVs.ints {K:ao}:∀ns:aa,DVs K H (ns.map V.int) (ns.map Yw)
 |[]=>.nil
 |n::r=>.cons (.int n) (DVs.ints r)
def DV.ints {K:ao}{ns:aa}(h:SqL K H a (ns.map V.int)):DV K H (.ref a) (.list (ns.map Yw)):=.lst h (DVs.ints ns)
mutual
theorem DV.reads (I:Inv X a k H s):∀{x:V}{d:PyData}{v:Zr},DV X.K H x d->RelV x v->∃as,Reads s.heap v d as
 |_,_,_,.non,r=>by cases r;calc#[_,.none]
 |_,_,_,.bl b,r=>by cases r;calc#[_,.bool b]
 |_,_,_,.int i,r=>by cases r,t,rfl;calc#[_,.int i t]
 |_,_,_,.str x,r=>by cases r,t,rfl;calc#[_,.str x t]
 |_,_,_,.lst hq hs,r=>by
  cases r
  cases I.list hq,f,h,#[o,n,e,c,_,hd],_;cases DVs.reads I hs h,as,j;calc#[_,.list e c hd (⇑j)]
 |_,_,_,.tup hq hs,r=>by
  cases r
  cases I.tuple hq,f,h,#[o,e,c,n,hd],_;cases DVs.reads I hs h,as,j;calc#[_,.tuple e c hd (⇑j)]
theorem DVs.reads (I:Inv X a d H s):∀{b:G V}{ds:G PyData}{c:G Zr},DVs X.K H b ds->Vals b c->∃as,ReadsAll s.heap c ds as
 |_,_,_,.nil,r=>by cases r;calc#[_,.nil]
 |_,_,_,.cons h t,r=>by
  cases r with
  |cons r1 r2=>
   cases DV.reads I h r1,as,e;cases DVs.reads I t r2,bs,f;calc#[_,.cons e f]
end
def uV (j:X.A.units+64<cLine):OpR X (Z7 .Eq) (λx y H Q=>∃da db,DV X.K H x da/\DV X.K H y db/\da.canLay0=K'/\db.canLay0=K'/\da.depth<=64/\Q (.bl (Yg da db)) H):=by
 intro a s k H x y v u Q I b c h;cases h,da,db,hx,hy,d,e,hd,q;cases hx.reads I b,as,f;cases hy.reads I c,bs,i;calc PySem.SeqAt.eqOverData _ _ _ _ _ _ _ _ _ _ _ _ f i d e () #[.bl _,H,I,U,q]
def Il (j:X.A.units+64<cLine):OpR X (Z7 .NotEq) (λx y H Q=>∃da db,DV X.K H x da/\DV X.K H y db/\da.canLay0=K'/\db.canLay0=K'/\da.depth<=64/\Q (.bl (!PyData.eqv da db)) H):=by
 intro a s k H x y v u Q I b c h;cases h,da,db,hx,hy,d,e,hd,q;cases hx.reads I b,as,f;cases hy.reads I c,bs,i;calc PySem.SeqAt.neOverData _ _ _ _ _ _ _ _ _ _ _ _ f i d e () #[.bl _,H,I,U,q]
end
theorem Cz:∀a b:aa,Yu (a.map Yw) (b.map Yw)=decide (a=b)
 |[],[]=>by simp[Yu]
 |[],_::_=>by simp[Yu]
 |_::_,[]=>by simp[Yu]
 |x::a,y::b=>by
  let c:=Cz a b;simp only[fo,Yu,Yg,c];by_cases h:x=y
  .subst h;simp
  .simp[h]
theorem CA:∀a:aa,YZ (a.map Yw)=K'
 |[]=>rfl
 |_::r=>by simp[YZ,Z9,CA r]
theorem CB:∀a:aa,YR (a.map Yw)=0
 |[]=>rfl
 |_::r=>by simp[YR,Yb,CB r]
def Ite (K:ao)(a:Zs):It:=
 #[λi H=>∃xs x,SqL K H a xs/\xs[i]?=W x,λi H v H'=>∃p x,H p=Zy/\v=.ref p/\H'=upd H p (.tup [.int i,x])/\∀xs,SqL K H a xs->xs[i]?=W x,λi H=>∃xs,SqL K H a xs/\xs.9<=i]
def Qh {K:ao}{x0:G ZU}{tk:O}{tpos:Pos}(a e it:Zs)(y0:e≠it):
  Turn P w K (.Tuple x0 tk tpos) (Ite K a) [e,it] e (λi h=>(∃j,IsEnum h e it i j)/\h.IsListIter it a i) where
 mem:=by simp
 obj:=λi h st b f=>by
  cases st,#[j,l],o,ho,c,d;rcases bV.mp f with rfl|f
  .exact⟨_,l,λv z=>by
    let z':zau _=X4 v:=z
    cases z'⟩
  .rw[bZ.mp f];exact#[o,ho,λv z=>by rw[d]at z;cases z]
 keep:=λi h h' st k=>by
  cases st,#[j,l],hit;exact#[#[j,k e ⋯ _ l],hit.at λo q=>k it ⋯ o q]
 item:=by
  intro X hP hw hK y i C s σ H E I hf st hg;subst hP hw hK;cases hg,xs,x,hq,hx;cases I.list hq,j0,rv,pl,hz;cases rv.get hx,u,hu,ru;cases st,#[j,l],hit;let M:=hf e ⋯;let Q:=hf it ⋯;calc wpAny_pyNext_enum_item l hit pl.isList (x:=u) (⇑hu) y0 λh1 ho z0 hT y1 hk=>?_;calc#[_,U,wpAny_letOwnedTupleGo_enum ho λh2 k0 F=>?_];let R:H s.7=Zy:=I.hok.fresh (aC _);let n0:s.7≠e:=Na (Zo l);let k2:∀b o,b∉[e,it]->s.heap.get? b=W o->h2.get? b=W o:=λb o f q=>
   (F.2 b λz=>f (by simp[z])).trans (hk b o (λz=>f (by simp[z])) (λz=>f (by simp[z])) q)
  let x1:h2.get? s.7=W {cls:=.type "tuple",data:=.seq (Zi [.int i s.toks,u])}:=(F.2 _ n0).trans hT;let u0:∀b u,H b=W u->b∉[e,it]:=λb u q f=>by
   rcases bV.mp f with rfl|f
   .rw[M.1]at q;cases q
   .rw[bZ.mp f,Q.1]at q;cases q
  let up:∀b,b<s.7->b≠s.7:=λb f=>eK f;let I2:Inv X C σ (upd H s.7 (.tup [.int i,x])) {s with heap:=h2,toks:=s.toks+1}:=by
   refine I.step (g':=s.gens) (d':=s.drawn) (t':=s.toks+1) (ch:=[e,it]) (λb f=>?_) (λb o _ _ y q _=>k2 b o y q) (λb o _ _ y q _=>#[o.slots,k2 b o y q])
    (λb o _ q n=>#v[aK (up b (Zo q)),n]) (λb o y q=>#[o,k2 b o y q]) (λb ys q=>#v[aK (fH q R),q]) (λb o v q=>#v[aK (fH q R),q])
    (λb ps q=>#[(Zi []),by rw[aK (fH q R),q];simp]) (λm hm=>?_) (λb v q=>?_) I.bare
   .rcases bV.mp f with rfl|f
    .exact#[M.2.2.2.1,M.2.1,M.2.2.2.2.1,M.2.2.2.2.2]
    .rw[bZ.mp f];exact#[Q.2.2.2.1,Q.2.1,Q.2.2.2.2.1,Q.2.2.2.2.2]
   .cases hm,o,es,ep,q,r;calc#[o,es,ep,k2 _ o (λz=>?_) q,r];rcases bV.mp z with z|z
    .exact M.2.1 z.symm
    .exact Q.2.1 (bZ.mp z).symm
   .by_cases f:b=s.7
    .subst f;rw[ai]at q;cases q;exact#[by show 2<=Zg;decide,[.int i s.toks,u],.cons #[_,U] (.cons ru .nil),#[_,x1,U,_,U]]
    .rw[aK f]at q;refine (I.hok b v q).stay (λc o y r=>k2 c o ?_ r) (λc r=>#v[aK (fH r R),r]) λc ys r=>by rw[aK (fH r R)];exact r
     rcases y with z|z
     .rw[z];exact u0 b v q
     .exact u0 c _ z
  refine#[.ref s.7,_,I2,U,#[_,x,R,U,U,λys hy=>#v[I.list_inj hy hq,hx]],#[#[_,by simpa using k0],z0.at λo q=>(F.2 it (ZQ y0)).trans q],λb f=>?_];let lb:b<s.7:=by
   rcases bV.mp f with rfl|f
   .exact Zo l
   .rw[bZ.mp f];cases hit,_,q,_;exact Zo q
  rw[aK (up b lb)];exact (hf b f).1
 done:=by
  intro X hP hw hK y i C s σ H E I hf st hg;subst hP hw hK;cases hg,xs,hq,hx;cases I.list hq,j0,rv,pl,hz;cases st,#[j,l],hit;obtain⟨f0,f1,f2,f3,f4,f5⟩:=hf it ⋯;let hl:=rv.9;exact wpAny_pyNext_enum_end (I.ok.hd y) l hit pl.isList (by simp;lk) λh' eb=>#[U,I.turned (t':=s.toks) (λb o f q=>eb b o f q) f0 f1 f3 f4 f5]
 self:=λ_ _ _ _ _ st h=>by
  cases st,#[j,l],_;calc zd1 l h
section
variable {X:Cx}
def Im (K:ao)(ta:TA):TI:=λσ H R=>ta σ H λvs H1=>∃a xs,vs=[.ref a]/\SqL K H1 a xs/\R (Ite K a) H1
def uW {f:G ZU}{tk:O}{tpos:Pos}{a:ZU}{p pos:Pos}(u:Gl X "enumerate")(x:X.mg "enumerate" = Zy)(y:PA X [a] l)(hs:f' (Za [a] X.env=[(O',ZJ a X.env)]) F'):
  PI X (.Tuple f tk tpos) (.Call (.Name "enumerate" p) [a] [] pos) (Im X.K l):=by
 intro c s m H R I h;calc Call_ (jg I u x boot_enumerate (ZS (thn (y pos c s m H _ I h) λus d z=>?_) hs U));cases z,vs,n,j,C,E;cases E,a,xs,e,F,q;subst e
 cases C with
 |cons r rr=>
  cases rr
  cases r
  cases j.list F,M,rv,pl,hz;calc call_enumerate_list pl.isList λP o hit Q hk=>?_;let I2:Inv X c m n {d with heap:=P}:=j.kept (t':=d.toks) hk;calc zd1 o ?_;calc#[d.7+1,[d.7+1,d.7],_,_,n,rfl,I2,Qh a _ _ (Nat.succ_ne_self _),#[#[_,o],hit],λb k=>?_,q];let i:d.7<=b:=by
   rcases bV.mp k with rfl|k
   .exact Er _
   .rw[bZ.mp k];exact aC _
  calc j.fpOk i (j.hok.fresh i)
end
theorem uY {K:ao}:Im K b c H R=b c H λe d=>∃a f,e=[.ref a]/\SqL K d a f/\R (Ite K a) d:=rfl
def Qi {K:ao}{xs:G V}{g:TG}{tb:TS}{D:Ends}{b:St}{H:Hp}(c:O->St->Hp->Prop)(f:c 0 b H)(h:∀i b H,i<=xs.9->c i b H->SqL K H a xs)(hs:∀i v p b H,xs[i]?=W v->c i b H->H p=Zy->g (.ref p) b (upd H p (.tup [.int i,v])) λd j=>tb {D with nx:=c (i+1),ct:=c (i+1),bk:=D.nx} d j)(hd:∀b H,c xs.9 b H->D.nx b H):kz (Ite K a) g tb D b H:=by
 refine#[λi m b H=>m=xs.9-i/\i<=xs.9/\c i b H,#[xs.9,by simp,bh _,f],?_]
 rintro i m b H ⟨rfl,hi,p⟩
 let q:=h i b H hi p;by_cases hlt:i<xs.9
 .calc .inr #[#[xs,xs[i],q,aq hlt],c (i+1),λk l n=>#[xs.9-(i+1),(),U,hlt,n],λx l y=>?_];cases y,pa,z,o,r,s,y;subst r s;exact hs i z pa b H (y xs q) p o
 .let e:i=xs.9:=()
  subst e;calc .inl #[#[xs,q,aC _],hd b H p]
def Itv (K:ao)(a:Zs)(n:O):It:=
 #[λi H=>i<n/\∃xs,SqL K H a xs/\xs.9=n,λi H x H'=>H'=H/\∀xs,SqL K H a xs->xs[n-1-i]?=W x,λi _=>i=n]
def Qj {K:ao}(a it:Zs)(n:O):Turn P w K tg (Itv K a n) [it] it (λi h=>h.IsRevIter it a ((n:Y)-1-i)) where
 mem:=by simp
 obj:=λi h st b j=>by
  let e:b=it:=by simpa using j
  subst e;cases st,o,e,c,d;exact#[o,e,λv z=>by rw[d]at z;cases z]
 keep:=λi h m st k=>st.at λo e=>k it ⋯ o e
 item:=by
  intro X hP r hK hc i f s σ H E I q st y;subst hP r hK;cases y,hi,xs,hq,hn;cases I.list hq,x0,rv,p,hz;let hx:xs[n-1-i]?=W (xs[n-1-i]'()):=aq ();cases rv.get hx,u,hu,ru;obtain⟨C,F,f2,M,Q,R⟩:=q it ⋯;let e0:(n:Y)-1-i=((n-1-i:O):Y):=()
  rw[e0]at st;calc wpAny_pyNext_rev_item st p.isList (x:=u) (⇑hu) λm l sb=>?_;let I1:Inv X f σ H {s with heap:=m}:=I.turned (t':=s.toks) (λb o j e=>(sb.2 b j).trans e) C F M Q R;let e1:((n-1-i:O):Y)-1=(n:Y)-1-((i+1:O):Y):=()
  rw[e1]at l;cases id l,o,e,c,d;exact#[u,U,su (s:={s with heap:=m}) e c d () #[_,H,I1,ru,#[U,λys hy=>#v[I.list_inj hy hq,hx]],l,λb j=>(q b j).1]]
 done:=by
  intro X hP r hK hc i f s σ H E I q st y;subst hP r hK;obtain⟨C,F,f2,M,Q,R⟩:=q it ⋯;let e0:(n:Y)-1-i=-1:=by let:i=n:=y;lk
  rw[e0]at st;exact wpAny_pyNext_rev_end (I.ok.hd hc) st λm eb=>#[U,I.turned (t':=s.toks) (λb o j e=>eb b o j e) C F M Q R]
 self:=λ_ _ _ _ _ st h=>zc5 st h
section
variable {X:Cx}{tg:ZU}
def Io (K:ao)(ta:TA):TI:=λσ H R=>ta σ H λvs H1=>∃a xs,vs=[.ref a]/\SqL K H1 a xs/\R (Itv K a xs.9) H1
def Ip {a:ZU}{p pos:Pos}(n:Gl X "reversed")(u:X.mg "reversed" = Zy)(x:PA X [a] k)(hs:f' (Za [a] X.env=[(O',ZJ a X.env)]) F'):
  PI X tg (.Call (.Name "reversed" p) [a] [] pos) (Io X.K k):=by
 intro c s l H R I h;calc Call_ (jg I n u boot_reversed (ZS (thn (x pos c s l H _ I h) λus d y=>?_) hs U));cases y,vs,m,i,z,C;cases C,a,j,e,E,q;subst e
 cases z with
 |cons r rr=>
  cases rr
  cases r
  cases i.list E,f,F,pl,hz;let M:=F.9;calc call_reversed_list pl.isList ?_;let P:Inv X c l m {d with heap:=d.heap.push (revObj a ((f.toArray.size:Y)-1))}:=i.kept (t':=d.toks) λb o e=>Zl _ e;let st:(d.heap.push (revObj a ((f.toArray.size:Y)-1))).IsRevIter d.7 a ((j.9:Y)-1-((0:O):Y)):=by
   let Q:(j.9:Y)-1-((0:O):Y)=(f.toArray.size:Y)-1:=by rw[fh,M];simp
   rw[Q];exact#[_,ZV _ U,U,U]
  calc zc5 st ?_;calc#[d.7,[d.7],_,_,m,rfl,P,Qj a _ j.9,st,λb hb=>?_,q];let e:b=d.7:=by simpa using hb
  subst e;calc i.fpOk (aC _) (i.hok.fresh (aC _))
end
theorem uZ {K:ao}:Io K b c H R=b c H λf d=>∃a e,f=[.ref a]/\SqL K d a e/\R (Itv K a e.9) d:=rfl
def Iq {K:ao}{xs:G V}{g:TG}{tb:TS}{D:Ends}{b:St}{H:Hp}(c:O->St->Hp->Prop)(f:c 0 b H)(h:∀i b H,i<=xs.9->c i b H->SqL K H a xs)(hs:∀i v b H,i<xs.9->xs[xs.9-1-i]?=W v->c i b H->g v b H λd j=>tb {D with nx:=c (i+1),ct:=c (i+1),bk:=D.nx} d j)(hd:∀b H,c xs.9 b H->D.nx b H):kz (Itv K a xs.9) g tb D b H:=by
 refine#[λi m b H=>m=xs.9-i/\i<=xs.9/\c i b H,#[xs.9,by simp,bh _,f],?_]
 rintro i m b H ⟨rfl,hi,p⟩
 let q:=h i b H hi p;by_cases hlt:i<xs.9
 .calc .inr #[#[hlt,xs,q,U],c (i+1),λk l n=>#[xs.9-(i+1),(),U,hlt,n],λx l y=>?_];cases y,e,y;subst e;exact hs i x b _ hlt (y xs q) p
 .let e:i=xs.9:=()
  subst e;calc .inl #[U,hd b H p]
section
variable {σ:St}{H:Hp}{Q:VK}{x y v:V}{vs:G V}
theorem u_:Ic x y H Q=kR x λl=>kR y λb=>∃a c,H l=W (.lst a)/\H b=W (.lst c)/\a.9+c.9<=Zg/\∀p,H p=Zy->Q (.ref p) (upd H p (.lst (a++c))):=rfl
theorem ve:Ie x y H Q=kR x λl=>kI y λk=>∃a,H l=W (.lst a)/\-(2^63)<=k/\k<2^63/\a.9*k.toNat<=Zg/\∀p,H p=Zy->Q (.ref p) (upd H p (.lst (bj k.toNat a).flatten)):=rfl
theorem vg:Ia x vs H Q=∃l a y,x=.ref l/\vs=[]/\H l=W (.lst a)/\a[a.9-1]?=W y/\Q y (upd H l (.lst a.dropLast)):=rfl
theorem vh:PX x vs H Q=∃l a,x=.ref l/\vs=[]/\H l=W (.lst a)/\Q .non (upd H l (.lst [])):=rfl
end
def fN:OpR X (Yh .Mult) (rI zbw λi j=>.int (i*j)):=opI λ_ _ _ _ _ _ _ a q=>mul_int q a
def Bd (k:O)(x:Y):Prop:=x.8<2^k
def Bd.mono {k l:O}(h:Bd k x)(a:k<=l):Bd l x:=dE h (fQ () a)
def Bd.zero (k:O):Bd k 0:=eV k
def Bd.one {k:O}(h:0<k):Bd k 1:=by
 let:Bd 1 1:=by show (1:O)<2^1;decide
 calc this.mono h
def Bd.neg {k:O}(h:Bd k x):Bd k (-x):=by unfold Bd;rw[zd0];calc h
def Bd.mul {k l:O}(h:Bd k x)(g:Bd l y):Bd (k+l) (x*y):=by
 unfold Bd at *;rw[du,eH];calc Nat.mul_lt_mul_of_lt_of_lt h g
def Bd.add {k:O}(h:Bd k x)(g:Bd k y):Bd (k+1) (x+y):=by
 unfold Bd at *;rw[kX];let:=ju x y;lk
def Bd.sub {k:O}(h:Bd k x)(g:Bd k y):Bd (k+1) (x-y):=by
 rw[Int.sub_eq_add_neg];calc h.add g.neg
def Bd.fits {k l:O}(h:Bd k x)(g:Bd l y)(a:k+l<=134217728):zbw x y:=Qd h g a
def Bd.of_lt {k:O}{x:Y}{m:O}(h:x.8<m)(a:m<=2^k):Bd k x:=dE h a
def eE (H:Hp)(Q:VK)(ys:G V):Prop:=∀r H',Same H H'->H r=Zy->H' r=W (.lst ys)->Q (.ref r) H'
def au {H:Hp}{p:Zs}(h:H p=Zy)(o:HO):Same H (upd H p o):=λb u q=>#v[aK (fH q h),q]
def fe {xs:aa}{i:O}(h:i<xs.9):atI (xs.map V.int) (i:Y)=W (V.int xs[i]):=jK (by rw[a7,aq h];rfl)
def iB {n i:O}(h:i<n):ixN n (i:Y)=W i:=by
 unfold ixN;rw[Zt (),Zt ()];simp
def Ir {n i:O}(h:0<i)(a:i<=n):ixN n (-(i:Y))=W (n-i):=by
 unfold ixN;rw[N (),Zt ()];congr 1;lk
def i3 {xs:aa}(h:xs≠[]):atI (xs.map V.int) (-1)=W (V.int (xs.getLast h)):=by
 unfold atI;let a:0<xs.9:=by cases xs with|nil=>exact Zq rfl h|cons _ _=>simp
 let e:=Ir (n:=(xs.map V.int).9) (i:=1) () #v[af,a];let b:(-((1:O):Y))=-1:=rfl;rw[b]at e;rw[e];show (xs.map V.int)[(xs.map V.int).9-1]?=_;rw[a7,af,<-gC,qL h];rfl
def map_set (xs:aa)(i:O)(v:Y):(xs.map V.int).set i (V.int v)=(xs.set i v).map V.int:=by rw[zd9]
def pi {i j:Y}(a:-(2^60)<i)(b:i<2^60)(c:-(2^60)<j)(d:j<2^60):Z3 i j (-1)=K':=by
 unfold Z3;simp only[X6,ZR,YE,zdg,zax,zdw,show ¬(-1:Y) > 0 by decide,zaw,zex,zeq]
 split <;> lk
def pj {i j:Y}{n:O}(h:(i-j).toNat=n):ZR i j (-1)=n:=by
 unfold ZR;simp only[show ¬(-1:Y) > 0 by decide,zaw,zex,zeq]
 split <;> lk
def pk {xs:aa}{i:O}(h:xs[i]?=W v):atI (xs.map V.int) (i:Y)=W (V.int v):=jK (by rw[a7,h];rfl)
def Same.more {p:Zs}(e:Same H a)(h:H p=Zy):Same H (L2.upd a p o):=λb u q=>#v[aK (fH q h),e b u q]
section
variable {κ:Type}[zdf κ]
noncomputable def gm (kvs:G (κ×V)) (k:κ):Zk V:=(kvs.find? λkv=>decide (kv.1=k)).map (·.2)
noncomputable def jN (kvs:G (κ×V)) (k:κ) (v:V):G (κ×V):=
 if (kvs.any λkv=>decide (kv.1=k))=K' then kvs.map (λkv=>if kv.1=k then (kv.1,v) else kv) else kvs++[(k,v)]
def Qk {p:κ×V}{r:G (κ×V)}{k:κ}(e:p.1=k):gm (p::r) k=W p.2:=by simp[gm,Eu,e]
def Ql {p:κ×V}{r:G (κ×V)}{k:κ}(e:¬p.1=k):gm (p::r) k=gm r k:=by simp[gm,Eu,e]
def Qm (a:G (κ×V))(k:κ)(v:V):(jN a k v).9<=a.9+1:=by
 unfold jN
 split
 .rw[af];lk
 .rw[cC,dO,Ev];lk
def KV.val (r:KV a vs)(k:κ):RelO (gm a k) (zbm vs k):=by
 unfold KV at r
 induction r with
 |nil=>calc Yd
 | @cons p q ps qs h t ih=>
  cases h,d,f;by_cases e:p.1=k
  .let c:q.1=k:=d.symm.trans e;let b:zbm (q::qs) k=W q.2:=by simp[zbm,Eu,c]
   rw[Qk e,b];exact f
  .let c:¬q.1=k:=λz=>e (d.trans z);let b:zbm (q::qs) k=zbm qs k:=by simp[zbm,Eu,c]
   rw[Ql e,b];calc ih
def KV.any (r:KV a vs)(k:κ):(a.any λb=>decide (b.1=k))=vs.any λb=>decide (b.1=k):=by
 unfold KV at r
 induction r with
 |nil=>rfl
 |cons h t ih=>rw[ye,ye,ih,h.1]
def KV.repl (r:KV b vs)(k:κ)(d:RelV y u):
  KV (b.map λa=>if a.1=k then (a.1,y) else a) (vs.map λa=>if a.1=k then (a.1,u) else a):=by
 unfold KV at r ⊢
 induction r with
 |nil=>calc .nil
 | @cons p q ps qs h t ih=>
  rw[fo,fo];calc .cons ?_ ih;cases h,c,f;by_cases e:p.1=k
  .rw[Zt e,Zt (c.symm.trans e)];exact#[c,d]
  .rw[N e,N (λz=>e (c.trans z))];calc#[c,f]
def KV.put (r:KV a vs)(k:κ)(b:RelV y u):KV (jN a k y) (stored vs k u):=by
 unfold jN stored;rw[r.any k];by_cases e:(vs.any λc=>decide (c.1=k))=K'
 .rw[Zt e,Zt e];exact r.repl k b
 .rw[N e,N e];calc Paired.snoc r #[U,b]
def KV.length (r:KV a vs):a.9=vs.9:=zda r
end
def Qn {k:Key}(r:RelV (kV k) u):(jB P w).is k u=K':=by
 cases k with
 |inl i=>obtain⟨t,e⟩:=(show ∃t,u=YG i t from r);subst e;calc OF P w i t
 |inr x=>obtain⟨t,e⟩:=(show ∃t,u=zal x t from r);subst e;calc OG P w x t
section
variable {P:Zb}{w:ZW}{H:Hp}{h:ZN}{a:Zs}
def Qo (ok:HOk P w H h)(e:Rd H a u):ObjOk P w H h a u:=e.ok ok
def Qp {b:G (Key×V)}(ok:HOk P w H h)(e:Rd H a (.dK b)):b.9<=Zg/\(a == YH)=O'/\∃c,KV b c/\h.DictOf (jB P w) a c:=
 show ObjOk P w H h a (.dK b) from Qo ok e
def Qq {b:G (Key×V)}(ok:HOk P w H h)(e:H a=W (.dK b)):b.9<=Zg/\(a == YH)=O'/\∃c,KV b c/\h.DictOf (jB P w) a c:=Qp ok (.inl e)
end
section
variable {X:Cx}{XX:aN}{σ:St}{H:Hp}{s:Zp}{a:Zs}{y v:V}{u r:Zr}{o:Zk V}{A:ZK}{E:bD}
def Inv.big (I:Inv X XX σ H s):YH<s.7:=by
 let h:Z0<s.7:=(I.mod.glob.keeps I.bk).lt;calc zen () h
def Qr {t':O}(I:Inv X XX σ H s)(f:Mut (H a))(hs:zak a s.heap h')(h:∃q,h'.get? a=W q)(d:ObjOk X.prog X.w (upd H a c) h' a c):
  Inv X XX σ (upd H a c) {s with heap:=h',toks:=t'}:=
 I.write (x:=a) (e:=a) f (.inl U) (λb q i z=>(hs.2 b i).trans z) h d
def Qs {h':ZN}{b:G (Key×V)}{vs:G (Key×Zr)}(z:b.9<=Zg)(hd:(a == YH)=O')(c:KV b vs)(dd:h'.DictOf (jB P w) a vs):
  ObjOk P w d h' a (.dK b):=#[z,hd,vs,c,dd]
end
def Qt (h:ZN)(a:YH<h.objs.size):ObjOk P w H (h.push {cls:=.type "dict",data:=.dict (Zi [])}) h.objs.size (.dK []):=
 #[bh _,beq_eq_false_iff_ne.mpr (ZQ (eK a)),[],.nil,Heap.DictOf.new h]
def Is:TE:=λ_ H Q=>∀p,H p=Zy->Q (.ref p) (upd H p (.dK []))
section
variable {X:Cx}{pos:Pos}
def Qu:PE X (.Dict [] [] pos) Is:=λb s c H Q I h=>
 wpAny_Dict_empty #[.ref s.7,_,I.laid (a:=s.7) (o:=.dK []) (t':=s.toks) (λ_ _ q=>Zl _ q) (aC _) (Qt s.heap I.big),rfl,h _ (I.hok.fresh (aC _))]
end
structure M1 (X:Cx)(o:ZU)(m:Str)(apos:Pos)(e:ZU)(cpos:Pos):Prop where
 base:YX o m X.env (ZJ o X.env)=ZJ o X.env
 few:((Yr cpos (Za [e] X.env)).all (λx=>!x.1) && (YS cpos (Yy [] X.env)).all (λx=>x.1.isSome)
  && decide (([e]:G ZU).9+([]:G zaj).9+(if ([]:G zaj).isEmpty then 0 else 1)<30))=true
 line:(apos.endLine == cpos.line)=true
 trees:Yr cpos (Za [e] X.env)=[(false,ZJ e X.env)]
structure M2 (X:Cx)(o:ZU)(m:Str)(apos:Pos)(e f:ZU)(cpos:Pos):Prop where
 base:YX o m X.env (ZJ o X.env)=ZJ o X.env
 few:((Yr cpos (Za [e,f] X.env)).all (λx=>!x.1) && (YS cpos (Yy [] X.env)).all (λx=>x.1.isSome)
  && decide (([e,f]:G ZU).9+([]:G zaj).9+(if ([]:G zaj).isEmpty then 0 else 1)<30))=true
 line:(apos.endLine == cpos.line)=true
 trees:Yr cpos (Za [e,f] X.env)=[(false,ZJ e X.env),(false,ZJ f X.env)]
def Ends.drop (D:Ends)(i:O):Ends:={nx:=λσ H=>D.nx (σ.set i Zy) H,rt:=D.rt,bk:=λσ H=>D.bk (σ.set i Zy) H,ct:=λσ H=>D.ct (σ.set i Zy) H}
open PySem PySem.Spec PySem.W PyProof.Rows Builtin Builtin.ObjectAttr Builtin.Getset_descriptor
def vi {K:ao}{xs:G V}{g:TG}{tb:TS}{D:Ends}{b:St}{H:Hp}(c:O->St->Hp->Prop)(e:c 0 b H)(f:∀i b H,i<=xs.9->c i b H->SqL K H a xs)(hs:∀i v p b H,xs[i]?=W v->c i b H->H p=Zy->g (.ref p) b (upd H p (.tup [.int i,v])) λd h=>tb {D with nx:=c (i+1),ct:=c (i+1),bk:=D.nx} d h)(hd:∀b H,c xs.9 b H->D.nx b H):kz (Ite K a) g tb D b H:=Qi c e f hs hd
theorem Qv {R:zat->Zp->Prop}{s:Zp}{y a j i:ZU}{d:Z4}{pos:Pos}{it z:Zr}(I:O->Zp->Prop)(C:∀n s (E:bD),I n s->Zf (Ze prog w) A (zbs it) (λr e=>match r with
   |none=>R (.ok .next) e
   |some v=>Zf (Ze prog w) A (YM a it v) (λ_ k=>Zf (Ze prog w) A (Z5 a env v) (λ_ l=>Zf (Ze prog w) A (isTrue i env (ZJ i env)) (λb f=>if b=K' then Zf (Ze prog w) A (ZJ y env) (λx o=>
     Zf (Ze prog w) A (zb4 (.builtin "list.append") [z,x]) (λ_ q=>∃m,m<n/\I m q) E o) E f else ∃m,m<n/\I m f) E l) E k) E e) E s)(n:O)(h:I n s):
  Yv (Ze prog w) A (.compLoop (.ListComp y [#[a,j,[i],0]] d pos) 0 it z env) R s:=by
 calc codeAny_loop U I (λn s Q=>?_) n h;show Zf _ _ ((compTurn (.ListComp y [#[a,j,[i],0]] d pos) 0 it z env).onRaise (λx=>do noteFrame x env;zet x)) _ _ s;calc wpAny_noted ?_;unfold compTurn;dsimp only[yi];refine Zm (Yk (Zm (ZO (C n s _ Q) (λr e u=>?_) λ_ _ X=>X)))
 cases r with
 |none=>calc Zd u
 |some v=>
  calc Zm (thn u λ_ k F=>Zm (thn F λ_ l H=>Zm ?_));rw[List.forIn_cons,Zt U];calc Zm (Zm (thn H λb f c=>Zd ?_));dsimp only;rw[zdn];refine Zd ?_
  cases b with
  |true=>
   rw[Zt U]at c ⊢;calc Zm (Zm (thn c λx o M=>Zm (thn M λ_ q P=>Zd (Zd #[U,P]))))
  |false=>
   rw[N ()]at c ⊢;calc Zd #[U,c]
section
variable {X:Cx}{elt iter cnd:ZU}{x:Str}{px:Pos}{fv:G (O×Str)}{scope:Z4}{cl:G (Str×Zs)}{pos:Pos}{te:TE}{tt:TT}{wi:TI}
def CC (J:It)(fv:G (O×Str))(tt:TT)(te:TE)(Q:VK)(σ:St)(H1:Hp)(D:Zs):Prop:=∃W:O->O->Hp->Prop,(∃m,W 0 m (upd H1 D (.lst [])))/\∀i m H,W i m H->
 (J.stop i H/\Q (.ref D) H)\/(J.go i H/\∃N:Hp->Prop,(∀H',N H'->∃m',m'<m/\W (i+1) m' H')/\∀v H',J.yld i H v H'->tt (bst fv σ (Zz v)) H' λb Hb=>if b=K' then te (bst fv σ (Zz v)) Hb λy H2=>∃ys,H2 D=Zz (.lst ys)/\ys.9<Zg/\N (upd H2 D (.lst (ys++[y]))) else N Hb)
def Iu (fv:G (O×Str))(wi:TI)(tt:TT)(te:TE):TE:=λσ H Q=>wi σ H λJ H1=>∀D,H1 D=Zy->CC J fv tt te Q σ H1 D
def Qw {it:Zs}{tn:O->ZN->Prop}{J:It}{Q:VK}{E:bD}{RR:Zr->Zs->zat->Zp->Prop}(hc:X.calm=K')(B:BlkOk X x fv scope cl)(m1:∀C s H j,PT (blk X x fv scope cl C s H j) cnd tt)(he:∀C s H j,PE (blk X x fv scope cl C s H j) elt te)(I:Inv X a σ H d)(T:Turn X.prog X.w X.K (.Name x px) J j it tn)(st:tn 0 d.heap)(hf:∀b∈j,eI X a H b)(rd:∀D,H D=Zy->∃W:O->O->Hp->Prop,(∃m,W 0 m (upd H D (.lst [])))/\∀i m H,W i m H->
   (J.stop i H/\Q (.ref D) H)\/(J.go i H/\∃N:Hp->Prop,(∀k,N k->∃m',m'<m/\W (i+1) m' k)/\∀v k,J.yld i H v k->tt (bst fv σ (Zz v)) k λb Hb=>if b=K' then te (bst fv σ (Zz v)) Hb λy H2=>∃ys,H2 D=Zz (.lst ys)/\ys.9<Zg/\N (upd H2 D (.lst (ys++[y]))) else N Hb))(x2:∀D C s' k m',Inv X a σ k s'->eI X a k C->s'.heap.Ns C m'->Q (.ref D) k->RR (.ref D) C (.ok .next) s'):
  Zf (Ze X.prog X.w) X.A (zae []) (λk0 n0=>Zf (Ze X.prog X.w) X.A (YU scope X.env.globals cl [] X.env.qual Zy .none (Zz X.env)) (λy0 x1=>
   Yv (Ze X.prog X.w) X.A (.compStart (.ListComp elt [#[.Name x px,iter,[cnd],0]] scope pos) 0 (.ref it) k0 {y0 with scope:=ZP scope X.env}) (RR k0 y0.locals) x1) E n0) E d:=by
 refine YV ?_ (by show 0<=Zg;calc bh _);let hD:H d.7=Zy:=I.hok.fresh (aC _);let I3:=I.lnew (ys:=[]) (its:=[]) (t':=d.toks) .nil (bh _);generalize u0:({d with heap:=d.heap.push {cls:=.type "list",data:=.seq ([]:G Zr).toArray},toks:=d.toks}:Zp)=f at I3;let y2:f.7=d.7+1:=by rw[<-u0];exact Yx ..
 let y1:∀b o,d.heap.get? b=Zz o->f.heap.get? b=Zz o:=λb o e=>by rw[<-u0];exact Zl _ e
 let z1:∀b∈j,eI X a (upd H d.7 (.lst [])) b:=λb h=>by
  cases hf b h,f0,r;calc#[?_,r];cases T.obj 0 _ st b h,o,e,_;rw[aK (eK (Zo e))];exact f0
 let z2:∀b∈j,b<d.7:=λb h=>by
  cases T.obj 0 _ st b h,o,e,_;exact Zo e
 let u2:tn 0 f.heap:=T.keep 0 _ _ st λb _ o e=>y1 b o e;cases rd _ hD,W,#[m0,w0],u1;refine X9 B.nocell (by intro y hy;simp at hy) (λl P R=>?_) B.kind;let v1:∀b∈j,b≠f.7:=λb h=>eK #v[y2,qJ (z2 b h)];let j1:∀b o,f.heap.get? b=Zz o->l.get? b=Zz o:=λb o e=>R.extBut b o (eK (Zo e)) (Zl _ e);generalize j0:({f with heap:=l,toks:=f.toks+([]:G (Str×Zr)).9}:Zp)=s4;let h4:s4.heap=l:=by rw[<-j0]
 let I4:Inv (blk X x fv scope cl f.7 f (upd H d.7 (.lst [])) j) [] (bst fv σ Zy) (upd H d.7 (.lst [])) s4:=
  Ig B I3 z1 U v1 (by rw[<-j0]) (by rw[<-j0]) (λb o e=>#v[h4,j1 b o e]) #v[h4,P]
 let g1:tn 0 s4.heap:=by rw[h4];exact T.keep 0 _ _ u2 λb _ o e=>j1 b o e
 let F:∀{k:Hp},(∀b∈j,k b=Zy)->∀b∈j,eI (blk X x fv scope cl f.7 f (upd H d.7 (.lst [])) j) [] k b:=λ{k} hn b h=>by
  cases hf b h,_,f1,f2,f3,f4,f5;calc#[hn b h,v1 b h,λz=>?_,.inl h,λy c e=>f4 y c (B.sub y c e),λp hp=>Zq (show p∈([]:aN) from hp) ⋯];rcases bV.mp (I.stkSub b z) with q|q
  .exact f1 q
  .exact f2 q
 let z0:Yv (Ze X.prog X.w) X.A (.compLoop (.ListComp elt [#[.Name x px,iter,[cnd],0]] scope pos) 0 (.ref it) (.ref d.7) (Ym scope cl f.7 X.env)) (RR (.ref d.7) f.7) s4:=by
  refine Qv (λn s'=>∃i k o,Inv (blk X x fv scope cl f.7 f (upd H d.7 (.lst [])) j) [] (bst fv σ o) k s'/\tn i s'.heap/\(∀b∈j,k b=Zy)/\W i n k) ?_ m0
   #[0,_,Zy,I4,g1,λb h=>(z1 b h).1,w0]
  rintro n s5 E' ⟨i,H5,o5,I5,st5,fr5,w5⟩
  rcases u1 i n H5 w5 with ⟨stop,q⟩|⟨go,N,hN,step⟩
  .calc thn (T.done (blk X x fv scope cl f.7 f (upd H d.7 (.lst [])) j) U U U hc i [] s5 _ H5 _ I5 (F fr5) st5 stop) λr s6 M=>?_;cases M,hr,I6;subst hr;cases I6.loc,m6,v2,_;let J6:Inv X a σ H5 s6:=sZ I I6.hok I6.bare hD y1 I6.base (I6.os.trans (by rw[<-u0])) hf;calc x2 _ _ s6 H5 m6 J6 ?_ v2 q;exact I3.fpOk (aC _) I6.free
  .calc thn (T.item (blk X x fv scope cl f.7 f (upd H d.7 (.lst [])) j) U U U hc i [] s5 _ H5 _ I5 (F fr5) st5 go) λr s6 M=>?_;cases M,u,hr,h6;subst hr;calc thn h6 λ_ s7 M=>?_;cases M,v,H7,I7,r7,y7,x0,j2;let k2:=I7.pinned (F j2) (T.obj _ _ x0);calc Ih B k2 r7 λs8 I8=>?_;let c8:=m1 _ _ _ _ _ s8 _ H7 _ I8 (step v H7 y7);calc ZO c8 (λbb sb M=>?_) λ_ _ z=>ZM z;obtain⟨Hb,Ib,qb⟩:=M
   cases bb with
   |false=>
    rw[if_neg ()]at qb;show (if O'=K' then _ else _);rw[if_neg ()];cases hN _ qb,m',hm,w9;calc#[m',hm,i+1,_,Zz v,Ib.unpinned,T.keep _ _ _ x0 λb h o e=>(Ib.pin (b,o) (hE _ (hE _ (nE h e)))).1,λb h=>?_,w9];cases T.obj _ _ x0 b h,o,e,_;calc (Ib.pin (b,o) (hE _ (hE _ (nE h e)))).2.1
   |true=>
    rw[Zt U]at qb;show (if K'=K' then _ else _);rw[Zt U];let e8:=he _ _ _ _ _ sb _ Hb _ Ib qb;calc ZO e8 (λy s9 M=>?_) λ_ _ z=>ZM z;cases M,yv,H9,I9,r9,ys,g2,hz,n9;let a9:=s_ (E':=E') T (λ_ _ z=>z) x0 I9 r9 g2 hz n9 hN;calc ZO a9 (λ_ z3 M=>?_) λ_ _ z=>z;cases M,m',hm,m2,n2,x3,y3,w9;exact#[m',hm,i+1,m2,_,n2,x3,y3,w9]
 calc YT z0 (T.self _ 0 _ _ _ g1 z0)
end
theorem vk:Iu b c d e a H Q=c a H λh f=>∀D,f D=Zy->CC h b d e Q a f D:=rfl
theorem py:∀{ns:aa}{a:G Zr},Vals (ns.map V.int) a->zbn a ns
 |[],a,h=>by
  cases h;calc .nil
 |n::ns,a,h=>by
  cases h with
  |cons r rr=>
   cases r,t,rfl;calc .cons n t (py rr)
def CD {zs:YK (Y×Tok)}{ns:aa}(e:ns=zs.toList.map (·.1)){j:O}(a:j<zs.size):zbt zs j∈ns:=by
 rw[e,numAt_eq];calc PySem.getD_mem (⇑a)
def CF {zs:YK (Y×Tok)}{ns:aa}(e:ns=zs.toList.map (·.1)){x:Y}(hx:x∈ns):∃j,j<zs.size/\zbt zs j=x:=by
 rw[e]at hx;cases mem_getD hx,i,hi,h;calc#[i,by simpa using hi,#v[numAt_eq,h]]
def CG {X:Cx}(n:X.calm=K'):ir X (.builtin "min") (λj H Q=>∃p ns,j=[.ref p]/\SqL X.K H p (ns.map V.int)/\ns≠[]/\∀M,M∈ns->(∀a,a∈ns->M<=a)->Q (.int M) H):=by
 intro k s R H j us Q I r h;cases h,p,ns,rfl,o,d,q;obtain⟨u,rfl,y⟩:=ky r
 cases y
 cases I.list o,z,C,pl,hz;let hi:=py C;cases hi.allInts.items,c,e;let b:ns=c.toList.map (·.1):=by rw[<-hi.numsOf,<-zap,<-e]
 let f:0<c.size:=by
  let l:=cE.mpr d;rw[b,af,Yj]at l;exact l
 let m:=pl.isList;rw[e]at m;calc min_intList (I.ok.hd n) m f λv h' tk E hk=>?_;cases zbc E,F,rfl;cases argBest_lt (zbt c) (c.size-1),g1,P;calc#[.int _,H,I.kept hk,#[F,U],q _ (CD b ()) λx hx=>?_];cases CF b hx,i,hi,rfl;calc P i ()
def vm {X:Cx}(n:X.calm=K'):ir X (.builtin "max") (λj H Q=>∃p ns,j=[.ref p]/\SqL X.K H p (ns.map V.int)/\ns≠[]/\∀M,M∈ns->(∀a,a∈ns->a<=M)->Q (.int M) H):=by
 intro k s R H j us Q I r h;cases h,p,ns,rfl,o,d,q;obtain⟨u,rfl,y⟩:=ky r
 cases y
 cases I.list o,z,C,pl,hz;let hi:=py C;cases hi.allInts.items,c,e;let b:ns=c.toList.map (·.1):=by rw[<-hi.numsOf,<-zap,<-e]
 let f:0<c.size:=by
  let l:=cE.mpr d;rw[b,af,Yj]at l;exact l
 let m:=pl.isList;rw[e]at m;calc max_intList (I.ok.hd n) m f λv h' tk E hk=>?_;cases zbc E,F,rfl;cases argBest_gt (zbt c) (c.size-1),g1,P;calc#[.int _,H,I.kept hk,#[F,U],q _ (CD b ()) λx hx=>?_];cases CF b hx,i,hi,rfl;exact P i ()
@[reducible] def iM (X:Cx) (x z:Str) (fv:G (O×Str)) (scope:Z4) (cl:G (Str×Zs)) (C:Zs) (s:Zp) (H:Hp) (fp:ap):Cx where
 prog:=X.prog
 w:=X.w
 K:=X.K
 mg:=X.mg
 base:=X.base
 A:=X.A
 N:=x::z::fv.map (·.2)
 s₀:=s
 H₀:=H
 env:=Ym scope cl C X.env
 outer:=X.stack
 stack:=X.stack
 ex:=fp
 fn:=λ_=>O'
 calm:=X.calm
 pn:=[]
 xe:=λ_ _=>False
def f7 (fv:G (O×Str))(σ:St)(v v2:Zk V):St:=v::v2::fv.map λp=>(σ[p.1]?).getD Zy
structure BlkOk2 (X:Cx)(x z:Str)(fv:G (O×Str))(scope:Z4)(cl:G (Str×Zs)):Prop where
 clos:Y9 scope X.env=pure cl
 nocell:∀y∈scope.names,y.2≠.cell
 kind:scope.kind=.function
 names:∀y∈scope.names,y.2=.local->scope.names.lookup y.1=W .local
 here:scope.names.lookup x=W .local
 here2:scope.names.lookup z=W .local
 nd:(x :: z :: fv.map (·.2)).Nodup
 sub:∀y c,cl.lookup y=W c->X.env.cells.lookup y=W c
 has:∀y,((ZP scope X.env).names.lookup y=W .cell\/(ZP scope X.env).names.lookup y=W .free)->∃c,cl.lookup y=W c
 fvs:∀p∈fv,X.N[p.1]?=W p.2/\(X.env.scope.names.lookup p.2=W .cell\/X.env.scope.names.lookup p.2=W .free)/\
  ((ZP scope X.env).names.lookup p.2=W .cell\/(ZP scope X.env).names.lookup p.2=W .free)/\∃c,cl.lookup p.2=W c
section
variable {X:Cx}{elt iter:ZU}{x z:Str}{px pz:Pos}{tk:O}{tpos:Pos}{fv:G (O×Str)}{scope:Z4}{cl:G (Str×Zs)}{pos:Pos}{te:TE}{wi:TI}
def Qx {f:ap}{C:Zs}(B:BlkOk2 X x z fv scope cl)(I:Inv X a m H s)(i:∀b∈f,eI X a H b)(hC:s.7<=C)(j:∀b∈f,b≠C):
  (iM X x z fv scope cl C s H f).Ok where
 mod:=I.ok.mod
 kind:=B.kind
 glob:=I.ok.glob
 blt:=I.ok.blt
 above:=hC
 inj:=λy l c n q=>I.ok.inj y l c (B.sub y c n) (B.sub l c q)
 has:=λy hy=>B.has y hy
 cab:=λy c h=>nomatch h
 hd:=I.ok.hd
 frames:=I.ok.frames
 stk:=.inl U
 exf:=λb d=>#[j b d,λy c e=>(i b d).2.2.2.2.1 y c (B.sub y c e)]
 bs:=I.bs
 bsz:=aP I.ok.bsz I.sz
 noex:=λb o e d=>by
  cases i b d,_,_,_,r,_;rcases r with k|k
  .exact I.ok.noex b o e k
  .exact Zq (dE (Zo e) (aP I.ok.bsz k)) (kW _)
 exfs:=λb d hs=>by
  cases i b d,_,u,E,_;rcases bV.mp (I.stkSub b hs) with z|z
  .exact u z
  .exact E z
 funs:=I.stack
 frf:=I.stkFree
def Qy {fv:G (O×Str)}{j:O}(f:(x::z::fv.map (·.2))[j+2]?=W y)(h:(f7 fv a o e)[j+2]?=W (W v)):∃p∈fv,p.2=y/\a[p.1]?=W (W v):=by
 let b:(fv.map (·.2))[j]?=W y:=by simpa using f
 let d:(fv.map λp=>(a[p.1]?).getD Zy)[j]?=W (W v):=by simpa [f7] using h
 rw[a7]at b d
 cases q:fv[j]? with
 |none=>rw[q]at b;cases b
 |some p=>
  rw[q]at b d;calc#[p,cH q,ZY b,?_];let c:(a[p.1]?).getD Zy=W v:=ZY d
  cases r:a[p.1]? with
  |none=>rw[r]at c;cases c
  |some w=>rw[r]at c;calc ZL W c
def Qz {s d:Zp}{h:ap}{C:Zs}{m:ck}(B:BlkOk2 X x z fv scope cl)(I:Inv X a R H s)(hf:∀b∈h,eI X a H b)(hC:C=s.7)(n:∀b∈h,b≠C)(os:d.os=s.os)(f:d.gens=s.gens)(keep:∀b o,s.heap.get? b=W o->d.heap.get? b=W o)(ns:d.heap.Ns C m):
  Inv (iM X x z fv scope cl C s H h) [] (f7 fv R Zy Zy) H d:=by
 subst hC;refine#[Qx B I hf (aC _) n,os,#v[f,I.bare],Un.kept keep,#[m,ns,λi y v h1 q h3=>?_],λy c e=>?_,I.hok.fresh (aC _),λy c e=>I.freeC y c (B.sub y c e),λp E=>Zq (show p∈([]:aN) from E) ⋯,I.hok.kept keep,by simp[f7]]
 .cases i with
  |zero=>simp[f7]at q
  |succ j=>
   cases j with
   |zero=>simp[f7]at q
   |succ j=>
   cases Qy h1 q,p,E,rfl,hv;cases B.fvs p E,hN,hk,F,c,hc;cases I.loc,m0,_,hl;let M:Vis X.env.scope p.2:=hk.elim (λz=>.inr (.inl z)) λz=>.inr (.inr z);cases hl p.1 p.2 v hN hv M,u,r,l;calc#[u,r,.inr #[F,c,hc,?_]];rcases l with ⟨z,_⟩|⟨_,c',P,o,Q,hd⟩
   .let z':X.env.scope.names.lookup p.2=W .local:=z;rcases hk with k|k <;> (rw[k]at z';cases z')
   .let:=B.sub p.2 c hc;rw[P]at this;cases this;exact#[o,keep _ o Q,hd]
 .cases I.cell y c (B.sub y c e),v,o,Q,hd;calc#[v,o,keep c o Q,hd]
def QB (e:X.calm=K')(B:BlkOk2 X x z fv scope cl):
  PG (iM X x z fv scope cl C s a b) (.Tuple [.Name x px,.Name z pz] tk tpos) (Ca X.K 2 (sn (ip 0) (sn (ip 1) B_))):=by
 let c:(ZP scope X.env).names.lookup x=W .local:=zab B.here;let d:(ZP scope X.env).names.lookup z=W .local:=zab B.here2;calc jG (X:=iM X x z fv scope cl C s a b) e (gi (cJ (i:=0) B.nd U (.inl c) (.inr c)) (gi (cJ (i:=1) B.nd U (.inl d) (.inr d)) jF))
def Iv {it:Zs}{tn:O->ZN->Prop}{J:It}{Q:VK}{E:bD}{RR:Zr->Zs->zat->Zp->Prop}(hc:X.calm=K')(B:BlkOk2 X x z fv scope cl)(he:∀C s H j,PE (iM X x z fv scope cl C s H j) elt te)(I:Inv X a σ H d)(T:Turn X.prog X.w X.K (.Tuple [.Name x px,.Name z pz] tk tpos) J j it tn)(st:tn 0 d.heap)(hf:∀b∈j,eI X a H b)(rd:∀D,H D=Zy->∃W:O->O->Hp->Prop,(∃m,W 0 m (upd H D (.lst [])))/\∀i m H,W i m H->
   (J.stop i H/\Q (.ref D) H)\/(J.go i H/\∃N:Hp->Prop,(∀f,N f->∃m',m'<m/\W (i+1) m' f)/\∀v f,J.yld i H v f->∃q x1 x2,v=.ref q/\SqT X.K f q [x1,x2]/\te (f7 fv σ (Zz x1) (Zz x2)) f λy H2=>∃ys,H2 D=Zz (.lst ys)/\ys.9<Zg/\N (upd H2 D (.lst (ys++[y])))))(y2:∀D C s' f m',Inv X a σ f s'->eI X a f C->s'.heap.Ns C m'->Q (.ref D) f->RR (.ref D) C (.ok .next) s'):
  Zf (Ze X.prog X.w) X.A (zae []) (λj0 k0=>Zf (Ze X.prog X.w) X.A (YU scope X.env.globals cl [] X.env.qual Zy .none (Zz X.env)) (λx0 n0=>
   Yv (Ze X.prog X.w) X.A (.compStart (.ListComp elt [#[(.Tuple [.Name x px,.Name z pz] tk tpos),iter,[],0]] scope pos) 0 (.ref it) j0 {x0 with scope:=ZP scope X.env}) (RR j0 x0.locals) n0) E k0) E d:=by
 refine YV ?_ (by show 0<=Zg;calc bh _);let hD:H d.7=Zy:=I.hok.fresh (aC _);let I3:=I.lnew (ys:=[]) (its:=[]) (t':=d.toks) .nil (bh _);generalize z0:({d with heap:=d.heap.push {cls:=.type "list",data:=.seq ([]:G Zr).toArray},toks:=d.toks}:Zp)=h at I3;let z2:h.7=d.7+1:=by rw[<-z0];exact Yx ..
 let y1:∀b o,d.heap.get? b=Zz o->h.heap.get? b=Zz o:=λb o e=>by rw[<-z0];exact Zl _ e
 let z1:∀b∈j,eI X a (upd H d.7 (.lst [])) b:=λb k=>by
  cases hf b k,f0,r;calc#[?_,r];cases T.obj 0 _ st b k,o,e,_;rw[aK (eK (Zo e))];exact f0
 let u2:∀b∈j,b<d.7:=λb k=>by
  cases T.obj 0 _ st b k,o,e,_;exact Zo e
 let v2:tn 0 h.heap:=T.keep 0 _ _ st λb _ o e=>y1 b o e;cases rd _ hD,W,#[m0,w0],u1;refine X9 B.nocell (by intro y hy;simp at hy) (λl P R=>?_) B.kind;let v1:∀b∈j,b≠h.7:=λb k=>eK #v[z2,qJ (u2 b k)];let j1:∀b o,h.heap.get? b=Zz o->l.get? b=Zz o:=λb o e=>R.extBut b o (eK (Zo e)) (Zl _ e);generalize u0:({h with heap:=l,toks:=h.toks+([]:G (Str×Zr)).9}:Zp)=s4;let h4:s4.heap=l:=by rw[<-u0]
 let I4:Inv (iM X x z fv scope cl h.7 h (upd H d.7 (.lst [])) j) [] (f7 fv σ Zy Zy) (upd H d.7 (.lst [])) s4:=
  Qz B I3 z1 U v1 (by rw[<-u0]) (by rw[<-u0]) (λb o e=>#v[h4,j1 b o e]) #v[h4,P]
 let g1:tn 0 s4.heap:=by rw[h4];exact T.keep 0 _ _ v2 λb _ o e=>j1 b o e
 let F:∀{f:Hp},(∀b∈j,f b=Zy)->∀b∈j,eI (iM X x z fv scope cl h.7 h (upd H d.7 (.lst [])) j) [] f b:=λ{f} hn b k=>by
  cases hf b k,_,f1,f2,f3,f4,f5;calc#[hn b k,v1 b k,λz'=>?_,.inl k,λy c e=>f4 y c (B.sub y c e),λp hp=>Zq (show p∈([]:aN) from hp) ⋯];rcases bV.mp (I.stkSub b z') with q|q
  .exact f1 q
  .exact f2 q
 let y0:Yv (Ze X.prog X.w) X.A (.compLoop (.ListComp elt [#[(.Tuple [.Name x px,.Name z pz] tk tpos),iter,[],0]] scope pos) 0 (.ref it) (.ref d.7) (Ym scope cl h.7 X.env)) (RR (.ref d.7) h.7) s4:=by
  refine Ct (λn s'=>∃i f o o2,Inv (iM X x z fv scope cl h.7 h (upd H d.7 (.lst [])) j) [] (f7 fv σ o o2) f s'/\tn i s'.heap/\(∀b∈j,f b=Zy)/\W i n f) ?_ m0
   #[0,_,Zy,Zy,I4,g1,λb k=>(z1 b k).1,w0]
  rintro n s5 E' ⟨i,H5,o5,o6,I5,st5,fr5,w5⟩
  rcases u1 i n H5 w5 with ⟨stop,q⟩|⟨go,N,hN,step⟩
  .calc thn (T.done (iM X x z fv scope cl h.7 h (upd H d.7 (.lst [])) j) U U U hc i [] s5 _ H5 _ I5 (F fr5) st5 stop) λr s6 M=>?_;cases M,hr,I6;subst hr;cases I6.loc,m6,j2,_;let J6:Inv X a σ H5 s6:=sZ I I6.hok I6.bare hD y1 I6.base (I6.os.trans (by rw[<-z0])) hf;calc y2 _ _ s6 H5 m6 J6 ?_ j2 q;exact I3.fpOk (aC _) I6.free
  .calc thn (T.item (iM X x z fv scope cl h.7 h (upd H d.7 (.lst [])) j) U U U hc i [] s5 _ H5 _ I5 (F fr5) st5 go) λr s6 M=>?_;cases M,u,hr,h6;subst hr;calc thn h6 λ_ s7 M=>?_;cases M,v,H7,I7,r7,y7,m1,k2;let g2:=I7.pinned (F k2) (T.obj _ _ m1);cases step v H7 y7,q7,x1,x2,ev,m2,n2;calc ZO (QB (px:=px) (pz:=pz) (tk:=tk) (tpos:=tpos) hc B _ s7 _ H7 v u (λx3 f=>x3=f7 fv σ (Zz x1) (Zz x2)/\f=H7) g2 r7 #[q7,[x1,x2],ev,m2,rfl,x1,[x2],rfl,x2,[],rfl,rfl,rfl,rfl]) (λ_ s8 M=>?_) λ_ _ z=>ZM z;cases M,m3,H8,I8,y3,z3;subst y3 z3;let e8:=he _ _ _ _ _ s8 _ _ _ I8 n2;calc ZO e8 (λy s9 M=>?_) λ_ _ z=>ZM z;cases M,yv,H9,I9,r9,ys,u3,hz,n9;let a9:=s_ (E':=E') T (λ_ _ z=>z) m1 I9 r9 u3 hz n9 hN;calc ZO a9 (λ_ n3 M=>?_) λ_ _ z=>z;cases M,m',hm,v3,j3,k3,g3,w9;exact#[m',hm,i+1,v3,_,_,j3,k3,g3,w9]
 calc YT y0 (T.self _ 0 _ _ _ g1 y0)
def vn (K:ao)(J:It)(fv:G (O×Str))(te:TE)(Q:VK)(σ:St)(H1:Hp)(D:Zs):Prop:=∃W:O->O->Hp->Prop,(∃m,W 0 m (upd H1 D (.lst [])))/\∀i m H,W i m H->
 (J.stop i H/\Q (.ref D) H)\/(J.go i H/\∃N:Hp->Prop,(∀H',N H'->∃m',m'<m/\W (i+1) m' H')/\∀v H',J.yld i H v H'->∃q x1 x2,v=.ref q/\SqT K H' q [x1,x2]/\te (f7 fv σ (Zz x1) (Zz x2)) H' λy H2=>∃ys,H2 D=Zz (.lst ys)/\ys.9<Zg/\N (upd H2 D (.lst (ys++[y]))))
def CH (K:ao)(fv:G (O×Str))(wi:TI)(te:TE):TE:=λσ H Q=>wi σ H λJ H1=>∀D,H1 D=Zy->vn K J fv te Q σ H1 D
theorem vo {K:ao}:CH K fv wi te a H Q=wi a H λc b=>∀D,b D=Zy->vn K c fv te Q a b D:=rfl
def CI (k:X.calm=K')(B:BlkOk2 X x z fv scope cl)(hi:PI X (.Tuple [.Name x px,.Name z pz] tk tpos) iter wi)(l:∀C s H i,PE (iM X x z fv scope cl C s H i) elt te)(hs:f' (∀v,ZA iter X.env v=pure v) C'):PE X (.ListComp elt [#[.Tuple [.Name x px,.Name z pz] tk tpos,iter,[],0]] scope pos) (CH X.K fv wi te):=by
 intro a s j H Q I h;rw[zb3];calc ZH (use:=Zy) U hs B.clos B.kind B.names (thn (hi a s j H _ I h) λv s1 m=>thn m λn s2 r=>?_);cases r,it,i,tn,J,H2,e,u,T,d,y,E;subst e;calc Iv (RR:=λf C=>zac (Ze X.prog X.w) X.A X.xe Zy (EP X a j Q) f C) k B l u T d y E ?_;intro D C F M P R c hn q;calc#[P,hn,λh' sb=>#[.ref D,M,R.turned (t':=F.toks) (λb o hb e=>(sb.2 b hb).trans e) c.1 c.2.1 c.2.2.2.1 c.2.2.2.2.1 c.2.2.2.2.2,U,q]]
def vt (X:Cx)(scope:Z4)(cl:G (Str×Zs))(fv:G (O×Str)):Prop:=∀p∈fv,X.N[p.1]?=W p.2/\(X.env.scope.names.lookup p.2=W .cell\/X.env.scope.names.lookup p.2=W .free)/\
  ((ZP scope X.env).names.lookup p.2=W .cell\/(ZP scope X.env).names.lookup p.2=W .free)/\∃c,cl.lookup p.2=W c
def pB {X:Cx}{scope:Z4}{cl:G (Str×Zs)}:vt X scope cl []:=λ_ h=>nomatch h
def nJ {X:Cx}{scope:Z4}{cl:G (Str×Zs)}{fv:G (O×Str)}(i:O)(y:Str)(b:X.N[i]?=W y)(d:X.env.scope.names.lookup y=W .cell\/X.env.scope.names.lookup y=W .free)(e:(ZP scope X.env).names.lookup y=W .cell\/(ZP scope X.env).names.lookup y=W .free)(f:∃c,cl.lookup y=W c)(r:vt X scope cl fv):vt X scope cl ((i,y)::fv):=λp a=>by
 rcases bV.mp a with rfl|a
 .exact#[b,d,e,f]
 .calc r p a
def pC {X:Cx}{x z:Str}{fv:G (O×Str)}{scope:Z4}{cl:G (Str×Zs)}(clos:Y9 scope X.env=pure cl)(sub:∀y c,cl.lookup y=W c->X.env.cells.lookup y=W c)(fvs:vt X scope cl fv)(nd:f' ((x::z::fv.map (·.2)).Nodup) B')(kind:f' (scope.kind=.function) F')(here:f' (scope.names.lookup x=W .local) F')(here2:f' (scope.names.lookup z=W .local) F')(nocell:f' (∀y∈scope.names,y.2≠.cell) J')(names:f' (∀y∈scope.names,y.2=.local->scope.names.lookup y.1=W .local) J')(has:f' (((ZP scope X.env).names.all λp=>(p.2 != .cell && p.2 != .free) || (cl.lookup p.1).isSome)=K') F'):BlkOk2 X x z fv scope cl:=
 #[clos,nocell,kind,names,here,here2,nd,sub,Cv has,fvs]
end
def Itz (K:ao)(a b:Zs):It:=
 ⟨λi H=>∃xs ys x y,SqL K H a xs/\SqL K H b ys/\xs[i]?=W x/\ys[i]?=W y,λi H v H'=>∃p x y,H p=Zy/\v=.ref p/\H'=upd H p (.tup [x,y])/\(∀xs,SqL K H a xs->xs[i]?=W x)/\∀ys,SqL K H b ys->ys[i]?=W y,
  λi H=>∃xs ys,SqL K H a xs/\SqL K H b ys/\(xs.9<=i\/ys.9<=i)⟩
def QC {K:ao}{z1:G ZU}{tk:O}{tpos:Pos}(a b z TI TO Q R:Zs)(D:ZipApart z TI TO Q R a b):
  Turn P w K (.Tuple z1 tk tpos) (Itz K a b) [z,TI,TO,Q,R] z (λi h=>IsZip h z TI TO .none/\IsPair h TI (.ref Q) (.ref R)/\(∃u v,IsPair h TO u v)/\h.IsListIter Q a i/\h.IsListIter R b i) where
 mem:=by simp
 obj:=λi h st c d=>by
  cases st,hz,f,#[u,v,l],#[o1,e1,c1,d1],#[o2,e2,c2,d2];simp only[bV,iZ,Yi]at d;rcases d with rfl|rfl|rfl|rfl|rfl
  .exact⟨_,hz,λv z=>by
    let z':zau _=X4 v:=z
    cases z'⟩
  .exact⟨_,f,λv z=>by
    let z':zdq _=X4 v:=z
    cases z'⟩
  .exact⟨_,l,λv z=>by
    let z':zdq _=X4 v:=z
    cases z'⟩
  .exact#[o1,e1,λv z=>by rw[d1]at z;cases z]
  .exact#[o2,e2,λv z=>by rw[d2]at z;cases z]
 keep:=λi h h' st k=>by
  cases st,hz,f,#[u,v,l],h1,h2;exact#[k z ⋯ _ hz,k TI ⋯ _ f,#[u,v,k TO ⋯ _ l],h1.at λo q=>k Q ⋯ o q,h2.at λo q=>k R ⋯ o q]
 item:=by
  intro X hP hw hK j i u0 s σ H E I hf st hg;subst hP hw hK;cases hg,xs,ys,x,y,y0,z0,hx,hy;cases I.list y0,v1,j0,k0,m1;cases I.list z0,j1,n0,x1,x2;cases j0.get hx,u1,y2,z2;cases n0.get hy,u2,v2,j2;cases st,hz,f,#[_,_,l],C,F;calc wpAny_pyNext_zip_item D hz f l C F k0.isList x1.isList (x:=u1) (y:=u2) (⇑y2) (⇑v2) λh1 ho g1 g2 m2 hT z3 hk=>?_;calc#[_,U,wpAny_letOwnedTupleGo_zip ho λh2 n2 M=>?_];let hp:H s.7=Zy:=I.hok.fresh (aC _);let x3:s.7≠z:=Na (Zo hz);let k2:∀c o,c∉[z,TI,TO,Q,R]->s.heap.get? c=W o->h2.get? c=W o:=λc o d q=>
   (M.2 c λe=>d (by simp[e])).trans (hk c o (λe=>d (by simp[e])) (λe=>d (by simp[e])) (λe=>d (by simp[e])) (λe=>d (by simp[e])) q)
  let y3:h2.get? s.7=W {cls:=.type "tuple",data:=.seq (Zi [u1,u2])}:=(M.2 _ x3).trans hT;let x0:∀c u,H c=W u->c∉[z,TI,TO,Q,R]:=λc u q d=>by
   rw[(hf c d).1]at q;cases q
  let up:∀c,c<s.7->c≠s.7:=λc d=>eK d;let I2:Inv X u0 σ (upd H s.7 (.tup [x,y])) {s with heap:=h2}:=by
   refine I.step (g':=s.gens) (d':=s.drawn) (t':=s.toks) (ch:=[z,TI,TO,Q,R]) (λc d=>?_) (λc o _ _ j q _=>k2 c o j q) (λc o _ _ j q _=>#[o.slots,k2 c o j q])
    (λc o _ q n=>#v[aK (up c (Zo q)),n]) (λc o j q=>#[o,k2 c o j q]) (λc ys q=>#v[aK (fH q hp),q]) (λc o v q=>#v[aK (fH q hp),q])
    (λc ps q=>#[(Zi []),by rw[aK (fH q hp),q];simp]) (λm hm=>?_) (λc v q=>?_) I.bare
   .cases hf c d,f0,f1,f2,f3,f4,f5;exact#[f3,f1,f4,f5]
   .cases hm,o,es,ep,q,r;calc#[o,es,ep,k2 _ o (λe=>?_) q,r];exact (hf _ e).2.1 U
   .by_cases d:c=s.7
    .subst d;rw[ai]at q;cases q;exact#[by show 2<=Zg;decide,[u1,u2],.cons z2 (.cons j2 .nil),#[_,y3,U,_,U]]
    .rw[aK d]at q;refine (I.hok c v q).stay (λc' o j r=>k2 c' o ?_ r) (λc' r=>#v[aK (fH r hp),r]) λc' ys r=>by rw[aK (fH r hp)];exact r
     rcases j with e|e
     .rw[e];exact x0 c v q
     .exact x0 c' _ e
  refine⟨.ref s.7,_,I2,U,#[_,x,y,hp,U,U,λzs y1=>#v[I.list_inj y1 y0,hx],λzs y1=>#v[I.list_inj y1 z0,hy]],
   #[n2,(M.2 TI D.TIz).trans (hk TI _ D.TIz D.TITO D.TIi1 D.TIi2 f),#[_,_,(M.2 TO D.TOz).trans g1],g2.at λo q=>(M.2 Q D.i1z).trans q,m2.at λo q=>(M.2 R D.i2z).trans q],λc d=>?_⟩
  let lb:c<s.7:=by
   simp only[bV,iZ,Yi]at d;rcases d with rfl|rfl|rfl|rfl|rfl
   .exact Zo hz
   .exact Zo f
   .exact Zo l
   .cases C,_,q,_;exact Zo q
   .cases F,_,q,_;exact Zo q
  rw[aK (up c lb)];exact (hf c d).1
 done:=by
  intro X hP hw hK j i u0 s σ H E I hf st hg;subst hP hw hK;cases hg,xs,ys,y0,z0,hx;cases I.list y0,v1,j0,k0,m1;cases I.list z0,j1,n0,x1,x2;cases st,hz,f,#[_,_,l],C,F;let u3:=j0.9;let v3:=n0.9;refine wpAny_pyNext_zip_end (I.ok.hd j) D hz f l C F k0.isList x1.isList (by rcases hx with e|e;exact .inl (by simp;lk);exact .inr (by simp;lk)) λh' eb=>#[U,?_]
  let k2:∀c o,c∉[z,TI,TO,Q,R]->s.heap.get? c=W o->h'.get? c=W o:=λc o d q=>eb c o (λe=>d (by simp[e])) (λe=>d (by simp[e])) (λe=>d (by simp[e])) (λe=>d (by simp[e])) q;refine I.step (g':=s.gens) (d':=s.drawn) (t':=s.toks) (ch:=[z,TI,TO,Q,R]) (λc d=>?_) (λc o _ _ j q _=>k2 c o j q) (λc o _ _ j q _=>#[o.slots,k2 c o j q])
   (λc o _ q n=>n) (λc o j q=>#[o,k2 c o j q]) (λc ys q=>q) (λc o v q=>q) (λc ps q=>#[(Zi []),by rw[q];simp]) (λm hm=>?_) (λc v q=>?_) I.bare
  .cases hf c d,f0,f1,f2,f3,f4,f5;exact#[f3,f1,f4,f5]
  .cases hm,o,es,ep,q,r;exact#[o,es,ep,k2 _ o (λe=>(hf _ e).2.1 U) q,r]
  .calc (I.hok c v q).stay (λc' o j r=>k2 c' o ?_ r) (λc' r=>r) λc' ys r=>r;let x0:∀c u,H c=W u->c∉[z,TI,TO,Q,R]:=λc u q d=>by
    rw[(hf c d).1]at q;cases q
   rcases j with e|e
   .rw[e];exact x0 c v q
   .exact x0 c' _ e
 self:=λ_ _ _ _ _ st h=>zee st.1 h
section
variable {X:Cx}
def Iw (K:ao)(ta:TA):TI:=λσ H R=>ta σ H λvs H1=>∃a b xs ys,vs=[.ref a,.ref b]/\SqL K H1 a xs/\SqL K H1 b ys/\R (Itz K a b) H1
def jO {i:G ZU}{tk:O}{tpos:Pos}{a b:ZU}{p pos:Pos}(hg:Gl X "zip")(hm:X.mg "zip" = Zy)(ha:PA X [a,b] E)(hs:f' (Za [a,b] X.env=[(O',ZJ a X.env),(O',ZJ b X.env)]) F')(j:f' (Za [b] X.env=[(O',ZJ b X.env)]) F'):
  PI X (.Tuple i tk tpos) (.Call (.Name "zip" p) [a,b] [] pos) (Iw X.K E):=by
 intro f s F H R I h;refine Call_ (jg I hg hm boot_zip (ZS (thn (ha pos f s F H _ I h) λus d zz=>?_) (by rw[hs,j]) (by rw[j];rfl)));cases zz,vs,M,k,r1,q1;cases q1,a,b,xs,ys,e,o,u,q;subst e
 cases r1 with
 |cons r rr=>
  cases rr with
  |cons r' rr=>
  cases rr
  cases r
  cases r'
  cases k.list o,P,x0,l,y0;cases k.list u,Q,z0,m,u0;let a1:a<d.7:=by cases l.isList,_,e,_;exact Zo e
  let a2:b<d.7:=by cases m.isList,_,e,_;exact Zo e
  calc call_zip_2 l.isList m.isList λh1 hz x y z C j0 hk=>?_;let I2:Inv X f F M {d with heap:=h1}:=k.kept (t':=d.toks) hk;calc zee hz ?_;calc#[d.7+4,[d.7+4,d.7+2,d.7+3,d.7,d.7+1],_,_,M,rfl,I2,QC a b _ _ _ _ _ (zipApart_new a1 a2),#[hz,x,#[_,_,y],z,C],λc hb=>?_,q];let n:d.7<=c:=by
   simp only[bV,iZ,Yi]at hb;rcases hb with rfl|rfl|rfl|rfl|rfl <;> lk
  calc k.fpOk n (k.hok.fresh n)
end
theorem vv {K:ao}:Iw K d e H R=d e H λf c=>∃a b h i,f=[.ref a,.ref b]/\SqL K c a h/\SqL K c b i/\R (Itz K a b) c:=rfl
def CJ {K:ao}{xs ys:G V}{n:TE}{Q:VK}(c:dG)(x:c 0 (upd q D (.lst [])))(z:∀i H,i<=xs.9->i<=ys.9->c i H->SqL K H a xs/\SqL K H b ys)(hs:∀i d f p H,xs[i]?=W d->ys[i]?=W f->c i H->H p=Zy->n (f7 l o (W d) (W f)) (upd H p (.tup [d,f])) λy r=>∃h,r D=W (.lst h)/\h.9<Zg/\c (i+1) (upd r D (.lst (h++[y]))))(hd:∀H,c (min xs.9 ys.9) H->Q (.ref D) H):vn K (Itz K a b) l n Q o q D:=by
 refine#[λi m H=>m=min xs.9 ys.9-i/\i<=min xs.9 ys.9/\c i H,#[_,U,bh _,x],?_]
 rintro i m H ⟨rfl,hi,p⟩
 cases z i H () () p,j,k;by_cases hlt:i<min xs.9 ys.9
 .let C:i<xs.9:=()
  let E:i<ys.9:=()
  calc .inr #[#[xs,ys,xs[i],ys[i],j,k,aq C,aq E],c (i+1),λF I=>#[min xs.9 ys.9-(i+1),(),U,hlt,I],λv F y=>?_];cases y,pa,s,u,M,P,R,X,y2;subst P R;exact#[pa,s,u,U,.inl (.inl ai),hs i s u pa H (X xs j) (y2 ys k) p M]
 .let e:i=min xs.9 ys.9:=()
  calc .inl #[#[xs,ys,j,k,()],?_];rw[e]at p;calc hd H p
section
variable {X:Cx}
def Ix (i:X.calm=K'):ir X (.builtin "sum") (λc H Q=>∃(p:Zs)(ns:aa),c=[.ref p]/\SqL X.K H p (ns.map V.int)/\Q (.int ns.sum) H):=by
 intro d s x H c y Q I r h;cases h,p,ns,rfl,j,q;obtain⟨u,rfl,k⟩:=ky r
 cases k
 cases I.list j,l,m,pl,z;let hi:=py m;cases hi.allInts.items,a,e;let b:ns=a.toList.map (·.1):=by rw[<-hi.numsOf,<-zap,<-e]
 let f:=pl.isList;rw[e]at f;calc sum_intListG (I.ok.hd i) f λC E n hk=>?_;let o:preSum (zbt a) a.size=ns.sum:=by rw[preSum_eq,b,ii ⋯]
 rw[o];calc#[.int _,H,I.kept hk,#[n,U],q]
end
section
variable {X:Cx}{elt iter cnd:ZU}{x:Str}{px:Pos}{fv:G (O×Str)}{scope:Z4}{cl:G (Str×Zs)}{pos:Pos}{te:TE}{tt:TT}{wi:TI}
def QD {i:O}{j d:Pos}(hc:X.calm=K')(B:BlkOk X x fv scope cl)(hi:PI X (.Name x px) iter wi)(m:∀C s H l,PT (blk X x fv scope cl C s H l) cnd tt)(he:∀C s H l,PE (blk X x fv scope cl C s H l) elt te)(hN:X.N.Nodup)(n:X.N[i]?=W y)(hy:X.env.scope.names.lookup y=W .local)(r:f' (Y6 (.ListComp elt [#[.Name x px,iter,[cnd],0]] scope pos) (W (.Name y j)) d.line X.env=pure K') F')(hs:f' (∀v,ZA iter X.env v=pure v) C'):
  PS X (.Assign [.Name y j] (.ListComp elt [#[.Name x px,iter,[cnd],0]] scope pos) d) (l_ (Iu fv wi tt te) (ip i)):=by
 intro c s σ H D I h;rw[YQ _ _ _ _ r];calc Zm (Yk (Zm ?_));show Zf _ X.A (do let _ <-zaq (.ListComp elt [#[.Name x px,iter,[cnd],0]] scope pos) scope X.env _ (zae []) O' (ZJ iter X.env) (W (Z5 (.Name y j) X.env))) _ _ s;refine Zm (ZO (ZH (use:=W (Z5 (.Name y j) X.env)) (Q:=λ_ k=>SP X c D .next k) U hs B.clos B.kind B.names
  (thn (hi c s σ H _ I h) λv s1 h1=>thn h1 λx0 s2 h2=>?_)) (λ_ k hq=>Zd (Zd hq)) λ_ _ e=>e)
 cases h2,it,l,tn,J,H2,e,I2,T,u,f2,rd;subst e;calc Qw (Q:=λx H1=>ip i x σ H1 D.nx) (RR:=λz C=>zac (Ze X.prog X.w) X.A X.xe (W (Z5 (.Name y j) X.env)) (λ_ k=>SP X c D .next k) z C) hc B m he I2 T u f2 rd ?_;intro Dl C k H' m' I' f hn q;show Zf _ X.A (Z5 (.Name y j) X.env (.ref Dl)) _ _ _;calc Yz (oZ I' hN n (.inl hy) (v:=.ref Dl) U (λE F M=>?_) (.inr hy));cases M,a,sb,ha;let P:C≠a:=by
  rcases ha with rfl|e
  .exact f.2.1
  .exact ZQ (f.2.2.2.2.1 _ _ e)
 calc#[m',hn.sameBut sb P,λh' R=>#[_,H',F.turned (t':=E.toks) (λb o hb e=>(R.2 b hb).trans e) f.1 f.2.1 f.2.2.2.1 f.2.2.2.2.1 f.2.2.2.2.2,q]]
end
def vz {K:ao}{xs ys:G V}{g:TG}{tb:TS}{D:Ends}{c:St}{H:Hp}(d:O->St->Hp->Prop)(n:d 0 c H)(o:∀i c H,i<=xs.9->i<=ys.9->d i c H->SqL K H a xs/\SqL K H b ys)(hs:∀i k l p c H,xs[i]?=W k->ys[i]?=W l->d i c H->H p=Zy->g (.ref p) c (upd H p (.tup [k,l])) λf q=>tb {D with nx:=d (i+1),ct:=d (i+1),bk:=D.nx} f q)(hd:∀c H,d (min xs.9 ys.9) c H->D.nx c H):kz (Itz K a b) g tb D c H:=by
 refine#[λi m c H=>m=min xs.9 ys.9-i/\i<=min xs.9 ys.9/\d i c H,#[_,U,bh _,n],?_]
 rintro i m c H ⟨rfl,hi,p⟩
 cases o i c H () () p,h,j;by_cases hlt:i<min xs.9 ys.9
 .let r:i<xs.9:=()
  let s:i<ys.9:=()
  calc .inr #[#[xs,ys,xs[i],ys[i],h,j,aq r,aq s],d (i+1),λu z C=>#[min xs.9 ys.9-(i+1),(),U,hlt,C],λx z y=>?_];cases y,pa,E,F,I,M,P,Q,R;subst M P;exact hs i E F pa c H (Q xs h) (R ys j) p I
 .let e:i=min xs.9 ys.9:=()
  rw[e]at p;calc .inl #[#[xs,ys,h,j,()],hd c H p]
section
variable {prog:Zb}{w:ZW}{A:ZK}{R:zat->Zp->Prop}{I S:Zs}{fp wr:ap}{n:O}{P:O->Zr->Prop}{St:O->ZN->Prop}{bt:O->O->Yl}{d:G (Str×Zr)}
def vB:(toString "max" ++ toString ".loop" : YL) = "max.loop" := by decide
theorem CK (W:Walks prog w A.in1 I fp wr n P St)(C:CmpOf prog w A.in1 .Gt P bt)(r:S∉fp):∀(m i:O)(z:Zp)(u:Zr)(c:O),n=i+1+m->St (i+1) z.heap->P (zai bt i) u->
  z.heap.get? S=Zz {cls:=.type "list",dict:=Zy,data:=.seq (Zi [u,u]) c,slots:=(Zi [])}->
  (∀v g y,P (zai bt (n-1)) v->(∀b o,b∉wr->b≠S->z.heap.get? b=Zz o->g.get? b=Zz o)->R (.ok (.ret v)) {z with heap:=g,toks:=y})->Yv (Ze prog w) A (.builtin "max.loop" #[[.ref I,.none,.ref S],d]) R z
 |0,i,z,u,c,hn,st,hp,eS,q=>by
  let E:S∉wr:=λh=>r (W.sub _ h);calc zbj YF ?_;rw[Y5 ZE _];show Zf _ A.in1 (zeg (.ref S) >>= _) _ _ z;calc Zm (zbq eS U ?_);show Zf _ A.in1 (tryCatch (zbs (.ref I)) _ >>= _) _ _ z;let s:n=i+1:=hn;calc Zm (YI (W.done z _ _ #v[s,st] λg y kp=>?_));let a:=kp S _ E eS;show Zf _ A.in1 (updateSeq S (λ_=>(Zi [])) >>= _) _ _ _;calc Zm (zbi a U (Zm (zba (Zd (q u _ y #v[s,hp] λb o nb l e=>?_)))));calc (ZD _ _ (ZQ l)).trans (kp b o nb e)
 |m+1,i,z,u,c,hn,st,hp,eS,q=>by
  let E:S∉wr:=λh=>r (W.sub _ h);calc zbj YF ?_;rw[Y5 ZE _];show Zf _ A.in1 (zeg (.ref S) >>= _) _ _ z;calc Zm (zbq eS U ?_);show Zf _ A.in1 (tryCatch (zbs (.ref I)) _ >>= _) _ _ z;calc Zm (YI (W.item (i+1) z _ _ () st λv g y pv x kp=>?_));let a:=kp S _ E eS;show Zf _ A.in1 (tryCatch (zag [v,v] (richCompare .Gt v u >>= _)) _ >>= _) _ _ _;refine Zm (YI (YB (Zm (C (i+1) (zai bt i) v u _ _ _ pv hp (Zm (YB (YW (Zm (zba (Zd ?_))))))))))
  cases hb:bt (i+1) (zai bt i) with
  |true=>
   simp only[zaf];calc Zm (zbi a U (Zm (zba ?_)));rw[vB];refine Zd #[zao ZE _,CK W C r m (i+1) _ v _ () (W.frame _ _ _ x λb M o e=>(ZD _ _ (λh:S=b=>r (h ▸ M))).trans e) (by simp only[zai,hb,zaf];calc pv) (Y4 _ a U) λF H f j k=>?_];calc q F H f j λb o nb l e=>k b o nb l ((ZD _ _ (ZQ l)).trans (kp b o nb e))
  |false=>
   simp only[zcg,zaw];calc Zm (zba ?_);rw[vB];calc Zd #[zao ZE _,CK W C r m (i+1) _ u c () x (by simp only[zai,hb,zcg,zaw];calc hp) a λF H f j k=>q F H f j λb o nb l e=>k b o nb l (kp b o nb e)]
theorem QE (W:Walks prog w A.in1 I fp wr n P St)(u:CmpOf prog w A.in1 .Gt P bt)(d:S∉fp){z:Zp}{f:O}{x:Zr}{k:Str}(st:St 0 z.heap)(s:z.heap.get? S=Zz {cls:=.type "list",dict:=Zy,data:=.seq (Zi []) f,slots:=(Zi [])})(q:∀v g c,(n=0/\v=x)\/(0<n/\P (zai bt (n-1)) v)->(∀b o,b∉wr->b≠S->z.heap.get? b=Zz o->g.get? b=Zz o)->R (.ok (.ret v)) {z with heap:=g,toks:=c}):Yv (Ze prog w) A (.builtin "max.loop" #[[.ref I,.none,.ref S],[(k,x)]]) R z:=by
 let y:S∉wr:=λh=>d (W.sub _ h);calc zbj YF ?_;rw[Y5 ZE _];show Zf _ A.in1 (zeg (.ref S) >>= _) _ _ z;calc Zm (zbq s U ?_);show Zf _ A.in1 (tryCatch (zbs (.ref I)) _ >>= _) _ _ z;by_cases n0:n=0
 .calc Zm (YI (W.done z _ _ #v[n0,st] λg c kp=>?_));show Zf _ A.in1 (rule _ >>= _) _ _ _;calc Zm (wpAny_rule ?_);exact Zd (q x g c (.inl #[n0,U]) λb o nb i e=>kp b o nb e)
 .calc Zm (YI (W.item 0 z _ _ () st λv g c pv j kp=>?_));let a:=kp S _ y s;show Zf _ A.in1 (updateSeq S (λ_=>(Zi [v,v])) >>= _) _ _ _;calc Zm (zbi a U ?_);rw[vB];calc Zd #[zao ZE _,CK W u d (n-1) 0 _ v _ () (W.frame _ _ _ j λb C o e=>(ZD _ _ (λh:S=b=>d (h ▸ C))).trans e) pv (Y4 _ a U) λE F l m r=>?_];calc q E F l (.inr #[(),m]) λb o nb i e=>r b o nb i ((ZD _ _ (ZQ i)).trans (kp b o nb e))
end
def QF (a v:Zr):argsOk "max" #[[a],[(Y1 "default",v)]]:=by unfold argsOk;kernel_rfl
def QG {A:ZK}{s:Zp}{l:Zs}{x:Zr}{Q:bD}(k:A.handled=Zy)(m:s.heap.IsList l (zc9 xs))(q:∀v a c,(xs.size=0/\v=x)\/(0<xs.size/\(zc9 xs)[zai (λi j=>decide (zbt xs i > zbt xs j)) (xs.size-1)]?=W v)->(∀b o,s.heap.get? b=W o->a.get? b=W o)->Q v {s with heap:=a,toks:=c}):
  Zf (Ze prog w) A (zb4 (.builtin "max") [.ref l] [(Y1 "default",x)]) Q E s:=by
 calc PyProof.Rows.kmk_tree PySem.F.kind_max PySem.F.plain_max PySem.F.entry_max (QF _ _) ?_;show Zf _ A.in1 (Y8 "max" ["key","default"] 0 #[[],[(Y1 "default",x)]] >>= _) _ _ s;calc Zm (wpAny_of_eq (show Y8 "max" ["key","default"] 0 #[[],[(Y1 "default",x)]]=pure [Zy,W x] from rfl) ?_);calc Zm (Zd (Zm (iter_intList m λh e st d f=>?_)));subst e;calc Zm (YV ?_);rw[vB];let u:=Walks.list (prog:=prog) (w:=w) (A:=A.in1) k _ l f (zc9 xs);calc Zd #[zao ZE _,QE u (CmpOf.ints_gt (zbt xs) (λ_ _=>zbc)) (λn=>kW _ (d _ n)) (u.frame _ _ _ st λb _ o e=>Zl _ e) (ZV _ U) λv a c r hk=>?_];refine q v a c (by simpa [zc9] using r) (old_kept (s:=s) (l:=l) λb o nb e=>?_);calc hk b o nb (eK (Zo e)) (Zl _ e)
def Iy (K:ao)(t tk:TA):TE:=λσ H Q=>t σ H λvs H1=>tk σ H1 λzs H2=>∃p ns d,vs=[.ref p]/\zs=[.int d]/\SqL K H2 p (ns.map V.int)/\∀M,(ns=[]/\M=d)\/(M∈ns/\∀a∈ns,a<=M)->Q (.int M) H2
def QH {X:Cx}{p pos b:Pos}{e k:ZU}(hc:X.calm=K')(hg:Gl X "max")(hm:X.mg "max" = Zy)(ha:PA X [e] t)(n:PK X [#[W "default",k,b]] tk)(he:f' (Yr pos (Za [e] X.env)=(O',ZJ e X.env)::Yr pos (Za [] X.env)) F')(o:f' ((Yr pos (Za [e] X.env)).any (·.1)=O') F')(j:f' ((YS pos (Yy [#[W "default",k,b]] X.env)).all (·.1.isSome)=K') F')(y:f' ((YS pos (Yy [#[W "default",k,b]] X.env)).filterMap (·.1)=[Y1 "default"]) F')(z:f' ((YS pos (Yy [#[W "default",k,b]] X.env)).any (·.1.isNone)=O') F'):
  PE X (.Call (.Name "max" p) [e] [#[W "default",k,b]] pos) (Iy X.K t tk):=by
 intro c s M H Q I h;calc Ys (jg I hg hm jM ?_ () ());calc PyProof.Rows.callWith_kw (thn (ha pos c s M H _ I h) λus s1 C=>?_) he o j z;cases C,vs,H1,I1,r,q;calc thn (n pos c s1 M H1 _ I1 q) λx0 s2 C=>?_;cases C,l,P,m,rz,q2;rw[y];cases q2,a,ns,d,rfl,rfl,hq,R;cases ky r,u,rfl,rx;cases ky rz,u',rfl,E;obtain⟨td,rfl⟩:=E
 cases rx
 cases m.list hq,y0,r',pl,hz;let hi:=py r';cases hi.allInts.items,l,e;let f:ns=l.toList.map (·.1):=by rw[<-hi.numsOf,<-zap,<-e]
 let hl:=pl.isList;rw[e]at hl;calc QG (x:=.int d td) (m.ok.hd hc) hl λv h' tk F hk=>?_;rcases F with ⟨h0,rfl⟩|⟨h0,F⟩
 .exact#[.int _,P,m.kept hk,#[td,U],R d (.inl #[by rw[f,kf];exact b7 #v[Yj,h0],rfl])]
 .cases zbc F,tv,rfl;cases argBest_gt (zbt l) (l.size-1),g1,g2;calc#[.int _,P,m.kept hk,#[tv,U],R _ (.inr #[CD f (),λx hx=>?_])];cases CF f hx,i,hi,rfl;calc g2 i ()
theorem vD {K:ao}:Iy K t tk b H Q=t b H λe f=>tk b f λh c=>∃p ns d,e=[.ref p]/\h=[.int d]/\SqL K c p (ns.map V.int)/\∀M,(ns=[]/\M=d)\/(M∈ns/\∀a∈ns,a<=M)->Q (.int M) c:=rfl
theorem vE {K:ao}:rIn K neg x y H Q=∃p a,y=.ref p/\(SqL K H p a\/SqT K H p a)/\iI x=K'/\a.all iI=K'/\Q (.bl (if neg then !inV x a else inV x a)) H:=rfl
def QI (n:Y)(ns:aa):inV (.int n) (ns.map V.int)=decide (n∈ns):=by
 unfold inV
 induction ns with
 |nil=>rfl
 |cons m ns ih=>
  rw[fo,ye,ih];let:eqV (.int m) (.int n)=decide (n=m):=by
   rw[Ye];simp only[eqV,zdw,zax];exact eq_comm
  rw[this];simp
open PySem
open PySem
open PySem
open PySem
section
variable {prog:Zb}{w:ZW}{K:Type}[zdf K]{kn:KeyKind prog w K}{A:ZK}{E:bD}
abbrev Prs (K:Type):=G (Zs×G K×Zs×Zr)
end
open PySem
open PySem
open PySem
open PySem
open PySem
open PySem
inductive Tr where|lf|nd (l:Tr) (k:O) (r:Tr)
def Tr.ins (k:O):Tr->Zk Tr
 |.lf=>W (.nd .lf k .lf)
 |.nd l m r=>match Nat.blt k m with
  |true=>match Tr.ins k l with|some l'=>W (.nd l' m r)|none=>Zy
  |false=>match Nat.blt m k with
   |true=>match Tr.ins k r with|some r'=>W (.nd l m r')|none=>Zy
   |false=>Zy
def Tr.all:aE->Tr->Yl
 |[],_=>K'
 |k::ks,t=>match t.ins k with|some t'=>Tr.all ks t'|none=>O'
def Tr.mem (x:O):Tr->Prop
 |.lf=>False
 |.nd l k r=>x=k\/l.mem x\/r.mem x
abbrev P2:=Y×Y
section
variable {K:ao}{C:Zs}{m f:Str}{sp:Sp}{dvs:G V}{E:XK}{ta tv:TE}{t:TA}{σ:St}{H:Hp}{Q:VK}{D:Ends}
theorem vF:Ci K ta f σ H Q=ta σ H λx b=>kR x λa=>∃C dx fs v,b a=W (.ins C dx fs)/\Cls K C/\NoAttr K C f/\fs.lookup f=W v/\Q v b:=rfl
theorem vG:Hq K ta tv f D σ H=tv σ H λy c=>ta σ c λx b=>∃a C dx fs,x=.ref a/\b a=W (.ins C dx fs)/\Cls K C/\NoAttr K C f/\fs.9<1000/\D.nx σ (upd b a (.ins C dx (bW f y fs))):=rfl
theorem vH:HC C m sp dvs E ta t σ H Q=ta σ H λx b=>kR x λa=>∃dx fs,b a=W (.ins C dx fs)/\fs.lookup m=Zy/\t σ b λc d=>sp (x::(c++dvs)) d Q E:=rfl
theorem vI:HD C sp dvs E t σ H Q=t σ H λb a=>∀x dx,a x=Zy->a dx=Zy->dx≠x->sp (.ref x::(b++dvs)) (upd (upd a dx (.own x)) x (.ins C dx [])) (λv c=>v=.non/\Q (.ref x) c) E:=rfl
end
def QJ (i j:Y):Prop:=j≠0/\i.8<2^4000*j.8
def QK {x y:Y}(hy:y≠0)(h:x.8<2^4000*y.8):Builtin.divisionGoesByPylong x y=O':=by
 let a:¬((if (x == 0)=K' then 0 else x.natAbs.log2 / 30+1) > (if (y == 0)=K' then 0 else y.natAbs.log2 / 30+1)+150):=by
  rw[N (show ¬((y == 0)=K') by simpa using hy)];by_cases hx:x=0
  .rw[Zt (show (x == 0)=K' by simpa using hx)];lk
  .rw[N (show ¬((x == 0)=K') by simpa using hx)];let b:x.8≠0:=()
   let c:y.8<2^(y.natAbs.log2+1):=zdb;let d:x.8<2^(4000+(y.natAbs.log2+1)):=by
    rw[eH];exact zen h (Ew c (Nh ()))
   let e:=(Et b).mpr d;lk
 calc Bool.and_eq_false_iff.mpr (.inr (Yo a))
def QL:OpR X (Yh .FloorDiv) (rI QJ λi j=>.int (i.fdiv j)):=opI λ_ _ _ _ _ _ _ a q=>zcm a.1 q (.inl (QK a.1 a.2))
theorem vJ:H_ x vs H Q=∃l b a c,x=.ref l/\vs=[.ref b]/\H l=W (.lst a)/\H b=W (.lst c)/\a.9+c.9<=Zg/\Q .non (upd H l (.lst (a++c))):=rfl
@[reducible] def iC (X:Cx) (x:Str) (fv:G (O×Str)) (scope:Z4) (cl:G (Str×Zs)) (C:Zs) (s:Zp) (H:Hp) (fp:ap):Cx:=
 {blk X x fv scope cl C s H fp with env:={Ym scope cl C X.env with cells:=(x,C+1)::cl},fn:=λy=>y == x}
structure BlkOkC (X:Cx)(x:Str)(fv:G (O×Str))(scope:Z4)(cl:G (Str×Zs)):Prop where
 clos:Y9 scope X.env=pure cl
 one:∀n,zah n scope.names cl=(x,n) :: cl
 push:∀h,zeh h scope.names=h.push { cls:=.type "cell",data:=.cell Zy }
 kind:scope.kind=.function
 names:∀y∈scope.names,y.2=.local->scope.names.lookup y.1=W .local
 here:(ZP scope X.env).names.lookup x=W .cell
 sub:∀y c,cl.lookup y=W c->X.env.cells.lookup y=W c
 has:∀y,y≠x->((ZP scope X.env).names.lookup y=W .cell\/(ZP scope X.env).names.lookup y=W .free)->∃c,cl.lookup y=W c
 nd:(x :: fv.map (·.2)).Nodup
 fvs:∀p∈fv,p.2≠x/\X.N[p.1]?=W p.2/\(X.env.scope.names.lookup p.2=W .cell\/X.env.scope.names.lookup p.2=W .free)/\
  ((ZP scope X.env).names.lookup p.2=W .cell\/(ZP scope X.env).names.lookup p.2=W .free)/\∃c,cl.lookup p.2=W c
def jP {x y:Str}{n c:Zs}{cl:G (Str×Zs)}(h:((x,n)::cl).lookup y=W c):(y=x/\c=n)\/(y≠x/\cl.lookup y=W c):=by
 rw[Es]at h
 cases e:y == x with
 |true=>rw[e]at h;cases h;calc .inl #[eq_of_beq e,U]
 |false=>rw[e]at h;calc .inr #[λz=>by rw[z]at e;simp at e,h]
def Iz {x y:Str}{n c:Zs}{cl:G (Str×Zs)}(ne:y≠x)(h:cl.lookup y=W c):((x,n)::cl).lookup y=W c:=by
 rw[Es,show (y == x)=O' by simpa using ne];calc h
def QM {x:Str}{n:Zs}{cl:G (Str×Zs)}:((x,n)::cl).lookup x=W n:=by
 rw[Es,show (x == x)=K' by simp]
section
variable {X:Cx}{elt iter:ZU}{x:Str}{px:Pos}{fv:G (O×Str)}{scope:Z4}{cl:G (Str×Zs)}{pos:Pos}{te:TE}{wi:TI}
def QN {k:ap}{C:Zs}(B:BlkOkC X x fv scope cl)(I:Inv X a r H s)(l:∀b∈k,eI X a H b)(hC:s.7<=C)(m:∀b∈k,b≠C)(q:∀b∈k,b≠C+1):
  (iC X x fv scope cl C s H k).Ok where
 mod:=I.ok.mod
 kind:=B.kind
 glob:=I.ok.glob
 blt:=I.ok.blt
 above:=hC
 inj:=λy z c i f=>by
  let j:∀{y:Str},cl.lookup y=W (C+1)->False:=λ{y} h=>by
   cases I.cell y _ (B.sub y _ h),v,o,u,_;exact Zq (Zo u) (Nat.not_lt.mpr (zc0 hC))
  rcases jP i with ⟨rfl,rfl⟩|⟨n1,i⟩
  .rcases jP f with ⟨rfl,_⟩|⟨E,f⟩
   .rfl
   .exact (j f).elim
  .rcases jP f with ⟨_,e⟩|⟨E,f⟩
   .rw[e]at i;exact (j i).elim
   .exact I.ok.inj y z c (B.sub y c i) (B.sub z c f)
 has:=λy hy=>by
  by_cases e:y=x
  .exact#[C+1,#v[e,QM]]
  .cases B.has y e hy,c,F;exact#[c,Iz e F]
 cab:=λy c hy h=>by
  let e:y=x:=eq_of_beq hy;rcases jP h with ⟨_,rfl⟩|⟨n,_⟩
  .exact zc0 hC
  .exact Zq e n
 hd:=I.ok.hd
 frames:=I.ok.frames
 stk:=.inl U
 exf:=λb d=>⟨m b d,λy c e=>by
  rcases jP e with ⟨_,rfl⟩|⟨_,e⟩
  .exact ZQ (q b d)
  .calc (l b d).2.2.2.2.1 y c (B.sub y c e)⟩
 bs:=I.bs
 bsz:=aP I.ok.bsz I.sz
 noex:=λb o e d=>by
  cases l b d,_,_,_,M,_;rcases M with z|z
  .exact I.ok.noex b o e z
  .exact Zq (dE (Zo e) (aP I.ok.bsz z)) (kW _)
 exfs:=λb d hs=>by
  cases l b d,_,P,Q,_;rcases bV.mp (I.stkSub b hs) with z|z
  .exact P z
  .exact Q z
 funs:=I.stack
 frf:=I.stkFree
def QO {s d:Zp}{h:ap}{C:Zs}{m:ck}(B:BlkOkC X x fv scope cl)(I:Inv X a σ H s)(hf:∀b∈h,eI X a H b)(hC:C=s.7)(n:∀b∈h,b≠C)(q:∀b∈h,b≠C+1)(os:d.os=s.os)(f:d.gens=s.gens)(keep:∀b o,s.heap.get? b=W o->d.heap.get? b=W o)(ns:d.heap.Ns C m)(ce:d.heap.IsCell (C+1) Zy):
  Inv (iC X x fv scope cl C s H h) [] (bst fv σ Zy) H d:=by
 subst hC;refine#[QN B I hf (aC _) n q,os,#v[f,I.bare],Un.kept keep,#[m,ns,λi y v h1 h2 h3=>?_],λy c e=>?_,I.hok.fresh (aC _),λy c e=>?_,λp E=>Zq (show p∈([]:aN) from E) ⋯,I.hok.kept keep,by simp[bst]]
 .cases i with
  |zero=>simp[bst]at h2
  |succ j=>
   cases Cu h1 h2,p,E,rfl,hv;cases B.fvs p E,F,hN,hk,M,c,hc;cases I.loc,m0,_,hl;let P:Vis X.env.scope p.2:=hk.elim (λz=>.inr (.inl z)) λz=>.inr (.inr z);cases hl p.1 p.2 v hN hv P,u,r,l;calc#[u,r,.inr #[M,c,Iz F hc,?_]];rcases l with ⟨z,_⟩|⟨_,c',Q,o,R,hd⟩
   .let z':X.env.scope.names.lookup p.2=W .local:=z;rcases hk with k|k <;> (rw[k]at z';cases z')
   .let:=B.sub p.2 c hc;rw[Q]at this;cases this;exact#[o,keep _ o R,hd]
 .rcases jP e with ⟨_,rfl⟩|⟨_,e⟩
  .exact#[Zy,ce]
  .cases I.cell y c (B.sub y c e),v,o,R,hd;exact#[v,o,keep c o R,hd]
 .rcases jP e with ⟨_,rfl⟩|⟨_,e⟩
  .exact I.hok.fresh (Er _)
  .calc I.freeC y c (B.sub y c e)
def QP {s:Zp}{g:Zs}{q:Str}{env:Env}{Q:Env->Zp->Prop}(one:∀n,zah n scope.names cl=(x,n)::cl)(push:∀h,zeh h scope.names=h.push {cls:=.type "cell",data:=.cell Zy})(h:Q {scope:=scope,locals:=s.7,globals:=g,cells:=(x,s.7+1)::cl,qual:=q,func:=Zy,code:=env.code,frame:=env.frame,builtins:=env.builtins}
   {s with heap:=(s.heap.push {cls:=.type "dict",data:=.dict (Zi [])}).push {cls:=.type "cell",data:=.cell Zy}}):
  Zf M A (YU scope g cl [] q Zy .none (W env)) Q E s:=by
 simp only[YU,Option.isSome_some,zaf];calc Zm (wpAny_alloc ?_);refine Zm (wpAny_layCells _ (λb kind a=>by cases hkc:kind == NameKind.cell <;> simp[hkc]) _ _ _ _ ?_);rw[show ({s with heap:=s.heap.push {cls:=.type "dict",data:=.dict (Zi [])}}:Zp).7=s.7+1 from Yx ..];dsimp only;rw[one,push];rw[zdn];calc Zm (Zd (Zd h))
def QQ {E:bD}{Q:Unit->Zp->Prop}(B:BlkOkC X x fv scope cl)(I:Inv (iC X x fv scope cl C s b c) a (bst fv d o) H e)(r:RelV v u)(h:∀f,Inv (iC X x fv scope cl C s b c) a (bst fv d (W v)) H f->Q #[] f):
  Zf (Ze X.prog X.w) X.A (Z5 (.Name x px) {Ym scope cl C X.env with cells:=(x,C+1)::cl} u) Q E e:=
 Yz (rT (X:=iC X x fv scope cl C s b c) (i:=0) I B.nd U (.inr B.here) r h (.inl (by show (x == x)=K';simp)))
end
section
variable {X:Cx}{elt iter:ZU}{x:Str}{px:Pos}{fv:G (O×Str)}{scope:Z4}{cl:G (Str×Zs)}{pos:Pos}{te:TE}{wi:TI}
def IA {it:Zs}{tn:O->ZN->Prop}{J:It}{Q:VK}{E:bD}{RR:Zr->Zs->zat->Zp->Prop}(hc:X.calm=K')(B:BlkOkC X x fv scope cl)(he:∀C s H k,PE (iC X x fv scope cl C s H k) elt te)(I:Inv X d σ H f)(T:Turn X.prog X.w X.K (.Name x px) J k it tn)(st:tn 0 f.heap)(hf:∀b∈k,eI X d H b)(rd:∀D,H D=Zy->∃W:O->O->Hp->Prop,(∃m,W 0 m (upd H D (.lst [])))/\∀i m H,W i m H->
   (J.stop i H/\Q (.ref D) H)\/(J.go i H/\∃N:Hp->Prop,(∀h,N h->∃m',m'<m/\W (i+1) m' h)/\∀v h,J.yld i H v h->te (bst fv σ (Zz v)) h λy H2=>∃ys,H2 D=Zz (.lst ys)/\ys.9<Zg/\N (upd H2 D (.lst (ys++[y])))))(y2:∀D C s' h m',Inv X d σ h s'->eI X d h C->s'.heap.Ns C m'->Q (.ref D) h->RR (.ref D) C (.ok .next) s'):
  Zf (Ze X.prog X.w) X.A (zae []) (λu0 j0=>Zf (Ze X.prog X.w) X.A (YU scope X.env.globals cl [] X.env.qual Zy .none (Zz X.env)) (λP k0=>
   Yv (Ze X.prog X.w) X.A (.compStart (.ListComp elt [#[.Name x px,iter,[],0]] scope pos) 0 (.ref it) u0 {P with scope:=ZP scope X.env}) (RR u0 P.locals) k0) E j0) E f:=by
 refine YV ?_ (by show 0<=Zg;calc bh _);let hD:H f.7=Zy:=I.hok.fresh (aC _);let I3:=I.lnew (ys:=[]) (its:=[]) (t':=f.toks) .nil (bh _);generalize x0:({f with heap:=f.heap.push {cls:=.type "list",data:=.seq ([]:G Zr).toArray},toks:=f.toks}:Zp)=a at I3;let n0:a.7=f.7+1:=by rw[<-x0];exact Yx ..
 let x1:∀b o,f.heap.get? b=Zz o->a.heap.get? b=Zz o:=λb o e=>by rw[<-x0];exact Zl _ e
 let y1:∀b∈k,eI X d (upd H f.7 (.lst [])) b:=λb l=>by
  cases hf b l,f0,r;calc#[?_,r];cases T.obj 0 _ st b l,o,e,_;rw[aK (eK (Zo e))];exact f0
 let z1:∀b∈k,b<f.7:=λb l=>by
  cases T.obj 0 _ st b l,o,e,_;exact Zo e
 let z2:tn 0 a.heap:=T.keep 0 _ _ st λb _ o e=>x1 b o e;cases rd _ hD,W,#[m0,w0],u1;calc QP B.one B.push ?_;let v1:∀b∈k,b≠a.7:=λb l=>eK #v[n0,qJ (z1 b l)];let j1:∀b∈k,b≠a.7+1:=λb l=>eK #v[n0,qJ (qJ (z1 b l))];generalize y0:(a.heap.push {cls:=.type "dict",data:=.dict (Zi [])}).push {cls:=.type "cell",data:=.cell Zy}=j;let g1:∀b o,a.heap.get? b=Zz o->j.get? b=Zz o:=λb o e=>by rw[<-y0];exact Zl _ (Zl _ e)
 let u2:j.Ns a.7 (λ_=>Zy):=by
  rw[<-y0];exact (Heap.Ns.new a.heap (.type "dict")).keeps λb o e=>Zl _ e
 let v2:j.IsCell (a.7+1) Zy:=by
  rw[<-y0,show a.7+1=(a.heap.push {cls:=.type "dict",data:=.dict (Zi [])}).objs.size from (Yx ..).symm];exact#[{cls:=.type "cell",data:=.cell Zy},ZV _ U,rfl]
 generalize z0:({a with heap:=j}:Zp)=s4;let h4:s4.heap=j:=by rw[<-z0]
 let I4:Inv (iC X x fv scope cl a.7 a (upd H f.7 (.lst [])) k) [] (bst fv σ Zy) (upd H f.7 (.lst [])) s4:=
  QO B I3 y1 U v1 j1 (by rw[<-z0]) (by rw[<-z0]) (λb o e=>#v[h4,g1 b o e]) #v[h4,u2] #v[h4,v2]
 let m1:tn 0 s4.heap:=by rw[h4];exact T.keep 0 _ _ z2 λb _ o e=>g1 b o e
 let F:∀{h:Hp},(∀b∈k,h b=Zy)->∀b∈k,eI (iC X x fv scope cl a.7 a (upd H f.7 (.lst [])) k) [] h b:=λ{h} hn b l=>by
  cases hf b l,_,f1,f2,f3,f4,f5;refine#[hn b l,v1 b l,λz=>?_,.inl l,λy c e=>?_,λp hp=>Zq (show p∈([]:aN) from hp) ⋯]
  .rcases bV.mp (I.stkSub b z) with q|q
   .exact f1 q
   .exact f2 q
  .rcases jP e with ⟨_,rfl⟩|⟨_,e⟩
   .exact ZQ (j1 b l)
   .exact f4 y c (B.sub y c e)
 let R:Yv (Ze X.prog X.w) X.A (.compLoop (.ListComp elt [#[.Name x px,iter,[],0]] scope pos) 0 (.ref it) (.ref f.7) {Ym scope cl a.7 X.env with cells:=(x,a.7+1)::cl}) (RR (.ref f.7) a.7) s4:=by
  refine Ct (λn s'=>∃i h o,Inv (iC X x fv scope cl a.7 a (upd H f.7 (.lst [])) k) [] (bst fv σ o) h s'/\tn i s'.heap/\(∀b∈k,h b=Zy)/\W i n h) ?_ m0
   #[0,_,Zy,I4,m1,λb l=>(y1 b l).1,w0]
  rintro n s5 E' ⟨i,H5,o5,I5,st5,fr5,w5⟩
  rcases u1 i n H5 w5 with ⟨stop,q⟩|⟨go,N,hN,step⟩
  .calc thn (T.done (iC X x fv scope cl a.7 a (upd H f.7 (.lst [])) k) U U U hc i [] s5 _ H5 _ I5 (F fr5) st5 stop) λr s6 M=>?_;cases M,hr,I6;subst hr;cases I6.loc,m6,j2,_;let J6:Inv X d σ H5 s6:=sZ I I6.hok I6.bare hD x1 I6.base (I6.os.trans (by rw[<-x0])) hf;calc y2 _ _ s6 H5 m6 J6 ?_ j2 q;exact I3.fpOk (aC _) I6.free
  .calc thn (T.item (iC X x fv scope cl a.7 a (upd H f.7 (.lst [])) k) U U U hc i [] s5 _ H5 _ I5 (F fr5) st5 go) λr s6 M=>?_;cases M,u,hr,h6;subst hr;calc thn h6 λ_ s7 M=>?_;cases M,v,H7,I7,r7,y7,x2,k2;let g2:=I7.pinned (F k2) (T.obj _ _ x2);calc QQ B g2 r7 λs8 I8=>?_;let e8:=he _ _ _ _ _ s8 _ H7 _ I8 (step v H7 y7);calc ZO e8 (λy s9 M=>?_) λ_ _ z=>ZM z;cases M,yv,H9,I9,r9,ys,m2,hz,n9;let a9:=s_ (E':=E') T (λ_ _ z=>z) x2 I9 r9 m2 hz n9 hN;calc ZO a9 (λ_ u3 M=>?_) λ_ _ z=>z;cases M,m',hm,n2,x3,y3,z3,w9;exact#[m',hm,i+1,n2,_,x3,y3,z3,w9]
 calc YT R (T.self _ 0 _ _ _ m1 R)
def IB {i:O}{j d:Pos}(hc:X.calm=K')(B:BlkOkC X x fv scope cl)(hi:PI X (.Name x px) iter wi)(he:∀C s H P,PE (iC X x fv scope cl C s H P) elt te)(hN:X.N.Nodup)(l:X.N[i]?=W y)(hy:X.env.scope.names.lookup y=W .local)(m:f' (Y6 (.ListComp elt [#[.Name x px,iter,[],0]] scope pos) (W (.Name y j)) d.line X.env=pure K') F')(hs:f' (∀v,ZA iter X.env v=pure v) C'):
  PS X (.Assign [.Name y j] (.ListComp elt [#[.Name x px,iter,[],0]] scope pos) d) (l_ (pd fv wi te) (ip i)):=by
 intro c s R H D I h;rw[YQ _ _ _ _ m];calc Zm (Yk (Zm ?_));show Zf _ X.A (do let _ <-zaq (.ListComp elt [#[.Name x px,iter,[],0]] scope pos) scope X.env _ (zae []) O' (ZJ iter X.env) (W (Z5 (.Name y j) X.env))) _ _ s;refine Zm (ZO (ZH (use:=W (Z5 (.Name y j) X.env)) (Q:=λ_ k=>SP X c D .next k) U hs B.clos B.kind B.names
  (thn (hi c s R H _ I h) λv s1 h1=>thn h1 λx0 s2 h2=>?_)) (λ_ k hq=>Zd (Zd hq)) λ_ _ e=>e)
 cases h2,it,P,tn,J,H2,e,I2,T,n,f2,rd;subst e;calc IA (Q:=λx H1=>ip i x R H1 D.nx) (RR:=λr C=>zac (Ze X.prog X.w) X.A X.xe (W (Z5 (.Name y j) X.env)) (λ_ k=>SP X c D .next k) r C) hc B he I2 T n f2 rd ?_;intro Dl C k H' m' I' f hn q;show Zf _ X.A (Z5 (.Name y j) X.env (.ref Dl)) _ _ _;calc Yz (oZ I' hN l (.inl hy) (v:=.ref Dl) U (λu z E=>?_) (.inr hy));cases E,a,sb,ha;let F:C≠a:=by
  rcases ha with rfl|e
  .exact f.2.1
  .exact ZQ (f.2.2.2.2.1 _ _ e)
 calc#[m',hn.sameBut sb F,λh' M=>#[_,H',z.turned (t':=u.toks) (λb o hb e=>(M.2 b hb).trans e) f.1 f.2.1 f.2.2.2.1 f.2.2.2.2.1 f.2.2.2.2.2,q]]
def QR (k:X.calm=K')(B:BlkOkC X x fv scope cl)(hi:PI X (.Name x px) iter wi)(l:∀C s H i,PE (iC X x fv scope cl C s H i) elt te)(hs:f' (∀v,ZA iter X.env v=pure v) C'):PE X (.ListComp elt [#[.Name x px,iter,[],0]] scope pos) (pd fv wi te):=by
 intro a s j H Q I h;rw[zb3];calc ZH (use:=Zy) U hs B.clos B.kind B.names (thn (hi a s j H _ I h) λv s1 m=>thn m λn s2 r=>?_);cases r,it,i,tn,J,H2,e,u,T,d,y,z;subst e;calc IA (RR:=λf C=>zac (Ze X.prog X.w) X.A X.xe Zy (EP X a j Q) f C) k B l u T d y z ?_;intro D C E F M P c R q;calc#[M,R,λh' sb=>#[.ref D,F,P.turned (t':=E.toks) (λb o hb e=>(sb.2 b hb).trans e) c.1 c.2.1 c.2.2.2.1 c.2.2.2.2.1 c.2.2.2.2.2,U,q]]
def CL (clos:Y9 scope X.env=pure cl)(sub:∀y c,cl.lookup y=W c->X.env.cells.lookup y=W c)(fvs:ph X x scope cl fv)(one:f' (∀n,zah n scope.names cl=(x,n)::cl) C')(push:f' (∀h,zeh h scope.names=h.push {cls:=.type "cell",data:=.cell Zy}) C')(kind:f' (scope.kind=.function) F')(here:f' ((ZP scope X.env).names.lookup x=W .cell) F')(nd:f' ((x::fv.map (·.2)).Nodup) J')(names:f' (∀y∈scope.names,y.2=.local->scope.names.lookup y.1=W .local) J')(has:f' (((ZP scope X.env).names.all λp=>(p.2 != .cell && p.2 != .free) || (((x,0)::cl).lookup p.1).isSome)=K') F'):BlkOkC X x fv scope cl:=
 ⟨clos,one,push,kind,names,here,sub,λy ne hy=>by
  cases Cv has y hy,c,h;rcases jP h with ⟨e,_⟩|⟨_,h⟩
  .exact Zq e ne
  .exact#[c,h],nd,fvs⟩
end
def QS {X:Cx}{K:ao}{pos:Pos}(hK:X.K=K)(b:PE X e a)(c:YX e f X.env (ZJ e X.env)=ZJ e X.env):PE X (.Attribute e f pos) (Ci K a f):=by subst hK;calc fc b c
section
variable {X:Cx}{k:O}{f:Zs}{fd:Yt}{ps:G Str}{sp:Sp}{x:Str}{p pos:Pos}{e:ZU}{es:G ZU}{t:TA}{CX:CXT}{ds:G Zr}{dvs:G V}{E:XK}{i:O}
def IC (i:O)(f:Zs)(sp:Sp)(dvs:G V)(E:XK)(t:TA):TE:=λσ H Q=>σ[i]?=W (W (.ref f))/\sL sp dvs E t σ H Q
theorem vK:IC i f sp dvs E t a H Q=(a[i]?=W (W (.ref f))/\sL sp dvs E t a H Q):=rfl
theorem QU (F:FnOk X.prog X.w X.K X.mg X.base CX k f fd ps sp)(o:Room k X.A)(hk:Z6 X.K (.ref f)=K')(y:Binds X.K fd ps ds)(hd:Vals dvs ds)(hx:md CX X E)(i:O)(z:PA X (e::es) t)(C:f' (X.N[i]?=W x) F')(M:Vis X.env.scope x:=by first|exact zd8 U|exact zb1 (zd8 U)|exact zb1 (zb1 U))(b:f' ((x == ("__debug__" : Str))=O') B')(c:f' ((x == ("__classdict__" : Str))=O') B')(P:f' (Za (e::es) X.env=(O',ZJ e X.env)::Za es X.env) F')(d:f' ((Yr pos (Za es X.env)).any (·.1)=O') F'):
  PE X (.Call (.Name x p) (e::es) [] pos) (IC i f sp dvs E t):=by
 intro a s l H Q I h;cases h,j,h;calc Ys (thn (GL C M b c a s l H (λv R=>v=.ref f/\R=H) I (Eq.mpr B6 #[_,j,U,U])) λu s0 zz=>?_);cases zz,v,H0,m,r0,e1,e2;subst e1 e2
 cases r0
 calc YO (h₀:=X.base) m.ok.mod.kin hk (thn (z pos a s0 l H0 _ m h) λus s1 ⟨vs,H1,n,r,q⟩=>#[n.kIn,?_]) P d;calc Cm F o y hd hx n r q
end
open PySem
def ID {X:Cx}{j d:ZU}{px pz tpos pos:Pos}{tk:O}{wi:TI}{i:O}{m k:Pos}(hc:X.calm=K')(B:BlkOk2 X x z r c cl)(hi:PI X (.Tuple [.Name x px,.Name z pz] tk tpos) d wi)(he:∀C s H fp,PE (iM X x z r c cl C s H fp) j te)(hN:X.N.Nodup)(u:X.N[i]?=W y)(hy:X.env.scope.names.lookup y=W .local)(E:f' (Y6 (.ListComp j [#[.Tuple [.Name x px,.Name z pz] tk tpos,d,[],0]] c pos) (W (.Name y m)) k.line X.env=pure K') F')(hs:f' (∀v,ZA d X.env v=pure v) C'):
  PS X (.Assign [.Name y m] (.ListComp j [#[.Tuple [.Name x px,.Name z pz] tk tpos,d,[],0]] c pos) k) (l_ (CH X.K r wi te) (ip i)):=by
 intro f s σ H D I h;rw[YQ _ _ _ _ E];calc Zm (Yk (Zm ?_));show Zf _ X.A (do let _ <-zaq (.ListComp j [#[.Tuple [.Name x px,.Name z pz] tk tpos,d,[],0]] c pos) c X.env _ (zae []) O' (ZJ d X.env) (W (Z5 (.Name y m) X.env))) _ _ s;refine Zm (ZO (ZH (use:=W (Z5 (.Name y m) X.env)) (Q:=λ_ n=>SP X f D .next n) U hs B.clos B.kind B.names
  (thn (hi f s σ H _ I h) λv s1 h1=>thn h1 λu0 s2 h2=>?_)) (λ_ n hq=>Zd (Zd hq)) λ_ _ e=>e)
 cases h2,it,fp,tn,J,H2,e,I2,T,F,f2,rd;subst e;calc Iv (Q:=λx H1=>ip i x σ H1 D.nx) (RR:=λM C=>zac (Ze X.prog X.w) X.A X.xe (W (Z5 (.Name y m) X.env)) (λ_ n=>SP X f D .next n) M C) hc B he I2 T F f2 rd ?_;intro Dl C n H' m' I' l hn q;show Zf _ X.A (Z5 (.Name y m) X.env (.ref Dl)) _ _ _;calc Yz (oZ I' hN u (.inl hy) (v:=.ref Dl) U (λP R x0=>?_) (.inr hy));cases x0,a,sb,ha;let y0:C≠a:=by
  rcases ha with rfl|e
  .exact l.2.1
  .exact ZQ (l.2.2.2.2.1 _ _ e)
 calc#[m',hn.sameBut sb y0,λh' z0=>#[_,H',R.turned (t':=P.toks) (λb o hb e=>(z0.2 b hb).trans e) l.1 l.2.1 l.2.2.2.1 l.2.2.2.2.1 l.2.2.2.2.2,q]]
def IE:V->G V->Hp->VK->Prop:=λx vs H Q=>∃a kvs k v,x=.ref a/\vs=[kV k,v]/\H a=W (.dK kvs)/\kvs.9<=900/\(∀u,gm kvs k=W u->Q u H)/\(gm kvs k=Zy->Q v (upd H a (.dK (jN kvs k v))))
theorem vN:IE x vs H Q=∃a b k v,x=.ref a/\vs=[kV k,v]/\H a=W (.dK b)/\b.9<=900/\(∀u,gm b k=W u->Q u H)/\(gm b k=Zy->Q v (upd H a (.dK (jN b k v)))):=rfl
def QV:MtM X "dict.setdefault" IE:=by
 intro n s σ H x vs v us Q I o r h;obtain⟨a,b,k,y,rfl,rfl,e,l9,u,C⟩:=h
 cases o
 cases r with
 |cons r1 rr=>
  cases rr with
  |cons r2 rr=>
   cases rr
   rename_i u1 E;cases Qq I.hok e,z,hd,F,c,dd;refine call_meetsIn PySem.F.slot_dict_setdefault dd.typeIs PySem.F.entry_dict_setdefault (PySem.F.args_dict_setdefault_3 _ _ _) (kt_meets_setdefault (jB X.prog X.w) a (Qn r1) hd E)
    #[F,dd,#v[<-c.9,z],λM P=>?_,λR h' j hs=>?_]
   .let d:=c.val k;rw[P]at d;obtain⟨f,i,l⟩:∃f,gm b k=W f/\RelV f M:=by
     cases i:gm b k with
     |none=>rw[i]at d;calc d.elim
     |some f=>rw[i]at d;exact#[f,U,d]
    exact#[f,H,I.tok _,l,u f i]
   .let m:gm b k=Zy:=by
     let d:=c.val k;rw[R]at d
     cases i:gm b k with
     |none=>rfl
     |some f=>rw[i]at d;exact d.elim
    let hl:(jN b k y).9<=Zg:=by
     let:=Qm b k y;exact dj (cy ())
    let he:∃q,h'.get? a=W q:=let ⟨q,_,_,hq,_⟩:=j;#[q,hq]
    calc#[y,_,Qr I #v[e,Yd] hs he (Qs hl hd (c.put k r2) j),r2,C m]
theorem vO:Is a H Q=∀p,H p=Zy->Q (.ref p) (upd H p (.dK [])):=rfl
theorem vP {K:ao}:Hs K e h i f D d H=e d H λx j=>∃a C dx fs v,x=.ref a/\j a=W (.ins C dx fs)/\Cls K C/\NoAttr K C f/\fs.lookup f=W v/\
 h d j λy l=>i v y l λz k=>∃c b,k a=W (.ins C c b)/\b.9<1000/\D.nx d (upd k a (.ins C c (bW f z b))):=rfl
theorem vQ:Ht x y H Q=∃i j,x=.int i/\y=.int j/\Q (.int (i+j)) H:=rfl
def QW (h:∀t:TS,t=ku b c->ku a t D d H):ku a (ku b c) D d H:=h _ U
def QX (h:∀t:TS,t=uR b c->ku a t D d H):ku a (uR b c) D d H:=h _ U
def QY {t b:TS}{D:Ends}{a:St}{H:Hp}(e:t=b)(h:b D a H):t D a H:=e ▸ h
end L2
open L2.HO renaming lst->Y'
namespace My
noncomputable def aw (xs:aa):aa:=(xs.reverse.dropWhile (· == 0)).reverse
theorem QZ:aw []=[]:=rfl
def CM (xs:aa):aw (xs++[0])=aw xs:=by
 unfold aw;rw[Vt];rfl
def CN (xs:aa){a:Y}(h:a≠0):aw (xs++[a])=xs++[a]:=by
 unfold aw;rw[Vt];let:([a].reverse++xs.reverse).dropWhile (· == 0)=a::xs.reverse:=by
  show (a::xs.reverse).dropWhile (· == 0)=_;rw[List.dropWhile_cons];simp[h]
 rw[this];simp
noncomputable def co (xs:aa) (k:O):Int:=xs.getD k 0
theorem gn (k:O):co [] k=0:=rfl
def aL {xs:aa}{k:O}(h:xs.9<=k):co xs k=0:=by
 unfold co;rw[aD,yj h];rfl
def aO {xs:aa}{k:O}(h:k<xs.9):co xs k=xs[k]:=by
 unfold co;rw[aD,aq h];rfl
def nN (xs:aa)(a:Y)(k:O):co (xs++[a]) k=if k=xs.9 then a else co xs k:=by
 by_cases h:k<xs.9
 .rw[N ()];unfold co;rw[aD,aD,dH h]
 .by_cases h2:k=xs.9
  .subst h2;rw[Zt U];unfold co;rw[aD,dQ (aC _)];simp
  .rw[N h2,aL (by simp;lk),aL ()]
def pD {P:aa->Prop}(c:P [])(d:∀xs a,P xs->P (xs++[a]))(xs:aa):P xs:=by
 let:∀b:aa,P b.reverse:=λb=>by
  induction b with
  |nil=>calc c
  |cons a r ih=>rw[List.reverse_cons];exact d _ _ ih
 let:=this xs.reverse
 rwa [List.reverse_reverse]at this
def cX (xs:aa)(k:O):co (aw xs) k=co xs k:=by
 calc pD (P:=λxs=>co (aw xs) k=co xs k) U (λxs a b=>?_) xs;by_cases h:a=0
 .subst h;rw[CM,b,nN];by_cases h2:k=xs.9
  .rw[Zt h2,aL ()]
  .rw[N h2]
 .rw[CN _ h]
def Nml (xs:aa):Prop:=∀a ys,xs=ys++[a]->a≠0
def cn (xs:aa):Nml (aw xs):=by
 refine pD (P:=λxs=>Nml (aw xs)) (λa c h=>?_) (λxs a d=>?_) xs
 .rw[QZ]at h;simp at h
 .by_cases h:a=0
  .subst h;rw[CM];exact d
  .rw[CN _ h];intro b c e;let:=List.append_inj' e U;let f:a=b:=by simpa using this.2
   rw[<-f];calc h
def Q4 (h:Nml xs):aw xs=xs:=by
 rcases yk xs with rfl|⟨b,a,rfl⟩
 .rfl
 .rw[ym]at *;calc CN _ (h a b U)
def gO (h:Nml xs){n:O}(c:∀k,n<=k->co xs k=0):xs.9<=n:=by
 rcases yk xs with rfl|⟨b,a,rfl⟩
 .exact bh _
 .rw[ym]at *;let d:=h a b U;by_cases hn:(b++[a]).9<=n
  .exact hn
  .let:=c b.9 (by simp at hn;lk);rw[nN,Zt U]at this;calc Zq this d
def vU {xs ys:aa}(b:xs.9=ys.9)(h:∀k,k<xs.9->co xs k=co ys k):xs=ys:=by
 calc h8 b λk a c=>?_;let:=h k a;rw[aO a,aO c]at this;calc this
def gq (hx:Nml xs)(hy:Nml ys)(h:∀k,co xs k=co ys k):xs=ys:=by
 let a:xs.9<=ys.9:=gO hx λk hk=>by rw[h,aL hk]
 let b:ys.9<=xs.9:=gO hy λk hk=>by rw[<-h,aL hk]
 calc vU () λk _=>h k
def CO (h:∀k,co xs k=co ys k):aw xs=aw ys:=
 gq (cn _) (cn _) λk=>by rw[cX,cX,h]
def i4 (xs:aa):(aw xs).9<=xs.9:=gO (cn _) λk hk=>by rw[cX,aL hk]
def IF {xs:aa}{n:O}(i:n<=xs.9)(d:∀k,n<=k->co xs k=0)(f:n=0\/co xs (n-1)≠0):aw xs=xs.take n:=by
 let c:∀k,co (xs.take n) k=co xs k:=λk=>by
  by_cases hk:k<n
  .unfold co;rw[aD,aD,qF hk]
  .rw[aL (by simp;lk),d k ()]
 let nm:Nml (xs.take n):=λa h e=>by
  let j:h.9+1=n:=by
   let:=ZL ka e;rw[cB,cC,oE]at this;lk
  rcases f with b|b
  .lk
  .let:=c (n-1);rw[e,nN,Zt ()]at this;rw[this];exact b
 calc gq (cn _) nm λk=>by rw[cX,c]
end My
open My renaming co->Z,Nml->S
namespace My
noncomputable def aX:O->b_->Y
 |0,_=>0
 |n+1,f=>aX n f+f n
def fC {n:O}{f g:b_}(h:∀j,j<n->f j=g j):aX n f=aX n g:=by
 induction n with
 |zero=>rfl
 |succ n ih=>simp only[aX];rw[ih λj a=>h j (),h n ()]
def iN {n:O}{f:b_}(h:∀j,j<n->f j=0):aX n f=0:=by
 induction n with
 |zero=>rfl
 |succ n ih=>simp only[aX];rw[ih λj a=>h j (),h n ()];rfl
def cz (xs:aa)(k j:O):Int:=if j<=k then Z xs (k-j) else 0
def cv (one XY:aa)(l k:O):Int:=aX l λj=>Z one j*cz XY k j
def ah (one XY:aa):aa:=aw ((aT (one.9+XY.9)).map λk=>cv one XY one.9 k)
def jl (n:O)(f:b_)(k:O):Z ((aT n).map f) k=if k<n then f k else 0:=by
 by_cases h:k<n
 .rw[Zt h,aO (⇑h)];simp
 .rw[N h,aL (by simp;lk)]
def vV (one XY:aa)(k:O)(h:one.9+XY.9<=k+1):cv one XY one.9 k=0:=
 iN λj a=>by
  unfold cz;rw[Zt (),aL (xs:=XY) (),dY]
def Q5 (one XY a:aa)(h:∀k,Z a k=if k+1<one.9+XY.9 then cv one XY one.9 k else 0):aw a=ah one XY:=by
 calc CO λk=>?_;rw[h,jl];by_cases h1:k+1<one.9+XY.9
 .rw[Zt h1,Zt ()]
 .rw[N h1];by_cases h2:k<one.9+XY.9
  .rw[Zt h2,vV _ _ _ ()]
  .rw[N h2]
def gH (one XY:aa):aa:=aw ((aT (max one.9 XY.9)).map λk=>Z one k+Z XY k)
def cF (one XY:aa):aa:=aw ((aT (max one.9 XY.9)).map λk=>Z one k-Z XY k)
def Q6 (one XY a:aa)(h:∀k,Z a k=Z one k+Z XY k):aw a=gH one XY:=by
 calc CO λk=>?_;rw[h,jl];by_cases h1:k<max one.9 XY.9
 .rw[Zt h1]
 .rw[N h1,aL (),aL ()];rfl
def CP (xs:aa)(k:O):Z (xs.map λx=>-x) k=- Z xs k:=by
 by_cases h:k<xs.9
 .rw[aO (⇑h),aO h];simp
 .rw[aL (by simp;lk),aL ()];rfl
def Q7 (one XY:aa):gH one (XY.map λx=>-x)=cF one XY:=by
 calc CO λk=>?_;rw[jl,jl,CP,af];rfl
def kD (xs:aa)(i k:O)(v:Y)(h:i<xs.9):Z (xs.set i v) k=if k=i then v else Z xs k:=by
 by_cases hk:k<xs.9
 .rw[aO (⇑hk),zc3,aO hk];by_cases e:k=i
  .rw[Zt e,Zt e.symm]
  .rw[N e,N (ZQ e)]
 .rw[aL (by simp;lk),N (),aL ()]
end My
namespace My
noncomputable def val (n:Y):aa->Y
 |[]=>0
 |c::r=>c+n*val n r
noncomputable def hd (xs:aa):Int:=xs.headD 0
def de (b:Y):aa->aa
 |[]=>[]
 |c::r=>(c+b*hd (de b r))::de b r
theorem mu (b:Y):∀a,(de b a).9=a.9
 |[]=>rfl
 |_::r=>by simp[de,mu b r]
def iO (b:Y):O->aa->aa
 |0,_=>[]
 |n+1,xs=>hd (de b xs)::iO b n (de b xs).tail
def bT (b:Y)(xs:aa):aa:=iO b xs.9 xs
theorem IG (b x:Y):∀d,val x d=hd (de b d)+(x-b)*val x (de b d).tail
 |[]=>by simp[val,de,hd]
 |c::r=>by
  let a:=IG b x r
  cases e:de b r with
  |nil=>
   rw[e]at a;simp only[hd,zdm,List.tail_nil,val,dY,oH]at a;simp only[val,de,e,hd,zdm,Ni,Nj,a,dY,oH]
  |cons h q=>
   rw[e]at a;simp only[hd,Ni,Nj]at a;simp only[val,de,e,hd,Ni,Nj,a];simp only[jc,zew,oI];let:x*(x*val x q)-x*(b*val x q)=x*(x*val x q)-b*(x*val x q):=by
    rw[<-cI x b,cW x b,cI b x]
   lk
theorem IH (b n:Y):∀(k:O)(a:aa),a.9=k->val n (iO b k a)=val (n+b) a
 |0,a,h=>by
  let:a=[]:=b7 h;subst this;rfl
 |k+1,a,h=>by
  show hd (de b a)+n*val n (iO b k (de b a).tail)=_;rw[IH b n k _ (by rw[Nk,mu,h];rfl),IG b (n+b) a];let:n+b-b=n:=()
  rw[this]
def fD (b n:Y)(xs:aa):val n (bT b xs)=val (n+b) xs:=IH b n _ xs U
theorem II (b:Y):∀(k:O)(a:aa),(iO b k a).9=k
 |0,_=>rfl
 |k+1,a=>by simp[iO,II b k]
def pE (b:Y)(xs:aa):(bT b xs).9=xs.9:=II b _ xs
theorem IJ:∀(b:aa)(M:Y),(∀n,M<n->val n b=0)->∀x∈b,x=0
 |[],_,_,_,h=>nomatch h
 |c::r,M,h,x,hx=>by
  let d:c=0:=by
   let a:=h (max M 0+c.8+1) ();simp only[val]at a;let hd:(max M 0+c.8+1)∣c:=#[-(val (max M 0+c.8+1) r),by rw[qM];lk]
   by_cases hz:c=0
   .exact hz
   .let:=oJ.mpr hd;let:=mT () this;lk
  let e:∀n,max M 0<n->val n r=0:=λn f=>by
   let a:=h n ();simp only[val,d,ij]at a;rcases kY.mp a with z|z
   .lk
   .exact z
  rcases bV.mp hx with rfl|hx
  .exact d
  .calc IJ r _ e x hx
theorem IK (n:Y):∀(a b:aa),a.9=b.9->val n (dw (· - ·) a b)=val n a-val n b
 |[],[],_=>rfl
 |x::a,y::b,h=>by
  let c:=IK n a b (⇑h);simp only[List.zipWith_cons_cons,val,c,oI];lk
theorem IL:∀(a b:aa),a.9=b.9->(∀d∈dw (· - ·) a b,d=0)->a=b
 |[],[],_,_=>rfl
 |x::a,y::b,h,hz=>by
  let e:=hz (x-y) ⋯;let c:=IL a b (⇑h) λd hd=>hz d (by simp[hd]);rw[c,show x=y by lk]
def Q8 {xs ys:aa}(a:xs.9=ys.9)(h:∀n,val n xs=val n ys):xs=ys:=
 IL xs ys a (IJ _ 0 λn _=>by rw[IK n xs ys a,h n];lk)
end My
open My renaming val->J
namespace My
def f8 (b:Y)(zs:aa)(j:O):aa:=zs.take j++de b (zs.drop j)
def Q9 (b:Y)(zs:aa)(j:O):(f8 b zs j).9=zs.9:=by
 unfold f8;rw[cC,mu,<-cC,qN]
def Q_ (b:Y)(zs:aa):f8 b zs 0=de b zs:=by simp[f8]
def IM (b:Y)(zs:aa)(h:zs≠[]):f8 b zs (zs.9-1)=zs:=by
 rcases yk zs with rfl|⟨c,a,rfl⟩
 .exact Zq U h
 .rw[ym];unfold f8;let e:(c++[a]).9-1=c.9:=by simp
  rw[e,List.take_left,List.drop_left];simp[de,hd]
def Ra (b:Y)(zs:aa)(j:O)(h:j<zs.9):(f8 b zs (j+1))[j]?=W zs[j]:=by
 unfold f8;rw[dH (by rw[cB];lk),qF (),aq h]
def Rb (b:Y)(zs:aa)(j:O)(h:j+1<zs.9):(f8 b zs (j+1))[j+1]?=W (hd (de b (zs.drop (j+1)))):=by
 unfold f8;rw[dQ (by rw[cB];lk)];let e:j+1-(zs.take (j+1)).9=0:=by rw[cB];lk
 let a:0<(de b (zs.drop (j+1))).9:=by rw[mu,qG];lk
 rw[e]
 cases q:de b (zs.drop (j+1)) with
 |nil=>rw[q]at a;calc Zq a ⋯
 |cons x r=>simp[hd]
def Rc (b:Y)(zs:aa)(j:O)(h:j<zs.9):(f8 b zs (j+1)).set j (zs[j]+b*hd (de b (zs.drop (j+1))))=f8 b zs j:=by
 unfold f8;rw[Vu h,qH,Vv _ _ (by rw[cB];lk)];let e:j-(zs.take j).9=0:=by rw[cB];lk
 rw[e,Ex h];rfl
def Re (b:Y)(m:O)(zs:aa)(h:zs.9=m+1):iO b (m+1) zs=hd (de b zs)::iO b m (de b zs).tail/\de b zs=hd (de b zs)::(de b zs).tail/\(de b zs).tail.9=m:=by
 refine#[U,?_,by rw[Nk,mu,h];rfl];let a:=mu b zs
 cases q:de b zs with
 |nil=>rw[q,h]at a;simp at a
 |cons x r=>simp[hd]
def Rf (b c:Y):iO b 1 [c]=[c]:=by simp[iO,de,hd]
end My
namespace My
def fO:S xs↔∀a,xs.getLast?=W a->a≠0:=by
 constructor
 .intro h a e;rcases yk xs with rfl|⟨c,b,rfl⟩
  .simp at e
  .rw[ym]at *;rw[Nl]at e;rw[<-ZY e];exact h b c U
 .intro h a c e;calc h a (by rw[e,Nl])
end My
namespace My
def pm (f g:b_)(k:O):Int:=aX (k+1) λj=>f j*g (k-j)
def pF (n:O)(f g:b_):aX n (λj=>f j+g j)=aX n f+aX n g:=by
 induction n with
 |zero=>rfl
 |succ n ih=>simp only[aX];rw[ih];lk
def kF (n:O)(c:Y)(f:b_):aX n (λj=>c*f j)=c*aX n f:=by
 induction n with
 |zero=>simp[aX]
 |succ n ih=>simp only[aX];rw[ih,jc]
def vX {n i:O}{f:b_}(hi:i<n)(h:∀j,j<n->j≠i->f j=0):aX n f=f i:=by
 induction n with
 |zero=>lk
 |succ n ih=>
  simp only[aX];by_cases e:i=n
  .subst e;rw[iN λj b=>h j () ()];lk
  .rw[ih () λj b a=>h j () a,h n () (ZQ e)];lk
def pG (f g h:b_)(k:O):pm f (λj=>g j-h j) k=pm f g k-pm f h k:=by
 unfold pm;let:(λj=>f j*(g (k-j)-h (k-j)))=λj=>f j*g (k-j)+(-1)*(f j*h (k-j)):=by
  funext j;rw[oI];lk
 rw[this,pF,kF];lk
def Rg (f g h:b_)(k:O):pm f (λj=>g j+h j) k=pm f g k+pm f h k:=by
 unfold pm;let:(λj=>f j*(g (k-j)+h (k-j)))=λj=>f j*g (k-j)+f j*h (k-j):=by
  funext j;rw[jc]
 rw[this,pF]
def pH (f g:b_)(c:Y)(k:O):pm f (λj=>c*g j) k=c*pm f g k:=by
 unfold pm;let:(λj=>f j*(c*g (k-j)))=λj=>c*(f j*g (k-j)):=by
  funext j;rw[<-cI,cW (f j) c,cI]
 rw[this,kF]
def Rh (f g:b_)(c:Y)(k:O):pm (λj=>c*f j) g k=c*pm f g k:=by
 unfold pm;rw[<-kF];calc fC λj _=>by rw[cI]
def CQ {f g:b_}(h:∀j,g j=0)(k:O):pm f g k=0:=iN λj _=>by rw[h];simp
def mv {g d:b_}{m t:O}(a:∀j,m+1<=j->g j=0)(hd:∀j,t+1<=j->d j=0):pm g d (t+m)=g m*d t:=by
 unfold pm;rw[vX (i:=m) () λj c b=>?_]
 .rw[show t+m-m=t by lk]
 .by_cases h:j<m
  .rw[hd (t+m-j) ()];simp
  .rw[a j ()];simp
theorem pI {g d:b_}{m:O}(b:∀j,m+1<=j->g j=0)(c:g m≠0)(t:O):∀n,(∀j,t+n<=j->d j=0)->(∀k,t+m<=k->pm g d k=0)->∀j,t<=j->d j=0
 |0,hd,_,j,a=>hd j ()
 |n+1,hd,hz,j,a=>by
  let top:=mv (t:=t+n) b (λj a=>hd j ());rw[hz _ ()]at top;let f:d (t+n)=0:=by
   rcases kY.mp top.symm with z|z
   .exact Zq z c
   .exact z
  exact pI b c t n (λj a=>by
   by_cases e:j=t+n
   .rw[e];exact f
   .calc hd j ()) hz j a
def Div (one XY q:aa):Prop:=∀k,Z one k=pm (Z XY) (Z q) k
def dU (h:S xs)(b:xs≠[]):Z xs (xs.9-1)≠0:=by
 rcases yk xs with rfl|⟨c,a,rfl⟩
 .exact Zq U b
 .rw[ym]at *;rw[show (c++[a]).9-1=c.9 by simp,nN,Zt U];calc h a c U
def iP {xs:aa}(j:O)(h:xs.9-1+1<=j):Z xs j=0:=aL ()
def CS (c:S XY)(a:XY≠[])(e:S q)(f:S r)(h:Div one XY q)(i:Div one XY r):q=r:=by
 calc gq e f λk=>?_;let z:=pI (g:=Z XY) (d:=λj=>Z q j-Z r j) (m:=XY.9-1) (λj b=>iP j b) (dU c a) 0 (q.9+r.9)
  (λj b=>by show Z q j-Z r j=0;rw[aL (),aL ()];rfl) (λk _=>by rw[pG,<-h k,<-i k];lk) k ()
 let l:Z q k-Z r k=0:=z;lk
def Ri {one XY q r l:aa}(h:S XY)(a:XY≠[])(i:l.9+1<=XY.9)(b:∀k,Z one k=pm (Z XY) (Z q) k+Z l k)(c:Div one XY r):
  (∀k,Z l k=0)/\∀k,Z r k=Z q k:=by
 let z:=pI (g:=Z XY) (d:=λj=>Z r j-Z q j) (m:=XY.9-1) (λj f=>iP j f) (dU h a) 0 (q.9+r.9)
  (λj f=>by show Z r j-Z q j=0;rw[aL (),aL ()];rfl) (λk hk=>by
   rw[pG,<-c k,b k,aL (xs:=l) ()];lk)
 let e:∀k,Z r k=Z q k:=λk=>by
  let n:Z r k-Z q k=0:=z k ();lk
 calc#[λk=>?_,e];let o:=b k;let s:=c k;let:pm (Z XY) (Z r) k=pm (Z XY) (Z q) k:=by unfold pm;exact fC λj _=>by rw[e]
 lk
def vY (l:S XY)(c:XY≠[])(i:S one)(n:S q)(h:Div one XY q)(a:one≠[]):q≠[]/\one.9+1=q.9+XY.9:=by
 let b:q≠[]:=by
  intro z;let:=dU i a;rw[h,z]at this;exact this (CQ (λj=>U) _)
 let lq:0<q.9:=cE.mpr b;let lo:0<XY.9:=cE.mpr c;let o:0<one.9:=cE.mpr a;calc#[b,?_];let top:=mv (g:=Z XY) (d:=Z q) (m:=XY.9-1) (t:=q.9-1) (λj e=>iP j e) (λj e=>iP j e);rw[<-h]at top;let f:Z one (q.9-1+(XY.9-1))≠0:=by
  rw[top];intro z;rcases kY.mp z with z|z
  .exact dU l c z
  .exact dU n b z
 let lt:q.9-1+(XY.9-1)<one.9:=by
  by_cases hlt:q.9-1+(XY.9-1)<one.9
  .exact hlt
  .exact Zq (aL ()) f
 let big:one.9<=q.9-1+(XY.9-1)+1:=gO i λk hk=>by
  rw[h];calc iN λj e=>?_;by_cases hjm:j<XY.9
  .rw[aL (xs:=q) ()];simp
  .rw[aL (xs:=XY) ()];simp
 lk
structure DivAt (one XY ans rest:aa)(low:O):Prop where
 la:ans.9+XY.9=one.9+1
 lr:rest.9=one.9
 eq:∀k,Z one k=pm (Z XY) (Z ans) k+Z rest k
 hi:∀k,low+(XY.9-1)<=k->Z rest k=0
 lo:∀j,j<low->Z ans j=0
def IN {one XY:aa}{n:O}(a:XY≠[])(b:n+XY.9=one.9+1):DivAt one XY (bj n 0) one n where
 la:=by rw[mS];exact b
 lr:=rfl
 eq:=λk=>by
  rw[CQ λj=>?_]
  .lk
  .unfold Z;rw[aD,ke]
   split <;> rfl
 hi:=λk hk=>aL (by let:=cE.mpr a;lk)
 lo:=λj _=>by
  unfold Z;rw[aD,ke]
  split <;> rfl
def Rj {one XY a rest q:aa}{low:O}(f:S XY)(c:XY≠[])(D:DivAt one XY a rest (low+1))(h:Div one XY q):
  Z rest (low+(XY.9-1))=Z XY (XY.9-1)*(Z q low-Z a low):=by
 let e:∀k,Z rest k=pm (Z XY) (λj=>Z q j-Z a j) k:=λk=>by
  let i:=D.eq k;rw[pG,<-h k];lk
 let z:=pI (g:=Z XY) (d:=λj=>Z q j-Z a j) (m:=XY.9-1) (λj b=>iP j b) (dU f c) (low+1) (q.9+a.9)
  (λj b=>by show Z q j-Z a j=0;rw[aL (),aL ()];rfl) (λk hk=>#v[<-e,D.hi k ()])
 rw[e];calc mv (λj b=>iP j b) z
def IP {one XY a rest b:aa}{low:O}{f:Y}(d:XY≠[])(D:DivAt one XY a rest (low+1))(c:low<a.9)(m:f*Z XY (XY.9-1)=Z rest (low+(XY.9-1)))(n:b.9=rest.9)(h:∀k,Z b k=Z rest k-if low<=k then f*Z XY (k-low) else 0):DivAt one XY (a.set low f) b low where
 la:=by rw[jt];exact D.la
 lr:=by rw[n];exact D.lr
 eq:=λk=>by
  let o:pm (Z XY) (Z (a.set low f)) k=pm (Z XY) (Z a) k+(if low<=k then f*Z XY (k-low) else 0):=by
   let q:(Z (a.set low f))=λj=>Z a j+if j=low then f else 0:=by
    funext j
    rw[kD _ _ _ _ c];by_cases e:j=low
    .rw[Zt e,Zt e,e,D.lo low ()];lk
    .rw[N e,N e];lk
   rw[q,Rg];congr 1;unfold pm;by_cases hk:low<=k
   .rw[Zt hk,vX (i:=k-low) () λj l d=>by show Z XY j*(if k-j=low then f else 0)=0;rw[N ()];simp];show Z XY (k-low)*(if k-(k-low)=low then f else 0)=_;rw[Zt (),cW]
   .rw[N hk];exact iN λj l=>by show Z XY j*(if k-j=low then f else 0)=0;rw[N ()];simp
  rw[o,h,D.eq k];lk
 hi:=λk hk=>by
  rw[h];let lo:=cE.mpr d;by_cases e:k=low+(XY.9-1)
  .rw[Zt (),e,<-m,show low+(XY.9-1)-low=XY.9-1 by lk];lk
  .rw[D.hi k ()];by_cases hl:low<=k
   .rw[Zt hl,aL (xs:=XY) ()];simp
   .rw[N hl];rfl
 lo:=λj l=>by
  rw[kD _ _ _ _ c,N ()];calc D.lo j ()
end My
namespace My
def CT {one XY a rest:aa}(D:DivAt one XY a rest 0)(b:∀k,Z rest k=0):Div one XY a:=λk=>by rw[D.eq k,b k];lk
def IQ {one XY a rest:aa}(d:S XY)(b:XY≠[])(D:DivAt one XY a rest 0)(q:aa)(e:Div one XY q):∀k,Z rest k=0:=by
 let f:(rest.take (XY.9-1)).9+1<=XY.9:=by
  let:=cE.mpr b;rw[cB];lk
 let c:∀k,Z (rest.take (XY.9-1)) k=Z rest k:=λk=>by
  by_cases hk:k<XY.9-1
  .unfold Z;rw[aD,aD,qF hk]
  .rw[aL (by simp;lk),D.hi k ()]
 let z:=(Ri (q:=a) d b f (λk=>#v[c,D.eq k]) e).1;calc λk=>#v[<-c,z k]
def IR {one XY b rest q:aa}{low:O}(c:S XY)(a:XY≠[])(D:DivAt one XY b rest (low+1))(d:Div one XY q):
  (Z rest (low+(XY.9-1))).fdiv (Z XY (XY.9-1))*Z XY (XY.9-1)=Z rest (low+(XY.9-1)):=by
 rw[Rj c a D d,qO _ (dU c a),cW]
def IS {one XY b:aa}(f:XY≠[])(n:S one)(c:one≠[])(la:b.9+XY.9=one.9+1)(h:Div one XY b):S b:=by
 let r:=cE.mpr c;let s:=cE.mpr f;intro a l e;let o:b.9=l.9+1:=by rw[e];simp
 let top:=mv (g:=Z XY) (d:=Z b) (m:=XY.9-1) (t:=b.9-1) (λj i=>iP j i) (λj i=>iP j i);rw[<-h,show b.9-1+(XY.9-1)=one.9-1 by lk]at top;let k:=dU n c;rw[top]at k;let q:Z b (b.9-1)=a:=by rw[show b.9-1=l.9 by lk,e,nN,Zt U]
 rw[q]at k;intro z;calc k (by rw[z];simp)
def bH:S []:=λa b e=>by simp at e
def pJ (h:S xs)(a:∀k,Z xs k=0):xs=[]:=gq h bH λk=>by rw[a];rfl
def IT {XY:aa}:Div [] XY []:=λk=>(CQ (f:=Z XY) (g:=Z []) (λ_=>U) k).symm
def vZ:aw xs=[]↔∀k,Z xs k=0:=by
 constructor
 .intro h k;rw[<-cX,h];rfl
 .intro h;calc pJ (cn _) λk=>#v[cX,h k]
end My
namespace My
def gr (c:Y)(f:aa)(j:O):Z (c::f) j=if j=0 then c else Z f (j-1):=by
 cases j with
 |zero=>rfl
 |succ j=>rw[N ()];rfl
def pL (ys:aa):Prop:=hd ys≠0/\∀y∈ys,0<=y*hd ys
theorem IU {n:Y}(b:0<=n)(c:Y):∀a:aa,(∀y∈a,0<=y*c)->0<=J n a*c
 |[],_=>by simp[J]
 |y::a,h=>by
  let d:=IU b c a λz e=>h z (eQ _ e);let hy:=h y e9;simp only[J,yn,cI];let:=yo b d;lk
def Rk {n:Y}(d:0<=n)(h:pL ys):J n ys≠0:=by
 cases ys with
 |nil=>calc Zq U h.1
 |cons c r=>
  cases h,a,b;let a:c≠0:=a;let b:∀y∈c::r,0<=y*c:=b;let f:=IU d c r λy hy=>b y (eQ _ hy);intro z;let e:J n (c::r)*c=c*c+n*(J n r*c):=by simp only[J,yn,cI]
  rw[z,qP]at e;let p:=yo d f;let q:0<c*c:=by
   rcases yp a with g|g
   .exact Int.mul_pos_of_neg_of_neg g g
   .exact yq g g
  lk
def Rm {m n:Y}(a:m<=n)(h:pL (bT m xs)):J n xs≠0:=by
 let:=Rk (n:=n-m) () h
 rwa [fD,show n-m+m=n by lk]at this
def Rn (a:hd ys≠0):pL ys↔(∀y∈ys,0<=y)\/(∀y∈ys,y<=0):=by
 let b:hd ys∈ys:=by
  cases ys with
  |nil=>calc Zq U a
  |cons c r=>exact e9
 constructor
 .intro h;rcases yp a with g|g
  .calc .inr λy hy=>?_;let:=h.2 y hy;by_cases z:y<=0
   .exact z
   .let:=Vw (show 0<y by lk) g;lk
  .calc .inl λy hy=>?_;let:=h.2 y hy;by_cases z:0<=y
   .exact z
   .let:=Vx (show y<0 by lk) g;lk
 .rintro (h|h)
  .exact#[a,λy hy=>yo (h y hy) (h _ b)]
  .calc#[a,λy hy=>Vy (h y hy) (h _ b)]
end My
namespace My
noncomputable def sh (g:b_) (j:O):Int:=if j=0 then 0 else g (j-1)
def mw (n:O)(f:b_):aX (n+1) f=f 0+aX n λj=>f (j+1):=by
 induction n with
 |zero=>simp[aX]
 |succ n ih=>
  rw[show aX (n+1+1) f=aX (n+1) f+f (n+1) from rfl,ih];simp only[aX];lk
def IV (f g:b_)(k:O):pm f (sh g) k=sh (pm f g) k:=by
 unfold sh;by_cases h:k=0
 .subst h;rw[Zt U];simp[pm,aX]
 .rw[N h];obtain⟨m,rfl⟩:∃m,k=m+1:=#[k-1,()]
  unfold pm;rw[show aX (m+1+1) (λj=>f j*if m+1-j=0 then 0 else g (m+1-j-1))=aX (m+1) (λj=>f j*if m+1-j=0 then 0 else g (m+1-j-1))+f (m+1)*(if m+1-(m+1)=0 then 0 else g (m+1-(m+1)-1)) from rfl];rw[Zt (),dY,oH,show m+1-1=m by lk];calc fC λj a=>by rw[N (),show m+1-j-1=m-j by lk]
def Ro {f g h:b_}(e:∀j,g j=h j)(k:O):pm f g k=pm f h k:=fC λj _=>by rw[e]
def v_ {f g:b_}{t e:O}(a:∀j,t+1<=j->f j=0)(b:∀j,e<=j->g j=0)(k:O)(hk:t+e<=k):pm f g k=0:=
 iN λj c=>by
  by_cases h:t+1<=j
  .rw[a j h,qP]
  .rw[b (k-j) (),dY]
noncomputable def ev (p:Y) (f:b_):O->O->Y
 |0,_=>0
 |n+1,s=>f s+p*ev p f n (s+1)
theorem IW (p a b:Y)(f g:b_):∀n s,ev p (λj=>a*f j-b*g j) n s=a*ev p f n s-b*ev p g n s
 |0,_=>by simp[ev]
 |n+1,s=>by
  simp only[ev];rw[IW p a b f g n (s+1),oI,jc,jc,<-cI p a,<-cI p b,cW p a,cW p b,cI,cI];lk
def we (p:Y){K n:b_}{e:O}(hK:∀j,e+1<=j->K j=0)(i:∀j,e<=j->n j=0):
  ∃d:b_,(∀j,e<=j->d j=0)/\∀j,p*d j-sh d j=ev p K (e+1) 0*n j-ev p n (e+1) 0*K j:=by
 let' b:=ev p K (e+1) 0
 let' c:=ev p n (e+1) 0
 let' F:b_:=λj=>b*n j-c*K j
 let' v:b_:=λj=>ev p F (e+1-j) j
 let k:∀j,e+1<=j->F j=0:=λj f=>by show b*n j-c*K j=0;rw[i j (),hK j f];simp
 let l:∀j,v j=F j+p*v (j+1):=λj=>by
  show ev p F (e+1-j) j=F j+p*ev p F (e+1-(j+1)) (j+1);by_cases h:j<=e
  .rw[show e+1-j=(e-j)+1 by lk,show e+1-(j+1)=e-j by lk];rfl
  .rw[show e+1-j=0 by lk,show e+1-(j+1)=0 by lk,k j ()];simp[ev]
 let m:v 0=0:=by
  show ev p (λj=>b*n j-c*K j) (e+1) 0=0;rw[IW];show b*c-c*b=0;rw[cW];lk
 refine#[λj=>- v (j+1),λj f=>?_,λj=>?_]
 .show-ev p F (e+1-(j+1)) (j+1)=0;rw[show e+1-(j+1)=0 by lk];rfl
 .show p*(- v (j+1))-sh (λj=>- v (j+1)) j=F j;let a:=l j;unfold sh;by_cases h:j=0
  .subst h;rw[Zt U];rw[m]at a;rw[qM];lk
  .rw[N h];show p*(- v (j+1))-(- v (j-1+1))=F j;rw[show j-1+1=j by lk,qM];lk
theorem CU (f:b_):∀n,∃j,∀i,i<n->(f i).8<=(f j).8
 |0=>#[0,λi hi=>()]
 |n+1=>by
  cases CU f n,j,a;by_cases h:(f j).8<=(f n).8
  .exact⟨n,λi hi=>by
    by_cases e:i=n
    .rw[e];exact aC _
    .calc aP (a i ()) h⟩
  .exact⟨j,λi hi=>by
    by_cases e:i=n
    .rw[e];lk
    .calc a i ()⟩
section
variable {p:Y}{K L:b_}{e t M:O}(he:1<=e)(hK:∀j,e+1<=j->K j=0)(kt:K e≠0)(hL:∀j,t+1<=j->L j=0)(lt:L t≠0)(hM:∀j,(pm L K j).8<=M)(hp:(ev p K (e+1) 0).8+M+1<p.8)
include he hK kt hL lt hM hp
theorem IX {I d:b_}{n:O}(o:∀j,e<=j->I j=0)(i:∀j,e<=j->d j=0)(q:∀j,p*d j-sh d j=ev p K (e+1) 0*I j-ev p I (e+1) 0*K j)(s:∀j,(pm L I j).8<=n):
  ∃b,(∀j,(pm L d j).8<=b)/\(ev p I (e+1) 0).8<=b/\(p.8-1-M)*b<=(ev p K (e+1) 0).8*n:=by
 let r:∀j,p*pm L d j-sh (pm L d) j=ev p K (e+1) 0*pm L I j-ev p I (e+1) 0*pm L K j:=λj=>by
  rw[<-IV,<-pH,<-pH,<-pH,<-pG,<-pG];exact Ro q j
 cases CU (pm L d) (t+e),f,l;let k:∀j,(pm L d j).8<=(pm L d f).8:=λj=>by
  by_cases h:j<t+e
  .exact l j h
  .rw[v_ hL i j ()];exact bh _
 let top:pm L K (e+t)=L t*K e:=mv hL hK;let m:(ev p I (e+1) 0).8<=(pm L d f).8:=by
  let a:=r (e+t);rw[v_ hL i (e+t) (),v_ hL o (e+t) (),top]at a;unfold sh at a;rw[N ()]at a;let u:pm L d (e+t-1)=ev p I (e+1) 0*(L t*K e):=by
   rw[dY,dY]at a;lk
  let b:=k (e+t-1);rw[u,du,du]at b;let c:1<=(L t).8*(K e).8:=jd (kg.mpr lt) (kg.mpr kt);exact aP (h_ _ c) b
 calc#[_,k,m,?_];let a:=r f;generalize x:(pm L d f).8=b at k m;let y:(sh (pm L d) f).8<=b:=by
  unfold sh;by_cases h:f=0
  .rw[Zt h];exact bh _
  .rw[N h];exact k _
 let z:(p*pm L d f).8=p.8*b:=by rw[du,x]
 let C:(ev p K (e+1) 0*pm L I f).8<=(ev p K (e+1) 0).8*n:=by rw[du];exact fE _ (s f)
 let E:(ev p I (e+1) 0*pm L K f).8<=b*M:=by rw[du];exact fq m (hM f)
 let F:p.8*b<=(ev p K (e+1) 0).8*n+b*M+b:=by
  rw[<-z,<-zct (p*pm L d f) (sh (pm L d) f),a];exact aP (ju _ _) (oM (aP (oN _ _) (oM C E)) y)
 let H:(p.8-1-M)*b=p.8*b-b-b*M:=by rw[zev,zev,gD,hI M b]
 rw[H];calc Vz (Vz F)
theorem Rq (x:ev p K (e+1) 0≠0):∀(n:O)(P:b_),(∀j,e<=j->P j=0)->(∀j,(pm L P j).8<=n)->∀j,P j=0:=by
 intro n
 induction n using Ey with
 |_ n ih=>
  intro P f o;by_cases hn0:n=0
  .intro j;let z:=pI (g:=L) (d:=P) (m:=t) hL lt 0 e (λj H=>f j ()) (λk _=>by let:=o k;lk);exact z j ()
  .cases we p hK f,q,c,r;cases IX he hK kt hL lt hM hp f c r o,b,y,I,hs;let i:b<n:=by
    calc mU λl=>?_;let C:((ev p K (e+1) 0).8+1)*n<=(p.8-1-M)*b:=fq () l;rw[Nd]at C;lk
   let s:=ih b i q c y;let u:∀j,ev p K (e+1) 0*P j=ev p P (e+1) 0*K j:=λj=>by
    let a:=r j;rw[s j]at a;let E:sh q j=0:=by
     unfold sh;by_cases h:j=0
     .rw[Zt h]
     .rw[N h];exact s _
    rw[E,dY]at a;lk
   let F:ev p P (e+1) 0=0:=by
    let a:=u e;rw[f e (aC _),dY]at a;exact (kY.mp a.symm).resolve_right kt
   intro j;let a:=u j;rw[F,qP]at a;calc (kY.mp a).resolve_left x
theorem Rr:False:=by
 let c:∀n,ev p (λj=>if j=0 then (1:Y) else 0) (n+1) 0=1:=λn=>by
  let z:∀n s,ev p (λj=>if j=0 then (1:Y) else 0) n (s+1)=0:=λn=>by
   induction n with
   |zero=>intro s;rfl
   |succ n ih=>intro s;simp only[ev];rw[ih (s+1)];simp
  simp only[ev];rw[z n 0];simp
 let a:∀j,e<=j->(λj=>if j=0 then (1:Y) else 0) j=0:=λj r=>N ();obtain⟨m,d⟩:=CU (pm L λj=>if j=0 then (1:Y) else 0) (t+e);let k:∀j,(pm L (λj=>if j=0 then (1:Y) else 0) j).8<=(pm L (λj=>if j=0 then (1:Y) else 0) m).8:=λj=>by
  by_cases h:j<t+e
  .exact d j h
  .rw[v_ hL a j ()];exact bh _
 by_cases h0:ev p K (e+1) 0=0
 .cases we p hK a,u,f,o;cases IX he hK kt hL lt hM hp a f o k,b,x,l,hs;rw[h0]at hs;rw[c]at l;let i:1<=b:=l;let q:0<(p.8-1-M)*b:=jd () i;rw[Int.natAbs_zero,zem]at hs;lk
 .let:=Rq he hK kt hL lt hM hp h0 _ _ a k 0;simp at this
end
end My
namespace My
def Prm (q:O):Prop:=1<q/\∀m,m∣q->m=1\/m=q
def pM:∀n:O,1<n->∃q,q∣n/\Prm q:=by
 intro n
 induction n using Ey with
 |_ n ih=>
  intro h;by_cases p:∀m,m∣n->m=1\/m=n
  .exact#[n,Nat.dvd_refl n,h,p]
  .cases Classical.not_forall.mp p,m,a;let hd:m∣n:=Zc λz=>a λy=>Zq y z;let e:¬(m=1\/m=n):=λz=>a λ_=>z;let f:m≠0:=λz=>by rw[z]at hd;let:=Ez hd;lk
   let b:=mT () hd;cases ih m () (),q,c,d;calc#[q,Nat.dvd_trans c hd,d]
def CV:Prm 2:=⟨(),λm a=>by
 let b:=mT () a;let c:m≠0:=λz=>by
  rw[z]at a;exact Zq (Ez a) ()
 lk⟩
def CW {q:O}(a:Prm q){x y:Y}(h:(q:Y)∣x*y):(q:Y)∣x\/(q:Y)∣y:=by
 let b:q∣x.8*y.8:=by
  let:=oJ.mpr h
  rwa [d_,du]at this
 rcases a.2 (cO q x.8) (mV _ _) with z|z
 .calc .inr ?_;let:q∣y.8:=Nat.Coprime.dvd_of_dvd_mul_left z b;exact oJ.mp #v[d_,this]
 .calc .inl ?_;let:q∣x.8:=by let:=oO q x.8;rwa [z]at this
  calc oJ.mp #v[d_,this]
def IY {q:Y}{f:b_}(h:¬∀j,q∣f j):∃i,¬q∣f i/\∀j,j<i->q∣f j:=by
 obtain⟨n,b⟩:=Classical.not_forall.mp h
 induction n using Ey with
 |_ n ih=>
  by_cases z:∀j,j<n->q∣f j
  .exact#[n,b,z]
  .cases Classical.not_forall.mp z,j,a;let c:j<n:=Zc λy=>a λx=>Zq x y;calc ih j c λy=>a λ_=>y
theorem IZ {q:Y}{f:b_}:∀n,(∀j,j<n->q∣f j)->q∣aX n f
 |0,_=>qQ q
 |n+1,h=>Nm (IZ n λj a=>h j ()) (h n ())
theorem I0 {q:Y}{f:b_}{i:O}:∀n,i<n->(∀j,j<n->j≠i->q∣f j)->q∣aX n f->q∣f i
 |0,h,_,_=>by lk
 |n+1,hi,h,hs=>by
  let e:aX (n+1) f=aX n f+f n:=rfl;rw[e]at hs;by_cases z:i=n
  .subst z;exact (Int.dvd_add_right (IZ i λj b=>h j () ())).mp hs
  .let fn:=h n () ();calc I0 n () (λj b a=>h j () a) ((Int.dvd_add_left fn).mp hs)
def pO {q:O}(e:Prm q)(h:∀k,(q:Y)∣pm f g k):(∀j,(q:Y)∣f j)\/(∀j,(q:Y)∣g j):=by
 by_cases hf:∀j,(q:Y)∣f j
 .exact .inl hf
 by_cases hg:∀j,(q:Y)∣g j
 .exact .inr hg
 exfalso;cases IY hf,a,l,c;cases IY hg,b,m,d;let hs:=h (a+b);let:=I0 (i:=a) (a+b+1) () (λj o n=>by
  show (q:Y)∣f j*g (a+b-j);by_cases z:j<a
  .exact ge (c j z) (i0 _ _)
  .calc ge (d (a+b-j) ()) (qR _ _)) hs
 rw[show a+b-a=b by lk]at this;calc (CW e this).elim l m
def gP (f:b_):Prop:=∀d:O,(∀j,(d:Y)∣f j)->d=1
def Rs (b:gP f)(c:gP g):gP (pm f g):=λd hd=>by
 by_cases h1:d=1
 .exact h1
 by_cases h0:d=0
 .-- all numbers nought: then 2 divides them
  let z:∀k,((2:O):Y)∣pm f g k:=λk=>by
   let:=hd k;rw[h0]at this;let e:pm f g k=0:=No.mp (⇑this);rw[e];exact qQ _
  rcases pO (q:=2) CV z with y|y
  .exact Zq (b 2 y) ()
  .exact Zq (c 2 y) ()
 .cases pM d (),q,h,a;let z:∀k,(q:Y)∣pm f g k:=λk=>ge (jv.mpr h) (hd k);rcases pO a z with y|y
  .let:=b q y;let:=a.1;lk
  .let:=c q y;let:=a.1;lk
def pP (n:gP f):∀(m:O),0<m->∀k:b_,(∀j,(m:Y)∣pm f k j)->∀j,(m:Y)∣k j:=by
 intro m
 induction m using Ey with
 |_ m ih=>
  intro C k hk;by_cases h1:m=1
  .intro j;rw[h1];exact Int.one_dvd _
  cases pM m (),q,#[r,c],h;let o:=h.1;let l:0<r:=oP λz=>by rw[z]at c;lk
  let s:r<m:=by
   rw[c]
   calc r=1*r:=(gD r).symm
    _<q*r:=VC o l
  let d:(m:Y)=(q:Y)*(r:Y):=by rw[c];exact fX q r
  let u:∀j,(q:Y)∣k j:=by
   rcases pO h (f:=f) (g:=k) λj=>ge #v[d,i0 _ _] (hk j) with y|y
   .let:=n q y;lk
   .exact y
  let e:∀j,k j=q*(k j / q):=λj=>(yr (u j)).symm;let x:=ih r s l (λj=>k j / q) λj=>by
   let a:=hk j;let b:pm f k j=q*pm f (λj=>k j / q) j:=by
    rw[<-pH];calc fC λi _=>?_;show f i*k (j-i)=f i*(q*(k (j-i) / q));rw[<-e]
   rw[b,d]at a;exact VD () a
  intro j;rw[e j,d];calc Np _ (x j)
end My
namespace My
noncomputable def cq:aa->aa->aa
 |[],ys=>ys
 |xs,[]=>xs
 |x::xs,y::ys=>(x+y)::cq xs ys
theorem d8 (n:Y):∀a b,J n (cq a b)=J n a+J n b
 |[],b=>by simp[cq,J]
 |x::a,[]=>by simp[cq,J]
 |x::a,y::b=>by
  simp only[cq,J];rw[d8 n a b,jc];lk
theorem aJ (n c:Y):∀a:aa,J n (a.map λx=>c*x)=c*J n a
 |[]=>by simp[J]
 |x::a=>by
  simp only[fo,J];rw[aJ n c a,jc,<-cI n c,cW n c,cI]
def bI:aa->aa->aa
 |[],_=>[]
 |c::f,g=>cq (g.map λx=>c*x) (0::bI f g)
theorem cG (n:Y):∀f g,J n (bI f g)=J n f*J n g
 |[],g=>by simp[bI,J]
 |c::f,g=>by
  simp only[bI];rw[d8,aJ];simp only[J];rw[cG n f g,yn,cI];lk
theorem gu:∀(a b:aa)(k:O),Z (cq a b) k=Z a k+Z b k
 |[],b,k=>by simp[cq,gn]
 |x::a,[],k=>by simp[cq,gn]
 |x::a,y::b,k=>by
  simp only[cq];rw[gr,gr,gr];by_cases h:k=0
  .simp[h]
  .rw[N h,N h,N h,gu a b]
theorem gI:∀(f g:aa)(k:O),Z (bI f g) k=pm (Z f) (Z g) k
 |[],g,k=>by
  rw[show bI [] g=[] from rfl,gn];calc (iN λj _=>by rw[gn,qP]).symm
 |c::f,g,k=>by
  simp only[bI];rw[gu,gr];let a:Z (g.map λx=>c*x) k=c*Z g k:=by
   by_cases h:k<g.9
   .rw[aO (⇑h),aO h,cZ]
   .rw[aL (by simp;lk),aL (),dY]
  rw[a];unfold pm;rw[mw];let b:Z (c::f) 0=c:=rfl;rw[b,Nq];by_cases h:k=0
  .subst h;rw[Zt U];simp[aX]
  .rw[N h,gI f g (k-1)];obtain⟨m,rfl⟩:∃m,k=m+1:=#[k-1,()]
   unfold pm;rw[show m+1-1=m by lk];congr 1;calc fC λj d=>?_;rw[gr,N (),show j+1-1=j by lk,show m+1-(j+1)=m-j by lk]
def wh (n:Y)(xs:aa):∀k,J n (xs++bj k 0)=J n xs:=by
 intro k
 induction xs with
 |nil=>
  induction k with
  |zero=>rfl
  |succ k ih=>rw[gT]at *;rw[jb];simp only[J];rw[ih];simp[J]
 |cons x xs ih=>simp only[je,J];rw[ih]
def wj (xs:aa)(k j:O):Z (xs++bj k 0) j=Z xs j:=by
 by_cases h:j<xs.9
 .unfold Z;rw[aD,aD,dH h]
 .rw[aL (xs:=xs) ()];unfold Z;rw[aD,dQ (),ke]
  split <;> rfl
def dX (h:∀n,J n xs=J n ys)(k:O):Z xs k=Z ys k:=by
 let e:xs++bj ys.9 0=ys++bj xs.9 0:=Q8 (by simp;lk) λn=>by rw[wh,wh,h]
 rw[<-wj xs ys.9 k,e,wj]
def f9 (h:∀k,Z xs k=Z ys k)(n:Y):J n xs=J n ys:=by
 let e:xs++bj ys.9 0=ys++bj xs.9 0:=vU (by simp;lk) λk _=>by rw[wj,wj,h]
 rw[<-wh n xs ys.9,e,wh]
def jm:Div one XY q↔∀n,J n one=J n XY*J n q:=by
 constructor
 .intro h n;rw[<-cG];exact f9 (λk=>by rw[h k,gI]) n
 .intro h k;rw[<-gI];calc dX (λn=>by rw[h n,cG]) k
theorem I_ (p:Y)(xs:aa):∀n s,ev p (Z xs) n s=J p ((xs.drop s).take n)
 |0,s=>by simp[ev,J]
 |n+1,s=>by
  simp only[ev];rw[I_ p xs n (s+1)];by_cases h:s<xs.9
  .rw[Ex h,VE];simp only[J];rw[aO h]
  .rw[aL (),VG (),VG ()];simp[J]
def Rt {p:Y}{M:O}{f a b g x y F qb U V:aa}{c h m:Y}(hp:2*(M:Y)+29<=p)(fp:gP (Z f))(fn:S f)(Q:f≠[])(c1:1<=c)(fs:∀z∈f,2*(c*z).8<=p.8)(gp:gP (Z g))(R:S g)(ha:Div a g x)(hb:Div b g y)(hM:(a≠[]/\S a/\∀z∈a,z.8<=M)\/(b≠[]/\S b/\∀z∈b,z.8<=M))(fa:Div a f F)(fb:Div b f qb)(m0:m≠0)(bz:∀n,J n U*J n a+J n V*J n b=m*J n g)(h1:1<=h)(fv:0<J p f)(hv:c*J p f=h*(J p g).8):
  f=g\/f=g.map λz=>-1*z:=by
 let va:=jm.mp ha;let vb:=jm.mp hb;let wa:=jm.mp fa;let wb:=jm.mp fb
 let' W:=cq (bI U F) (bI V qb)
 let X:∀n,J n f*J n W=m*J n g:=λn=>by
  show J n f*J n (cq (bI U F) (bI V qb))=_;rw[d8,cG,cG,<-bz n,wa n,wb n,jc,kZ,kZ (J n V)]
 let dW:∀j,((m.8:O):Y)∣pm (Z f) (Z W) j:=λj=>by
  rw[<-gI,dX (ys:=g.map λz=>m*z) (λn=>by rw[cG,X,aJ]) j];let o:Z (g.map λz=>m*z) j=m*Z g j:=by
   by_cases h:j<g.9
   .rw[aO (⇑h),aO h,cZ]
   .rw[aL (by simp;lk),aL (),dY]
  rw[o];exact ge (k_.mpr (oQ m)) (i0 _ _)
 let dk:=pP fp m.8 (kg.mpr m0) (Z W) dW
 let' k:=aw (W.map λz=>z / m)
 let q:∀n,J n g=J n f*J n k:=λn=>by
  let e:J n W=m*J n k:=by
   show _=m*J n (aw (W.map λz=>z / m));rw[f9 (cX _) n,<-aJ];calc f9 (λj=>?_) n;rw[iF];by_cases h:j<W.9
   .rw[aO (xs:=W) h,aO (xs:=W.map _) (⇑h),cZ];let z:=dk j;rw[aO h]at z;exact (yr (k_.mp z)).symm
   .rw[aL (xs:=W) (),aL (xs:=W.map _) (by simp;lk)]
  let z:=X n;rw[e,kZ]at z;exact (jx m0 z).symm
 let kn:S k:=cn _;let c2:c=h*(J p k).8:=by
  let z:=hv;rw[q p,du,fX,Int.natAbs_of_nonneg (EA fv),cW,kZ]at z;exact jx () z
 let cp:2*c<=p:=by
  let r:=dU fn Q;let hl:f.9-1<f.9:=by let:=cE.mpr Q;lk
  rw[aO hl]at r;let z:=fs _ (cD hl);rw[du]at z;let z2:c.8<=c.8*f[f.9-1].8:=h_ _ (kg.mpr r);lk
 let kc:((J p k).8:Y)<=c:=by
  rw[c2];let:(0:Y)<=((J p k).8:Y):=zcu _;let z:=EB h1 this;rw[cL]at z;exact z
 let kl:∀(d w:aa),d≠[]->S d->(∀z∈d,z.8<=M)->(∀n,J n d=J n g*J n w)->k.9<=1:=λd w s u C vd=>by
  refine qI λh2=>?_
  let' l:=aw (bI f w)
  let vl:∀n,J n d=J n l*J n k:=λn=>by
   show _=J n (aw (bI f w))*_;rw[f9 (cX _) n,cG,vd,q,cI,cW (J n k),cI]
  let r:l≠[]:=λz=>by
   let e:d=[]:=pJ u λj=>by
    let:=dX (xs:=d) (ys:=[]) (λn=>by rw[vl n,z];simp[J]) j;rw[this];rfl
   exact s e
  let ll:=cE.mpr r;let i:k≠[]:=cE.mp ();let dd:Div d l k:=jm.mpr vl;refine Rr (p:=p) (K:=Z k) (L:=Z l) (e:=k.9-1) (t:=l.9-1) (M:=M) () (λj E=>aL ()) (dU kn i) (λj E=>aL ()) (dU (cn _) r) (λj=>?_) ?_
  .rw[<-dd j];by_cases E:j<d.9
   .rw[aO E];exact C _ (cD E)
   .rw[aL ()];exact bh _
  .rw[I_,oR,ii ()];lk
 let k1:k.9<=1:=by
  rcases hM with ⟨s,u,C⟩|⟨s,u,C⟩
  .exact kl a x s u C va
  .exact kl b y s u C vb
 let cg:∀i:Y,(∀n,J n g=J n f*i)->∀j,Z g j=i*Z f j:=λi hk j=>by
  let o:Z (f.map λz=>i*z) j=i*Z f j:=by
   by_cases h:j<f.9
   .rw[aO (xs:=f.map _) (⇑h),aO h,cZ]
   .rw[aL (xs:=f.map _) (by simp;lk),aL (),dY]
  rw[<-o];exact dX (λn=>by rw[hk n,aJ,cW]) j
 let H:∀d:Y,(∀j,Z g j=d*Z f j)->d.8=1:=λd hd=>gp d.8 λj=>by
  rw[hd j];exact ge (k_.mpr (oQ d)) (i0 _ _)
 obtain⟨i,hk⟩:∃i:Y,∀n,J n g=J n f*i:=by
  generalize k=kk at k1 q
  match kk,k1 with
  |[],_=>calc#[0,λn=>by rw[q n];simp[J]]
  |[z],_=>calc#[z,λn=>by rw[q n];simp[J]]
  |_::_::_,h=>simp at h
 let I:=cg i hk;let x0:=H i I;let kk:i=1\/i=-1:=()
 rcases kk with rfl|rfl
 .exact .inl (gq fn R λj=>by rw[I j];lk)
 .refine .inr (gq fn (λz ys e=>?_) λj=>?_)
  .let P:=ZL (yt λz=>-1*z) e;rw[iF,aY,jy]at P;let e2:(λz:Y=>-1*z) ∘ (λz:Y=>-1*z)=id:=funext λz=>by simp
   rw[e2,Nr]at P;let:=R _ _ P;lk
  .let o:Z (g.map λz=>-1*z) j=-1*Z g j:=by
    by_cases h:j<g.9
    .rw[aO (xs:=g.map _) (⇑h),aO h,cZ]
    .rw[aL (xs:=g.map _) (by simp;lk),aL (),dY]
   rw[o,I j];lk
end My
namespace My
def Ru {p:Y}(l:0<p):∀(f g:aa),(∀x∈f,2*x.8<=p.8)->(∀x∈g,2*x.8<p.8)->J p f=J p g->∀k,Z f k=Z g k:=by
 let b:∀(x y s t:Y),2*x.8<=p.8->2*y.8<p.8->x+p*s=y+p*t->x=y/\s=t:=λx y s t hx hy h=>by
  let m:-p<=2*x/\2*x<=p:=by clear h hy;lk
  let o:-p<2*y/\2*y<p:=by clear h hx m;lk
  clear hx hy;let e:p*(s-t)=y-x:=by rw[oI];lk
  let z:s-t=0:=by
   rcases Int.lt_trichotomy (s-t) 0 with u|u|u
   .let:=oS (show s-t<=-1 by lk) (EA l);rw[e,qM,ya]at this;lk
   .exact u
   .let:=oS (show 1<=s-t by lk) (EA l);rw[e,ya]at this;lk
  rw[z,dY]at e;exact#[(),()]
 let nil:∀g:aa,(∀x∈g,2*x.8<=p.8)->J p g=0->∀k,Z g k=0:=by
  intro g
  induction g with
  |nil=>intro _ _ k;rfl
  |cons y g ih=>
   intro a h k;let n:y+p*J p g=0+p*0:=by
    let:J p (y::g)=y+p*J p g:=rfl;rw[this]at h;rw[dY];lk
   obtain⟨c,d⟩:=b y 0 (J p g) 0 (a y ⋯) (by simp;lk) n;rw[gr];by_cases z:k=0
   .rw[Zt z];exact c
   .rw[N z];exact ih (λx hx=>a x (by simp[hx])) d (k-1)
 intro f
 induction f with
 |nil=>
  intro g _ a h k;rw[nil g (λx hx=>dj (a x hx)) h.symm k];rfl
 |cons x f ih=>
  intro g i a h k
  cases g with
  |nil=>rw[nil (x::f) i h k];rfl
  |cons y g=>
   obtain⟨c,d⟩:=b x y (J p f) (J p g) (i x ⋯) (a y ⋯) h;rw[gr,gr];by_cases z:k=0
   .rw[Zt z,Zt z];exact c
   .rw[N z,N z];calc ih g (λw j=>i w (by simp[j])) (λw j=>a w (by simp[j])) d (k-1)
def wk {p:Y}(m:1<=p):∀(f:aa),f≠[]->(∀x∈f,2*x.8<=p.8)->0<Z f (f.9-1)->p^(f.9-1)<=2^(f.9-1)*J p f/\0<J p f:=by
 intro f
 induction f with
 |nil=>intro h;calc Zq U h
 |cons x f ih=>
  intro _ d b;by_cases z:f=[]
  .subst z;let e:J p [x]=x:=by simp[J]
   let a:0<x:=b;rw[e];exact#[by simp;lk,a]
  .let n:=cE.mpr z;let a:0<Z f (f.9-1):=by
    let:(x::f).9-1=f.9:=by simp
    rw[this,gr,N ()]at b;exact b
   obtain⟨i,o⟩:=ih z (λw j=>d w (by simp[j])) a;let hx:=d x ⋯;let e:J p (x::f)=x+p*J p f:=rfl;let q:p*1<=p*J p f:=oS () ();let k:p*J p f<=2*J p (x::f):=by rw[e];lk
   calc#[?_,()];let l:(x::f).9-1=f.9-1+1:=by simp;lk
   rw[l,mW,mW];let c:(0:Y)<=2^(f.9-1):=zdz ()
   calc p^(f.9-1)*p<=2^(f.9-1)*J p f*p:=EB i ()
    _=2^(f.9-1)*(p*J p f):=by rw[cI,cW (J p f) p]
    _<=2^(f.9-1)*(2*J p (x::f)):=oS k c
    _=2^(f.9-1)*2*J p (x::f):=by rw[cI]
end My
namespace My
noncomputable def hx (x:Y) (g:b_):b_
 |0=>g 0
 |d+1=>x*hx x g d+g (d+1)
def hs:aa->O->Y
 |[]=>λd=>if d=0 then 1 else 0
 |x::xs=>hx x (hs xs)
theorem CY:∀a:aa,hs a 0=1
 |[]=>rfl
 |x::a=>CY a
theorem CZ (x y:Y)(g:b_):∀d,(x-y)*hx x (hx y g) d=x*hx x g d-y*hx y g d
 |0=>by simp only[hx];rw[zew]
 |d+1=>by
  let f:=CZ x y g d;simp only[hx];generalize hx x (hx y g) d=A at f ⊢;generalize hx x g d=a at f ⊢;generalize hx y g d=b at f ⊢;generalize g (d+1)=c;let e:(x-y)*(x*A+(y*b+c))=x*((x-y)*A)+(x-y)*(y*b+c):=by grind
  rw[e,f];grind
theorem C1 (x y:Y)(g:b_):∀d,hx x (hx y g) d=hx y (hx x g) d
 |0=>rfl
 |d+1=>by
  let a:=C1 x y g d;let l:=CZ x y g d;show x*hx x (hx y g) d+(y*hx y g d+g (d+1))=y*hx y (hx x g) d+(x*hx x g d+g (d+1))
  rw[<-a];generalize hx x (hx y g) d=A at l ⊢;grind
theorem pQ {g h:b_}(e:∀d,g d=h d):∀d,hx x g d=hx x h d
 |0=>e 0
 |d+1=>by simp only[hx];rw[pQ e d,e]
theorem my (y:Y):∀(a:aa)(d:O),hs (a++[y]) d=hx y (hs a) d
 |[],d=>rfl
 |x::a,d=>by
  show hx x (hs (a++[y])) d=hx y (hx x (hs a)) d;rw[pQ (my y a) d,C1]
def Rv (x:Y)(xs:aa)(d:O):hs (x::xs) d=hs (xs++[x]) d:=(my x xs d).symm
def Rx (x y:Y)(xs:aa)(d:O):(y-x)*hs (x::(xs++[y])) d=hs (xs++[y]) (d+1)-hs (x::xs) (d+1):=by
 let a:hs (x::(xs++[y])) d=hx x (hx y (hs xs)) d:=pQ (my y xs) d;let b:hs (xs++[y]) (d+1)=y*hx y (hs xs) d+hs xs (d+1):=my y xs (d+1);let c:hs (x::xs) (d+1)=x*hx x (hs xs) d+hs xs (d+1):=rfl;let l:=CZ x y (hs xs) d;rw[a,b,c];generalize hx x (hx y (hs xs)) d=A at l ⊢;grind
def dd (f xs:aa):Int:=aX f.9 λj=>Z f (j+(xs.9-1))*hs xs j
def wl (n:O)(f:b_):aX (n+1) f=aX n f+f n:=by
 induction n generalizing f with
 |zero=>simp[aX]
 |succ n ih=>
  rw[mw (n+1),ih λj=>f (j+1),mw n];lk
def C2 (f xs:aa)(x y:Y):(y-x)*dd f (x::(xs++[y]))=dd f (xs++[y])-dd f (x::xs):=by
 unfold dd;let a:(x::(xs++[y])).9-1=xs.9+1:=by simp
 let b:(xs++[y]).9-1=xs.9:=by simp
 let d:(x::xs).9-1=xs.9:=by simp
 rw[a,b,d,<-kF]
 cases hn:f.9 with
 |zero=>simp[aX]
 |succ n=>
  let e:∀j,(y-x)*(Z f (j+(xs.9+1))*hs (x::(xs++[y])) j)=Z f (j+1+xs.9)*hs (xs++[y]) (j+1)+(-1)*(Z f (j+1+xs.9)*hs (x::xs) (j+1)):=λj=>by
   let h:=Rx x y xs j;rw[show j+(xs.9+1)=j+1+xs.9 by lk];generalize hs (x::(xs++[y])) j=A at h ⊢;generalize Z f (j+1+xs.9)=c;let:(y-x)*(c*A)=c*((y-x)*A):=by grind
   rw[this,h];grind
  let top:Z f (n+(xs.9+1))=0:=aL ();rw[wl,top,qP,dY,oH,fC λj _=>e j,pF,kF,mw n λj=>Z f (j+xs.9)*hs (xs++[y]) j,mw n λj=>Z f (j+xs.9)*hs (x::xs) j,CY,CY];lk
def Ry (f xs:aa)(x:Y):dd f (x::xs)=dd f (xs++[x]):=by
 unfold dd;rw[show (x::xs).9=(xs++[x]).9 by simp];calc fC λj _=>by rw[Rv]
def Ja {f xs:aa}(h:f.9<xs.9):dd f xs=0:=by
 unfold dd;calc iN λj _=>by rw[aL (),qP]
theorem Jb (x:Y):∀d,hs [x] d=x^d
 |0=>by rw[Int.pow_zero];rfl
 |d+1=>by
  show x*hs [x] d+(if d+1=0 then 1 else 0)=x^(d+1);rw[Jb x d,N (),mW,oH,cW]
theorem Jc (n:Y):∀f:aa,J n f=aX f.9 λj=>Z f j*n^j
 |[]=>rfl
 |a::f=>by
  show J n (a::f)=aX (f.9+1) λj=>Z (a::f) j*n^j;rw[mw];let e:∀j,Z (a::f) (j+1)*n^(j+1)=n*(Z f j*n^j):=λj=>by
   rw[show Z (a::f) (j+1)=Z f j from rfl,mW];grind
  rw[fC λj _=>e j,kF,<-Jc n f];show _=a*n^0+n*J n f;simp[J]
def wm (f:aa)(x:Y):dd f [x]=J x f:=by
 rw[Jc];unfold dd;exact fC λj _=>by rw[Jb];rfl
def Rz (f xs:aa)(x n:Y):dd f (x::(xs++[n]))=dd f ((xs++[x])++[n]):=by
 unfold dd;rw[show (x::(xs++[n])).9=((xs++[x])++[n]).9 by simp];calc fC λj _=>?_;congr 1;show hx x (hs (xs++[n])) j=_;rw[my n (xs++[x]),pQ (my n xs),C1,pQ (my x xs)]
def Jd (f xs:aa)(x n:Y):dd f (xs++[n])=dd f (xs++[x])+(n-x)*dd f ((xs++[x])++[n]):=by
 let h:=C2 f xs x n;rw[Ry f xs x,Rz]at h;lk
def RA {f xs:aa}{x y:Y}(h:y≠x):(dd f (xs++[y])-dd f (x::xs)).fdiv (y-x)=dd f (x::(xs++[y])):=by
 rw[<-C2];calc qO _ ()
def run (ps:aa)(a n:O):aa:=(ps.drop a).take n
def Je {ps:aa}{a:O}(h:a<ps.9)(n:O):run ps a (n+1)=ps[a]::run ps (a+1) n:=by
 unfold run;rw[Ex h,VE]
def C3 {ps:aa}{a n:O}(h:a+n<ps.9):run ps a (n+1)=run ps a n++[ps[a+n]]:=by
 unfold run;rw[dI,zce,aq h];rfl
def Jf {ps:aa}{a g:O}(h:a+g+1<ps.9):run ps a (g+2)=ps[a]::(run ps (a+1) g++[ps[a+g+1]])/\run ps (a+1) (g+1)=run ps (a+1) g++[ps[a+g+1]]/\run ps a (g+1)=ps[a]::run ps (a+1) g:=by
 let e:run ps (a+1) (g+1)=run ps (a+1) g++[ps[a+g+1]]:=by
  rw[C3 ()];simp only[show a+1+g=a+g+1 by lk]
 calc#[by rw[Je (),e],e,Je () g]
def RB (f:aa){ps:aa}{a g:O}(h:a+g+1<ps.9)(b:ps[a+g+1]≠ps[a]):(dd f (run ps (a+1) (g+1))-dd f (run ps a (g+1))).fdiv (ps[a+g+1]-ps[a])=dd f (run ps a (g+2)):=by
 cases Jf h,c,d,e;rw[c,d,e];calc RA b
theorem wn (f:aa){ps:aa}(hd:∀i j (hi:i<ps.9) (o:j<ps.9),i≠j->ps[i]≠ps[j]){B:O}(b:∀i (h:i<ps.9),(J ps[i] f).8<=B):∀(n a:O),a+n<ps.9->(dd f (run ps a (n+1))).8<=2^n*B
 |0,a,h=>by
  rw[C3 h];show (dd f ([]++[ps[a+0]])).8<=_;rw[gT,wm]
  simpa using b a ()
 |n+1,a,h=>by
  let d:=wn f hd b n a ();let e:=wn f hd b n (a+1) ();cases Jf (ps:=ps) (a:=a) (g:=n) (),k,l,m;let g:=C2 f (run ps (a+1) n) ps[a] ps[a+n+1];rw[<-k,<-l,<-m]at g;let ne:=hd (a+n+1) a () () ();let c:(dd f (run ps a (n+2))).8<=((ps[a+n+1]-ps[a])*dd f (run ps a (n+2))).8:=by
   rw[du];exact ik _ ()
  rw[g]at c;let:2^(n+1)*B=2^n*B+2^n*B:=by rw[kX];grind
  show (dd f (run ps a (n+2))).8<=_;rw[this];calc aP c (aP (oN _ _) (oM e d))
def rnd (f ps:aa)(g i:O):Int:=if i<g then dd f (run ps 0 (i+1)) else dd f (run ps (i-g) (g+1))
def mxR (f ps:aa)(g c i:O):Int:=if c<=i then rnd f ps (g+1) i else rnd f ps g i
def RC {g i:O}(h:i<=g):rnd f ps (g+1) i=rnd f ps g i:=by
 unfold rnd;rw[Zt ()];by_cases z:i<g
 .rw[Zt z]
 .rw[N z,show i-g=0 by lk,show i=g by lk]
def RD {f ps:aa}{i:O}(h:i<ps.9):rnd f ps 0 i=J ps[i] f:=by
 unfold rnd;rw[N (),Nq,C3 (show i+0<ps.9 from h)];show dd f ([]++[ps[i]])=_;rw[gT,wm]
def RE {g i:O}(h:i<=g):rnd f ps g i=dd f (run ps 0 (i+1)):=by
 unfold rnd;by_cases z:i<g
 .rw[Zt z]
 .rw[N z,show i-g=0 by lk,show i=g by lk]
def RF {f ps:aa}{g i:O}(h:g+1<=i)(hi:i<ps.9)(b:ps[i]≠ps[i-(g+1)]):(rnd f ps g i-rnd f ps g (i-1)).fdiv (ps[i]-ps[i-(g+1)])=rnd f ps (g+1) i:=by
 obtain⟨a,rfl⟩:∃a,i=a+g+1:=#[i-(g+1),()]
 let c:a+g+1-(g+1)=a:=()
 let d:a+g+1-g=a+1:=()
 let e:a+g+1-1-g=a:=()
 unfold rnd;rw[N (),N (),N (),d,e];simp only[c]at b ⊢;calc RB f hi b
end My
namespace My
abbrev Rw:=O->Y
def io (c:O):G Rw->(G Rw->Y)->Y
 |[],_=>0
 |r::w,F=>(-1)^w.9*r c*F w+io c w λu=>F (r::u)
def dt:aE->G Rw->Y
 |[],[]=>1
 |[],_::_=>0
 |c::cs,l=>io c l (dt cs)
theorem C4 {c:O}:∀(w:List Rw){F G:List Rw->Y},(∀u,u.9+1=w.9->F u=G u)->io c w F=io c w G
 |[],_,_,_=>rfl
 |r::w,F,G,h=>by
  rw[io,io,h w U,C4 w (F:=λu=>F (r::u)) (G:=λu=>G (r::u)) λu a=>h (r::u) (by simp[a])]
theorem Jg {c:O}:∀(w:G Rw),io c w (λ_=>0)=0
 |[]=>rfl
 |r::w=>by rw[io,Jg w];simp
theorem Jh {c:O}(x:Y):∀(w:G Rw)(F a:G Rw->Y),io c w (λu=>x*F u+a u)=x*io c w F+io c w a
 |[],_,_=>by simp[io]
 |r::w,F,a=>by
  rw[io,io,io,Jh x w (λu=>F (r::u)) (λu=>a (r::u))];generalize io c w (λu=>F (r::u))=p;generalize io c w (λu=>a (r::u))=q;generalize ((-1:Y)^w.9)=e;grind
theorem Ji (a b:O):∀(w:List Rw)(F:List Rw->Y),io a w (λu=>io b u F)+io b w (λu=>io a u F)=0
 |[],_=>rfl
 |r::w,F=>by
  let st:∀(a b:O),io a (r::w) (λu=>io b u F)=(-1)^w.9*r a*io b w F+(-((-1)^w.9)*r b*io a w F+io a w λu=>io b u λv=>F (r::v)):=λa b=>by
   rw[io];congr 1;rw[C4 w (G:=λu=>-((-1)^w.9)*r b*F u+io b u λv=>F (r::v)) λu d=>?_]
   .rw[Jh]
   .rw[io,<-d,mW];grind
  rw[st a b,st b a];let c:=Ji a b w λu=>F (r::u);generalize io a w (λu=>io b u λv=>F (r::v))=p at c ⊢;generalize io b w (λu=>io a u λv=>F (r::v))=q at c ⊢;grind
def Jj (a b:O)(cs:aE)(l:G Rw):dt (a::b::cs) l=- dt (b::a::cs) l:=by
 let:=Ji a b l (dt cs);let c:dt (a::b::cs) l=io a l (λu=>io b u (dt cs)):=rfl;let d:dt (b::a::cs) l=io b l (λu=>io a u (dt cs)):=rfl;lk
theorem C5 {j:O}:∀(a:aE)(l:List Rw),j∈a->dt (j::a) l=0
 |[],_,h=>by simp at h
 |c::a,l,h=>by
  by_cases z:j=c
  .subst z;let:=Jj j j a l;lk
  .let b:j∈a:=by
    rcases bV.mp h with h|h
    .exact Zq h z
    .exact h
   rw[Jj];let e:dt (c::j::a) l=io c l (λu=>dt (j::a) u):=rfl;rw[e,C4 l (G:=λ_=>0) λu _=>C5 a u b,Jg];rfl
def dot:aa->G Rw->O->Y
 |m::ms,r::rs,c=>m*r c+dot ms rs c
 |_,_,_=>0
def nP {ms:aa}:∀{rs:G Rw}{m:Y}{r:Rw}{c:O},ms.9=rs.9->dot (ms++[m]) (rs++[r]) c=dot ms rs c+m*r c:=by
 induction ms with
 |nil=>intro rs m r c h;cases rs with
  |nil=>simp[dot]
  |cons=>simp at h
 |cons x ms ih=>intro rs m r c h;cases rs with
  |nil=>simp at h
  |cons y rs=>
   let:=ih (rs:=rs) (m:=m) (r:=r) (c:=c) (⇑h);simp only[je,dot];lk
def coE:G Rw->(G Rw->Y)->aa
 |[],_=>[]
 |r::w,F=>(-1)^w.9*F w::coE w λu=>F (r::u)
theorem Jk (c:O):∀(w:G Rw)(F:G Rw->Y),io c w F=dot (coE w F) w c
 |[],_=>rfl
 |r::w,F=>by
  rw[io,coE,dot,Jk c w];congr 1;grind
theorem Jm:∀(w:G Rw)(r:Rw)(F:G Rw->Y),∃a:aa,a.9=w.9/\coE (w++[r]) F=a++[F w]
 |[],r,F=>#[[],rfl,by simp[coE]]
 |x::w,r,F=>by
  obtain⟨a,b,c⟩:=Jm w r λu=>F (x::u);calc#[(-1)^(w++[r]).9*F (w++[r])::a,by simp[b],by rw[je,coE,c];rfl]
def RG (w:G Rw)(r:Rw)(F:G Rw->Y):∃a:aa,a.9=w.9/\∀c,io c (w++[r]) F=dot a w c+F w*r c:=by
 cases Jm w r F,a,b,d;calc#[a,b,λc=>by rw[Jk,d,nP b]]
theorem wo (a b:Y):∀(e f:aa)(d:G Rw),e.9=d.9->f.9=d.9->∃i:aa,i.9=d.9/\∀c,dot i d c=a*dot e d c+b*dot f d c
 |[],[],[],_,_=>#[[],rfl,λc=>by simp[dot]]
 |x::e,y::f,r::d,h1,h2=>by
  cases wo a b e f d (⇑h1) (⇑h2),i,j,k;refine#[(a*x+b*y)::i,by simp[j],λc=>?_];rw[dot,dot,dot,k c];grind
 |[],_::_,[],_,h=>by simp at h
 |_::_,_,[],h,_=>by simp at h
 |[],_,_::_,h,_=>by simp at h
 |_::_,[],_::_,_,h=>by simp at h
def Jo (rs:G Rw)(c:O):dot (bj rs.9 0) rs c=0:=by
 induction rs with
 |nil=>rfl
 |cons r rs ih=>rw[dO,jb,dot,ih];simp
section
variable (rs:G Rw)(cs:aE)
def cr (i:O):aE:=(cs.take i).reverse
def mi (i:O):Int:=dt (cr cs i) (rs.take i)
def bo (i:O)(x:Rw)(j:O):Int:=dt (j::cr cs i) (rs.take i++[x])
variable {rs cs}
def RH {i:O}(h:i<cs.9):cr cs (i+1)=cs[i]::cr cs i:=by
 unfold cr;rw[dI,aq h];simp
def kG {i l:O}(x:Rw)(h:l<i)(hi:l<cs.9):bo rs cs i x cs[l]=0:=by
 calc C5 _ _ ?_;unfold cr;rw[mX,List.mem_take_iff_getElem];calc#[l,(),U]
def i5 (i:O)(x:Rw):∃a:aa,a.9=(rs.take i).9/\∀j,bo rs cs i x j=dot a (rs.take i) j+mi rs cs i*x j:=by
 cases RG (rs.take i) x (dt (cr cs i)),a,b,c;calc#[a,b,c]
def mz {i:O}(a:i<rs.9)(b:i<cs.9):mi rs cs (i+1)=bo rs cs i rs[i] cs[i]:=by
 unfold mi bo;rw[RH b,dI,aq a];rfl
theorem pR:mi rs cs 0=1:=rfl
theorem C6:∀(k:O),k<=rs.9->k<=cs.9->(∀i,i<=k->mi rs cs i≠0)->∀(b:aa),b.9=(rs.take k).9->(∀l (h:l<cs.9),l<k->dot b (rs.take k) cs[l]=0)->∀j,dot b (rs.take k) j=0
 |0,_,_,_,b,hl,_,j=>by
  let:b=[]:=b7 (⇑hl);subst this;simp[dot]
 |k+1,hr,hc,hm,b,hl,hz,j=>by
  let o:rs.take (k+1)=rs.take k++[rs[k]]:=by rw[dI,aq ()];rfl
  let lt:(rs.take k).9=k:=by rw[cB];lk
  rw[o,cC,lt]at hl;obtain⟨m0,m,rfl⟩:∃m0 m,b=m0++[m]:=by
   cases e:b.getLast? with
   |none=>rw[yu]at e;subst e;simp at hl
   |some a=>exact#[_,a,(qS.mp e).choose_spec]
  let q:m0.9=(rs.take k).9:=by rw[lt];simpa using hl
  let u:∀j,dot (m0++[m]) (rs.take (k+1)) j=dot m0 (rs.take k) j+m*rs[k] j:=λj=>by rw[o,nP q]
  cases i5 (rs:=rs) (cs:=cs) k rs[k],x,y,z;cases wo (mi rs cs k) (-m) m0 x (rs.take k) q y,r,C,E;let c:∀j,dot r (rs.take k) j=mi rs cs k*dot (m0++[m]) (rs.take (k+1)) j-m*bo rs cs k rs[k] j:=λj=>by
   rw[E j,u j,z j];grind
  let s:=C6 k () () (λi hi=>hm i ()) r C λl h f=>by
   rw[c,hz l h (),kG _ f];simp
  let F:=c cs[k];rw[s,hz k () (),<-mz () ()]at F;let d:m=0:=by
   let n:=hm (k+1) (aC _);let:m*mi rs cs (k+1)=0:=()
   rcases kY.mp this with h|h
   .exact h
   .exact Zq h n
  let H:=c j;rw[s,d]at H;let n:=hm k ();let:mi rs cs k*dot (m0++[0]) (rs.take (k+1)) j=0:=()
  rw[d];rcases kY.mp this with h|h
  .exact Zq h n
  .calc h
def RI {i:O}(b:i<rs.9)(f:i<cs.9)(n:∀l,l<=i+1->mi rs cs l≠0)(x:Rw)(j:O):mi rs cs i*bo rs cs (i+1) x j=mi rs cs (i+1)*bo rs cs i x j-bo rs cs i x cs[i]*bo rs cs i rs[i] j:=by
 let c:rs.take (i+1)=rs.take i++[rs[i]]:=by rw[dI,aq b];rfl
 cases i5 (rs:=rs) (cs:=cs) (i+1) x,as,o,q;cases i5 (rs:=rs) (cs:=cs) i x,bs,b1,b2;cases i5 (rs:=rs) (cs:=cs) i rs[i],ds,k,r;let d:(bs++[0]).9=(rs.take (i+1)).9:=by rw[c,cC,cC,b1];rfl
 let e:(ds++[mi rs cs i]).9=(rs.take (i+1)).9:=by rw[c,cC,cC,k];rfl
 cases wo (mi rs cs i) (- mi rs cs (i+1)) as (bs++[0]) (rs.take (i+1)) o d,s,u,y;cases wo 1 (bo rs cs i x cs[i]) s (ds++[mi rs cs i]) (rs.take (i+1)) u e,m,C,E;let a:∀j,dot m (rs.take (i+1)) j=mi rs cs i*bo rs cs (i+1) x j-mi rs cs (i+1)*bo rs cs i x j+bo rs cs i x cs[i]*bo rs cs i rs[i] j:=λj=>by
  rw[E j,y j,q j,b2 j,r j,c,nP b1,nP k];grind
 let:=C6 (i+1) b f n m C (λl h F=>by
  rw[a];by_cases z:l=i
  .subst z;rw[kG x (qE _) h,<-mz b f];grind
  .rw[kG x () h,kG x (show l<i by lk) h,kG rs[i] (show l<i by lk) h];simp) j
 rw[a]at this;lk
end
end My
namespace My
theorem Jp {B Fb:O}{c:O}:∀(w:G Rw)(F:G Rw->Y),(∀u,u.9+1=w.9->(∀r∈u,r∈w)->(F u).8<=Fb)->(∀r∈w,(r c).8<=B)->(io c w F).8<=w.9*(B*Fb)
 |[],_,_,_=>by simp[io]
 |r::w,F,h,hb=>by
  let f:=Jp (B:=B) (Fb:=Fb) (c:=c) w (λu=>F (r::u)) (λu a b=>h (r::u) (by simp[a]) λx hx=>by
   rcases bV.mp hx with z|z
   .rw[z];exact e9
   .calc eQ _ (b x z)) λx hx=>hb x (eQ _ hx)
  let d:=h w U λx hx=>eQ _ hx;let e:=hb r e9;rw[io,dO,il,gD];let i:((-1:Y)^w.9*r c*F w).8<=B*Fb:=by
   rw[du,du,Nt];simp;exact fq e d
  let:=ju ((-1:Y)^w.9*r c*F w) (io c w λu=>F (r::u));lk
theorem C7 {B N:O}(d:1<=N*B):∀(a:aE)(l:G Rw),l.9<=N->(∀r∈l,∀c,(r c).8<=B)->(dt a l).8<=(N*B)^a.9
 |[],[],_,_=>by simp[dt]
 |[],_::_,_,_=>by simp[dt]
 |c::a,l,hl,hb=>by
  let h:=Jp (B:=B) (Fb:=(N*B)^a.9) (c:=c) l (dt a) (λu f e=>C7 d a u () λr b=>hb r (e r b)) λr b=>hb r b c;rw[dt,dO,kX];calc aP h ?_;rw[hI ((N*B)^a.9) (N*B),iG];calc fj _ hl
def wp {us ws:aa}{j:O}:∀{R1 R2:G Rw},us.9=R1.9->dot (us++ws) (R1++R2) j=dot us R1 j+dot ws R2 j:=by
 induction us with
 |nil=>intro R1 R2 h;cases R1 with
  |nil=>simp[dot]
  |cons=>simp at h
 |cons x us ih=>intro R1 R2 h;cases R1 with
  |nil=>simp at h
  |cons y R1=>
   let:=ih (R1:=R1) (R2:=R2) (⇑h);simp only[je,dot];lk
theorem Jq {rs:G Rw}{e N:O}(C:∀r∈rs,∀J,e+N<=J->r J=0)(j:∀d:aa,d.9=rs.9->(∀J,e<=J->dot d rs J=0)->∀m∈d,m=0):∀i,i<=rs.9->∃cs:aE,cs.9=i/\cs.Nodup/\(∀c∈cs,e<=c/\c<e+N)/\∀l,l<=i->mi rs cs l≠0
 |0,_=>#[[],rfl,ln,by simp,λl f=>by rw[show l=0 by lk,pR];decide]
 |i+1,hi=>by
  cases Jq C j i (),cs,E,P,Q,F;cases i5 (rs:=rs) (cs:=cs) i rs[i],s,u,X;let H:rs=(rs.take i++[rs[i]])++rs.drop (i+1):=by
   conv=>lhs;rw[<-qN (i+1) rs]
   rw[dI,aq ()];rfl
  let k:∀J,dot ((s++[mi rs cs i])++bj (rs.drop (i+1)).9 0) rs J=bo rs cs i rs[i] J:=λJ=>by
   let o:dot ((s++[mi rs cs i])++bj (rs.drop (i+1)).9 0) ((rs.take i++[rs[i]])++rs.drop (i+1)) J=bo rs cs i rs[i] J:=by
    rw[wp (by rw[cC,cC,u];rfl),nP u,Jo,X J];lk
   rw[<-H]at o;exact o
  by_cases q:∃J,e<=J/\bo rs cs i rs[i] J≠0
  .cases q,J,J1,y;let Jn:J∉cs:=λhm=>by
    cases di.mp hm,l,f,rfl;exact y (kG _ () f)
   let Jl:J<e+N:=by
    calc mU λh=>y ?_;rw[<-k J];let:∀(d:aa)(R:G Rw),(∀r∈R,r J=0)->dot d R J=0:=λd=>by
     induction d with
     |nil=>intro R _;cases R <;> rfl
     |cons m d ih=>intro R I;cases R with
      |nil=>rfl
      |cons r R=>rw[dot,I r e9,ih R λx hx=>I x (eQ _ hx)];simp
    exact this _ _ λr hr=>C r hr J h
   let n:∀l,l<=i->cr (cs++[J]) l=cr cs l:=λl f=>by unfold cr;rw[VI ()]
   let same:∀l,l<=i->mi rs (cs++[J]) l=mi rs cs l:=λl f=>by unfold mi;rw[n l f]
   refine#[cs++[J],by simp[E],?_,λc hc=>?_,λl f=>?_]
   .rw[kh];exact#[P,by simp,λa M b q=>by rw[bZ.mp q];intro z;rw[z]at M;calc Jn M]
   .rcases b5.mp hc with h|h
    .exact Q c h
    .rw[bZ.mp h];exact#[J1,Jl]
   .by_cases z:l<=i
    .rw[same l z];exact F l z
    .let:l=i+1:=()
     subst this;rw[mz () (by simp;lk)];let o:(cs++[J])[i]'(by simp;lk)=J:=by simp[E]
     let e2:bo rs (cs++[J]) i rs[i] J=bo rs cs i rs[i] J:=by unfold bo;rw[n i (aC _)]
     rw[o,e2];exact y
  .let:=j ((s++[mi rs cs i])++bj (rs.drop (i+1)).9 0) (by
    let:=ZL ka H;rw[cC,cC]at this;rw[cC,cC,mS,u];calc this.symm) (λJ hJ=>by
    rw[k J];by_cases z:bo rs cs i rs[i] J=0
    .exact z
    .calc Zq #[J,hJ,z] q) (mi rs cs i) ⋯
   calc Zq this (F i (aC _))
end My
namespace My
def prb (β:Rw->O):G Rw->O
 |[]=>1
 |r::w=>β r*prb β w
theorem Jr {β:Rw->O}{c:O}:∀(w:G Rw)(C:O)(F:G Rw->Y),(∀u,u.9+1=w.9->(∀r∈u,r∈w)->(F u).8<=C*prb β u)->(∀r∈w,(r c).8<=β r)->(io c w F).8<=w.9*(C*prb β w)
 |[],_,_,_,_=>by simp[io]
 |r::w,C,F,h,hb=>by
  let a:=Jr (β:=β) (c:=c) w (C * β r) (λu=>F (r::u)) (λu b d=>by
   let:=h (r::u) (by simp[b]) λx hx=>by
    rcases bV.mp hx with z|z
    .rw[z];exact e9
    .exact eQ _ (d x z)
   rw[prb,<-iG]at this;calc this) λx hx=>hb x (eQ _ hx)
  let e:=h w U λx hx=>eQ _ hx;let f:=hb r e9;rw[io,dO,il,gD,prb];let i:((-1:Y)^w.9*r c*F w).8<=β r*(C*prb β w):=by
   rw[du,du,Nt];simp;exact fq f e
  let j:β r*(C*prb β w)=C*(β r*prb β w):=Nat.mul_left_comm _ _ _;let k:C * β r*prb β w=C*(β r*prb β w):=iG _ _ _;rw[j]at i;rw[k]at a;let:=ju ((-1:Y)^w.9*r c*F w) (io c w λu=>F (r::u));lk
theorem wu {β:Rw->O}{N:O}(e:1<=N):∀(a:aE)(l:G Rw),l.9<=N->(∀r∈l,∀c,(r c).8<=β r)->(∀r∈l,1<=β r)->(dt a l).8<=N^a.9*prb β l
 |[],[],_,_,_=>by simp[dt,prb]
 |[],_::_,_,_,_=>by simp[dt]
 |c::a,l,hl,hb,h1=>by
  let h:=Jr (β:=β) (c:=c) l (N^a.9) (dt a) (λu f d=>wu e a u () (λr b=>hb r (d r b)) λr b=>h1 r (d r b)) λr b=>hb r b c;rw[dt,dO,kX];calc aP h ?_;rw[hI (N^a.9) N,iG];calc fj _ hl
theorem pT (β:Rw->O):∀(a b:G Rw),prb β (a++b)=prb β a*prb β b
 |[],b=>by simp[prb]
 |r::a,b=>by rw[je,prb,prb,pT β a b,iG]
theorem pU {β:Rw->O}{B:O}:∀(a:G Rw),(∀r∈a,β r<=B)->prb β a<=B^a.9
 |[],_=>by simp[prb]
 |r::a,h=>by
  rw[prb,dO,kX,hI];calc fq (pU a λx hx=>h x (eQ _ hx)) (h r e9)
end My
namespace My
def RJ (r:O)(p:O->Y->Y)(n:Y)(w:b_)(i:O):Int:=if i+1<r then p r n*w (i+1) else if i+1=r then-aX r (λj=>p j n*w j) else 0
def RK (r:O)(p:O->Y->Y)(n:Y)(w:b_):O->O->Y
 |0=>w
 |m+1=>RJ r p (n+m) (RK r p n w m)
noncomputable def kH (r:O) (p u:O->Y->Y) (i:O) (n:Y):Int:=p r n*(if i=0 then 0 else u (i-1) (n+1))-u (r-1) (n+1)*p i n
def uIt (r:O)(p:O->Y->Y):O->O->Y->Y
 |0=>λi _=>if i+1=r then 1 else 0
 |m+1=>kH r p (uIt r p m)
end My
open L2.V renaming int->V',ref->Z'
open L2.V renaming ref->L,int->B
namespace My
open PySem PySem.Spec PyProof.Rows L2
open L2 renaming upd->Zx
open L2.SqL renaming of->Zw
open Option.some renaming inj->Zv
open PySem.Str renaming ofString->Zu
seal L2.PE L2.PS L2.PSs L2.PA
def zWP (u d:Yl):YK Lean.Term:=(("rX rY rZ r_ rV vN vO vP vQ vF vG vH vI vD vE vv vo -_root_.L2.V.str.injEq vJ vK vk +Cy tj tm tq tu tD tE tG tH tI tJ tK tL tO tQ tS a_c tT tU tV tX tY tZ t_ ua ub uc ud ue uf ug uh ui uk um uo uq ur uu uv uw uz uA uB uC uD uE uF uG uH uI uJ uK uS -and_assoc uZ uY u_ ve vg vh uL uM uN uO uP yi EC ED EE -_root_.Option.some.injEq -_root_.L2.V.int.injEq -_root_.L2.V.bl.injEq -_root_.L2.V.ref.injEq -_root_.L2.V.ty.injEq -exists_eq_left' -exists_eq_left -exists_and_left -decide_eq_true_eq je gT -oD -_root_.List.cons.injEq -and_true -true_and -_root_.Bool.not_eq_true' -decide_eq_false_iff_not -ite_true -ite_false -_root_.Bool.false_eq_true -if_true -if_false -dO -Ev -_root_.L2.start -fo -yh -jb -VJ".splitOn " ").filter λx=>(u||!x.startsWith "+")&&(d||!x.startsWith "-")).toArray.map λx=>#[Lean.mkIdent (String.toName (String.ofList (x.toList.filter λc=>c≠'+'&&c≠'-')))]
local macro_rules | `(tactic| walk)=>`(tactic| ((try dsimp only[$[$(zWP true false):term],*]);(try simp only[$[$(zWP true true):term],*]);(try simp only[B6,GI,GJ,GK,GH])))
local macro_rules | `(tactic| k_typeOf)=>`(tactic| ((try dsimp only[$[$(zWP false false):term],*]);(try simp only[$[$(zWP false true):term],*]);(try simp only[B6,GI,GJ,GK,GH])))
local macro_rules | `(tactic| room)=>`(tactic| ((try dsimp only);(try refine QY (by assumption) ?_)))
local macro_rules | `(tactic| w_up)=>`(tactic| (room;(first|refine QW λt e=>?_|refine QX λt e=>?_|skip);(try dsimp only[Cy]);k_typeOf))
local macro_rules | `(tactic| w_on)=>`(tactic| exact⟨rfl,rfl,rfl,by decide +kernel,rfl,by decide +kernel,by decide +kernel⟩)
def C8:T ["numbers","size"] ["numbers"] (bO yz):=by w_on
def ww:T ["one","other","answer","place","number"] ["one","other"] (bO yB):=by w_on
def RL:T ["one","other"] ["one","other"] (bO yC):=by w_on
def nQ:T ["one","other","answer","low","number","place","factor"] ["one","other"] (bO yD):=by w_on
def wx:T ["poly","by","answer","low","place"] ["poly","by"] (bO yE):=by w_on
def wB:T ["poly","n","answer","number"] ["poly","n"] (bO yF):=by w_on
def jQ:T ["one","other","rest","steps","answer","low","top","factor","place","number"] ["one","other"] (bO yG):=by w_on
def ig:T ["big","small","cut","ahead","behind","half","upper","lower","times","rest","further"] ["big","small"] (bO yH):=by w_on
def jR:T ["one","other","big","small","pair","rest"] ["one","other"] (bO yI):=by w_on
def wC:T ["poly","answer","number"] ["poly"] (bO yJ):=by w_on
def RM:T ["poly","number"] ["poly","number"] (bO yK):=by w_on
def RN:T ["poly"] ["poly"] (bO yL):=by w_on
def pV:T ["number","base","answer","low"] ["number","base"] (bO yM):=by w_on
def RO:T ["poly"] ["poly"] (bO yN):=by w_on
def pW:T ["one","other","place","found"] ["one","other"] (bO yO):=by w_on
def wD:T ["one","other","first","second","shared"] ["one","other"] (bO yP):=by w_on
def wE:T ["polys","answer","poly"] ["polys"] (bO yQ):=by w_on
def Js:T ["poly","m","moved"] ["poly","m"] (bO yS):=by w_on
def Jt:T ["rule","poly"] ["rule"] (bO yT):=by w_on
def wF:T ["rule","tops","moved","ahead","weight"] ["rule","tops"] (bO yU):=by w_on
def kJ:T ["rule","far","order","start","tops","bottom","step"] ["rule","far"] (bO yV):=by w_on
def kK:T ["row","table","columns","before","base","column","pivot","factor"] ["row","table","columns"] (bO yW):=by w_on
def mB:T ["places","values","steps","gap","place","answer"] ["places","values"] (bO yX):=by w_on
def RP:T ["polys"] ["polys"] (bO yY):=by w_on
def C9:T ["vectors","columns","by_vector","by_column"] ["vectors","columns"] (bO yZ):=by w_on
def C_:T ["polys","shared"] ["polys"] (bO y_):=by w_on
def wG:T ["vectors","span","vector","found"] ["vectors"] (bO za):=by w_on
def RQ:T ["width","polys"] ["width","polys"] (bO zd):=by w_on
def wH:T ["polys","shared"] ["polys"] (bO ze):=by w_on
def Ju:T ["vectors","weights","found"] ["vectors","weights"] (bO zf):=by w_on
def nV:T ["one","other","width","vector_of","vectors","weights","number","left","right"] ["one","other","width","vector_of"] (bO zh):=by w_on
def Da:T ["left","right","ahead","behind"] ["left","right"] (bO zi):=by w_on
def Dd:T ["left","right","answer","top"] ["left","right"] (bO zj):=by w_on
def RS:T ["one","other"] ["one","other"] (bO zl):=by w_on
def RT:T ["one","other"] ["one","other"] (bO zm):=by w_on
def iQ:T ["one","order","vector","weight","vectors","weights","number","factor","grown","tops"] ["one"] (bO zn):=by w_on
def RU:T ["_law_script","_law_k"] ["_law_script","_law_k"] (bO zo):=by w_on
def Jv:T ["_law_numbers","_law_found"] ["_law_numbers"] (bO zp):=by w_on
def wI:T ["_law_one","_law_other","_law_found","_law_i","_law_j"] ["_law_one","_law_other"] (bO zq):=by w_on
def wJ:T ["_law_one","_law_other","_law_found","_law_k"] ["_law_one","_law_other"] (bO zr):=by w_on
def wK:T ["_law_poly","_law_found","_law_number"] ["_law_poly"] (bO zt):=by w_on
def n_:T ["_law_one","_law_other","_law_rest"] ["_law_one","_law_other"] (bO zu):=by w_on
def wL:T ["_law_poly","_law_found","_law_number"] ["_law_poly"] (bO zw):=by w_on
def De:T ["_law_poly","_law_by_here"] ["_law_poly"] (bO zx):=by w_on
def jS:T ["_law_one","_law_other","_law_scale","_law_rest","_law_below"] ["_law_one","_law_other"] (bO zA):=by w_on
def wM:T ["_law_polys","_law_found","_law_poly"] ["_law_polys"] (bO zB):=by w_on
def pX:T ["_law_poly","_law_by_here","_law_rest","_law_found","_law_at","_law_j"] ["_law_poly","_law_by_here"] (bO zC):=by w_on
def wN:T ["_law_polys","_law_by_here"] ["_law_polys"] (bO zD):=by w_on
def oa:T ["_law_script","_law_start","_law_found","_law_k","_law_cell"] ["_law_script","_law_start"] (bO zE):=by w_on
def jn:T ["_law_p","_law_q","_law_cross","_law_last","_law_far","_law_two","_law_one","_law_hang","_law_by_here","_law_weights"] ["_law_p","_law_q"] (bO zG):=by w_on
def wO:T ["_law_found","_law_due","_law_poly","_law_right","_law_k"] ["_law_found","_law_due"] (bO zH):=by w_on
def i6:T ["_law_script","_law_p","_law_q","_law_way","_law_handed","_law_due","_law_heads"] ["_law_script"] (bO zI):=by w_on
def RV:T ["self","width"] ["self","width"] (bO zJ):=by w_on
def Jw:T ["self","vector","number","place","mark"] ["self","vector","number","place"] (bO zK):=by w_on
def wP:T ["self","place","table","number","row"] ["self","place"] (bO zN):=by w_on
def Jx:T ["self","vector","place","table"] ["self","vector","place"] (bO zO):=by w_on
def mC:T ["self","vector","many","places","marks","place","row"] ["self","vector"] (bO zP):=by w_on
def oe:T ["self","vector","weights","column","answer","other","weight"] ["self","vector","weights"] (bO zQ):=by w_on
def RW:T ["self","vector","column"] ["self","vector","column"] (bO zS):=by w_on
def mD:T ["self","vector","few","span","number","found","weights","weight"] ["self","vector","few"] (bO zT):=by w_on
def jT:T ["self","vector","own","row","column","few","weights"] ["self","vector"] (bO zX):=by w_on
set_option genInjectivity false in
set_option genSizeOf false in
structure Fb (K:ao) (mg:ck) (n:Str) (s:YD) (ps:G Str) where
 ax:Zs
 dx:Yt
 Fx:Fun K n n s ax dx
 mx:mg n=W (.ref ax)
 bx:Binds K dx ps []
set_option genInjectivity false in
set_option genSizeOf false in
structure Fc (K:ao) (n q:Str) (s:YD) (ps:G Str) where
 ax:Zs
 dx:Yt
 Fx:Fun K n q s ax dx
 bx:Binds K dx ps []
set_option genInjectivity false in
set_option genSizeOf false in
structure Tx (K:ao) (mg:ck) where
 Wm:Fb K mg "trimmed" yz ["numbers"]
 Wo:Fb K mg "poly_plus" yB ["one","other"]
 W6:Fb K mg "poly_less" yC ["one","other"]
 Wf:Fb K mg "poly_times" yD ["one","other"]
 Wq:Fb K mg "shifted" yE ["poly","by"]
 Wz:Fb K mg "poly_value" yF ["poly","n"]
 Wl:Fb K mg "quotient" yG ["one","other"]
 W7:Fb K mg "shortened" yH ["big","small"]
 WA:Fb K mg "divisor" yI ["one","other"]
 Wr:Fb K mg "content" yJ ["poly"]
 WB:Fb K mg "over" yK ["poly","number"]
 WH:Fb K mg "upright" yL ["poly"]
 W8:Fb K mg "spread" yM ["number","base"]
 WI:Fb K mg "greatest_size" yN ["poly"]
 W9:Fb K mg "bare_common" yO ["one","other"]
 W_:Fb K mg "common" yP ["one","other"]
 WJ:Fb K mg "common_of" yQ ["polys"]
 Xa:Fb K mg "clear" yS ["poly","m"]
 Wi:Fb K mg "order_of" yT ["rule"]
 Xb:Fb K mg "further" yU ["rule","tops"]
 WC:Fb K mg "coords" yV ["rule","far"]
 WK:Fb K mg "lowered" yW ["row","table","columns"]
 Xc:Fb K mg "through" yX ["places","values"]
 WL:Fb K mg "greatest_degree" yY ["polys"]
 Xd:Fb K mg "degree_bound" yZ ["vectors","columns"]
 Xe:Fb K mg "cleared" y_ ["polys"]
 Xf:Fb K mg "relation" za ["vectors"]
 WM:Fb K mg "check_work" zd ["width","polys"]
 Xg:Fb K mg "thinned" ze ["polys"]
 WN:Fb K mg "joined" zf ["vectors","weights"]
 WO:Fb K mg "of_two" zh ["one","other","width","vector_of"]
 WZ:Fb K mg "plus_vector" zi ["left","right"]
 W1:Fb K mg "times_vector" zj ["left","right"]
 WF:Fb K mg "plus_rule" zl ["one","other"]
 WW:Fb K mg "times_rule" zm ["one","other"]
 WX:Fb K mg "summed_rule" zn ["one"]
 Wu:Fb K mg "_law_cell_at" zo ["_law_script","_law_k"]
 Wj:Fb K mg "_law_cut" zp ["_law_numbers"]
 Wc:Fb K mg "_law_product" zq ["_law_one","_law_other"]
 Wg:Fb K mg "_law_less" zr ["_law_one","_law_other"]
 Wk:Fb K mg "_law_on" zt ["_law_poly"]
 WP:Fb K mg "_law_divisor" zu ["_law_one","_law_other"]
 Wv:Fb K mg "_law_content" zw ["_law_poly"]
 WD:Fb K mg "_law_primitive" zx ["_law_poly"]
 Xh:Fb K mg "_law_common" zA ["_law_one","_law_other"]
 WQ:Fb K mg "_law_common_of" zB ["_law_polys"]
 WR:Fb K mg "_law_by" zC ["_law_poly","_law_by_here"]
 Ww:Fb K mg "_law_thinned" zD ["_law_polys"]
 WT:Fb K mg "_law_rule" zE ["_law_script","_law_start"]
 Xi:Fb K mg "_law_plus" zG ["_law_p","_law_q"]
 Wx:Fb K mg "_law_is" zH ["_law_found","_law_due"]
 WY:Fb K mg "law" zI ["_law_script"]
 Xj:Fc K "__init__" "Span.__init__" zJ ["self","width"]
 Xk:Fc K "row_at" "Span.row_at" zK ["self","vector","number","place"]
 Xl:Fc K "table_at" "Span.table_at" zN ["self","place"]
 Xm:Fc K "lowered_at" "Span.lowered_at" zO ["self","vector","place"]
 Xq:Fc K "only_choice" "Span.only_choice" zP ["self","vector"]
 Xr:Fc K "failing_column" "Span.failing_column" zQ ["self","vector","weights"]
 Xo:Fc K "keep" "Span.keep" zS ["self","vector","column"]
 Xs:Fc K "by_few" "Span.by_few" zT ["self","vector","few"]
 WG:Fc K "take" "Span.take" zX ["self","vector"]
 XJ:Fc K "apart" "Span.apart" ER ["self"]
 We:Zs
 Xz:mg "Span" = W (.ref We)
 Wd:Cls K We
 XA:Mk K We Xj.ax
 XB:Meth K We "row_at" Xk.ax
 XC:Meth K We "table_at" Xl.ax
 XD:Meth K We "lowered_at" Xm.ax
 XM:Meth K We "only_choice" Xq.ax
 XN:Meth K We "failing_column" Xr.ax
 XE:Meth K We "keep" Xo.ax
 XO:Meth K We "by_few" Xs.ax
 Xx:Meth K We "take" WG.ax
 XV:Meth K We "apart" XJ.ax
 W3:NoAttr K We "columns"
 WE:NoAttr K We "kept"
 Xu:NoAttr K We "place"
 XF:NoAttr K We "tables"
 W4:NoAttr K We "width"
 Wb:mg "len" = Zy
 Wy:mg "list" = Zy
 Xv:mg "enumerate" = Zy
 Wh:mg "range" = Zy
 XG:mg "reversed" = Zy
 WU:mg "max" = Zy
 W5:mg "abs" = Zy
 Xp:mg "min" = Zy
 WV:mg "zip" = Zy
 XH:mg "sum" = Zy
 Xw:mg "isinstance" = Zy
 XQ:mg "bool" = Zy
 XR:mg "int" = Zy
 XI:{ t:Tok // mg "WINDOW" = W (.int 300 t) }
 XS:{ t:Tok // mg "LONG" = W (.int 4000 t) }
 XT:{ t:Tok // mg "GREATEST_WORK" = W (.int 32 t) }
 XU:{ t:Tok // mg "START" = W (.int 97 t) }
def Df (K:ao):Sp:=λvs H Q _=>∃(a:Zs)(xs:aa),vs=[.ref a]/\SqL K H a (xs.map B)/\xs.9<=1000/\eE H Q ((aw xs).map B)
variable {P:Zb}{w:ZW}{K:ao}{mg:ck}{base:ZN}(T:Tx K mg)
def wQ:FnOk P w K mg base CX0 1 T.Wm.ax T.Wm.dx ["numbers"] (Df K):=by
 refine T.Wm.Fx.ok C8 (λF H Q E h=>?_) (λI A outer s H F Q E hr h=>?_)
 .cases h,a,b,rfl,_;rfl
 cases h,a,b,rfl,j,hl,q;refine#[_,s!"ʭŧɚʲ˔k͇ɧ̥ˆʮɻʯɸ1Ĳ)*ŧ̦ĳɨˮ#ðñɡòóɧ$",?_]
 w_up
 calc#[_,.inl j,?_];rw[af]
 w_up
 calc iA (λm y o=>m<=b.9/\y=[W (.ref a),W (.int (m:Y))]/\o=H/\∀k,m<=k->Z b k=0) b.9 #[aC _,U,U,λk hk=>aL hk] ?_;have d:∀n:O,n<=b.9->aw b=b.take n->∃x,SqL K H a x/\∀p,H p=Zy->∃u,(SqL K (upd H p (Y' (gj x Zy (W (n:Y))))) p u\/SqT K (upd H p (Y' (gj x Zy (W (n:Y))))) p u)/\
   ∀l,upd H p (Y' (gj x Zy (W (n:Y)))) l=Zy->Q (.ref l) (upd (upd H p (Y' (gj x Zy (W (n:Y))))) l (Y' u)):=by
  intro n M e;calc#[_,j,λp z=>#[_,.inl (Zw ai),λr c=>?_]];rw[Qe]at c ⊢;let R:((b.drop (HT.sIx b.9 0 Zy)).take (HT.sIx b.9 b.9 (W ((n:O):Y))-HT.sIx b.9 0 Zy))=aw b:=by
   rw[HT.sIx_nat,HT.sIx_none,oR,e,zdk M];rfl
  rw[R]at c ⊢;exact q r _ ((au z _).trans (au c _)) ((au z _).free c) ai
 rintro m y o ⟨hm,rfl,rfl,hz⟩
 cases m with
 |zero=>
  room;walk
  rw[N ⋯];calc d 0 (bh _) (IF (bh _) hz (.inl U))
 |succ m=>
  let X:((m+1:O):Y)-1=(m:Y):=()
  room;simp![X]
  rw[Zt ()];refine#[_,j,_,fe (),?_]
  room;walk
  refine cu (λh=>?_) (λh=>?_)
  .refine#[λf C=>f=[W (L a),W (B (m:Y))]/\C=o,?_,rfl,rfl]
   rintro f C ⟨rfl,rfl⟩
   calc#[m,qE _,(),U,U,λk hk=>?_];by_cases e:k=m
   .rw[e,aO ()];exact h
   .exact hz k ()
  .calc d (m+1) hm (IF hm hz (.inr (by show Z b m≠0;rw[aO ()];calc h)))
def Dg (K:ao)(f:aa->aa->aa):Sp:=λvs H Q _=>∃(a b:Zs)(xs ys:aa),vs=[.ref a,.ref b]/\SqL K H a (xs.map B)/\SqL K H b (ys.map B)/\xs.9<=100/\ys.9<=100/\
 (∀x∈xs,Bd 60000 x)/\(∀y∈ys,Bd 60000 y)/\eE H Q ((f xs ys).map B)
def mE (k:O):(bj k [B 0]).flatten=(bj k (0:Y)).map B:=by
 induction k with
 |zero=>rfl
 |succ k ih=>rw[jb,yf,ih,jb];rfl
def Dh (k j:O):Z (bj k 0) j=0:=by
 unfold Z;rw[aD,ke]
 split <;> rfl
def RX (xs:aa)(k j:O):Z (xs++bj k 0) j=Z xs j:=by
 by_cases h:j<xs.9
 .unfold Z;rw[aD,aD,dH h]
 .rw[aL (xs:=xs) ()];unfold Z;rw[aD,dQ (),ke]
  split <;> rfl
def wR:FnOk P w K mg base CX0 2 T.Wo.ax T.Wo.dx ["one","other"] (Dg K gH):=by
 refine T.Wo.Fx.ok ww (λvs H Q E h=>?_) (λn0 A outer s H vs Q E hr h=>?_)
 .cases h,a,b,xs,f,rfl,_;rfl
 cases h,a,b,xs,f,rfl,hA,X,la,lb,_,_,q;refine#[_,s!"ʍĴ̧̑4̒ɻʳʲʆô õʛ˿7Ĵ̀:Ĵ͈ǫ̈÷ɲø͉ùɣúûü̂",?_]
 w_up
 calc#[_,.inl hA,λl hl=>#[(),λp hp=>?_]];let R:=au hl (Y' (xs.map B));let C:=au hp (Y' [B 0]);calc#[_,.inl ((R.trans C).seq X),_,.inl ((R.trans C).seq hA),_,ai,?_];rw[af,af,mE];obtain⟨k,hk⟩:∃k:O,((f.9:Y)-(xs.9:Y)).toNat=k:=#[_,rfl]
 rw[hk];let k0:k<=100:=()
 refine#[(),(),dj (cy (by simp;lk)),λp1 hp1=>?_];let s3:=au hp1 (Y' ((bj k (0:Y)).map B));refine#[_,s3 _ _ (C _ _ ai),_,ai,dj (cy (by simp;lk)),λx F=>?_];rw[<-aY];let s4:=(R.trans (C.trans s3)).trans (au F (Y' ((xs++bj k 0).map B)));let x0:=(R.trans (C.trans s3)).free F;let h4:upd (upd (upd (upd H l (Y' (xs.map B))) p (Y' [B 0])) p1 (Y' ((bj k (0:Y)).map B))) x (Y' ((xs++bj k 0).map B)) x=_:=ai;generalize upd (upd (upd (upd H l (Y' (xs.map B))) p (Y' [B 0])) p1 (Y' ((bj k (0:Y)).map B))) x (Y' ((xs++bj k 0).map B))=H4 at s4 h4 ⊢
 w_up
 calc#[_,s4.seq X,?_];obtain⟨Pv,c⟩:∃Pv:O->L2.St->Hp->Prop,∀i y o,Pv i y o↔∃(m:aa)(r1 r2:Zk V),y=[W (L a),W (L b),W (L x),r1,r2]/\o x=W (Y' (m.map B))/\m.9=xs.9+k/\
  (∀j,Z m j=Z xs j+if j<i then Z f j else 0)/\Same H o:=#[_,λ_ _ _=>Zj]
 refine vi Pv ((c _ _ _).mpr #[_,Zy,Zy,U,h4,by simp,λj=>by rw[RX,N ()];lk,s4]) (λi y o _ z=>by cases (c i y o).mp z,_,_,_,_,_,_,_,z5;calc z5.seq X) ?_ ?_
 .intro i v pt y o hv u y0;cases (c _ _ _).mp u,m,r1,r2,rfl,hz,lz,d,sz;let hi:i<f.9:=by let:=(a_.mp hv).1;rw[af]at this;exact this
  rw[a7,aq hi]at hv;obtain rfl:B f[i]=v:=Zv hv;let s5:=au y0 (.tup [B i,B f[i]])
  room;walk
  refine#[_,SqT.of ai,U,?_]
  room;walk
  let n:i<m.9:=()
  let I:=s5 _ _ hz;refine#[_,Zw I,_,fe n,_,U,_,I,i,iB #v[af,n],(c _ _ _).mpr #[m.set i (m[i]+f[i]),_,_,rfl,by rw[ai,map_set],#v[jt,lz],λj=>?_,(sz.trans s5).more x0]];rw[kD _ _ _ _ n];by_cases e:j=i
  .subst e;let:=d j;rw[N (),aO n]at this;rw[Zt U,Zt (),aO hi];lk
  .rw[N e,d j];by_cases hj:j<i
   .rw[Zt hj,Zt ()]
   .rw[N hj,N ()]
 .intro y o u;cases (c _ _ _).mp u,m,r1,r2,rfl,hz,lz,d,sz;rw[af]at d
  room;walk
  calc#[x,m,U,Zw hz,(),λr z0 u0 M j0=>?_];calc q r z0 (sz.trans u0) (sz.free M) ?_;rw[j0,Q6 xs f m λj=>by rw[d j];by_cases hj:j<f.9;rw[Zt hj];rw[N hj,aL (xs:=f) ()]]
def RY:FnOk P w K mg base CX0 3 T.W6.ax T.W6.dx ["one","other"] (Dg K cF):=by
 refine T.W6.Fx.ok RL (λR H Q E h=>?_) (λX A outer s H R Q E hr h=>?_)
 .cases h,a,b,I,e,rfl,_;rfl
 cases h,a,b,I,e,rfl,hA,M,la,lb,ba,bb,q;refine#[_,s!"ʨýɣþÿĀˈ̩͊$",?_]
 w_up
 calc#[#[_,M],λC hC=>?_];obtain⟨l,c⟩:∃l:dG,∀i d,l i d↔d C=W (Y' (((e.take i).map λx=>-x).map B))/\Same H d:=#[_,λ_ _=>Zj]
 refine fZ l ((c _ _).mpr #[ai,au hC _]) (λi d _ z=>((c i d).mp z).2.seq M) ?_ ?_
 .intro i v d m n;cases (c _ _).mp n,k,f;let hi:i<e.9:=by let:=(a_.mp m).1;rw[af]at this;exact this
  rw[a7,aq hi]at m;obtain rfl:B e[i]=v:=Zv m
  room;simp![bst]
  calc#[_,k,#v[af,af,cB,cy ()],(c _ _).mpr #[?_,f.more hC]];rw[ai,Vu hi,aY,aY];rfl
 .intro d n;cases (c _ _).mp n,k,f;rw[af,fY]at k;refine#[a,C,I,e.map λx=>-x,U,f.seq hA,Zw k,la,#v[af,lb],ba,λy hy=>?_,λr o u j F=>q r o (f.trans u) (f.free j) ?_]
  .cases b8.mp hy,x,hx,rfl;exact (bb x hx).neg
  .rw[F,Q7]
def RZ (ys:aa):ah [] ys=[]:=vZ.mpr λk=>by
 rw[jl];split <;> rfl
def Di (xs:aa):ah xs []=[]:=vZ.mpr λk=>by
 rw[jl]
 split
 .exact iN λj _=>by unfold cz;split <;> simp[gn]
 .rfl
def iR:FnOk P w K mg base CX0 2 T.Wf.ax T.Wf.dx ["one","other"] (Dg K ah):=by
 refine T.Wf.Fx.ok nQ (λvs H Q E h=>?_) (λx1 A outer s H vs Q E hr h=>?_)
 .cases h,a,b,xs,c,rfl,_;rfl
 cases h,a,b,xs,c,rfl,hA,hB,la,lb,ba,bb,q;refine#[_,s!"̪ˆʲɸ¾ˆʳ̓ʎIʍÜ͋ɻʅ̫&ʆô õʧ˿7Ǜ:Ü͈ɾô õʛ˿DǛFÜ͈öɪʅɴʞ÷ʢɲʔø͉ùɣúûü̂",?_]
 w_up
 calc#[_,.inl hA,?_];rw[af];let nil:ah xs c=[]->0<=Zg/\∀(p:Zs),H p=Zy->Q (L p) (upd H p (HO.lst [])):=λe=>#[bh _,λp hp=>q p _ (au hp _) hp (by rw[ai,e];rfl)]
 refine cu (λh=>nil ?_) (λh=>#[_,.inl hB,?_])
 .rw[b7 (show xs.9=0 by lk)];exact RZ c
 rw[af];refine cu (λh2=>nil ?_) (λh2=>?_)
 .rw[b7 (show c.9=0 by lk)];exact Di xs
 w_up
 calc#[(),λp hp=>?_];let s1:=au hp (Y' [B 0]);calc#[_,.inl (s1.seq hA),_,.inl (s1.seq hB),_,ai,?_];rw[af,af,mE];obtain⟨k,hk⟩:∃k:O,((xs.9:Y)+(c.9:Y)-1).toNat=k:=#[_,rfl]
 rw[hk];refine#[(),(),dj (cy (by simp;lk)),λF x0=>?_];let s4:=s1.trans (au x0 (Y' ((bj k (0:Y)).map B)));let z0:=s1.free x0;let h4:upd (upd H p (Y' [B 0])) F (Y' ((bj k (0:Y)).map B)) F=_:=ai;generalize upd (upd H p (Y' [B 0])) F (Y' ((bj k (0:Y)).map B))=H4 at s4 h4 ⊢
 w_up
 calc#[_,s4.seq hA,?_];obtain⟨Pv,u⟩:∃Pv:O->L2.St->Hp->Prop,∀l o m,Pv l o m↔∃(f:aa)(r1 r2 I M:Zk V),o=[W (L a),W (L b),W (L F),r1,r2,I,M]/\m F=W (Y' (f.map B))/\f.9=k/\
  (∀j,Z f j=if j+1<xs.9+c.9 then cv xs c l j else 0)/\Same H m:=#[_,λ_ _ _=>Zj]
 refine vi Pv ((u _ _ _).mpr #[_,Zy,Zy,Zy,Zy,U,h4,by simp,λj=>by rw[Dh];split <;> rfl,s4]) (λi o m _ z=>by cases (u i o m).mp z,_,_,_,_,_,_,_,_,_,z5;calc z5.seq hA) ?_ ?_
 .intro l v pt o m R n X;cases (u _ _ _).mp n,f,r1,r2,I,M,rfl,hz,lz,d,sz;let hi:l<xs.9:=by let:=(a_.mp R).1;rw[af]at this;exact this
  rw[a7,aq hi]at R;obtain rfl:B xs[l]=v:=Zv R;let s5:=au X (.tup [B l,B xs[l]])
  room;walk
  refine#[_,SqT.of ai,U,?_]
  room;walk
  let s6:=sz.trans s5;let x:=s5 _ _ hz;generalize upd m pt (.tup [B l,B xs[l]])=H5 at s6 x ⊢;calc#[_,s6.seq hB,?_];obtain⟨Pw,y⟩:∃Pw:O->L2.St->Hp->Prop,∀j o m,Pw j o m↔∃(f:aa)(I M:Zk V),o=[W (L a),W (L b),W (L F),W (B l),W (B xs[l]),I,M]/\m F=W (Y' (f.map B))/\f.9=k/\
   (∀t,Z f t=(if t+1<xs.9+c.9 then cv xs c l t else 0)+if l<=t/\t<l+j then xs[l]*Z c (t-l) else 0)/\Same H m:=#[_,λ_ _ _=>Zj]
  refine vi Pw ((y _ _ _).mpr #[f,_,_,U,x,lz,λt=>by rw[d t,N (show ¬(l<=t/\t<l+0) by lk)];lk,s6]) (λi o m _ z=>by cases (y i o m).mp z,_,_,_,_,_,_,_,z5;calc z5.seq hB) ?_ ?_
  .intro j v pt o m R n X;cases (y _ _ _).mp n,f,I,M,rfl,hz,lz,d,sz;let hj:j<c.9:=by let:=(a_.mp R).1;rw[af]at this;exact this
   rw[a7,aq hj]at R;obtain rfl:B c[j]=v:=Zv R;let s5:=au X (.tup [B j,B c[j]])
   room;walk
   calc#[_,SqT.of ai,U,?_];let u0:(l:Y)+(j:Y)=((l+j:O):Y):=rfl
   room;simp![u0]
   let C:l+j<f.9:=()
   let x:=s5 _ _ hz;refine#[_,Zw x,_,fe C,(ba _ (cD hi)).fits (bb _ (cD hj)) (),_,U,_,x,l+j,iB #v[af,C],(y _ _ _).mpr #[f.set (l+j) (f[l+j]+xs[l]*c[j]),_,_,rfl,by rw[ai,map_set],#v[jt,lz],λt=>?_,(sz.trans s5).more z0]];rw[kD _ _ _ _ C];by_cases e:t=l+j
   .subst e;let:=d (l+j);rw[N (show ¬(l<=l+j/\l+j<l+j) by lk),aO C]at this;rw[Zt (show l+j=l+j from rfl),Zt (show l<=l+j/\l+j<l+(j+1) by lk),show l+j-l=j by lk,aO hj];lk
   .rw[N e,d t];by_cases h3:l<=t/\t<l+j
    .rw[Zt h3,Zt (show l<=t/\t<l+(j+1) by lk)]
    .rw[N h3,N (show ¬(l<=t/\t<l+(j+1)) by lk)]
  .intro o m n;cases (y _ _ _).mp n,f,I,M,rfl,hz,lz,d,sz;rw[af]at d;calc (u _ _ _).mpr #[f,_,_,_,_,U,hz,lz,λt=>?_,sz];rw[d t];let e:cv xs c (l+1) t=cv xs c l t+Z xs l*cz c t l:=rfl;rw[e,aO hi];unfold cz;by_cases h1:t+1<xs.9+c.9
   .rw[Zt h1,Zt h1];by_cases h2:l<=t
    .rw[Zt h2];by_cases h3:t<l+c.9
     .rw[Zt #[h2,h3]]
     .rw[N (),aL (xs:=c) (),dY]
    .rw[N (),N h2,dY]
   .rw[N h1,N h1,N ()];rfl
 .intro o m n;cases (u _ _ _).mp n,f,r1,r2,I,M,rfl,hz,lz,d,sz;rw[af]at d
  room;walk
  calc#[F,f,U,Zw hz,(),λr j0 k0 y0 n0=>q r j0 (sz.trans k0) (sz.free y0) ?_];rw[n0,Q5 xs c f d]
def cV {xs:aa}{P:Y->Prop}(h:∀x∈xs,P x)(a:P 0)(j:O):P (Z xs j):=by
 by_cases z:j<xs.9
 .rw[aO z];exact h _ (cD z)
 .rw[aL ()];calc a
def cP {P:Y->Prop}(h:∀j,P (Z xs j)):∀x∈xs,P x:=λx hx=>by
 cases di.mp hx,k,hk,rfl;rw[<-aO hk];calc h k
def og {xs:aa}(h:xs=[]\/Z xs (xs.9-1)≠0):S xs:=by
 calc fO.mpr λx hx=>?_;rcases h with rfl|h
 .simp at hx
 .let a:xs.9≠0:=by intro z;rw[b7 z]at hx;simp at hx
  rw[aO ()]at h;rw[gC,aq ()]at hx;rw[<-Zv hx];calc h
def jU (xs:aa):S (xs++[1]):=fO.mpr λx hx=>by rw[Nl]at hx;rw[<-Zv hx];decide
def e7 {c:Y}(h:c≠0):S [c]:=fO.mpr λx hx=>by simp at hx;lk
theorem Dj {M N:O}{ys:aa}(hy:∀y∈ys,y.8<=N):∀xs:aa,(∀x∈xs,x.8<=M)->∀j,(Z (bI xs ys) j).8<=xs.9*(M*N)
 |[],_,j=>by simp[bI,gn]
 |x::xs,h,j=>by
  let a:Z (ys.map λz=>x*z) j=x*Z ys j:=by
   by_cases h:j<ys.9
   .rw[aO #v[af,h],aO h,cZ]
   .rw[aL (by rw[af];lk),aL (xs:=ys) ()];simp
  let b:(x*Z ys j).8<=M*N:=by
   rw[du];calc fq (h x ⋯) ?_;by_cases z:j<ys.9
   .rw[aO z];exact hy _ (cD z)
   .rw[aL ()];exact bh _
  let c:(Z (0::bI xs ys) j).8<=xs.9*(M*N):=by
   rw[gr]
   split
   .exact bh _
   .exact Dj hy xs (λy hy=>h y (by simp[hy])) _
  let e:Z (bI (x::xs) ys) j=x*Z ys j+Z (0::bI xs ys) j:=by rw[bI,gu,a]
  rw[e,dO,il,gD];let:=ju (x*Z ys j) (Z (0::bI xs ys) j);lk
def iD {xs ys:aa}{k l c:O}(hx:∀x∈xs,Bd k x)(hy:∀y∈ys,Bd l y)(a:xs.9<=2^c)(j:O):Bd (k+l+c) (pm (Z xs) (Z ys) j):=by
 rw[<-gI];let b:=Dj (M:=2^k-1) (N:=2^l-1) (ys:=ys) (λy h=>by let:y.8<2^l:=hy y h;lk) xs (λx h=>by let:x.8<2^k:=hx x h;lk) j;let i:=eV k;let d:=eV l;let e:=eV c;let f:(2^k-1)*(2^l-1)<2^k*2^l:=by
  calc dF (fE _ (Nat.sub_le _ 1)) ?_;exact VC () d
 show (Z (bI xs ys) j).8<2^(k+l+c);rw[eH,eH];calc dF b ?_;calc dF (fj _ a) ?_;rw[hI (2^k*2^l)];calc Ew f e
def jo (nx:S xs)(b:S ys)(a:S ws)(h:∀j,Z ws j=pm (Z xs) (Z ys) j):ws.9<=xs.9+ys.9-1:=by
 by_cases x0:xs=[]
 .rw[pJ a λk=>by rw[h k,x0];exact iN λj _=>by rw[gn];simp];exact bh _
 by_cases w0:ws=[]
 .rw[w0];exact bh _
 let:=(vY nx x0 a b (one:=ws) (q:=ys) h w0).2;lk
def Jy {n m:O}{f:b_}(h:n<=m)(a:∀j,n<=j->j<m->f j=0):aX m f=aX n f:=by
 induction m with
 |zero=>rw[show n=0 by lk]
 |succ m ih=>
  by_cases e:n=m+1
  .rw[e]
  .simp only[aX];rw[ih () λj b c=>a j b (),a m () ()];lk
def wS (xs ys:aa)(k:O):pm (Z xs) (Z ys) k=cv xs ys xs.9 k:=by
 let b:pm (Z xs) (Z ys) k=aX (k+1) λj=>Z xs j*cz ys k j:=by
  unfold pm;exact fC λj e=>by unfold cz;rw[Zt ()]
 let c:aX (k+1+xs.9) (λj=>Z xs j*cz ys k j)=aX (k+1) λj=>Z xs j*cz ys k j:=
  Jy () λj a _=>by unfold cz;rw[N ()];simp
 let d:aX (k+1+xs.9) (λj=>Z xs j*cz ys k j)=aX xs.9 λj=>Z xs j*cz ys k j:=
  Jy () λj a _=>by rw[aL a];simp
 rw[b,<-c,d];rfl
def aZ (hx:S xs)(hy:S ys)(h:∀n,J n xs=J n ys):xs=ys:=gq hx hy λk=>dX h k
def pY (xs ys:aa)(k:O):Z (ah xs ys) k=pm (Z xs) (Z ys) k:=by
 unfold ah;rw[cX,jl,wS]
 split
 .rfl
 .rw[vV _ _ _ ()]
def wT (xs ys:aa)(k:O):Z (gH xs ys) k=Z xs k+Z ys k:=by
 unfold gH;rw[cX,jl]
 split
 .rfl
 .rw[aL (xs:=xs) (),aL (xs:=ys) ()];rfl
def Jz (n:Y)(xs ys:aa):J n (ah xs ys)=J n xs*J n ys:=by
 rw[<-cG];calc f9 (λk=>by rw[pY,gI]) n
def Dk (n:Y)(xs ys:aa):J n (gH xs ys)=J n xs+J n ys:=by
 rw[<-d8];calc f9 (λk=>by rw[wT,gu]) n
def Dm (xs ys:aa):S (gH xs ys):=cn _
def Dn (xs ys:aa):(gH xs ys).9<=max xs.9 ys.9:=aP (i4 _) ⋯
def Do (xs ys:aa)(hy:ys≠[]):(ah xs ys).9<=xs.9+ys.9-1:=by
 let h:=cE.mpr hy;calc gO (cn _) λk hk=>?_;show Z (ah xs ys) k=0;rw[pY,wS,vV _ _ _ ()]
def R6 (ps f:aa):Prop:=f.9<=ps.9/\S f/\ps.9<=60/\(∀i j (hi:i<ps.9) (hj:j<ps.9),i≠j->ps[i]≠ps[j])/\(∀p∈ps,Bd 40 p)/\∀p∈ps,Bd 10000 (J p f)
def R7 {m i:O}{g h:b_}(hi:i<m)(e:∀j,j<m->j≠i->h j=g j):((aT m).map g).set i (h i)=(aT m).map h:=by
 calc h8 ⋯ λj c a=>?_;let b:j<m:=by simpa using a
 rw[zc3,cZ,cZ,ki]
 split
 .rename_i z;rw[z]
 .rename_i z;calc (e j b (ZQ z)).symm
def Dp {m i:O}(hi:i<m):((aT m).map g)[i]?=W (g i):=by
 rw[a7,oU hi];rfl
def JA {m:O}{g h:b_}(e:∀j,j<m->g j=h j):(aT m).map g=(aT m).map h:=gf λj a=>e j (eN.mp a)
def R8 (K:ao):Sp:=λvs H Q _=>∃(A B:Zs)(ps f:aa),vs=[.ref A,.ref B]/\SqL K H A (ps.map V')/\SqL K H B ((ps.map λp=>J p f).map V')/\R6 ps f/\eE H Q (f.map V')
def R9:FnOk P w K mg base CX0 3 T.Xc.ax T.Xc.dx ["places","values"] (R8 K):=by
 refine T.Xc.Fx.ok mB (λvs H Q E h=>?_) (λu2 A outer s H vs Q E hr h=>?_)
 .cases h,A,B,b,f,rfl,_;rfl
 cases h,A,B,b,f,rfl,hA,hB,#[lf,nf,v2,j0,bp,bv],q;refine#[_,s!"ʍÑɚˮʛʆŨʟʥɱ,̔7Ñˁɾ͍̄ʥɻɴ͎:Ñ͏4Éɻ͐ʐɻ˗ɻʮ˂ʮɻɲ̅³ɪɲrˊÑ˩ʆ͍͎̄̕:ÑɚʑDÑʄýɣþÿĀʺ˙ɤD̬ɺʮ˂#̖̬͐ɰɨʞ",?_]
 w_up
 calc#[_,.inl hB,λS nS=>?_];let u0:=au nS (Y' ((b.map λp=>J p f).map V'));let e0:(b.map λp=>J p f)=(aT b.9).map (rnd f b 0):=by
  calc h8 ⋯ λi h1 h2=>?_;rw[cZ,cZ,ki,RD (⇑h1)]
 rw[e0]at u0 ⊢;let eS:=ai (H:=H) (a:=S) (o:=.lst (((aT b.9).map (rnd f b 0)).map V'));generalize Zx H S (Y' (((aT b.9).map (rnd f b 0)).map V'))=H1 at u0 eS ⊢;let lR:∀g:b_,(((aT b.9).map g).map V').9=b.9:=λg=>by simp
 obtain⟨m,hm⟩:∃m,b.9=m:=#[_,rfl]
 w_up
 refine#[_,.inl (Zw eS),(),(),by rw[lR];lk,by rw[lR];lk,?_];rw[lR];obtain⟨Pv,l⟩:∃Pv:O->L2.St->Hp->Prop,∀i u M,Pv i u M↔∃r3 r4:Zk V,u=[W (L A),W (L B),W (L S),r3,r4,Zy]/\M S=W (Y' (((aT b.9).map (rnd f b i)).map V'))/\Same H M:=#[_,λ_ _ _=>Zj]
 refine ie Pv ((l _ _ _).mpr #[Zy,Zy,U,eS,u0]) ?_ ?_
 .intro i u H2 hi F;cases (l _ _ _).mp F,r3,r4,rfl,X,s2;let e1:(1:Y)+(i:Y)-1=(i:Y):=()
  room;simp![e1]
  clear e1;calc#[_,.inl (Zw X),(),(),?_];rw[lR];calc#[pi () () () (),b.9-1-i,pj (),?_];obtain⟨Pw,x0⟩:∃Pw:O->L2.St->Hp->Prop,∀t u M,Pw t u M↔∃r:Zk V,u=[W (L A),W (L B),W (L S),W (V' (1+(i:Y))),r,Zy]/\M S=W (Y' (((aT b.9).map (mxR f b i (b.9-t))).map V'))/\Same H M:=#[_,λ_ _ _=>Zj]
  refine mr Pw ((x0 _ _ _).mpr #[r4,U,?_,s2]) ?_ ?_
  .rw[X,JA (h:=mxR f b i (b.9-0)) λj hj=>by unfold mxR;rw[N ()]]
  .intro t u H3 ht F;cases (x0 _ _ _).mp F,r,rfl,C,s3;obtain⟨pl,y0⟩:∃pl,b.9-t=pl+1:=#[b.9-t-1,()]
   rw[y0]at C;let I:pl<b.9:=()
   let ne:=j0 pl (pl-(i+1)) I () ();let g1:mxR f b i (pl+1) pl=rnd f b i pl:=by unfold mxR;rw[N ()]
   let g2:mxR f b i (pl+1) (pl-1)=rnd f b i (pl-1):=by unfold mxR;rw[N ()]
   let b1:=bp _ (cD I);let b2:=bp _ (cD (show pl-(i+1)<b.9 by lk));let ep:(b.9:Y)-1+(t:Y) * -1=(pl:Y):=()
   let k0:(pl:Y)-1=((pl-1:O):Y):=()
   let x1:(pl:Y)-(1+(i:Y))=((pl-(i+1):O):Y):=()
   room;simp![ep,k0,x1]
   clear ep k0 x1;refine#[_,Zw C,_,pk (Dp I),_,Zw C,_,pk (Dp (show pl-1<b.9 by lk)),_,U,_,U,_,s3.seq hA,_,fe I,_,s3.seq hA,_,fe (show pl-(i+1)<b.9 by lk),_,U,_,U,(),dE (b1.sub b2) (fQ () ()),_,C,pl,iB #v[lR,I],(x0 _ _ _).mpr #[_,U,?_,s3.more nS]];rw[ai,g1,g2,RF () I ne,map_set,show b.9-(t+1)=pl by lk];let hs:=R7 (m:=b.9) (i:=pl) (g:=mxR f b i (pl+1)) (h:=mxR f b i pl) I λj _ hj=>by
    unfold mxR;by_cases z:pl<=j
    .rw[Zt z,Zt ()]
    .rw[N z,N ()]
   rw[<-hs];congr 3;unfold mxR;rw[Zt (aC _)]
  .intro u H3 F;cases (x0 _ _ _).mp F,r,rfl,C,s3;calc (l _ _ _).mpr #[_,_,U,?_,s3];rw[C,JA λj hj=>?_];unfold mxR;by_cases z:b.9-(b.9-1-i)<=j
   .rw[Zt z]
   .rw[N z,RC ()]
 intro u H2 F;cases (l _ _ _).mp F,r3,r4,rfl,X,s2;clear F l Pv eS u0
 w_up
 calc#[bh _,λR0 n0=>?_];let v0:=au n0 (Y' []);let y1:=ai (H:=H2) (a:=R0) (o:=.lst []);generalize Zx H2 R0 (Y' [])=H3 at v0 y1 ⊢;let lt:∀i (h:i<b.9),(J b[i] f).8<=2^10000:=λi h=>dj (bv _ (cD h))
 w_up
 calc#[_,.inl (Zw (v0 _ _ X)),(),(),?_];rw[lR];calc#[pi () () () (),b.9,pj (),?_];obtain⟨Pv,l⟩:∃Pv:O->L2.St->Hp->Prop,∀t u M,Pv t u M↔∃(r4:Zk V)(R:Zs)(a:aa),u=[W (L A),W (L B),W (L S),r3,r4,W (L R)]/\M R=W (Y' (a.map V'))/\H R=Zy/\Nml a/\a.9<=t/\(∀x∈a,Bd (10100+60*t) x)/\(∀n,J n a=dd f (b.take (b.9-t)++[n]))/\Same H2 M:=#[_,λ_ _ _=>Zj]
 refine mr Pv ((l _ _ _).mpr #[r4,R0,[],rfl,y1,s2.free n0,bH,aC _,λx hx=>by simp at hx,λn=>?_,v0]) ?_ ?_
 .rw[Ja (by rw[cC,cB];simp;lk)];rfl
 .intro t u H4 ht F;cases (l _ _ _).mp F,r4,R,a,rfl,eR,nR,na,la,ba,va,s4;obtain⟨pl,y0⟩:∃pl,b.9-t=pl+1:=#[b.9-t-1,()]
  let I:pl<b.9:=()
  let ep:(b.9:Y)-1+(t:Y) * -1=(pl:Y):=()
  let u1:=(s2.trans s4).seq hA;let v1:=s4 _ _ X;let g1:rnd f b ((b.9:Y)-1).toNat pl=dd f (run b 0 (pl+1)):=RE ();let b1:=bp _ (cD I);let bc:Bd 10061 (dd f (run b 0 (pl+1))):=by
   let h:=wn f j0 lt pl 0 ();calc dF h ?_;rw[<-eH];exact mY () ()
  let st:∀n,dd f (b.take pl++[n])=dd f (run b 0 (pl+1))+(n-b[pl])*dd f (b.take (pl+1)++[n]):=λn=>by
   let e1:b.take (pl+1)=b.take pl++[b[pl]]:=by rw[dI,aq I];rfl
   let e2:run b 0 (pl+1)=b.take (pl+1):=by unfold run;rw[oR]
   rw[e2,e1];exact Jd f (b.take pl) b[pl] n
  generalize dd f (run b 0 (pl+1))=c at g1 bc st;rw[y0]at va;let z1:∀y∈[-b[pl],1],Bd 41 y:=λy hy=>by
   simp only[bV,iZ,Yi]at hy;rcases hy with rfl|rfl
   .exact b1.neg.mono ()
   .exact Bd.one ()
  let bm:∀k,Bd (10147+60*t) (Z (ah a [-b[pl],1]) k):=λk=>by
   rw[pY];exact (iD (c:=6) ba z1 (aP la ()) k).mono ()
  let bn:∀k,Bd (10100+60*(t+1)) (Z (gH (ah a [-b[pl],1]) [c]) k):=λk=>by
   rw[wT];calc ((bm k).add (cV (P:=λv=>Bd (10147+60*t) v) (λv hv=>?_) (Bd.zero _) k)).mono ();rw[bZ.mp hv];exact bc.mono ()
  let lm:=Do a [-b[pl],1] ⋯;let j2:(ah a [-b[pl],1]).9<=t+1:=by simp at lm;lk
  room;simp![ep]
  calc#[_,u1,_,fe I,_,U,(),λq1 m1=>?_];let w1:=au m1 (Y' [V' (-b[pl]),V' 1]);refine#[R,q1,a,[-b[pl],1],rfl,Zw (w1 _ _ eR),Zw ai,(),by simp,λx hx=>(ba x hx).mono (),λy hy=>(z1 y hy).mono (),λR1 H5 s5 k2 j1=>?_];let z0:=w1.trans s5;calc#[_,Zw (z0 _ _ v1),_,pk (Dp I),(),λq2 m2=>?_];rw[g1];let w2:=au m2 (Y' [V' c]);refine#[R1,q2,ah a [-b[pl],1],[c],rfl,Zw (w2 _ _ j1),Zw ai,(),by simp,cP λk=>(bm k).mono (),λy hy=>#v[bZ.mp hy,bc.mono ()],λR2 H6 s6 x2 y2=>?_];let z2:=z0.trans (w2.trans s6);refine (l _ _ _).mpr #[_,R2,_,U,y2,s2.free (s4.free (z0.free (w2.free x2))),Dm _ _,?_,cP bn,λn=>?_,s4.trans z2]
  .let:=Dn (ah a [-b[pl],1]) [c];simp at this;lk
  .rw[Dk,Jz,va,show b.9-(t+1)=pl by lk,st n];let e1:J n [-b[pl],1]=n-b[pl]:=by simp[J];lk
   let e2:J n [c]=c:=by simp[J]
   rw[e1,e2];generalize dd f (b.take (pl+1)++[n])=d;grind
 intro u H4 F;cases (l _ _ _).mp F,r4,R,a,rfl,eR,nR,na,la,ba,va,s4;let e:a=f:=aZ na nf λn=>by
  rw[va,gE,zdl,gT,wm]
 rw[e]at eR
 room;walk
 calc q R H4 (s2.trans s4) nR eR
def wU {X:Cx}{K:ao}(hK:X.K=K):ir X (.type "list") (λb H Q=>∃p a,b=[.ref p]/\(SqL K H p a\/SqT K H p a)/\∀l,H l=Zy->Q (.ref l) (upd H l (Y' a))):=by subst hK;calc jk
def JB {X:Cx}{K:ao}(hK:X.K=K):ir X (.builtin "len") (λb H Q=>k1 b λx=>kR x λp=>∃a,(SqL K H p a\/SqT K H p a)/\Q (.int (a.9:O)) H):=by subst hK;calc cj
def oh {X:Cx}{K:ao}(hK:X.K=K):IxR X (sU K):=by subst hK;calc aM
def JC {X:Cx}{K:ao}(hK:X.K=K):IxR X (Co K):=by subst hK;calc gk
structure LL (K:ao)(H:Hp)(as:ap)(ps:ae):Prop where
 len:as.9=ps.9
 get:∀(i:O)(a:Zs)(p:aa),as[i]?=W a->ps[i]?=W p->SqL K H a (p.map B)
def LL.same {K:ao}(h:LL K H as ps)(s:Same H b):LL K b as ps:=#[h.len,λi a p c d=>s.seq (h.get i a p c d)]
def LL.nth {K:ao}(h:LL K H as ps){i:O}(c:(as.map L)[i]?=W v):∃a p,v=.ref a/\as[i]?=W a/\ps[i]?=W p/\SqL K H a (p.map B):=by
 rw[a7]at c;cases e_.mp c,a,b,rfl;let hi:=(a_.mp b).1;let d:i<ps.9:=by rw[<-h.len];exact hi
 calc#[a,ps[i],rfl,b,aq d,h.get i a _ b (aq d)]
def LL.lastAt {K:ao}(h:LL K H as ps)(b:ps≠[]):∃a p,atI (as.map L) (-1)=W (.ref a)/\as.getLast?=W a/\ps.getLast?=W p/\SqL K H a (p.map B):=by
 let j:ps.9≠0:=λz=>b (b7 z);let c:as.9-1<as.9:=by let:=h.len;lk
 let d:as.9-1<ps.9:=by let:=h.len;lk
 refine#[as[as.9-1],ps[as.9-1],?_,?_,?_,h.get (as.9-1) _ _ (aq c) (aq d)]
 .let e:=Ir (n:=(as.map L).9) (i:=1) () (by rw[af];lk);let f:(-((1:O):Y))=-1:=rfl;rw[f]at e;unfold atI;rw[e];show (as.map L)[(as.map L).9-1]?=_;rw[a7,af,aq c];rfl
 .rw[gC,aq c]
 .rw[gC,<-h.len,aq d]
def dL (p:aa):PyData:=.list (p.map Yw)
theorem JD {K:ao}:∀(as:ap)(c:ae),LL K H as c->DVs K H (as.map L) (c.map dL)
 |[],[],_=>.nil
 |a::as,p::c,h=>.cons (DV.ints (h.get 0 a p U U)) (JD as c #[by let:=h.len;simpa using this,λi b r d e=>h.get (i+1) b r (⇑d) (⇑e)])
 |[],_::_,h=>by let:=h.len;simp at this
 |_::_,[],h=>by let:=h.len;simp at this
def wV {K:ao}{as:ap}(a:SqL K H R (as.map L))(h:LL K H as ps):DV K H (.ref R) (.list (ps.map dL)):=.lst a (JD as ps h)
def JE (ps:ae):Yg (.list (ps.map dL)) (.list (ps.map dL))=K':=by
 let h:∀ps:ae,Yu (ps.map dL) (ps.map dL)=K':=λps=>by
  induction ps with
  |nil=>rfl
  |cons p ps ih=>simp[Yu,Yg,Cz,dL,ih]
 simp[Yg,h]
def JF (ps:ae):Z9 (.list (ps.map dL))=K':=by
 let h:∀ps:ae,YZ (ps.map dL)=K':=λps=>by
  induction ps with
  |nil=>rfl
  |cons p ps ih=>simp[YZ,Z9,CA,dL,ih]
 simp[Z9,h]
def eJ (row:aa)(tb:ae)(cs:aE):O->Y×aa
 |0=>(1,row)
 |i+1=>(Z (tb.getD i []) (cs.getD i 0),dw (λx y=>(Z (tb.getD i []) (cs.getD i 0)*x-Z (eJ row tb cs i).2 (cs.getD i 0)*y).fdiv (eJ row tb cs i).1) (eJ row tb cs i).2 (tb.getD i []))
structure LowOk (row:aa)(tb:ae)(cs:aE):Prop where
 len:tb.9<=cs.9
 few:row.9<=60
 wid:∀b∈tb,b.9=row.9
 col:∀c∈cs,c<row.9
 bb:∀b∈tb,∀y∈b,Bd 4000 y
 ne:∀i,i<tb.9->(eJ row tb cs i).1≠0/\Bd 4000 (eJ row tb cs i).1
 br:∀i,i<tb.9->∀x∈(eJ row tb cs i).2,Bd 4000 x
theorem pZ (h:LowOk row tb cs):∀i,i<=tb.9->(eJ row tb cs i).2.9=row.9
 |0,_=>rfl
 |i+1,hi=>by
  let a:=pZ h i ();let b:(tb.getD i []).9=row.9:=by
   rw[aD,aq ()];exact h.wid _ (cD _)
  show (dw _ _ _).9=_;rw[km,a,b,Nat.min_self]
def oi {xs:aa}{i:O}(h:i<xs.9):atI (xs.map B) (i:Y)=W (B (Z xs i)):=by rw[fe h,aO h]
def R_ (K:ao):Sp:=λvs H Q _=>∃(R Tb Cl:Zs)(row:aa)(ts:ap)(tb:ae)(cs:aE),vs=[.ref R,.ref Tb,.ref Cl]/\SqL K H R (row.map B)/\SqL K H Tb (ts.map L)/\LL K H ts tb/\SqL K H Cl ((cs.map λc:O=>(c:Y)).map B)/\LowOk row tb cs/\
 ∀(R':Zs)(H':Hp),Same H H'->(R'=R/\tb=[]\/H R'=Zy/\H' R'=W (Y' ((eJ row tb cs tb.9).2.map B)))->SqL K H' R' ((eJ row tb cs tb.9).2.map B)->Q (.ref R') H'
def JG:FnOk P w K mg base CX0 1 T.WK.ax T.WK.dx ["row","table","columns"] (R_ K):=by
 refine T.WK.Fx.ok kK (λvs H Q E h=>?_) (λu0 A outer s H vs Q E hr h=>?_)
 .cases h,R,Tb,Cl,row,ts,tb,a,rfl,_;rfl
 cases h,R,Tb,Cl,row,ts,tb,a,rfl,hR,hT,hL,hC,ok,q;refine#[_,s!"ʜÊʓ&ʆ˰˱ʤ˿:ỀDẾ˲Êʓɥ͑ɟ̭Êʓʮʞɟ'ũ)(͒ʈʈʕÒFǇʊÒWŪʊÒ7ǈʊ͓̗̘J4ÉɻʢɪɡʢɴɧɲÊʀʑ7Êʓʔɨɡ",?_]
 let j0:=hL.len
 w_up
 obtain⟨Pv,f⟩:∃Pv:O->L2.St->Hp->Prop,∀i o u,Pv i o u↔∃(l:Zs)(r4 r5 r6 r7:Zk V),o=[W (Z' l),W (Z' Tb),W (Z' Cl),W (B (eJ row tb a i).1),r4,r5,r6,r7]/\(l=R/\i=0\/H l=Zy/\u l=W (Y' ((eJ row tb a i).2.map B)))/\SqL K u l ((eJ row tb a i).2.map B)/\Same H u:=#[_,λ_ _ _=>Zj]
 w_up
 refine#[_,hT,_,hC,vz (xs:=ts.map Z') (ys:=(a.map λc:O=>(c:Y)).map B) Pv ((f _ _ _).mpr #[R,Zy,Zy,Zy,Zy,U,.inl #[U,U],hR,Same.refl _]) (λi o u _ _ z=>by cases (f i o u).mp z,_,_,_,_,_,_,_,_,z;calc#[z.seq hT,z.seq hC]) ?_ ?_]
 .intro i v1 v2 p o H1 e1 e2 hp np;cases (f _ _ _).mp hp,l,r4,r5,r6,r7,rfl,dR,d,s1;rw[a7]at e1;cases e_.mp e1,t,ht,rfl;let hi:i<tb.9:=by let:=(a_.mp ht).1;lk
  let m:i<a.9:=by let:=ok.len;lk
  rw[a7,a7,aq m]at e2;obtain rfl:B (a[i]:Y)=v2:=Zv e2;let X:=hL.get i t _ ht (aq hi);let ll:=pZ ok i ();let lb:=ok.wid _ (cD hi);let lc:=ok.col _ (cD m);let eb:tb.getD i []=tb[i]:=by rw[aD,aq hi];rfl
  let ec:a.getD i 0=a[i]:=by rw[aD,aq m];rfl
  let st:eJ row tb a (i+1)=(Z tb[i] a[i],dw (λx y=>(Z tb[i] a[i]*x-Z (eJ row tb a i).2 a[i]*y).fdiv (eJ row tb a i).1) (eJ row tb a i).2 tb[i]):=by rw[eJ,eb,ec]
  cases ok.ne i hi,n0,nb;let br:=ok.br i hi;let bb:=ok.bb _ (cD hi);let C:=au np (.tup [Z' t,B (a[i]:Y)]);generalize eJ row tb a i=L at d ll st n0 nb br ⊢;cases L,bf,e;dsimp only at d ll st n0 nb br ⊢;generalize tb[i]=b at X lb st bb;generalize a[i]=c at e2 lc st C ⊢;let few:=ok.few;let F:=s1.trans C
  room;walk
  calc#[_,SqT.of ai,U,_,_,U,_,_,U,U,_,U,_,U,_,F.seq X,_,oi (),_,U,_,C.seq d,_,oi (),_,U,_,C.seq d,_,F.seq X,λD nD=>?_];let I:=F.seq X;let M:=C.seq d;generalize Zx H1 p (.tup [Z' t,B (c:Y)])=H2 at F C I M nD ⊢;let x0:Bd 4000 (Z b c):=cV (P:=λv=>Bd 4000 v) bb (Bd.zero _) c;let y0:Bd 4000 (Z e c):=cV (P:=λv=>Bd 4000 v) br (Bd.zero _) c;obtain⟨Pc,k⟩:∃Pc:dG,∀j n,Pc j n↔n D=W (Y' (((dw (λx y=>(Z b c*x-Z e c*y).fdiv bf) e b).take j).map B))/\Same H2 n:=#[_,λ_ _=>Zj]
  refine CJ (xs:=e.map B) (ys:=b.map B) Pc ((k _ _).mpr #[ai,au nD _]) (λi n _ _ y=>by cases (k i n).mp y,_,y;calc#[y.seq M,y.seq I]) ?_ ?_
  .intro j w1 w2 r n f1 f2 hc nr;cases (k _ _).mp hc,k1,k2;rw[a7]at f1 f2;cases e_.mp f1,x,hx,rfl;cases e_.mp f2,y,hy,rfl;let u2:=au nr (.tup [B x,B y]);let bx:=br x (cH hx);let z0:=bb y (cH hy)
   room;simp![f7,fF]
   let hj:j<e.9:=(a_.mp hx).1;refine#[x0.fits bx (),y0.fits z0 (),n0,dE nb (fQ () ()),_,u2 _ _ k1,?_,(k _ _).mpr #[?_,(k2.trans u2).more nD]]
   .rw[af,cB];exact cy ()
   .let hz:(dw (λx y=>(Z b c*x-Z e c*y).fdiv bf) e b)[j]?=W ((Z b c*x-Z e c*y).fdiv bf):=by
     rw[qT,hx,hy]
    rw[ai,dI,hz,aY];rfl
  intro n hc;cases (k _ _).mp hc,k1,k2;rw[ii #v[km,af,af,aC _]]at k1;calc (f _ _ _).mpr ?_;rw[st];exact#[D,_,_,_,_,U,.inr #[F.free nD,k1],Zw k1,F.trans k2]
 intro o H1 hp;cases (f _ _ _).mp hp,l,r4,r5,r6,r7,rfl,dR,d,s1;let hn:min (ts.map Z').9 ((a.map λc:O=>(c:Y)).map B).9=tb.9:=by
  let:=ok.len;simp;lk
 rw[hn]at d dR
 room;walk
 calc q l H1 s1 ?_ d;rcases dR with ⟨z1,z2⟩|z
 .exact .inl #[z1,b7 z2]
 .calc .inr z
def Sa (K:ao):Sp:=λvs H Q _=>∃(a:Zs)(xs:aa)(n:Y)(k l:O),vs=[.ref a,.int n]/\SqL K H a (xs.map B)/\xs.9<=64/\(∀x∈xs,Bd k x)/\Bd l n/\k+l*100<=60000000/\Q (.int (J n xs)) H
def Dq (n:Y)(xs:aa)(i:O)(h:i<xs.9):J n (xs.drop (xs.9-1-i))=J n (xs.drop (xs.9-i))*n+xs[xs.9-1-i]:=by
 rw[Ex (),show xs.9-1-i+1=xs.9-i by lk];simp only[J];rw[cW];lk
def Dr:FnOk P w K mg base CX0 1 T.Wz.ax T.Wz.dx ["poly","n"] (Sa K):=by
 refine T.Wz.Fx.ok wB (λC H Q E h=>?_) (λF A outer s H C Q E M h=>?_)
 .cases h,a,b,n,k,l,rfl,_;rfl
 cases h,a,b,n,k,l,rfl,x,R,hk,y,X,q;refine#[_,s!"ʍĵ̦ʆū Ŭʧɶ7ĵɚʑ,ĵɚʅʢɪɧɴ͔",?_]
 walk
 calc#[_,x,?_];obtain⟨m,c⟩:∃m:O->L2.St->Hp->Prop,∀i d f,m i d f↔(∃r,d=[W (L a),W (B n),W (B (J n (b.drop (b.9-i)))),r])/\Bd (k+(l+1)*i) (J n (b.drop (b.9-i)))/\f=H:=#[_,λ_ _ _=>Zj]
 refine Iq m ((c _ _ _).mpr #[#[Zy,by simp[J]],by simp[J,Bd.zero],rfl]) (λi d f _ z=>#v[((c i d f).mp z).2.2,x]) ?_ ?_
 .intro i v d f hi o u;cases (c _ _ _).mp u,#[r,rfl],j,rfl;rw[af]at hi o;rw[a7,aq ()]at o;obtain rfl:B b[b.9-1-i]=v:=Zv o
  walk
  let hx:Bd k b[b.9-1-i]:=hk _ (cD _);let e:b.9-(i+1)=b.9-1-i:=()
  let I:(l+1)*i<=l*64+64:=by let:=fE (l+1) (by lk:i<=64);lk
  refine#[j.fits y (),(c _ _ _).mpr #[#[_,by rw[e,Dq n b i hi]],?_,rfl]];rw[e,Dq n b i hi];refine ((j.mul y).add (hx.mono (by lk:k<=k+(l+1)*i+l))).mono ?_;rw[oV];lk
 .intro d f u;obtain⟨⟨r,rfl⟩,_,rfl⟩:=(c _ _ _).mp u
  walk
  rw[af,gE,oR];calc q
def KB (a:Zs)(H H':Hp):Prop:=∀y o,y≠a->H y=W o->H' y=W o
def KB.on (k:KB a H b)(s:Same b c):KB a H c:=λy o n e=>s _ _ (k y o n e)
def KB.set (k:KB a H b):KB a H (Zx b a o):=λy o n e=>#v[aK n,k y o n e]
def KB.of (s:Same H b):KB a H b:=λy o _ e=>s y o e
def KB.free {a p:Zs}(k:KB a H b)(h:b a=W o)(n:b p=Zy):H p=Zy/\p≠a:=by
 let d:p≠a:=λz=>by rw[z,h]at n;cases n
 refine#[?_,d]
 cases e:H p with
 |none=>rfl
 |some u=>rw[k p u d e]at n;cases n
noncomputable def jV (w:Y) (Kp Cl:Zs) (pl:Y) (Tb:Zs):G (Str×V):=[(Zu "width",.int w),(Zu "kept",.ref Kp),(Zu "columns",.ref Cl),(Zu "place",.int pl),(Zu "tables",.ref Tb)]
def JH (C:Zs):Sp:=λvs H Q _=>∃(x dx:Zs)(w:Y),vs=[.ref x,.int w]/\H x=W (.ins C dx [])/\
 ∀(Kp Cl Tb:Zs)(H':Hp),(∀y o,y≠x->H y=W o->H' y=W o)->H Kp=Zy->H Cl=Zy->H Tb=Zy->Kp≠Cl->Kp≠Tb->Cl≠Tb->H' x=W (.ins C dx (jV w Kp Cl 97 Tb))->H' Kp=W (Y' [])->H' Cl=W (Y' [])->H' Tb=W (.dK [])->Q .non H'
def JI:FnOk P w K mg base CX0 1 T.Xj.ax T.Xj.dx ["self","width"] (JH T.We):=by
 refine T.Xj.Fx.ok RV (λvs H Q E h=>?_) (λz0 A outer s H vs Q E hr h=>?_)
 .cases h,x,dx,w,rfl,_;rfl
 cases h,x,dx,w,rfl,hx,q;refine#[_,s!"'à˳ 'àɡʎ 'àɡʎ 'àɡ͕ǉ Ǌʁʀ1àɡǋ ",?_]
 let k0:KB x H H:=KB.of (Same.refl H)
 w_up
 calc#[_,_,_,hx,T.Wd,T.W4,(),?_];let k1:=k0.set (o:=.ins T.We dx (bW (Zu "width") (B w) []));let f:=ai (H:=H) (a:=x) (o:=.ins T.We dx (bW (Zu "width") (B w) []));generalize Zx H x (.ins T.We dx (bW (Zu "width") (B w) []))=y at k1 f ⊢
 w_up
 calc#[(),λb n1=>?_];let C:=au n1 (Y' []);cases k1.free f n1,m1,i;refine#[_,_,_,C _ _ f,T.Wd,T.WE,by show 1<1000;decide,?_];let j:=(k1.on C).set (o:=.ins T.We dx (bW (Zu "kept") (L b) (bW (Zu "width") (B w) [])));let k:=ai (H:=Zx y b (Y' [])) (a:=x) (o:=.ins T.We dx (bW (Zu "kept") (L b) (bW (Zu "width") (B w) [])));let l:Zx (Zx y b (Y' [])) x (.ins T.We dx (bW (Zu "kept") (L b) (bW (Zu "width") (B w) []))) b=W (Y' []):=by rw[aK i];exact ai
 generalize Zx (Zx y b (Y' [])) x (.ins T.We dx (bW (Zu "kept") (L b) (bW (Zu "width") (B w) [])))=m at j k l ⊢;clear k1 f n1 C
 w_up
 calc#[(),λc e=>?_];let n:=au e (Y' []);cases j.free k e,m2,F;let I:b≠c:=λz=>by rw[<-z,l]at e;cases e
 refine#[_,_,_,n _ _ k,T.Wd,T.W3,by show 2<1000;decide,?_];let k3:=(j.on n).set (o:=.ins T.We dx (bW (Zu "columns") (L c) (bW (Zu "kept") (L b) (bW (Zu "width") (B w) []))));let x3:=ai (H:=Zx m c (Y' [])) (a:=x) (o:=.ins T.We dx (bW (Zu "columns") (L c) (bW (Zu "kept") (L b) (bW (Zu "width") (B w) []))));let e3:Zx (Zx m c (Y' [])) x (.ins T.We dx (bW (Zu "columns") (L c) (bW (Zu "kept") (L b) (bW (Zu "width") (B w) [])))) b=W (Y' []):=by rw[aK i];exact n _ _ l
 let f3:Zx (Zx m c (Y' [])) x (.ins T.We dx (bW (Zu "columns") (L c) (bW (Zu "kept") (L b) (bW (Zu "width") (B w) [])))) c=W (Y' []):=by rw[aK F];exact ai
 generalize Zx (Zx m c (Y' [])) x (.ins T.We dx (bW (Zu "columns") (L c) (bW (Zu "kept") (L b) (bW (Zu "width") (B w) []))))=r at k3 x3 e3 f3 ⊢;clear j k e n l
 w_up
 refine#[_,_,_,x3,T.Wd,T.Xu,by show 3<1000;decide,?_];let M:=k3.set (o:=.ins T.We dx (bW (Zu "place") (B 97) (bW (Zu "columns") (L c) (bW (Zu "kept") (L b) (bW (Zu "width") (B w) [])))));let R:=ai (H:=r) (a:=x) (o:=.ins T.We dx (bW (Zu "place") (B 97) (bW (Zu "columns") (L c) (bW (Zu "kept") (L b) (bW (Zu "width") (B w) [])))));let X:=(aK (H:=r) (o:=.ins T.We dx (bW (Zu "place") (B 97) (bW (Zu "columns") (L c) (bW (Zu "kept") (L b) (bW (Zu "width") (B w) []))))) i).trans e3;let f4:=(aK (H:=r) (o:=.ins T.We dx (bW (Zu "place") (B 97) (bW (Zu "columns") (L c) (bW (Zu "kept") (L b) (bW (Zu "width") (B w) []))))) F).trans f3;generalize Zx r x (.ins T.We dx (bW (Zu "place") (B 97) (bW (Zu "columns") (L c) (bW (Zu "kept") (L b) (bW (Zu "width") (B w) [])))))=G4 at M R X f4 ⊢
 w_up
 intro p5 d;let u:=au d (.dK []);cases M.free R d,m5,d5;let x0:b≠p5:=λz=>by rw[<-z,X]at d;cases d
 let y0:c≠p5:=λz=>by rw[<-z,f4]at d;cases d
 refine#[_,_,_,u _ _ R,T.Wd,T.XF,by show 4<1000;decide,?_];calc q b c p5 _ (M.on u).set m1 m2 m5 I x0 y0 ?_ #v[aK i,u _ _ X] #v[aK F,u _ _ f4] #v[aK d5,ai];rw[ai];rfl
def dq (w:O)(vec:ae)(num:O)(pl:Y):aa:=vec.map (J pl)++(aT (w+1)).map λo=>if o=num then 1 else 0
def Sb (K:ao)(C:Zs):Sp:=λvs H Q _=>∃(x dx Kp Cl Tb Vc:Zs)(pc:Y)(w num:O)(pl:Y)(as:ap)(vec:ae),vs=[.ref x,.ref Vc,.int (num:Y),.int pl]/\H x=W (.ins C dx (jV w Kp Cl pc Tb))/\SqL K H Vc (as.map L)/\LL K H as vec/\w<=20/\vec.9<=20/\Bd 40 pl/\(∀p∈vec,p.9<=60/\∀c∈p,Bd 1000 c)/\eE H Q ((dq w vec num pl).map B)
def JJ:FnOk P w K mg base CX0 2 T.Xk.ax T.Xk.dx ["self","vector","number","place"] (Sb K T.We):=by
 refine T.Xk.Fx.ok Jw (λvs H Q E h=>?_) (λx0 A outer s H vs Q E hr h=>?_)
 .cases h,x,dx,Kp,Cl,Tb,Vc,pc,w,f,pl,as,vec,rfl,_;rfl
 cases h,x,dx,Kp,Cl,Tb,Vc,pc,w,f,pl,as,vec,rfl,hx,R,X,w20,y0,u,bv,q;refine#[_,s!"̚:̮,Ķ̛ʶʅʗɼJāˆ˳ɩ&&ǌʀɨ͖ˍ7ǍʷɧʩķɣĸĹĺ̜ɲ",?_]
 let lv:=X.len
 w_up
 calc#[_,_,_,hx,T.Wd,T.W4,_,U,_,U,(),(),λD nD=>?_];rw[show ((w:Y)+1).toNat=w+1 by lk];obtain⟨d,b⟩:∃d:dG,∀j c,d j c↔c D=W (Y' (((aT j).map λo:O=>if o=f then (1:Y) else 0).map B))/\Same H c:=#[_,λ_ _=>Zj]
 refine uT d ((b _ _).mpr #[ai,au nD _]) ?_ ?_
 .intro j c hj e;cases (b _ _).mp e,k1,n;let e0:(0:Y)+(j:Y)=(j:Y):=ij _;let nx:∀v:Y,v=(if j=f then (1:Y) else 0)->∃C,c D=W (Y' C)/\C.9<Zg/\d (j+1) (Zx c D (Y' (C++[B v]))):=λv F=>by
   calc#[_,k1,#v[af,af,im,cy ()],(b _ _).mpr #[?_,n.more nD]];rw[ai,gM,aY,aY,F];rfl
  room;simp![bst,e0,fF]
  refine cu (λz=>nx 1 (by rw[Zt ()])) (λz=>nx 0 (by rw[N ()]))
 intro H1 e;cases (b _ _).mp e,eD,k;clear e b d;calc#[#[_,k.seq R],λD2 l=>?_];obtain⟨d,b⟩:∃d:dG,∀j c,d j c↔c D2=W (Y' (((vec.map (J pl)).take j).map B))/\Same H1 c:=#[_,λ_ _=>Zj]
 refine fZ (xs:=as.map L) d ((b _ _).mpr #[ai,au l _]) (λi c _ y=>by cases (b i c).mp y,_,y;calc (k.trans y).seq R) ?_ ?_
 .intro j v c F e;cases (b _ _).mp e,k1,n;cases X.nth F,a,p,rfl,ha,I,sq;let hj:j<vec.9:=(a_.mp I).1;obtain⟨b1,b2⟩:=bv p (cH I)
  room;simp![bst,fF]
  refine#[a,p,pl,1000,40,U,(k.trans n).seq sq,(),b2,u,(),_,k1,?_,(b _ _).mpr #[?_,n.more l]]
  .rw[af,cB];exact cy ()
  .rw[ai,dI,a7,I,aY];rfl
 intro H2 e;cases (b _ _).mp e,m,M;rw[af,lv,ii #v[af,aC _]]at m;refine#[D2,U,D,U,_,m,_,M _ _ eD,?_,λr nr=>?_]
 .rw[af,af,af,af,im];exact dj (cy ())
 .calc q r _ ((k.trans M).trans (au nr _)) ((k.trans M).free nr) ?_;rw[ai];unfold dq;rw[aY]
def dgL (p:aa):Int:=((p.9-1:O):Y)
def jp (ps:ae)(M:Y):Prop:=(ps.map dgL=[]/\M=0)\/(M∈ps.map dgL/\∀a∈ps.map dgL,a<=M)
def Sc (K:ao):Sp:=λvs H Q _=>∃(A:Zs)(as:ap)(ps:ae),vs=[.ref A]/\SqL K H A (as.map L)/\LL K H as ps/\ps.9<=60/\∀M H',Same H H'->jp ps M->Q (.int M) H'
def JK:FnOk P w K mg base CX0 1 T.WL.ax T.WL.dx ["polys"] (Sc K):=by
 refine T.WL.Fx.ok RP (λx H Q E h=>?_) (λz A outer s H x Q E hr h=>?_)
 .cases h,A,as,d,rfl,_;rfl
 cases h,A,as,d,rfl,l,m,C,q;calc#[_,s!"ɨǎ˵#˖ɡJ<Ă̯ɻ<ŭʻɬʧʥ̖Ǐ&ǐ",?_];let F:=m.len
 walk
 calc#[#[_,l],λD n=>?_];obtain⟨f,b⟩:∃f:dG,∀j c,f j c↔c D=W (Y' (((d.map dgL).take j).map B))/\Same H c:=#[_,λ_ _=>Zj]
 refine fZ (xs:=as.map L) f ((b _ _).mpr #[ai,au n _]) (λi c _ y=>by cases (b i c).mp y,_,y;calc y.seq l) ?_ ?_
 .intro j v c I k;cases (b _ _).mp k,k1,o;cases m.nth I,a,p,rfl,ha,r,R;let hj:j<d.9:=(a_.mp r).1
  simp![bst,fF]
  calc#[_,.inl (o.seq R),?_];let e:(if 0 > ((p.map B).9:Y)-1 then 0 else ((p.map B).9:Y)-1)=dgL p:=by unfold dgL;rw[af];split <;> lk
  try rw[e]
  refine#[_,k1,?_,(b _ _).mpr #[?_,o.more n]]
  .rw[af,cB];exact cy ()
  .rw[ai,dI,a7,r,aY];rfl
 intro X k;cases (b _ _).mp k,u,s1;rw[af,F,ii #v[af,aC _]]at u;calc#[D,U,_,Zw u,λM hM=>q M X s1 hM]
def Ds {X:Cx}{K:ao}(hK:X.K=K)(c:PE X l a):PI X b l (Cd K a):=by subst hK;calc dm c
structure VL (K:ao)(H:Hp)(vs:ap)(qs:aB):Prop where
 len:vs.9=qs.9
 get:∀(i:O)(v:Zs)(q:ae),vs[i]?=W v->qs[i]?=W q->∃as,SqL K H v (as.map L)/\LL K H as q
noncomputable def i7 (q:ae) (cs:aE):ae:=cs.map λc=>q.getD c []
noncomputable def i8 (qs:aB) (c:O):ae:=qs.map λq=>q.getD c []
def mF {α β:Type}{Φ:α->β->Prop}{rs:G α}{L:G β}{r:α}(h:∀(t:O)(r:α)(p:β),rs[t]?=W r->L[t]?=W p->Φ r p)(d:∀p,L[rs.9]?=W p->Φ r p):∀(t:O)(b:α)(p:β),(rs++[r])[t]?=W b->L[t]?=W p->Φ b p:=λt b p a c=>by
 by_cases hi:t<rs.9
 .rw[dH hi]at a;exact h t b p a c
 .rw[dQ ()]at a;let:t-rs.9=0:=by let:=(a_.mp a).1;simp at this;lk
  rw[this]at a;let e:t=rs.9:=()
  cases Zv a
  rw[e]at c;calc d p c
def gv {α:Type}{xs:G α}{i:O}{d:α}(h:i<xs.9):xs[i]?=W (xs.getD i d):=by
 rw[aD,aq h];rfl
def Sd (K:ao):Sp:=λvs H Q _=>∃(A B:Zs)(us:ap)(qs:aB)(cs:aE),vs=[.ref A,.ref B]/\SqL K H A (us.map L)/\VL K H us qs/\SqL K H B ((cs.map λc:O=>(c:Y)).map V')/\qs≠[]/\qs.9<=20/\cs.9<=20/\(∀q∈qs,∀c∈cs,c<q.9)/\
 ∀(bv bc:aa)(m N:Y)(H':Hp),Same H H'->bv.9=qs.9->bc.9=cs.9->(∀(i:O)(b:Y)(q:ae),bv[i]?=W b->qs[i]?=W q->jp (i7 q cs) b)->(∀(i:O)(b:Y)(c:O),bc[i]?=W b->cs[i]?=W c->jp (i8 qs c) b)->m∈bv->(∀b∈bv,m<=b)->N=(if bc.sum<bv.sum-m then bc.sum else bv.sum-m)->Q (.int N) H'
def Se:FnOk P w K mg base CX0 2 T.Xd.ax T.Xd.dx ["vectors","columns"] (Sd K):=by
 refine T.Xd.Fx.ok C9 (λvs H Q E h=>?_) (λz1 A outer s H vs Q E hr h=>?_)
 .cases h,A,B,us,o,X,rfl,_;rfl
 cases h,A,B,us,o,X,rfl,hA,hV,hB,q0,u1,v1,hw,q;refine#[_,s!"'Ů), Ļʠ*Ǒ̰ʩůɣŰűŲɭˍ(ơ̌ļʻ˧̲ɧɡɟ$ųʀ'Ů)7 Ļʠ(ǓʷɧʩůɣŰűŲɭˍ(ư̌ļʻ˧̲˳ɟ$ųʀɨ<Ľ̴͗<ŴʀŵŶʤ<ľ̴ʤ#<ŴʀŵŶ˃ɰ",?_]
 let lu:=hV.len
 w_up
 calc#[#[_,hA],λD nD=>?_];obtain⟨Pc,a⟩:∃Pc:dG,∀j l,Pc j l↔∃bv:aa,l D=W (Y' (bv.map V'))/\bv.9=j/\(∀(i:O)(b:Y)(q:ae),bv[i]?=W b->o[i]?=W q->jp (i7 q X) b)/\Same H l:=#[_,λ_ _=>Zj]
 refine fZ (xs:=us.map L) Pc ((a _ _).mpr #[[],ai,rfl,λi b q e=>by simp at e,au nD _]) (λi l _ y=>by cases (a i l).mp y,_,_,_,_,y;calc y.seq hA) ?_ ?_
 .intro j v l hv hc;cases (a _ _).mp hc,bv,k1,k2,k3,k4;rw[a7]at hv;cases e_.mp hv,u,hu,rfl;let hj:j<o.9:=by let:=(a_.mp hu).1;lk
  let z0:o[j]?=W o[j]:=aq hj;cases hV.get j u _ hu z0,as,sA,lA;let j0:=hw _ (cD hj)
  room;simp![bst,fF]
  generalize o[j]=qv at lA j0 z0;calc#[#[_,k4.seq hB],λD1 C=>?_];obtain⟨Pi,d⟩:∃Pi:dG,∀i f,Pi i f↔∃k:ap,f D1=W (Y' (k.map L))/\k.9=i/\(∀(t:O)(r:Zs)(p:aa),k[t]?=W r->(i7 qv X)[t]?=W p->SqL K H r (p.map V'))/\Same l f:=#[_,λ_ _=>Zj]
  refine fZ (xs:=(X.map λc:O=>(c:Y)).map V') Pi ((d _ _).mpr #[[],ai,rfl,λt r p e=>by simp at e,au C _]) (λi f _ y=>by cases (d i f).mp y,_,_,_,_,y;calc (k4.trans y).seq hB) ?_ ?_
  .intro i v f F hi;cases (d _ _).mp hi,k,m1,I,m3,x;rw[a7,a7]at F;cases e_.mp F,z,hz,rfl;cases e_.mp hz,c,n,rfl;let x0:=j0 c (cH n);let R:c<as.9:=by let:=lA.len;lk
   let j1:i<X.9:=(a_.mp n).1
   room;simp![bst,fF]
   refine#[_,(k4.trans x).seq sA,L as[c],jK (by rw[a7,aq R];rfl),_,m1,#v[af,cy ()],(d _ _).mpr #[k++[as[c]],by rw[ai,aY];rfl,by simp[I],mF m3 λp hp=>?_,x.more C]];rw[I]at hp;unfold i7 at hp;rw[a7,n]at hp;obtain rfl:=Zv hp;exact lA.get c _ _ (aq R) (gv x0)
  intro f hi;cases (d _ _).mp hi,k,m1,I,m3,x;rw[af,af]at I;let hR:LL K f k (i7 qv X):=#[by unfold i7;rw[af];exact I,λt r p e1 e2=>(k4.trans x).seq (m3 t r p e1 e2)]
  refine#[D1,k,_,U,Zw m1,hR,by unfold i7;rw[af];lk,λM H2 s2 hM=>#[_,s2 _ _ (x _ _ k1),#v[af,cy ()],(a _ _).mpr #[bv++[M],by rw[ai,aY];rfl,by simp[k2],?_,(k4.trans (x.trans s2)).more nD]]];calc mF (Φ:=λb q=>jp (i7 q X) b) k3 λq hq=>?_;rw[k2,z0]at hq;obtain rfl:=Zv hq;exact hM
 intro H1 hc;cases (a _ _).mp hc,bv,k1,k2,k3,k4;rw[af,lu]at k2;clear hc a Pc
 w_up
 calc#[#[_,k4.seq hB],λD2 k0=>?_];obtain⟨Pc,a⟩:∃Pc:dG,∀j l,Pc j l↔∃bc:aa,l D2=W (Y' (bc.map V'))/\bc.9=j/\(∀(i:O)(b:Y)(c:O),bc[i]?=W b->X[i]?=W c->jp (i8 o c) b)/\Same H1 l:=#[_,λ_ _=>Zj]
 refine fZ (xs:=(X.map λc:O=>(c:Y)).map V') Pc ((a _ _).mpr #[[],ai,rfl,λi b q e=>by simp at e,au k0 _]) (λi l _ y=>by cases (a i l).mp y,_,_,_,_,y;calc (k4.trans y).seq hB) ?_ ?_
 .intro j v l hv hc;cases (a _ _).mp hc,bc,c1,c2,c3,c4;rw[a7,a7]at hv;cases e_.mp hv,z,hz,rfl;cases e_.mp hz,c,n,rfl;let hj:j<X.9:=(a_.mp n).1;let y0:=k4.trans c4
  room;simp![bst,fF]
  calc#[#[_,y0.seq hA],λD1 C=>?_];obtain⟨Pi,d⟩:∃Pi:dG,∀i f,Pi i f↔∃k:ap,f D1=W (Y' (k.map L))/\k.9=i/\(∀(t:O)(r:Zs)(p:aa),k[t]?=W r->(i8 o c)[t]?=W p->SqL K H r (p.map V'))/\Same l f:=#[_,λ_ _=>Zj]
  refine fZ (xs:=us.map L) Pi ((d _ _).mpr #[[],ai,rfl,λt r p e=>by simp at e,au C _]) (λi f _ y=>by cases (d i f).mp y,_,_,_,_,y;calc (y0.trans y).seq hA) ?_ ?_
  .intro i v f F hi;cases (d _ _).mp hi,k,m1,I,m3,x;rw[a7]at F;cases e_.mp F,u,hu,rfl;let n0:i<o.9:=by let:=(a_.mp hu).1;lk
   let u0:o[i]?=W o[i]:=aq n0;cases hV.get i u _ hu u0,as,sA,lA;let x0:=hw _ (cD n0) c (cH n);generalize o[i]=qv at lA x0 u0;let R:c<as.9:=by let:=lA.len;lk
   room;simp![bst,fF]
   refine#[_,(y0.trans x).seq sA,L as[c],jK (by rw[a7,aq R];rfl),_,m1,#v[af,cy ()],(d _ _).mpr #[k++[as[c]],by rw[ai,aY];rfl,by simp[I],mF m3 λp hp=>?_,x.more C]];rw[I]at hp;unfold i8 at hp;rw[a7,u0]at hp;obtain rfl:=Zv hp;exact lA.get c _ _ (aq R) (gv x0)
  intro f hi;cases (d _ _).mp hi,k,m1,I,m3,x;rw[af,lu]at I;let hR:LL K f k (i8 o c):=#[by unfold i8;rw[af];exact I,λt r p e1 e2=>(y0.trans x).seq (m3 t r p e1 e2)]
  refine#[D1,k,_,U,Zw m1,hR,by unfold i8;rw[af];lk,λM H2 s2 hM=>#[_,s2 _ _ (x _ _ c1),#v[af,cy ()],(a _ _).mpr #[bc++[M],by rw[ai,aY];rfl,by simp[c2],?_,(c4.trans (x.trans s2)).more k0]]];calc mF (Φ:=λb c=>jp (i8 o c) b) c3 λg1 hq=>?_;rw[c2,n]at hq;obtain rfl:=Zv hq;exact hM
 intro H2 hc;cases (a _ _).mp hc,bc,c1,c2,c3,c4;rw[af,af]at c2;let x1:bv≠[]:=λz=>by rw[z]at k2;exact q0 (b7 k2.symm)
 w_up
 calc#[bv,Zw (c4 _ _ k1),bv,Zw (c4 _ _ k1),x1,λm hm y1=>#[bc,Zw c1,q bv bc m _ H2 (k4.trans c4) k2 c2 k3 c3 hm y1 U]]
structure LH (H:Hp)(as:ap)(ps:ae):Prop where
 len:as.9=ps.9
 get:∀(i:O)(a:Zs)(p:aa),as[i]?=W a->ps[i]?=W p->H a=W (Y' (p.map B))
def LH.ll {K:ao}(h:LH H as ps):LL K H as ps:=#[h.len,λi a p b c=>Zw (h.get i a p b c)]
def LH.same (h:LH H as ps)(s:Same H b):LH b as ps:=#[h.len,λi a p c d=>s _ _ (h.get i a p c d)]
def LH.nil (H:Hp):LH H [] []:=#[U,λi a p b _=>by simp at b]
def LH.snoc {a:Zs}{p:aa}(h:LH H as ps)(e:H a=W (Y' (p.map B))):LH H (as++[a]) (ps++[p]):=by
 refine#[by simp[h.len],λi b r c d=>?_];by_cases z:i<as.9
 .rw[dH z]at c;rw[dH #v[<-h.len,z]]at d;exact h.get i b r c d
 .rw[dQ ()]at c;rw[dQ (by rw[<-h.len];lk),<-h.len]at d;let f:i-as.9=0:=by
   rcases zcq (i-as.9) with y|y
   .exact y
   .rw[yj (by simp;lk)]at c;cases c
  rw[f]at c d;simp at c d;rw[<-c,<-d];calc e
def LH.set {a:Zs}{p:aa}(h:LH H as ps)(e:H a=W (Y' (p.map B)))(i:O):LH H (as.set i a) (ps.set i p):=by
 refine#[by simp[h.len],λj b r c d=>?_];by_cases z:i=j
 .subst z;let f:i<as.9:=by let:=(a_.mp c).1;simpa using this
  rw[x_ f]at c;rw[x_ #v[<-h.len,f]]at d;rw[<-Zv c,<-Zv d];exact e
 .rw[qD z]at c d;calc h.get j b r c d
def LH.upd {b:Zs}(h:LH H as ps)(n:b∉as):LH (Zx H b o) as ps:=⟨h.len,λi a p c d=>by
 rw[aK (λz=>n #v[<-z,cH c])];calc h.get i a p c d⟩
def LH.mem (h:LH H as ps){a:Zs}(b:a∈as):∃p:aa,H a=W (Y' (p.map B)):=by
 cases di.mp b,i,hi,e;let c:i<ps.9:=by rw[<-h.len];exact hi
 calc#[ps[i],h.get i a ps[i] #v[<-e,aq hi] (aq c)]
def LH.notin (h:LH H as ps){a:Zs}(b:H a=Zy):a∉as:=λz=>by
 cases h.mem z,p,e;rw[b]at e;cases e
def ff (w:O)(XW:aB)(cs:aE)(p:Y):O->ae
 |0=>[]
 |n+1=>ff w XW cs p n++[(eJ (dq w (XW.getD n []) n p) (ff w XW cs p n) cs n).2]
def gJ (w:O)(XW:aB)(cs:aE)(p:Y)(n:O):aa:=(eJ (dq w (XW.getD n []) n p) (ff w XW cs p n) cs n).2
theorem fP (w:O)(XW:aB)(cs:aE)(p:Y):∀n,(ff w XW cs p n).9=n
 |0=>rfl
 |n+1=>by rw[ff,cC,fP w XW cs p n];rfl
def Piv (w:O)(XW:aB)(cs:aE)(p:Y)(n:O):Prop:=∀i,i<n->Z (gJ w XW cs p i) (cs.getD i 0)≠0
def VecAt (H:Hp)(M:ap)(u:Zs)(q:ae):Prop:=∃as:ap,H u=W (Y' (as.map L))/\LH H as q/\u∉M/\∀a∈as,a∉M
def TabAt (H:Hp)(M:ap)(w:O)(XW:aB)(cs:aE)(e:Key×V):Prop:=∃(p:Y)(ta:Zs)(n:O)(rs:ap),e=(.inl p,.ref ta)/\ta∈M/\H ta=W (Y' (rs.map L))/\LH H rs (ff w XW cs p n)/\n<=XW.9/\Piv w XW cs p n/\∀r∈rs,r∉M
structure Spn {K:ao}{mg:ck}(T:Tx K mg)(H:Hp)(x dx Kp Cl Tb:Zs)(us:ap)(kvs:G (Key×V))(M:ap)(w:O)(XW:aB)(cs:aE)(pl:Y):Prop where
 hx:H x=W (.ins T.We dx (jV w Kp Cl pl Tb))
 hK:H Kp=W (Y' (us.map L))
 hC:H Cl=W (Y' ((cs.map λc:O=>(c:Y)).map B))
 hT:H Tb=W (.dK kvs)
 lk:us.9=XW.9
 lc:cs.9=XW.9
 vec:∀(i:O)(u:Zs)(q:ae),us[i]?=W u->XW[i]?=W q->VecAt H M u q
 tab:∀e∈kvs,TabAt H M w XW cs e
 inj:∀e∈kvs,∀e'∈kvs,e.2=e'.2->e.1=e'.1
 mem:x∈M/\Kp∈M/\Cl∈M/\Tb∈M
 out:∀e∈kvs,e.2≠.ref Kp/\e.2≠.ref Cl
 ne:Kp≠Cl
 al:∀a∈M,∃o,H a=W o
def KX (M:ap)(H H':Hp):Prop:=∀y o,y∉M->H y=W o->H' y=W o
def LH.kx (h:LH H as ps)(k:KX M H b)(n:∀a∈as,a∉M):LH b as ps:=#[h.len,λi a p c d=>k _ _ (n a (cH c)) (h.get i a p c d)]
def VecAt.same (h:VecAt H M u q)(s:Same H a):VecAt a M u q:=by
 cases h,as,b,c,d,e;calc#[as,s _ _ b,c.same s,d,e]
def TabAt.same {w:O}{e:Key×V}(h:TabAt H M w XW cs e)(s:Same H a):TabAt a M w XW cs e:=by
 cases h,p,b,n,c,d,f,i,j,k;calc#[p,b,n,c,d,f,s _ _ i,j.same s,k]
section
variable {K:ao}{mg:ck}{T:Tx K mg}{H H':Hp}{x dx Kp Cl Tb:Zs}{us:ap}{kvs:G (Key×V)}{M:ap}{w:O}{XW:aB}{cs:aE}{pl:Y}
def Spn.same (h:Spn T H x dx Kp Cl Tb us kvs M w XW cs pl)(s:Same H H'):Spn T H' x dx Kp Cl Tb us kvs M w XW cs pl:=
 #[s _ _ h.hx,s _ _ h.hK,s _ _ h.hC,s _ _ h.hT,h.lk,h.lc,λi u q b c=>(h.vec i u q b c).same s,λe d=>(h.tab e d).same s,h.inj,h.mem,h.out,h.ne,λa f=>by cases h.al a f,o,e;calc#[o,s _ _ e]]
theorem Spn.put {p:Y}(S:Spn T H x dx Kp Cl Tb us kvs M w XW cs pl)(d:H D=Zy)(hn:∀e∈kvs,e.1≠.inl p):
  Spn T (Zx (Zx H D (Y' [])) Tb (.dK (kvs++[(.inl p,.ref D)]))) x dx Kp Cl Tb us (kvs++[(.inl p,.ref D)]) (D::M) w XW cs pl:=by
 cases S.mem,m1,m2,m3,m4;let u:=au d (Y' []);let f:∀{y:Zs}{o:HO},H y=W o->(∀z,o≠.dK z)->Zx (Zx H D (Y' [])) Tb (.dK (kvs++[(.inl p,.ref D)])) y=W o:=λ{y o} e hz=>by
  let:y≠Tb:=λz=>by rw[z,S.hT]at e;cases e;exact hz _ U
  rw[aK this];exact u _ _ e
 let P:∀{y:Zs}{o:HO},H y=W o->y≠D:=λ{y o} e z=>by rw[z,d]at e;cases e
 let dT:D≠Tb:=λz=>by rw[z,S.hT]at d;cases d
 let lh:∀{as:ap}{k:ae},LH H as k->LH (Zx (Zx H D (Y' [])) Tb (.dK (kvs++[(.inl p,.ref D)]))) as k:=λh=>#[h.len,λi a E Q R=>f (h.get i a E Q R) (λz y=>nomatch y)]
 let l:∀{as:ap}{k:ae},LH H as k->(∀a∈as,a∉M)->∀a∈as,a∉D::M:=λ{as k} h n a F z=>by
  rcases bV.mp z with z|z
  .cases di.mp F,i,hi,rfl;let:=h.get i _ _ (aq hi) (aq #v[<-h.len,hi]);exact P this z
  .exact n a F z
 refine#[f S.hx (λz y=>nomatch y),f S.hK (λz y=>nomatch y),f S.hC (λz y=>nomatch y),ai,S.lk,S.lc,λi v q Q R=>?_,λe b=>?_,λe b e' c z=>?_,#[.tail _ m1,.tail _ m2,.tail _ m3,.tail _ m4],λe b=>?_,S.ne,λa F=>?_]
 .cases S.vec i v q Q R,as,j,m,s,I;calc#[as,f j (λz y=>nomatch y),lh m,λz=>?_,l m I];rcases bV.mp z with z|z
  .exact P j z
  .exact s z
 .rcases b5.mp b with b|b
  .cases S.tab e b,E,X,n,rs,j,m,s,I,h5,h6,h7;exact#[E,X,n,rs,j,.tail _ m,f s (λz y=>nomatch y),lh I,h5,h6,l I h7]
  .rw[bZ.mp b];exact#[p,D,0,[],rfl,.head _,#v[aK dT,ai],LH.nil _,bh _,λi hi=>(),λr hr=>by simp at hr]
 .let C:∀e∈kvs,e.2≠.ref D:=λe b z=>by
   cases S.tab e b,E,X,n,rs,j,m,s,_;rw[j]at z;let:X=D:=by injection z
   exact P s this
  rcases b5.mp b with b|b <;> rcases b5.mp c with c|c
  .exact S.inj e b e' c z
  .rw[bZ.mp c]at z ⊢;exact Zq z (C e b)
  .rw[bZ.mp b]at z ⊢;exact Zq z.symm (C e' c)
  .rw[bZ.mp b,bZ.mp c]
 .rcases b5.mp b with b|b
  .exact S.out e b
  .rw[bZ.mp b];refine#[λz=>?_,λz=>?_]
   .injection z with z;rw[z,S.hK]at d;cases d
   .injection z with z;rw[z,S.hC]at d;cases d
 .by_cases z:a=Tb
  .rw[z];exact#[_,ai]
  .rw[aK z];rcases bV.mp F with y|y
   .rw[y];exact#[_,ai]
   .cases S.al a y,o,e;calc#[o,u _ _ e]
def Spn.row {n:O}{rs:ap}(S:Spn T H x dx Kp Cl Tb us kvs M w XW cs pl)(s:(YA p,L b)∈kvs)(C:H b=W (Y' (rs.map L)))(E:LH H rs (ff w XW cs p n))(c:∀r∈rs,r∉M)(hn:n<XW.9)(hp:Piv w XW cs p (n+1))(eR:H R=W (Y' ((gJ w XW cs p n).map B)))(P:R∉M):
  Spn T (Zx H b (Y' ((rs++[R]).map L))) x dx Kp Cl Tb us kvs M w XW cs pl:=by
 cases S.tab _ s,p0,x0,n0,y0,g1,g2,g3,_;let Q:b∈M:=by injection g1 with _ z;injection z with z;rw[z];exact g2
 let kx:KX M H (Zx H b (Y' ((rs++[R]).map L))):=λy o ny e=>by
  let d:y≠b:=λz=>ny #v[z,Q];rw[aK d];exact e
 let o:=S.out _ s;let X:∀{y:Zs}{u:HO},H y=W u->(∀z,u≠.lst z)->Zx H b (Y' ((rs++[R]).map L)) y=W u:=λ{y u} e hz=>by
  rw[aK (λz=>by rw[z,C]at e;cases e;calc hz _ U)];exact e
 refine#[X S.hx (λz y=>nomatch y),?_,?_,X S.hT (λz y=>nomatch y),S.lk,S.lc,λi v q e1 e2=>?_,λe f=>?_,S.inj,S.mem,S.out,S.ne,λa ha=>?_]
 .rw[aK (λz=>o.1 (by rw[z]))];exact S.hK
 .rw[aK (λz=>o.2 (by rw[z]))];exact S.hC
 .cases S.vec i v q e1 e2,as,k,F,l,m;exact#[as,kx _ _ l k,F.kx kx m,l,m]
 .by_cases z:e.2=.ref b
  .let ek:=S.inj _ f _ s z;let ee:e=(.inl p,.ref b):=Prod.ext ek z;rw[ee];refine#[p,b,n+1,rs++[R],rfl,Q,ai,?_,hn,hp,λr hr=>?_]
   .exact (E.kx kx c).snoc (kx _ _ P eR)
   .rcases b5.mp hr with h|h
    .exact c r h
    .rw[bZ.mp h];exact P
  .cases S.tab e f,p',j,n',I,k,F,l,m,h5,h6,h7;let d:j≠b:=λy=>z (by rw[k,y]);exact#[p',j,n',I,k,F,#v[aK d,l],m.kx kx h7,h5,h6,h7]
 .by_cases z:a=b
  .rw[z];exact#[_,ai]
  .rw[aK z];calc S.al a ha
end
def KW (x Kp Cl Tb:Zs)(kvs:G (Key×V))(H H':Hp):Prop:=∀y o,y≠x->y≠Kp->y≠Cl->y≠Tb->(∀e∈kvs,e.2≠L y)->H y=W o->H' y=W o
theorem Spn.kx {K:ao}{mg:ck}{T:Tx K mg}{a:G (Key×V)}{w:O}(Q:Spn T H x dx c f i us a M w XW cs pl)(k:KW x c f i a H b):KX M H b:=λy o j e=>by
 cases Q.mem,l,m,q,r;let d:∀{z:Zs},z∈M->y≠z:=λ{z} s h=>j #v[h,s];calc k y o (d l) (d m) (d q) (d r) (λu C z=>?_) e;cases Q.tab u C,p,I,n,P,E,F,_;rw[E]at z;injection z with z;calc j #v[<-z,F]
structure TBd (w:O)(XW:aB)(cs:aE)(p:Y):Prop where
 w20:w<=20
 bp:Bd 40 p
 low:∀n,n<XW.9->Piv w XW cs p n->LowOk (dq w (XW.getD n []) n p) (ff w XW cs p n) cs
 vec:∀q∈XW,q.9<=20/\∀f∈q,f.9<=60/\∀c∈f,Bd 1000 c
def Sf {K:ao}{H:Hp}{a:Zs}{b:G (Key×V)}(h:H a=W (.dK b)):tyV K "dict" (.ref a) H:=.inr (.inr (.inl #[U,.inl #[_,h]]))
def Sg {K:ao}{mg:ck}(T:Tx K mg):Sp:=λvs H Q _=>∃(x dx Kp Cl Tb:Zs)(us:ap)(kvs:G (Key×V))(M:ap)(w:O)(XW:aB)(cs:aE)(pl p:Y),vs=[.ref x,.int p]/\Spn T H x dx Kp Cl Tb us kvs M w XW cs pl/\TBd w XW cs p/\kvs.9<=900/\XW.9<=20/\
 ∀(H':Hp)(kvs':G (Key×V))(M':ap),Spn T H' x dx Kp Cl Tb us kvs' M' w XW cs pl->KW x Kp Cl Tb kvs H H'->(∀a∈M,a∈M')->(∀a∈M',a∈M\/H a=Zy)->kvs'.9<=kvs.9+1->(∀e∈kvs',e∈kvs\/∀a,e.2=L a->H a=Zy)->
  (∀(ta:Zs)(rs:ap),ta∈M'->H' ta=W (Y' (rs.map L))->LH H' rs (ff w XW cs p XW.9)->Piv w XW cs p XW.9->Q (.ref ta) H')/\(¬Piv w XW cs p XW.9->Q .non H')
def Sh {b:G (Key×V)}{k:Key}(h:gm b k=Zy):(∀e∈b,e.1≠k)/\∀v,jN b k v=b++[(k,v)]:=by
 let a:∀e∈b,e.1≠k:=λe c z=>by
  unfold gm at h;rw[Option.map_eq_none_iff,List.find?_eq_none]at h;exact h e c (by simp[z])
 calc#[a,λv=>?_];unfold jN;rw[N];rw[List.any_eq_true]
 rintro ⟨e,c,z⟩
 calc a e c (⇑z)
def Si {a:G (Key×V)}{k:Key}(h:gm a k=W u):(k,u)∈a:=by
 unfold gm at h;cases e_.mp h,e,b,rfl;let c:=List.find?_some b;let d:=List.mem_of_find?_eq_some b;let:e.1=k:=by simpa using c
 rw[<-this];calc d
def JL:FnOk P w K mg base CX0 3 T.Xl.ax T.Xl.dx ["self","place"] (Sg T):=by
 refine T.Xl.Fx.ok wP (λvs H Q E h=>?_) (λx3 A outer s H vs Q E hr h=>?_)
 .cases h,x,dx,Kp,Cl,Tb,us,f,M,w,XW,k,pl,p,rfl,_;rfl
 cases h,x,dx,Kp,Cl,Tb,us,f,M,w,XW,k,pl,p,rfl,S,B,l9,y3,q;refine#[_,s!"hɝ,ĿɚsǕǖǗǘʗ˱#>ɰ˶¨̄̈ˎɩʜĿɚ̄ʰĿʄŷɣŸŹźɭ˛Ż-żɢŽʡʗ̅˃ʛ̵#ˎ͘ɥɲɥʗ̅ɟ̶͙̓ɪ̘͔",?_]
 obtain⟨J,hJ⟩:∃J:O->L2.St->Hp->Prop,∀m σ H',J m σ H'↔∃(l:Zs)(n:O)(C:ap)(b:G (Key×V))(X:ap)(r3 r4:Zk V),σ=[W (L x),W (V' p),W (L l),r3,r4]/\Spn T H' x dx Kp Cl Tb us b X w XW k pl/\(YA p,L l)∈b/\H' l=W (Y' (C.map L))/\LH H' C (ff w XW k p n)/\n<=XW.9/\Piv w XW k p n/\(∀r∈C,r∉X)/\KW x Kp Cl Tb f H H'/\(∀a∈M,a∈X)/\(∀a∈X,a∈M\/H a=Zy)/\b.9<=f.9+1/\(∀e∈b,e∈f\/∀a,e.2=L a->H a=Zy)/\m=XW.9-n:=#[_,λ_ _ _=>Zj]
 room;refine gl (λσ H'=>∃m,J m σ H') ?_ ?_
 .room;walk
  refine#[_,_,_,S.hx,T.Wd,T.XF,_,U,Sf S.hT,bh _,λD nD=>#[Tb,U,f,.inl p,U,au nD _ _ _ S.hT,l9,λu hu=>?_,λhn=>?_]]
  .let u1:=au nD (Y' []);let he:=Si hu;cases S.tab _ he,p',l,n,C,h1,h2,h3,h4,h5,h6,h7;injection h1 with z1 z2;injection z1 with z1;subst z1 z2;exact#[_,(hJ _ _ _).mpr #[l,n,C,f,M,Zy,Zy,U,S.same u1,he,u1 _ _ h3,h4.same u1,h5,h6,h7,λy o _ _ _ _ _ e=>u1 _ _ e,λ_ h=>h,λ_ h=>.inl h,(),λ_ h=>.inl h,U]]
  .cases Sh hn,x2,y2;rw[y2];let c:=S.put nD x2;let dT:D≠Tb:=λz=>by rw[z,S.hT]at nD;cases nD
   refine#[_,(hJ _ _ _).mpr #[D,0,[],_,D::M,Zy,Zy,rfl,c,by simp,#v[aK dT,ai],LH.nil _,bh _,λi hi=>(),λr hr=>by simp at hr,λy o _ _ _ d _ e=>?_,λa h=>.tail _ h,λa h=>?_,by simp,λe h=>?_,rfl]]
   .rw[aK d];exact au nD _ _ _ e
   .rcases bV.mp h with z|z
    .exact .inr #v[z,nD]
    .exact .inl z
   .rcases b5.mp h with z|z
    .exact .inl z
    .rw[bZ.mp z];exact .inr λa y=>by injection y with y;rw[<-y];exact nD
 rintro σ H1 ⟨m,hm⟩
 w_up
 calc iA J m hm ?_;clear hm;intro m σ H2 hm;cases (hJ _ _ _).mp hm,l,n,C,b,X,r3,r4,rfl,c,he,j,F,nk,pv,x0,kx,ms,mf,y0,tk,rfl;let u0:(C.map L).9=n:=by rw[af,F.len,fP]
 let u2:(us.map L).9=XW.9:=by rw[af];exact c.lk
 cases q H2 b X c kx ms mf y0 tk,q1,q2;cases c.tab _ he,_,z3,_,_,g1,g2,_;let tM:l∈X:=by injection g1 with _ z;injection z with z;rw[z];exact g2
 room;walk
 calc#[_,.inl (Zw j),_,_,_,c.hx,T.Wd,T.WE,_,U,Kp,U,_,.inl (Zw c.hK),?_];rw[u0,u2];refine cu (λz=>?_) (λz=>?_)
 .let hn:n<XW.9:=()
  let hu:n<us.9:=by let:=c.lk;lk
  let y1:XW[n]?=W XW[n]:=aq hn;cases c.vec n _ _ (aq hu) y1,as,v1,v2,v3,v4;let ek:XW.getD n []=XW[n]:=by rw[aD,y1];rfl
  cases B.vec _ (cD hn),b1,b2;let lo:=B.low n hn pv;let j0:n<k.9:=by let:=c.lc;lk
  calc#[J (XW.9-(n+1)),λu3 H' z=>#[_,(),z],_,.inl (Zw j),_,_,c.hx,rfl,_,_,_,c.hx,T.Wd,T.WE,_,rfl,Kp,rfl,?_];rw[u0];refine#[_,Zw c.hK,L us[n],jK (by rw[a7,aq hu];rfl),x,dx,Kp,Cl,Tb,us[n],pl,w,n,p,as,XW[n],rfl,c.hx,Zw v1,v2.ll,B.w20,b1,B.bp,b2,λR H3 s3 nR eR=>?_];let S3:=c.same s3;rw[<-ek]at eR;calc#[_,_,_,S3.hx,T.Wd,T.W3,_,U,R,l,Cl,_,C,_,k,U,Zw eR,Zw (s3 _ _ j),(F.same s3).ll,Zw S3.hC,lo,λR' H4 s4 dR j2=>?_];let S4:=S3.same s4;let I:=s3.trans s4;rw[fP]at dR j2;let k2:H4 R'=W (Y' ((gJ w XW k p n).map V'))/\H2 R'=Zy:=by
   rcases dR with ⟨z1,z2⟩|⟨z1,z2⟩
   .let n0:n=0:=by let:=fP w XW k p n;rw[z2]at this;exact this.symm
    subst n0;rw[z1];exact#[s4 _ _ eR,nR]
   .exact#[z2,s3.free z1]
  cases k2,k0,m2;let ll:=pZ lo n #v[fP,aC _];let j1:=lo.col _ (cD j0);refine#[_,_,_,S4.hx,T.Wd,T.W3,_,U,Cl,U,_,Zw S4.hC,V' (k[n]:Y),jK (by rw[a7,a7,aq j0];rfl),R',rfl,_,rfl,_,Zw k0,_,oi (show k[n]<(gJ w XW k p n).9 by unfold gJ;rw[ll];calc j1),?_];let ec:k.getD n 0=k[n]:=by rw[aD,aq j0];rfl
  let m1:KW x Kp Cl Tb f H H4:=λy o a1 a2 a3 a4 a5 e=>I _ _ (kx y o a1 a2 a3 a4 a5 e);let x1:R'∉X:=λz=>by cases c.al _ z,o,e;rw[m2]at e;cases e
  room;walk
  refine cu (λz0=>?_) (λz0=>?_)
  .exact (q H4 b X S4 m1 ms mf y0 tk).2 λhp=>hp n hn #v[ec,z0]
  let hp1:Piv w XW k p (n+1):=λi hi=>by
   by_cases z:i<n
   .exact pv i z
   .rw[show i=n by lk,ec];exact z0
  let S5:=S4.row he (I _ _ j) (F.same I) x0 hn hp1 k0 x1;let n2:∀r∈C++[R'],r∉X:=λr hr=>by
   rcases b5.mp hr with h|h
   .exact x0 r h
   .rw[bZ.mp h];exact x1
  let kt:KX X H4 (Zx H4 l (Y' ((C++[R']).map L))):=λy o ny e=>by
   let d:y≠l:=λz=>ny #v[z,tM];rw[aK d];exact e
  let et:(C++[R']).map L=C.map L++[L R']:=by rw[aY];rfl
  rw[et]at S5 kt;refine#[iz (Zw (I _ _ j)),_,I _ _ j,#v[u0,cy ()],(hJ _ _ _).mpr #[l,n+1,C++[R'],b,X,_,_,rfl,S5,he,by rw[ai,et],?_,(),hp1,n2,λy o a1 a2 a3 a4 a5 e=>?_,ms,mf,y0,tk,rfl]]
  .exact ((F.same I).kx kt x0).snoc (kt _ _ x1 k0)
  .let e4:=m1 y o a1 a2 a3 a4 a5 e;let d:y≠l:=λz=>by
    rcases tk _ he with h|h
    .exact a5 _ h (by rw[z])
    .rw[z,h l U]at e;cases e
   rw[aK d];exact e4
 .let e:n=XW.9:=()
  rw[e]at F pv;calc q1 l C tM j F pv
def fm (w:O)(XW:aB)(cs:aE)(q:ae)(p:Y):aa:=(eJ (dq w q XW.9 p) (ff w XW cs p XW.9) cs XW.9).2
def VecAt.kx (h:VecAt H M u q)(k:KX M H a):VecAt a M u q:=by
 cases h,as,d,e,b,c;calc#[as,k _ _ b d,e.kx k c,b,c]
def VecAt.more {M M':ap}(h:VecAt H M u q)(d:∀a∈M',a∈M\/H a=Zy):VecAt H M' u q:=by
 cases h,as,c,b,f,j;let ne:∀{y:Zs}{o:HO},H y=W o->y∉M->y∉M':=λ{y o} e n z=>by
  rcases d y z with h|h
  .exact n h
  .rw[h]at e;cases e
 calc#[as,c,b,ne c f,λa k=>?_];cases di.mp k,i,hi,rfl;calc ne (b.get i _ _ (aq hi) (aq #v[<-b.len,hi])) (j _ (cD hi))
def Sj {K:ao}{mg:ck}(T:Tx K mg):Sp:=λvs H Q _=>∃(x dx Kp Cl Tb Vc:Zs)(us:ap)(kvs:G (Key×V))(M:ap)(w:O)(XW:aB)(cs:aE)(pl p:Y)(q:ae),vs=[.ref x,.ref Vc,.int p]/\Spn T H x dx Kp Cl Tb us kvs M w XW cs pl/\TBd w XW cs p/\kvs.9<=900/\XW.9<=20/\VecAt H M Vc q/\q.9<=20/\(∀f∈q,f.9<=60/\∀c∈f,Bd 1000 c)/\(Piv w XW cs p XW.9->LowOk (dq w q XW.9 p) (ff w XW cs p XW.9) cs)/\
 ∀(H':Hp)(kvs':G (Key×V))(M':ap),Spn T H' x dx Kp Cl Tb us kvs' M' w XW cs pl->KW x Kp Cl Tb kvs H H'->(∀a∈M,a∈M')->(∀a∈M',a∈M\/H a=Zy)->kvs'.9<=kvs.9+1->(∀e∈kvs',e∈kvs\/∀a,e.2=L a->H a=Zy)->
  (∀R:Zs,R∉M'->H' R=W (Y' ((fm w XW cs q p).map B))->Piv w XW cs p XW.9->Q (.ref R) H')/\(¬Piv w XW cs p XW.9->Q .non H')
def JM:FnOk P w K mg base CX0 4 T.Xm.ax T.Xm.dx ["self","vector","place"] (Sj T):=by
 refine T.Xm.Fx.ok Jx (λvs H Q E h=>?_) (λk0 A outer s H vs Q E r h=>?_)
 .cases h,x,dx,l,m,u,Vc,C,c,M,w,XW,d,pl,p,q,rfl,_;rfl
 cases h,x,dx,l,m,u,Vc,C,c,M,w,XW,d,pl,p,q,rfl,S,B,l9,F,hV,I,bq,lo,f;refine#[_,s!"ʜǙɚ˛ž-ſɜŀƀ̂ʸăɴ̷̶ʨŷɜŀ ŸŹźɭ˛Ż-żɜŀŽʦ#̈ˎʤ˃#ˎ",?_]
 w_up
 refine#[dx,_,S.hx,U,x,dx,l,m,u,C,c,M,w,XW,d,pl,p,U,S,B,l9,F,λH1 a X b kx ms mf lk tk=>#[λta rs tM x0 y0 pv=>?_,λnp=>?_]]
 .obtain⟨as,v1,v2,v3,v4⟩:=hV.kx (S.kx kx)
  w_up
  rw[N (λz=>nomatch z)];let z0:(C.map L).9=XW.9:=by rw[af];exact b.lk
  calc#[_,_,b.hx,U,_,_,_,b.hx,T.Wd,T.WE,_,U,l,U,_,.inl (Zw b.hK),?_];rw[z0];calc#[x,dx,l,m,u,Vc,pl,w,XW.9,p,as,q,U,b.hx,Zw v1,v2.ll,B.w20,I,B.bp,bq,λR H3 j nR eR=>?_];let S3:=b.same j;calc#[_,_,_,S3.hx,T.Wd,T.W3,_,U,R,ta,m,_,rs,_,d,U,Zw eR,Zw (j _ _ x0),(y0.same j).ll,Zw S3.hC,lo pv,λn H4 s4 dR u0=>?_];let S4:=S3.same s4;rw[fP]at dR u0;let k:H4 n=W (Y' ((fm w XW d q p).map V'))/\H1 n=Zy:=by
   rcases dR with ⟨z1,z2⟩|⟨z1,z2⟩
   .let n0:XW.9=0:=by let:=fP w XW d p XW.9;rw[z2]at this;exact this.symm
    unfold fm;rw[n0]at eR ⊢;rw[z1];exact#[s4 _ _ eR,nR]
   .exact#[z2,j.free z1]
  let j0:n∉X:=λz=>by cases b.al _ z,o,e;rw[k.2]at e;cases e
  exact (f H4 a X S4 (λy o a1 a2 a3 a4 a5 e=>s4 _ _ (j _ _ (kx y o a1 a2 a3 a4 a5 e))) ms mf lk tk).1 n j0 k.1 pv
 .room;walk
  calc (f H1 a X b kx ms mf lk tk).2 np
def fI (qs:aB)(ws:ae)(c:O):O->aa
 |0=>[]
 |n+1=>gH (fI qs ws c n) (ah ((qs.getD n []).getD c []) (ws.getD n []))
def mem_getD {α:Type}{xs:G α}{i:O}{d:α}(h:i<xs.9):xs.getD i d∈xs:=#v[aD,aq h,cD _]
structure FcOk (w:O)(qs:aB)(ws:ae):Prop where
 len:ws.9=qs.9
 few:qs.9<=20
 w20:w<=20
 wid:∀q∈qs,q.9=w
 bq:∀q∈qs,∀f∈q,f.9<=40/\∀c∈f,Bd 1000 c
 bw:∀f∈ws,f.9<=40/\∀c∈f,Bd 20000 c
theorem Du {w:O}{c:O}(o:FcOk w a ws)(d:c<w):∀n,n<=a.9->(fI a ws c n).9<=80/\∀x∈fI a ws c n,Bd (21010+n) x
 |0,_=>#[bh _,λx hx=>by simp[fI]at hx]
 |n+1,hn=>by
  cases Du o d n (),q,e;let b:(a.getD n [])∈a:=mem_getD ();let f:(ws.getD n [])∈ws:=mem_getD (by let:=o.len;lk);let r:=o.wid _ b;let h:((a.getD n []).getD c [])∈a.getD n []:=mem_getD ();cases o.bq _ b _ h,i,j;cases o.bw _ f,s,l;let u:(ah ((a.getD n []).getD c []) (ws.getD n [])).9<=80:=by
   by_cases z:ws.getD n []=[]
   .rw[z,Di];exact bh _
   .let:=Do ((a.getD n []).getD c []) (ws.getD n []) z;lk
  let m:∀k,Bd 21006 (Z (ah ((a.getD n []).getD c []) (ws.getD n [])) k):=λk=>by
   rw[pY];exact iD (c:=6) j l (aP i ()) k
  calc#[aP (Dn _ _) (),cP λk=>?_];show Bd _ (Z (gH _ _) k);rw[wT];calc (cV (P:=λv=>Bd (21010+n) v) e (Bd.zero _) k).add ((m k).mono ())
def Sk {K:ao}{mg:ck}(T:Tx K mg):Sp:=λvs H Q _=>∃(x dx Kp Cl Tb Vc Wt:Zs)(us:ap)(kvs:G (Key×V))(M:ap)(w:O)(XW:aB)(cs:aE)(pl:Y)(q:ae)(ad:ap)(ws:ae),vs=[.ref x,.ref Vc,.ref Wt]/\Spn T H x dx Kp Cl Tb us kvs M w XW cs pl/\VecAt H M Vc q/\SqL K H Wt (ad.map L)/\LL K H ad ws/\FcOk w (XW++[q]) ws/\
 ∀H',Same H H'->(∀c:O,c<w->c∉cs->fI (XW++[q]) ws c (XW.9+1)≠[]->(∀c',c'<c->c'∉cs->fI (XW++[q]) ws c' (XW.9+1)=[])->Q (.int (c:Y)) H')/\((∀c,c<w->c∉cs->fI (XW++[q]) ws c (XW.9+1)=[])->Q .non H')
def Sl:FnOk P w K mg base CX0 4 T.Xr.ax T.Xr.dx ["self","vector","weights"] (Sk T):=by
 refine T.Xr.Fx.ok oe (λvs H Q E h=>?_) (λg3 A outer s H vs Q E hr h=>?_)
 .cases h,x,dx,Kp,Cl,Tb,b,Wt,R,y2,M,w,XW,cs,pl,q,ad,ws,rfl,_;rfl
 cases h,x,dx,Kp,Cl,Tb,b,Wt,R,y2,M,w,XW,cs,pl,q,ad,ws,rfl,S,hV,hW,lW,o,j0;refine#[_,s!"˷ˎɶ7âɚʸǚɴʗǛ1ǜIʰâ˩ʆ˰#͖ʗ>ʛʤ˿DầFấʑ:âʄýɣþÿĀɤ:ʏ˙ʡʞ̸̅ɰ1ʋwɱ:$̓ɴʼ_",?_]
 w_up
 refine#[_,_,_,S.hx,T.Wd,T.W4,_,U,_,U,by let:=o.w20;lk,by let:=o.w20;lk,?_];rw[gB];let w20:=o.w20;obtain⟨Pv,j⟩:∃Pv:O->L2.St->Hp->Prop,∀i l H',Pv i l H'↔∃r3 r4 r5 r6:Zk V,l=[W (Z' x),W (Z' b),W (Z' Wt),r3,r4,r5,r6]/\Same H H'/\∀c,c<i->c∉cs->fI (XW++[q]) ws c (XW.9+1)=[]:=#[_,λ_ _ _=>Zj]
 refine ie Pv ((j _ _ _).mpr #[Zy,Zy,Zy,Zy,U,Same.refl _,λc I=>()]) ?_ ?_
 .intro i l H1 hi hp;cases (j _ _ _).mp hp,r3,r4,r5,r6,rfl,s1,hz;let e0:(0:Y)+(i:Y)=(i:Y):=ij _;let S1:=S.same s1;let fl:((cs.map λc:O=>(c:Y)).map B).all iI=K':=by simp[iI]
  w_up
  rw[e0];calc#[_,_,_,S1.hx,T.Wd,T.W3,_,U,Cl,U,_,.inl (Zw S1.hC),U,fl,?_];rw[QI];let x0:((i:Y)∈cs.map λc:O=>(c:Y))↔i∈cs:=by
   rw[b8];constructor
   .rintro ⟨c,I,e⟩
    rw[show i=c by lk];exact I
   .intro h;exact#[i,h,U]
  refine cu (λz=>?_) (λz=>?_)
  .let z2:=x0.mp (⇑z);calc (j _ _ _).mpr #[_,_,_,_,U,s1,λc I hn=>?_];by_cases y:c=i
   .rw[y]at hn;exact Zq z2 hn
   .exact hz c () hn
  let k0:i∉cs:=λh=>z (by simpa using x0.mpr h)
  w_up
  calc#[bh _,λA0 j2=>?_];let u0:=au j2 (Y' []);let n0:=ai (H:=H1) (a:=A0) (o:=.lst []);generalize Zx H1 A0 (Y' [])=H2 at u0 n0 ⊢;let S2:=S1.same u0
  w_up
  calc#[_,_,_,S2.hx,T.Wd,T.WE,_,U,(),λq1 m1=>?_];let u1:=au m1 (Y' [Z' b]);refine#[Kp,U,_,u1 _ _ S2.hK,_,ai,?_,λq2 m2=>?_]
  .rw[af];let:=S.lk;let:=o.few;simp at this;exact dj (cy (by simp;lk))
  let u2:=au m2 (Y' (R.map Z'++[Z' b]));let e2:=ai (H:=Zx H2 q1 (Y' [Z' b])) (a:=q2) (o:=.lst (R.map Z'++[Z' b]));let s2:=s1.trans (u0.trans (u1.trans u2));let eA:=(u1.trans u2) _ _ n0;generalize Zx (Zx H2 q1 (Y' [Z' b])) q2 (Y' (R.map Z'++[Z' b]))=H3 at e2 s2 eA ⊢;let lk:=S.lk;let few:=o.few;rw[cC]at few;simp only[dO,Ev]at few;let lq:(XW++[q]).9=XW.9+1:=by simp
  let x1:=mF (Φ:=λu qv=>VecAt H M u qv) (L:=XW++[q]) (rs:=R) (r:=b) (λt u qv e1 e2=>by
   let ht:t<XW.9:=by let:=(a_.mp e1).1;lk
   rw[dH ht]at e2;calc S.vec t u qv e1 e2) (λqv e2=>by
   rw[dQ (),show R.9-XW.9=0 by lk]at e2
   cases Zv e2
   calc hV)
  let y1:H3 q2=W (Y' ((R++[b]).map Z')):=by rw[e2,aY];rfl
  obtain⟨Pz,m⟩:∃Pz:O->L2.St->Hp->Prop,∀n l H',Pz n l H'↔∃(An:Zs)(r5 r6:Zk V),l=[W (Z' x),W (Z' b),W (Z' Wt),W (B (i:Y)),W (Z' An),r5,r6]/\H' An=W (Y' ((fI (XW++[q]) ws i n).map B))/\Same H3 H':=#[_,λ_ _ _=>Zj]
  refine#[_,Zw y1,_,s2.seq hW,vz (xs:=(R++[b]).map Z') (ys:=ad.map Z') Pz ((m _ _ _).mpr #[A0,r5,r6,U,eA,Same.refl _]) (λn l H' _ _ y=>by cases (m n l H').mp y,_,_,_,_,_,y;calc#[Zw (y _ _ y1),(s2.trans y).seq hW]) ?_ ?_]
  .intro n v1 v2 pr l H4 e1 e3 y0 k2;cases (m _ _ _).mp y0,An,t5,t6,rfl,X,s4;rw[a7]at e1;cases e_.mp e1,u,hu,rfl;let hn:n<(XW++[q]).9:=by let:=(a_.mp hu).1;simp at this ⊢;lk
   cases lW.nth e3,a,f,rfl,ha,hf,n2;let x3:(XW++[q])[n]?=W ((XW++[q]).getD n []):=gv hn;cases x1 n u _ hu x3,as,v1,v2,v3,v4;let z1:=mem_getD (d:=([]:ae)) hn;let C:=o.wid _ z1;let j1:i<as.9:=by rw[v2.len,C];exact hi
   cases Du o hi n (),b1,b2;let y3:=cH hf;cases o.bw _ y3,c1,c2;let z3:=mem_getD (d:=([]:aa)) (show i<((XW++[q]).getD n []).9 by rw[C];calc hi);cases o.bq _ z1 _ z3,d1,d2;let u3:ws.getD n []=f:=by rw[aD,hf];rfl
   let F:=v2.get i _ _ (aq j1) (gv (d:=[]) (show i<((XW++[q]).getD n []).9 by rw[C];calc hi));let st:fI (XW++[q]) ws i (n+1)=gH (fI (XW++[q]) ws i n) (ah (((XW++[q]).getD n []).getD i []) f):=by rw[fI,u3]
   cases Du o hi (n+1) (),g1,g2;let w1:=au k2 (.tup [Z' u,Z' a]);let z0:=s2.trans (s4.trans w1);generalize ((XW++[q]).getD n []).getD i []=pq at d1 d2 F st;let bm:∀k,Bd 21006 (Z (ah pq f) k):=λk=>by
    rw[pY];exact iD (c:=6) d2 c2 (aP d1 ()) k
   let lm:(ah pq f).9<=80:=by
    by_cases z:f=[]
    .rw[z,Di];exact bh _
    .let:=Do pq f z;lk
   room;walk
   calc#[_,SqT.of ai,U,_,_,U,_,_,U,U,?_];refine#[u,U,_,Zw (z0 _ _ v1),Z' as[i],jK (by rw[a7,aq j1];rfl),as[i],a,pq,f,rfl,Zw (z0 _ _ F),z0.seq n2,(),(),λc I=>(d2 c I).mono (),λc I=>(c2 c I).mono (),λR1 H5 s5 m3 j3=>?_];calc#[An,R1,_,_,U,Zw (s5 _ _ (w1 _ _ X)),Zw j3,(),(),λc I=>(b2 c I).mono (),cP λk=>(bm k).mono (),λR2 H6 s6 n3 k3=>?_];exact (m _ _ _).mpr #[R2,_,_,U,by rw[k3,st],s4.trans (w1.trans (s5.trans s6))]
  intro l H4 y0;cases (m _ _ _).mp y0,An,t5,t6,rfl,X,s4;let x2:min ((R++[b]).map Z').9 (ad.map Z').9=XW.9+1:=by
   let h1:=lW.len;let h2:=o.len;rw[lq]at h2;simp;lk
  rw[x2]at X
  room;walk
  calc#[_,.inl (Zw X),?_];rw[af];refine cu (λz=>?_) (λz=>?_)
  .exact (j0 H4 (s2.trans s4)).1 i hi k0 (λy=>by rw[y]at z;simp at z) hz
  .calc (j _ _ _).mpr #[_,_,_,_,U,s2.trans s4,λc I hn=>?_];by_cases y:c=i
   .rw[y];exact b7 ()
   .exact hz c () hn
 intro l H1 hp;obtain⟨r3,r4,r5,r6,rfl,s1,hz⟩:=(j _ _ _).mp hp
 room;walk
 calc (j0 H1 s1).2 hz
theorem wW {cs:aE}{c:O}:∀i,i<=cs.9->eJ row tb (cs++[c]) i=eJ row tb cs i
 |0,_=>rfl
 |i+1,h=>by
  let e:(cs++[c]).getD i 0=cs.getD i 0:=by rw[aD,aD,dH ()]
  rw[eJ,eJ,wW i (),e]
theorem wX {w:O}{XW:aB}{cs:aE}{q:ae}{c:O}(a:cs.9=XW.9):∀n,n<=XW.9->ff w (XW++[q]) (cs++[c]) p n=ff w XW cs p n
 |0,_=>rfl
 |n+1,h=>by
  let e:(XW++[q]).getD n []=XW.getD n []:=by rw[aD,aD,dH ()]
  rw[ff,ff,wX a n (),e,wW n ()]
def JN {w:O}{XW:aB}{cs:aE}{q:ae}{c:O}{n:O}(b:cs.9=XW.9)(h:n<=XW.9)(d:Piv w XW cs p n):Piv w (XW++[q]) (cs++[c]) p n:=λi hi=>by
 let e:(XW++[q]).getD i []=XW.getD i []:=by rw[aD,aD,dH ()]
 let f:(cs++[c]).getD i 0=cs.getD i 0:=by rw[aD,aD,dH ()]
 let a:=d i hi;unfold gJ at a ⊢;rw[wX b i (),e,wW i (),f];calc a
section
variable {K:ao}{mg:ck}{T:Tx K mg}{H:Hp}{x dx Kp Cl Tb:Zs}{us:ap}{kvs:G (Key×V)}{M:ap}{w:O}{XW:aB}{cs:aE}{pl:Y}
theorem Spn.keep {c:O}(S:Spn T H x dx Kp Cl Tb us kvs M w XW cs pl)(F:VecAt H M b q):
  Spn T (Zx (Zx H Kp (Y' ((us++[b]).map L))) Cl (Y' (((cs++[c]).map λc:O=>(c:Y)).map B))) x dx Kp Cl Tb (us++[b]) kvs M w (XW++[q]) (cs++[c]) pl:=by
 cases S.mem,m1,I,P,m4;let kx:KX M H (Zx (Zx H Kp (Y' ((us++[b]).map L))) Cl (Y' (((cs++[c]).map λc:O=>(c:Y)).map B))):=λy o k e=>by
  let d:y≠Cl:=λz=>k #v[z,P];let f:y≠Kp:=λz=>k #v[z,I];rw[aK d,aK f];exact e
 let l:∀{y:Zs}{u:HO},H y=W u->(∀z,u≠.lst z)->Zx (Zx H Kp (Y' ((us++[b]).map L))) Cl (Y' (((cs++[c]).map λc:O=>(c:Y)).map B)) y=W u:=λ{y u} e m=>by
  let d:y≠Cl:=λz=>by rw[z,S.hC]at e;cases e;exact m _ U
  let f:y≠Kp:=λz=>by rw[z,S.hK]at e;cases e;exact m _ U
  rw[aK d,aK f];exact e
 refine#[l S.hx (λz y=>nomatch y),#v[aK S.ne,ai],ai,l S.hT (λz y=>nomatch y),by simp[S.lk],by simp[S.lc],?_,λe r=>?_,S.inj,S.mem,S.out,S.ne,λa Q=>?_]
 .refine mF (Φ:=λu qv=>VecAt _ M u qv) (λt u qv s h=>?_) λqv h=>?_
  .let R:t<XW.9:=by let:=(a_.mp s).1;let:=S.lk;lk
   rw[dH R]at h;exact (S.vec t u qv s h).kx kx
  .rw[dQ (by let:=S.lk;lk),show us.9-XW.9=0 by let:=S.lk;lk]at h
   cases Zv h
   exact F.kx kx
 .cases S.tab e r,p,i,n,X,j,h2,h3,h4,C,h6,E;let o:=S.out e r;let d:i≠Cl:=λz=>o.2 (by rw[j,z]);let f:i≠Kp:=λz=>o.1 (by rw[j,z]);refine#[p,i,n,X,j,h2,#v[aK d,aK f,h3],?_,by simp;lk,JN S.lc C h6,E];rw[wX S.lc n C];exact h4.kx kx E
 .by_cases z1:a=Cl
  .rw[z1];exact#[_,ai]
  .rw[aK z1];by_cases z2:a=Kp
   .rw[z2];exact#[_,ai]
   .rw[aK z2];calc S.al a Q
theorem Spn.go (S:Spn T H x dx Kp Cl Tb us kvs M w XW cs pl):Spn T (Zx H x (.ins T.We dx (jV w Kp Cl pl' Tb))) x dx Kp Cl Tb us kvs M w XW cs pl':=by
 let kx:KX M H (Zx H x (.ins T.We dx (jV w Kp Cl pl' Tb))):=λy o h e=>by
  let d:y≠x:=λz=>h #v[z,S.mem.1];rw[aK d];exact e
 let b:∀{y:Zs}{u:HO},H y=W u->(∀C d f,u≠.ins C d f)->Zx H x (.ins T.We dx (jV w Kp Cl pl' Tb)) y=W u:=λ{y u} e j=>by
  let d:y≠x:=λz=>by rw[z,S.hx]at e;cases e;exact j _ _ _ U
  rw[aK d];exact e
 refine#[ai,b S.hK (λ_ _ _ y=>nomatch y),b S.hC (λ_ _ _ y=>nomatch y),b S.hT (λ_ _ _ y=>nomatch y),S.lk,S.lc,λi u q k l=>(S.vec i u q k l).kx kx,λe m=>?_,S.inj,S.mem,S.out,S.ne,λa r=>?_]
 .cases S.tab e m,p,s,n,E,F,I,P,Q,R,X,c;exact#[p,s,n,E,F,I,b P (λ_ _ _ y=>nomatch y),Q.kx kx c,R,X,c]
 .by_cases z:a=x
  .rw[z];exact#[_,ai]
  .rw[aK z];calc S.al a r
theorem Spn.more (S:Spn T H x dx Kp Cl Tb us kvs M w XW cs pl)(l:H D=Zy):Spn T (Zx H D o) x dx Kp Cl Tb us kvs (D::M) w XW cs pl:=by
 cases S.mem,r,s,C,E;let u:=au l o;let F:∀{y:Zs}{o:HO},H y=W o->y≠D:=λ{y o} e z=>by rw[z,l]at e;cases e
 let out:∀{y:Zs}{o:HO},H y=W o->y∉M->y∉D::M:=λ{y o} e n z=>by
  rcases bV.mp z with z|z
  .exact F e z
  .exact n z
 let b:∀{as:ap}{m:ae},LH H as m->(∀a∈as,a∉M)->∀a∈as,a∉D::M:=λ{as m} h n a c=>by
  cases di.mp c,i,hi,rfl;exact out (h.get i _ _ (aq hi) (aq #v[<-h.len,hi])) (n _ c)
 refine#[u _ _ S.hx,u _ _ S.hK,u _ _ S.hC,u _ _ S.hT,S.lk,S.lc,λi v q I P=>?_,λe Q=>?_,S.inj,#[.tail _ r,.tail _ s,.tail _ C,.tail _ E],S.out,S.ne,λa c=>?_]
 .cases S.vec i v q I P,as,d,f,k,j;exact#[as,u _ _ d,f.same u,out d k,b f j]
 .cases S.tab e Q,p,R,n,X,d,f,k,j,h5,h6,h7;exact#[p,R,n,X,d,.tail _ f,u _ _ k,j.same u,h5,h6,b j h7]
 .rcases bV.mp c with z|z
  .rw[z];exact#[_,ai]
  .cases S.al a z,o',e;calc#[o',u _ _ e]
theorem Spn.other {D:Zs}(S:Spn T H x dx Kp Cl Tb us kvs M w XW cs pl)(j:D∈M)(n1:D≠x)(k:D≠Kp)(l:D≠Cl)(m:D≠Tb)(r:∀e∈kvs,e.2≠.ref D):Spn T (Zx H D o) x dx Kp Cl Tb us kvs M w XW cs pl:=by
 let kx:KX M H (Zx H D o):=λy u s e=>by
  let d:y≠D:=λz=>s #v[z,j];rw[aK d];exact e
 refine#[#v[aK (ZQ n1),S.hx],#v[aK (ZQ k),S.hK],#v[aK (ZQ l),S.hC],#v[aK (ZQ m),S.hT],S.lk,S.lc,λi v q C E=>(S.vec i v q C E).kx kx,λe b=>?_,S.inj,S.mem,S.out,S.ne,λa F=>?_]
 .cases S.tab e b,p,c,n,I,f,P,Q,R,X,h6,h;let d:c≠D:=λz=>r e b (by rw[f,z]);exact#[p,c,n,I,f,P,#v[aK d,Q],R.kx kx h,X,h6,h]
 .by_cases z:a=D
  .rw[z];exact#[_,ai]
  .rw[aK z];calc S.al a F
end
def KX.trans (k:KX M H b)(f:KX M' b c)(i:∀a∈M',a∈M\/H a=Zy):KX M H c:=λy o d e=>by
 calc f y o (λz=>?_) (k y o d e);rcases i y z with h|h
 .exact d h
 .rw[h]at e;cases e
def mG {M M' M2:ap}(k:KX M H c)(d:∀a∈M',a∈M\/H a=Zy)(b:∀a∈M2,a∈M'\/c a=Zy):∀a∈M2,a∈M\/H a=Zy:=λa f=>by
 rcases b a f with h|h
 .exact d a h
 .by_cases z:a∈M
  .exact .inl z
  .refine .inr ?_
   cases e:H a with
   |none=>rfl
   |some o=>rw[k a o z e]at h;cases h
def Sm {K:ao}{mg:ck}(T:Tx K mg):Sp:=λvs H Q _=>∃(x dx Kp Cl Tb Vc:Zs)(us:ap)(kvs:G (Key×V))(M:ap)(w:O)(XW:aB)(cs:aE)(pl:Y)(q:ae)(c N:O),vs=[.ref x,.ref Vc,.int (c:Y)]/\Spn T H x dx Kp Cl Tb us kvs M w XW cs pl/\VecAt H M Vc q/\XW.9<20/\kvs.9+N+1<=900/\(∀t:O,t<=N->TBd w (XW++[q]) (cs++[c]) (pl+(t:Y)))/\Piv w (XW++[q]) (cs++[c]) (pl+(N:Y)) (XW.9+1)/\
 ∀(H':Hp)(kvs':G (Key×V))(M':ap)(t:O),t<=N->Spn T H' x dx Kp Cl Tb (us++[Vc]) kvs' M' w (XW++[q]) (cs++[c]) (pl+(t:Y))->Piv w (XW++[q]) (cs++[c]) (pl+(t:Y)) (XW.9+1)->KX M H H'->(∀a∈M,a∈M')->(∀a∈M',a∈M\/H a=Zy)->kvs'.9<=kvs.9+t+1->Q .non H'
def JO:FnOk P w K mg base CX0 4 T.Xo.ax T.Xo.dx ["self","vector","column"] (Sm T):=by
 refine T.Xo.Fx.ok RW (λvs H Q E h=>?_) (λj0 A outer s H vs Q E hr h=>?_)
 .cases h,x,dx,f,i,R,k,l,u,M,w,XW,n,pl,q,c,N,rfl,_;rfl
 cases h,x,dx,f,i,R,k,l,u,M,w,XW,n,pl,q,c,N,rfl,S,hV,k0,l9,B,pN,u0;refine#[_,s!"̹ʗʛ̹ʗʤ1ˀ@ă˛ž-ſɢƀɭˎ_ɩ1ǝɡ&Ǟ",?_]
 let lk:=S.lk;let lc:=S.lc
 w_up
 calc#[_,_,_,S.hx,T.Wd,T.WE,_,U,iz (Zw S.hK),f,U,_,S.hK,#v[af,cy ()],?_];let X:Zx H f (Y' (l.map L++[L k])) x=W (.ins T.We dx (jV w f i pl R)):=by
  rw[aK (B4 S.hx S.hK (λz=>nomatch z))];exact S.hx
 let C:Zx H f (Y' (l.map L++[L k])) i=W (Y' ((n.map λc:O=>(c:Y)).map V')):=by
  rw[aK (ZQ S.ne)];exact S.hC
 w_up
 calc#[_,_,_,X,T.Wd,T.W3,_,U,iz (Zw C),i,U,_,C,#v[af,af,cy ()],?_];let S1:=S.keep (c:=c) hV;let eu:(l++[k]).map L=l.map L++[L k]:=by rw[aY];rfl
 let ec:((n++[c]).map λc:O=>(c:Y)).map V'=(n.map λc:O=>(c:Y)).map V'++[V' (c:Y)]:=by rw[aY,aY];rfl
 rw[eu,ec]at S1;let x0:KX M H (Zx (Zx H f (Y' (l.map L++[L k]))) i (Y' ((n.map λc:O=>(c:Y)).map V'++[V' (c:Y)]))):=λy o ny e=>by
  let d1:y≠i:=λz=>ny #v[z,S.mem.2.2.1];let d2:y≠f:=λz=>ny #v[z,S.mem.2.1];rw[aK d1,aK d2];exact e
 generalize Zx (Zx H f (Y' (l.map L++[L k]))) i (Y' ((n.map λc:O=>(c:Y)).map V'++[V' (c:Y)]))=H1 at S1 x0 ⊢;clear X C;let F:(XW++[q]).9=XW.9+1:=by simp
 w_up
 obtain⟨J,hJ⟩:∃J:O->L2.St->Hp->Prop,∀m σ H',J m σ H'↔∃(t:O)(b:G (Key×V))(M':ap),σ=[W (L x),W (L k),W (V' (c:Y))]/\t<=N/\m=N-t/\Spn T H' x dx f i R (l++[k]) b M' w (XW++[q]) (n++[c]) (pl+(t:Y))/\KX M H H'/\(∀a∈M,a∈M')/\(∀a∈M',a∈M\/H a=Zy)/\b.9<=u.9+t:=#[_,λ_ _ _=>Zj]
 refine iA J N ((hJ _ _ _).mpr #[0,u,M,U,bh _,(),by rw[show pl+((0:O):Y)=pl by lk];exact S1,x0,λ_ h=>h,λ_ h=>.inl h,()]) ?_;intro m σ H2 hm;obtain⟨t,b,M',rfl,tN,rfl,S2,j,ms,mf,l2⟩:=(hJ _ _ _).mp hm
 room;walk
 refine#[dx,_,S2.hx,U,_,_,_,S2.hx,T.Wd,T.Xu,_,U,x,dx,f,i,R,l++[k],b,M',w,XW++[q],n++[c],_,pl+(t:Y),rfl,S2,B t tN,(),by rw[F];lk,λH3 r M3 S3 y0 z0 I l3 n0=>#[λta rs tM x1 y1 pv=>?_,λnp=>?_]]
 .show if L ta=V.non then _ else Q V.non H3
  rw[if_neg (λz=>nomatch z)];rw[F]at pv;exact u0 H3 r M3 t tN S3 pv (j.trans (S2.kx y0) mf) (λa h=>z0 a (ms a h)) (mG j mf I) ()
 .show if V.non=V.non then _ else Q V.non H3
  rw[Zt U];rw[F]at np;let tl:t<N:=by
   rcases Nu t N with h|h
   .exact h
   .rw[show t=N by lk]at np;exact Zq pN np
  refine#[J (N-(t+1)),λz1 H' z=>#[_,(),z],_,_,_,S3.hx,T.Wd,T.Xu,_,rfl,_,rfl,_,_,S3.hx,by show 5<1000;decide,(hJ _ _ _).mpr #[t+1,r,M3,U,tl,U,?_,?_,λa h=>z0 a (ms a h),mG j mf I,()]]
  .let S4:=S3.go (pl':=pl+((t+1:O):Y));let e:bW (Zu "place") (V' (pl+(t:Y)+1)) (jV w f i (pl+(t:Y)) R)=jV w f i (pl+((t+1:O):Y)) R:=by
    rw[show pl+((t+1:O):Y)=pl+(t:Y)+1 by lk];rfl
   rw[e];exact S4
  .calc (j.trans (S2.kx y0) mf).trans (M':=M3) (λy o ny e=>?_) (mG j mf I);let d:y≠x:=λz=>ny #v[z,S3.mem.1];rw[aK d];calc e
def oj (a:Y):(if a<0 then -a else a)=((a.8:O):Y):=by split <;> lk
def Sn {a b u0 u1 l0 l1 s:Y}(hs:s=1\/s=-1)(hd:u0*l1-u1*l0=s):cO (u0*a+u1*b).8 (l0*a+l1*b).8=cO a.8 b.8:=by
 let c:∀{x y p q r t:Y},((cO x.8 y.8:O):Y)∣p*x+q*y:=λ{x y p q r t}=>by
  let f:((cO x.8 y.8:O):Y)∣x:=jf.mpr (mV _ _);let h:((cO x.8 y.8:O):Y)∣y:=jf.mpr (oO _ _);exact Nm (ge f (qR _ _)) (ge h (qR _ _))
 let d:s*s=1:=by rcases hs with rfl|rfl <;> rfl
 refine EF (qU ?_ ?_) (qU ?_ ?_)
 .calc jf.mp ?_;let e:a=(s*l1)*(u0*a+u1*b)+(-(s*u1))*(l0*a+l1*b):=by
   let:(s*l1)*(u0*a+u1*b)+(-(s*u1))*(l0*a+l1*b)=s*(u0*l1-u1*l0)*a:=by grind
   rw[this,hd,d,cL]
  conv=>rhs;rw[e]
  exact c (r:=0) (t:=0)
 .calc jf.mp ?_;let e:b=(-(s*l0))*(u0*a+u1*b)+(s*u0)*(l0*a+l1*b):=by
   let:(-(s*l0))*(u0*a+u1*b)+(s*u0)*(l0*a+l1*b)=s*(u0*l1-u1*l0)*b:=by grind
   rw[this,hd,d,cL]
  conv=>rhs;rw[e]
  exact c (r:=0) (t:=0)
 .exact jf.mp (c (r:=0) (t:=0))
 .calc jf.mp (c (r:=0) (t:=0))
structure Lh (a0 b0 x y P Q R S:O)(s:Y):Prop where
 hs:s=1\/s=-1
 det:(P:Y)*S-Q*R=s
 hx:s*(P*a0-Q*b0)=(x:Y)
 hy:s*(S*b0-R*a0)=(y:Y)
 xh:2 ^ 150<=x
 yx:y<=x
 hP:P<=a0+b0+1
 hQ:Q<=a0+b0+1
def Lh.sizes {a0 b0 x y P Q R d:O}(h:Lh a0 b0 x y P Q R d s):d*x+Q*y=a0/\R*x+P*y=b0:=by
 let a:s*s=1:=by rcases h.hs with z|z <;> rw[z] <;> rfl
 let b:(d:Y)*x+Q*y=a0:=by
  rw[<-h.hx,<-h.hy];let:(d:Y)*(s*(P*a0-Q*b0))+Q*(s*(d*b0-R*a0))=s*(P*d-Q*R)*a0:=by grind
  rw[this,h.det,a,cL]
 let c:(R:Y)*x+P*y=b0:=by
  rw[<-h.hx,<-h.hy];let:(R:Y)*(s*(P*a0-Q*b0))+P*(s*(d*b0-R*a0))=s*(P*d-Q*R)*b0:=by grind
  rw[this,h.det,a,cL]
 calc#[by exact_mod_cast b,by exact_mod_cast c]
def Lh.few {a0 b0 x y P Q R f:O}(h:Lh a0 b0 x y P Q R f s):R<=a0+b0+1/\f<=a0+b0+1/\x<=a0+b0:=by
 cases h.sizes,b,c;let a:1<=x:=aP (eV 150) h.xh;let d:R<=R*x:=h_ _ a;let e:f<=f*x:=h_ _ a;calc#[(),(),?_];by_cases z:f=0
 .by_cases z2:R=0
  .let:=h.det;rw[z,z2]at this;rcases h.hs with y|y <;> rw[y]at this <;> simp at this
  .let:x<=R*x:=ik _ ();lk
 .let:x<=f*x:=ik _ ();lk
def Lh.step {a0 b0 x y P Q R f:O}(h:Lh a0 b0 x y P Q R f s)(hy:2^150<=y):Lh a0 b0 y (x % y) R f (P+x / y*R) (Q+x / y*f) (-s):=by
 cases h.few,a,b,_;let ex:(x:Y)=(x / y:O)*(y:Y)+(x % y:O):=by exact_mod_cast (EG x y).symm
 refine#[by rcases h.hs with z|z <;> simp[z],?_,?_,?_,hy,dj (oW _ (by let:=eV 150;lk)),a,b]
 .let:=h.det
  push_cast
  generalize ((x / y:O):Y)=t;grind
 .rw[<-h.hy];grind
 .let c:=h.hx;let d:=h.hy;let e:((x % y:O):Y)=x-(x / y:O)*y:=()
  rw[e,<-c,<-d]
  push_cast
  generalize ((x / y:O):Y)=t;grind
def Lh.less {a b x y P Q R S c:O}{s:Y}(h:Lh (a / 2^c) (b / 2^c) x y P Q R S s)(I:2^(c+299)<=a)(j:a<2^(c+300))(k:b<=a)(hy:y<2^150):((-s*R)*(a:Y)+(s*S)*b).8<a:=by
 cases h.sizes,n,o;let d:=eV c;let M:a / 2^c<2^300:=by rw[VM d,<-eH,oG 300 c];exact j
 let b3:b / 2^c<=a / 2^c:=VN k;let X:(2:O)^300=2^150*2^150:=by rw[<-eH]
 let q:S<2^150:=by
  calc mU λz=>?_;let:=fq z h.xh;lk
 let u:R<2^150:=by
  calc mU λz=>?_;let:=fq z h.xh;lk
 let f:(a:Y)=(a / 2^c:O)*(2^c:O)+(a % 2^c:O):=by exact_mod_cast (EG a (2^c)).symm
 let i:(b:Y)=(b / 2^c:O)*(2^c:O)+(b % 2^c:O):=by exact_mod_cast (EG b (2^c)).symm
 let l:a % 2^c<2^c:=oW _ d;let m:b % 2^c<2^c:=oW _ d;let e:(-s*R)*(a:Y)+(s*S)*b=(y:Y)*(2^c:O)+(s*(S*(b % 2^c:O))-s*(R*(a % 2^c:O))):=by
  rw[<-h.hy];generalize a % 2^c=l at f l ⊢;generalize b % 2^c=m at i m ⊢;generalize ((a / 2^c:O):Y)=A at f ⊢;generalize ((b / 2^c:O):Y)=Bb at i ⊢;generalize ((2^c:O):Y)=C at f i ⊢;rw[f,i];grind
 rw[e];let E:((y:Y)*(2^c:O)).8<=2^150*2^c:=by
  rw[du,d_,d_];exact fj _ (dj hy)
 let sz:∀t r:O,t<2^150->r<2^c->(s*((t:Y)*(r:Y))).8<=2^150*2^c:=λt r n o=>by
  rw[du,du,d_,d_];let:s.8=1:=by rcases h.hs with z|z <;> rw[z] <;> rfl
  rw[this,gD];exact fq (dj n) (dj o)
 let F:=sz S (b % 2^c) q m;let H:=sz R (a % 2^c) u l;let big:4*(2^150*2^c)<=2^(c+299):=by
  let:(4:O)*(2^150*2^c)=2^(c+152):=by
   rw[show c+152=2+(150+c) by lk,eH,eH]
  rw[this];exact fQ () ()
 let pos:0<2^150*2^c:=jd (eV _) d;generalize 2^150*2^c=Z at E F H big pos;let:=ju ((y:Y)*(2^c:O)) (s*(S*(b % 2^c:O))-s*(R*(a % 2^c:O)));let:=oN (s*(S*(b % 2^c:O))) (s*(R*(a % 2^c:O)));lk
def So:Sp:=λvs H Q _=>∃(a b:O),vs=[.int (a:Y),.int (b:Y)]/\b<=a/\4000<ZC (a:Y)/\Bd 1000000 (a:Y)/\∀(c d:O)(r:Zs)(H':Hp),Same H H'->H' r=W (.tup [.int (c:Y),.int (d:Y)])->cO c d=cO a b->d<a->Q (.ref r) H'
def Sq:FnOk P w K mg base CX0 1 T.W7.ax T.W7.dx ["big","small"] So:=by
 refine T.W7.Fx.ok ig (λvs H Q E h=>?_) (λk0 A outer s H vs Q E hr h=>?_)
 .cases h,a,b,rfl,_;rfl
 cases h,a,b,rfl,u,ha,j,q;refine#[_,s!"ʍ˸ɻŁƁƂƃƄɡ͕ƅ ƆʃʜuʝƇɡɪʰuʝƇɧɪˊuʝǟ&4Ą͕ƅ Ɔʃ&˲˸ã#ʥɼ̭˸ã#ʥɼ˶ą͑ɩɠvuʝÉɴɲɠÀ˸ɻɴʢ͚ɲʜ˸ɲʰ˸!Àɠƈ˸ã͗ʱ˒ʢ͚͗͜ʱ˒ʢ͚͜$˲˸˟ʑW˸!ƈɨã#̠#ʅʢʱ˒ɡʢʱ˒ɧ$#̠#ʅʢ͜ɡʢ͜ɧɰ",?_]
 obtain⟨bl,C,l,F⟩:∃bl:O,ZC (a:Y)=bl/\2^(bl-1)<=a/\a<2^bl:=by
  refine#[_,rfl,?_,?_]
  .calc qI λz=>?_;let:=Cw (i:=(a:Y)) (k:=ZC (a:Y)-1) #v[d_,z];lk
  .let:=(intBits_le_iff (m:=ZC (a:Y)) (x:=(a:Y))).mp (aC _);rw[d_]at this;exact this
 rw[C]at ha;let x1:4000<=bl:=()
 obtain⟨c,hc⟩:∃c,bl=c+300:=#[bl-300,()]
 let ea:(a:Y) / 2^c=((a / 2^c:O):Y):=by push_cast;rfl
 let eb:(b:Y) / 2^c=((b / 2^c:O):Y):=by push_cast;rfl
 let c0:=eV c;let f:2^299<=a / 2^c:=by
  rw[Nat.le_div_iff_mul_le c0,<-eH];rw[hc,show c+300-1=299+c by lk]at l;exact l
 let I:a / 2^c<2^300:=by
  rw[VM c0,<-eH,oG 300 c,<-hc];exact F
 let n:b / 2^c<=a / 2^c:=VN u;let p1:(2:O)^150<=2^299:=fQ () ()
 w_up
 rw[C,show ((bl:O):Y)-300=(c:Y) by lk]
 w_up
 calc#[(),?_];rw[gB,ea]
 w_up
 calc#[(),?_];rw[gB,eb]
 w_up
 calc#[#[(),()],#[(),(),()],?_];obtain⟨hf,M,X⟩:∃hf:O,(1:Y)*2^((300:Y) / 2).toNat=(hf:Y)/\hf=2^150:=#[2^150,(),rfl]
 rw[M];clear M
 w_up
 calc#[(),λU0 n0=>?_];let u0:=au n0 (.tup [B 1,B 0]);let e0:=ai (H:=H) (a:=U0) (o:=.tup [B 1,B 0]);generalize Zx H U0 (.tup [B 1,B 0])=H0 at u0 e0 ⊢
 w_up
 calc#[(),λL0 n1=>?_];let u1:=au n1 (.tup [B 0,B 1]);let e1:=ai (H:=H0) (a:=L0) (o:=.tup [B 0,B 1]);let f1:=u1 _ _ e0;let s1:=u0.trans u1;generalize Zx H0 L0 (.tup [B 0,B 1])=H1 at s1 e1 f1 ⊢;clear u0 u1 e0 n0 n1;generalize z0:a / 2^c=a0 at f I n ⊢;generalize j0:b / 2^c=b0 at n ⊢;let x0:(2:O)^302=4*2^300:=by rw[show (302:O)=2+300 by rfl,eH]
 let bk:∀{k:O},k<=a0+b0+1->Bd 302 (k:Y):=λ{k} hk=>by
  show k<2^302;lk
 let bs:∀{k:O}{t:Y},k<=a0+b0+1->(t=1\/t=-1)->Bd 302 (t*(k:Y)):=λ{k t} hk ht=>by
  rcases ht with rfl|rfl
  .rw[cL];exact bk hk
  .rw[show (-1:Y)*k=-k by lk];exact (bk hk).neg
 clear x0
 w_up
 obtain⟨J,hJ⟩:∃J:O->L2.St->Hp->Prop,∀m σ H',J m σ H'↔∃(x y P Q R S:O)(s:Y)(U L:Zs)(r8 r9 y0:Zk V),σ=[W (B (a:Y)),W (B (b:Y)),W (B (c:Y)),W (B (x:Y)),W (B (y:Y)),W (B (hf:Y)),W (Z' U),W (Z' L),r8,r9,y0]/\m=y/\Lh a0 b0 x y P Q R S s/\H' U=W (.tup [B (s*P),B (-s*Q)])/\H' L=W (.tup [B (-s*R),B (s*S)])/\Same H H':=#[_,λ_ _ _=>Zj]
 refine iA J b0 ((hJ _ _ _).mpr #[a0,b0,1,0,0,1,1,U0,L0,Zy,Zy,Zy,rfl,rfl,#[.inl rfl,by simp,by simp,by simp,aP p1 f,n,(),()],by rw[f1];rfl,by rw[e1];rfl,s1]) ?_;intro m σ H2 hm;cases (hJ _ _ _).mp hm,x,y,P',Q',R',S',d,U,L,r8,r9,y0,rfl,rfl,e,eU,eL,s2;cases e.few,g1,g2,g3;let r:-d=1\/-d=-1:=by rcases e.hs with z|z <;> simp[z]
 room;walk
 refine cu (λz=>?_) (λz=>?_)
 .let zy:2^150<=m:=by rw[<-X];exact_mod_cast z
  let m0:m≠0:=by let:=eV 150;lk
  let ef:(x:Y).fdiv (m:Y)=((x / m:O):Y):=by rw[Ep _ ()];exact_mod_cast rfl
  let er:(x:Y)-((x / m:O):Y)*(m:Y)=((x % m:O):Y):=by
   let:(x:Y)=(x / m:O)*(m:Y)+(x % m:O):=by exact_mod_cast (EG x m).symm
   lk
  let st:=e.step zy;let yx:=e.yx;let bx:Bd 302 (((x / m:O)):Y):=bk (aP (Nat.div_le_self _ _) ());let bm:Bd 302 (m:Y):=bk ();rw[ef];calc#[J (x % m),λy1 H' h=>#[_,oW _ (),h],(),dE (show ((m:O):Y).8<2^302 from bm) (fQ () ()),bx.fits bm (),_,SqT.of eU,_,rfl,_,SqT.of eL,_,rfl,_,rfl,bx.fits (bs g1 r) (),_,rfl,_,SqT.of eU,_,rfl,_,SqT.of eL,_,rfl,_,rfl,bx.fits (bs g2 e.hs) (),_,rfl,(),λp np=>?_];let w1:=au np (.tup [B (d*P'-((x / m:O):Y)*(-d*R')),B (-d*Q'-((x / m:O):Y)*(d*S'))]);rw[er];refine (hJ _ _ _).mpr #[m,x % m,R',S',_,_,_,L,p,_,_,_,rfl,rfl,st,?_,?_,s2.trans w1]
  .rw[w1 _ _ eL];simp
  .rw[ai];congr 4
   .push_cast
    generalize ((x / m:O):Y)=t;grind
   .push_cast
    generalize ((x / m:O):Y)=t;congr 2;grind
 .let zy:m<2^150:=by rw[<-X];exact mU λy=>z (by exact_mod_cast y)
  let bb:Bd 1000000 (b:Y):=dF (show (b:Y).8<=(a:Y).8 by lk) j;let ls:((-d*R')*(a:Y)+(d*S')*b).8<a:=by
   rw[<-z0,<-j0]at e;refine e.less ?_ ?_ u zy
   .rw[show c+299=bl-1 by lk];exact l
   .rw[<-hc];exact F
  let bP:=bs e.hP e.hs;let bQ:=bs e.hQ r;calc#[_,SqT.of eU,_,rfl,_,rfl,bP.fits j (),_,SqT.of eU,_,rfl,_,rfl,bQ.fits bb (),_,SqT.of eL,_,rfl,_,rfl,(bs g1 r).fits j (),_,SqT.of eL,_,rfl,_,rfl,(bs g2 e.hs).fits bb (),(),λp np=>?_];rw[oj,oj];refine q _ _ p _ (s2.trans (au np _)) ai ?_ ls
  .let:=Sn (a:=(a:Y)) (b:=(b:Y)) (u0:=d*P') (u1:=-d*Q') (l0:=-d*R') (l1:=d*S') (s:=d) e.hs (by
    let h1:=e.det;let h2:d*d=1:=by rcases e.hs with z|z <;> rw[z] <;> rfl
    grind)
   rw[this,d_,d_]
def Sr:Sp:=λvs H Q _=>∃a b:Y,vs=[.int a,.int b]/\Bd 1000000 b/\∀H',Same H H'->Q (.int (cO a.8 b.8:O)) H'
def Dw:FnOk P w K mg base CX0 2 T.WA.ax T.WA.dx ["one","other"] Sr:=by
 refine T.WA.Fx.ok jR (λvs H Q E h=>?_) (λx0 A outer s H vs Q E hr h=>?_)
 .cases h,a,b,rfl,_;rfl
 cases h,a,b,rfl,hb,q;refine#[_,s!"ʍ̺̠ʧʜ̺̠ʛ˶wŁƁƂƃƄɴ͕Ǡ ǡʃɩʰÁʄǢɣǣǤǥ˹#̨̻$ʍ̺ʱ˗ʑ7̺ʱ˗˶¸ɴɸˊÁʝ©̨ʍ̺ɴʑ7̺ʞ͔",?_]
 room;simp![oj]
 obtain⟨J,u⟩:∃J:O->L2.St->Hp->Prop,∀m f l,J m f l↔∃(x y:O)(C:Zk V),f=[W (B a),W (B b),W (B (x:Y)),W (B (y:Y)),C,Zy]/\m=y/\cO x y=cO a.8 b.8/\Bd 1000000 (y:Y)/\Same H l:=#[_,λ_ _ _=>Zj]
 refine iA J b.8 ((u _ _ _).mpr #[a.8,b.8,Zy,U,U,U,by show ((b.8:O):Y).8<_;rw[d_];exact hb,Same.refl _]) ?_;intro m f H1 I;obtain⟨x,y,C,rfl,rfl,j,n,M⟩:=(u _ _ _).mp I
 w_up
 refine cu (λz=>?_) (λz=>?_)
 .let m0:m≠0:=λy=>by rw[y]at z;revert z;decide
  let em:(x:Y) % (m:Y)=((x % m:O):Y):=by exact_mod_cast U
  rw[em]
  w_up
  refine#[λe l=>∃R,R<m/\J R e l,λe l h=>h,(),m,x % m,U,dj (oW _ ()),by exact_mod_cast z,n,λc d r o s2 X F hd=>#[r,U,_,SqT.of X,_,U,r,U,_,SqT.of X,_,U,d,hd,(u _ _ _).mpr #[c,d,_,U,U,?_,?_,M.trans s2]]]
  .rw[F,<-j,yw m,<-Nv,yw]
  .exact dF (show (d:Y).8<=(m:Y).8 by lk) n
 .clear I u J;refine iA (λk f o=>∃(x y:O)(r:Zk V),f=[W (B a),W (B b),W (.int x),W (.int y),C,r]/\o=H1/\k=y/\cO x y=cO a.8 b.8) m #[x,m,Zy,U,U,U,j] ?_
  rintro k f o ⟨x,y,r,rfl,rfl,rfl,j⟩
  room;walk
  refine cu (λh=>?_) (λh=>?_)
  .refine#[λe H3=>e=[W (B a),W (B b),W (B k),W (B ((x:Y) % (k:Y))),C,W (B ((x:Y) % (k:Y)))]/\H3=o,?_,(),rfl,rfl]
   rintro e H3 ⟨rfl,rfl⟩
   refine#[x % k,oW _ (),k,x % k,_,by rw[<-zde],rfl,rfl,?_];rw[yw k,<-Nv,yw];exact j
  .let h0:k=0:=()
   subst h0;rw[zcp]at j;rw[j];calc q o M
def JP (K:ao)(_:Zs):Sp:=λvs H Q _=>∃(a b:Zs)(one XY:aa)(k l:O),vs=[.ref a,.ref b]/\SqL K H a (one.map B)/\SqL K H b (XY.map B)/\one.9<=64/\XY.9<=64/\S one/\S XY/\
 (∀x∈one,Bd k x)/\(∀y∈XY,Bd l y)/\k<=100000/\l<=8995/\
 ((XY=[]/\False)\/(XY≠[]/\((∃q,S q/\Div one XY q/\eE H Q (q.map B))\/((∀q,¬Div one XY q)/\∀H',Same H H'->Q .non H'))))
def Dx {k:O}{x d:Y}(h:Bd k x)(hd:d≠0):Bd (k+1) (x.fdiv d):=by
 unfold Bd at *;let e:=Int.fmod_add_mul_fdiv x d;let r:(x.fmod d).8<d.8:=by
  rcases yp hd with g|g
  .let f:=VO (-x) (show 0 < -d by lk);let i:=zcv (-x) (show 0 < -d by lk);rw[Int.neg_fmod_neg]at f i;lk
  .let f:=VO x g;let i:=zcv x g;lk
 let a:(d*x.fdiv d).8=d.8*(x.fdiv d).8:=du _ _;let s:d.8*(x.fdiv d).8<2^k+d.8:=by
  rw[<-a,show d*x.fdiv d=x-x.fmod d by clear a r h hd;lk];exact dF (oN _ _) (Nat.add_lt_add h r)
 let j:1<=d.8:=kg.mpr hd;clear e a r h;generalize d.8=c at *;generalize (x.fdiv d).8=b at *;rw[kX];by_cases z:b<=1
 .let:=eV k;lk
 .let m:c*2<=c*b:=fE _ ();let l:b<=c*b:=ik _ j;lk
def wY:FnOk P w K mg base CX0 3 T.Wl.ax T.Wl.dx ["one","other"] (JP K T.Wl.ax):=by
 refine T.Wl.Fx.ok jQ (λvs H Q E h=>?_) (λx2 A outer s H vs Q E hr h=>?_)
 .cases h,a,b,one,XY,k,l,rfl,_;rfl
 cases h,a,b,one,XY,k,l,rfl,hA,hB,la,lb,no,nt,bk,bl,hk,hl,q;refine#[_,s!"͘ʳɸĆIʍÂɚ̧ʜÂɚ<Ă̯ʥʅɻ̫ɼʰÂ͋ɴʆ͍ɴ͎̕DÂɚ˲Âɚʐɻʅʞʳɦ̭ÂʝÉʔ̼ʸ¸ʢ˟̼ʔˑ̶'²˟³͑r1ɾô õʛ˿vẦÀÂ͈öɪʅʞ͚÷ʢ˟!Àĳrʸwɯʏùɣúûü˻ɰ̓_ʼɲ",?_]
 w_up
 calc#[_,.inl hB,?_];rw[af];refine cu (λh0=>?_) (λh0=>?_)
 .rcases q with ⟨_,q⟩|⟨hn,_⟩
  .exact q.elim
  .exact Zq (b7 ()) hn
 let c:XY≠[]:=by intro z;rw[z]at h0;simp at h0
 let q:=(q.resolve_left λz=>c z.1).2;let lo:=cE.mpr c
 w_up
 calc#[_,.inl hA,λR nR=>?_];let s1:=au nR (Y' (one.map B))
 w_up
 calc#[_,.inl (s1.seq hA),_,.inl (s1.seq hB),?_];rw[af,af];obtain⟨n,hn⟩:∃n:O,(if (one.9:Y)-(XY.9:Y)+1 > 0 then (one.9:Y)-(XY.9:Y)+1 else 0)=(n:Y):=#[one.9+1-XY.9,by split <;> lk]
 let u1:n=one.9+1-XY.9:=by split at hn <;> lk
 rw[hn];clear hn
 w_up
 calc#[(),λp np=>#[_,ai,?_]];let s2:=au np (Y' [B 0]);rw[mE,gB];refine#[(),(),dj (cy (by simp;lk)),λr nA=>?_];let s3:=au nA (Y' ((bj n (0:Y)).map B));let sG:=s1.trans (s2.trans s3);let gR:=s3 _ _ (s2 _ _ (ai (H:=H) (a:=R) (o:=.lst (one.map B))));let gA:upd (upd (upd H R (Y' (one.map B))) p (Y' [B 0])) r (Y' ((bj n (0:Y)).map B)) r=_:=ai;let j0:R≠r:=fH (s2 _ _ (ai (H:=H) (a:=R) (o:=.lst (one.map B)))) nA;let fA:=(s1.trans s2).free nA;generalize upd (upd (upd H R (Y' (one.map B))) p (Y' [B 0])) r (Y' ((bj n (0:Y)).map B))=G at sG gR gA ⊢;clear s1 s2 s3 nA np
 w_up
 calc#[(),(),pi () () () (),n,pj (),?_];have k0:∀(rest d:aa)(r1 r2 r3 M X:Zk V)(m:Hp),(∀q,Div one XY q->∀k,Z rest k=0)->((∀k,Z rest k=0)->Div one XY d/\S d)->m R=W (Y' (rest.map B))->m r=W (Y' (d.map B))->Same H m->rest.9<=64->
   Df K [L R] m (λx H1=>∃p,x=L p/\∃x,(SqL K H1 p x\/SqT K H1 p x)/\if 0<(x.9:Y) then Q V.non H1 else Q (L r) H1) E0:=by
  intro rest d r1 r2 r3 M X m e1 e2 hR F sH lr;calc#[R,rest,U,Zw hR,(),λf H2 s2 nf ef=>#[f,U,_,.inl (Zw ef),?_]];rw[af];refine cu (λh=>?_) (λh=>?_)
  .rcases q with ⟨q0,_,hd,_⟩|⟨_,q⟩
   .let:=vZ.mpr (e1 q0 hd);rw[this]at h;simp at h
   .exact q _ (sH.trans s2)
  .let tz:aw rest=[]:=b7 ();cases e2 (vZ.mp tz),d1,d2;rcases q with ⟨q0,n0,hd,q⟩|⟨q,_⟩
   .rw[CS nt c n0 d2 hd d1]at q;exact q r _ (sH.trans s2) fA (s2 _ _ F)
   .exact Zq d1 (q d)
 by_cases hc:one.9+1<XY.9
 .let n0:n=0:=()
  subst n0;refine mr (λi y m=>y=[W (L a),W (L b),W (L R),W (B ((0:O):Y)),W (L r),Zy,Zy,Zy,Zy,Zy]/\m=G) #[U,U] (λi y m hi=>()) ?_
  rintro y m ⟨rfl,rfl⟩
  room;walk
  refine k0 one [] Zy Zy Zy Zy Zy m (λq hq k=>?_) (λhz=>?_) gR gA sG la
  .by_cases ho:one=[]
   .rw[ho];rfl
   .by_cases hq':S q
    .cases vY nt c no hq' hq ho,y1,y2;let:=cE.mpr y1;lk
    .obtain⟨y1,y2⟩:=vY (q:=aw q) nt c no (cn q) (λk=>by rw[hq k];unfold pm;exact fC λj _=>by rw[cX]) ho;let:=cE.mpr y1;lk
  .let ho:=pJ no hz;rw[ho];exact#[IT,bH]
 let v1:n+XY.9=one.9+1:=()
 clear u1 hc;let C:Z XY (XY.9-1)=XY.getLast c:=by
  rw[aO (),lE]
 let l0:XY.getLast c≠0:=by rw[<-C];exact dU nt c
 let x1:Bd l (XY.getLast c):=bl _ (Nw c);obtain⟨Pv,x0⟩:∃Pv:O->L2.St->Hp->Prop,∀i y m,Pv i y m↔∃(d rest:aa)(r1 r2 r3 M X:Zk V),y=[W (L a),W (L b),W (L R),W (B (n:Y)),W (L r),r1,r2,r3,M,X]/\m R=W (Y' (rest.map B))/\m r=W (Y' (d.map B))/\
  DivAt one XY d rest (n-i)/\(∀x∈rest,Bd (k+(l+2)*i) x)/\Same H m:=#[_,λ_ _ _=>Zj]
 refine mr Pv ((x0 _ _ _).mpr #[_,one,Zy,Zy,Zy,Zy,Zy,U,gR,gA,IN c v1,λx hx=>(bk x hx).mono (),sG]) ?_ ?_
 .intro i y m hi hp;cases (x0 _ _ _).mp hp,d,rest,r1,r2,r3,M,X,rfl,hR,F,D,hb,sH;obtain⟨low,z1⟩:∃low,n-i=low+1:=#[n-i-1,()]
  rw[z1]at D;let ei:(n:Y)-1+(i:Y) * -1=(low:Y):=()
  let ix:(low:Y)+(XY.9:Y)-1=((low+(XY.9-1):O):Y):=()
  let z2:=D.lr;let m1:=D.la;let z0:low+(XY.9-1)<rest.9:=()
  let u2:(l+2)*i<=(l+2)*64:=fE _ ()
  room;simp![ei]
  clear ei;calc#[_,.inl (sH.seq hB),?_];rw[af];simp only[ix];clear ix;calc#[_,Zw hR,_,fe z0,?_];let ct:Z rest (low+(XY.9-1))=rest[low+(XY.9-1)]:=aO z0;let bt:=hb _ (cD z0);generalize rest[low+(XY.9-1)]=tp at ct bt ⊢;let bf:=Dx bt l0;refine#[_,sH.seq hB,_,i3 c,tp,U,_,U,l0,dE x1 (fQ () ()),_,sH.seq hB,_,i3 c,_,U,bf.fits x1 (),?_]
  room;walk
  refine cu (λh=>?_) (λh=>?_)
  .rcases q with ⟨q0,_,hd,_⟩|⟨_,q⟩
   .let z:=IR nt c D hd;rw[ct,C]at z;exact Zq z h
   .exact q _ sH
  let hf:tp.fdiv (XY.getLast c)*XY.getLast c=tp:=by simpa using h
  generalize tp.fdiv (XY.getLast c)=f at hf bf ⊢;refine#[_,F,low,iB (by rw[af];lk),?_];rw[map_set];let s5:=sH.more fA (o:=.lst ((d.set low f).map B));let R5:=(aK j0:upd m r (Y' ((d.set low f).map B)) R=m R).trans hR;let A5:upd m r (Y' ((d.set low f).map B)) r=_:=ai;generalize upd m r (Y' ((d.set low f).map B))=H5 at s5 R5 A5 ⊢;calc#[_,s5.seq hB,?_];obtain⟨Pw,I⟩:∃Pw:O->L2.St->Hp->Prop,∀j y Hx,Pw j y Hx↔∃(rs:aa)(M X:Zk V),y=[W (L a),W (L b),W (L R),W (B (n:Y)),W (L r),W (B (low:Y)),W (B tp),W (B f),M,X]/\Hx R=W (Y' (rs.map B))/\Hx r=W (Y' ((d.set low f).map B))/\rs.9=rest.9/\
   (∀u,Z rs u=Z rest u-if low<=u/\u<low+j then f*Z XY (u-low) else 0)/\Same H Hx:=#[_,λ_ _ _=>Zj]
  refine vi Pw ((I _ _ _).mpr #[rest,_,_,U,R5,A5,U,λu=>by rw[N ()];lk,s5]) (λj y Hx _ z=>by cases (I j y Hx).mp z,_,_,_,_,_,_,_,_,z5;calc z5.seq hB) ?_ ?_
  .intro j v pt y Hx hv u0 j1;cases (I _ _ _).mp u0,rs,M,X,rfl,xR,xA,xl,xc,xs;let hj:j<XY.9:=by let:=(a_.mp hv).1;rw[af]at this;exact this
   rw[a7,aq hj]at hv;obtain rfl:B XY[j]=v:=Zv hv;let st:=au j1 (.tup [B j,B XY[j]]);let g1:(low:Y)+(j:Y)=((low+j:O):Y):=rfl
   room;walk
   refine#[_,SqT.of ai,U,?_]
   room;simp![g1]
   let y0:low+j<rs.9:=()
   let yR:=st _ _ xR;let yA:=st _ _ xA;refine#[_,Zw yR,_,fe y0,bf.fits (bl _ (cD hj)) (),_,U,_,yR,low+j,iB #v[af,y0],(I _ _ _).mpr #[rs.set (low+j) (rs[low+j]-f*XY[j]),_,_,rfl,by rw[ai,map_set],#v[aK (ZQ j0),yA],#v[jt,xl],λu=>?_,(xs.trans st).more nR]];rw[kD _ _ _ _ y0];by_cases e:u=low+j
   .subst e;let z:=xc (low+j);rw[N (show ¬(low<=low+j/\low+j<low+j) by lk),aO y0]at z;rw[Zt (show low+j=low+j from rfl),Zt (show low<=low+j/\low+j<low+(j+1) by lk),show low+j-low=j by lk,aO hj];lk
   .rw[N e,xc u];by_cases h3:low<=u/\u<low+j
    .rw[Zt h3,Zt (show low<=u/\u<low+(j+1) by lk)]
    .rw[N h3,N (show ¬(low<=u/\u<low+(j+1)) by lk)]
  .intro y Hx u0;cases (I _ _ _).mp u0,rs,M,X,rfl,xR,xA,xl,xc,xs;rw[af]at xc;let D':DivAt one XY (d.set low f) rs low:=IP c D () #v[C,ct,hf] xl λu=>by
    rw[xc u];by_cases h3:low<=u
    .rw[Zt h3];by_cases h4:u<low+XY.9
     .rw[Zt #[h3,h4]]
     .rw[N (),aL (xs:=XY) (),dY]
    .rw[N (),N h3]
   refine (x0 _ _ _).mpr #[_,rs,_,_,_,_,_,U,xR,xA,by rw[show n-(i+1)=low by lk];exact D',λx hx=>?_,xs];cases di.mp hx,u,hu,rfl;let eu:=xc u;rw[aO hu,aO (show u<rest.9 by lk)]at eu;let b1:=hb _ (cD (show u<rest.9 by lk));let b2:Bd (k+(l+2)*i+1+l) (if low<=u/\u<low+XY.9 then f*Z XY (u-low) else 0):=by
    split
    .rcases Nu (u-low) XY.9 with z|z
     .rw[aO z];exact bf.mul (bl _ (cD z))
     .rw[aL z,dY];exact Bd.zero _
    .exact Bd.zero _
   rw[eu];let e2:(l+2)*(i+1)=(l+2)*i+(l+2):=oV _ _;exact ((b1.mono ()).sub b2).mono ()
 .intro y m hp;cases (x0 _ _ _).mp hp,d,rest,r1,r2,r3,M,X,rfl,hR,F,D,hb,sH;rw[gE]at D
  room;walk
  refine k0 rest d r1 r2 r3 M X m (λq hq=>IQ nt c D q hq) (λhz=>#[CT D hz,?_]) hR F sH (by let:=D.lr;lk);by_cases ho:one=[]
  .let:d.9=0:=by let:=D.la;rw[ho]at this;simp at this;lk
   rw[b7 this];exact bH
  .calc IS c no ho D.la (CT D hz)
def JQ {n:O}(h:n<=5000):n<sizeLine:=dF h ()
noncomputable def ag (xs:aa):Nat:=xs.foldl (λg x=>cO x.8 g) 0
def p6 (xs:aa)(x:Y):ag (xs++[x])=cO x.8 (ag xs):=by unfold ag;rw[List.foldl_append];rfl
theorem mH {b:O}(c:0<b):∀a:aa,(∀x∈a,x.8<b)->ag a<b:=λa=>by
 calc pD (P:=λa=>(∀x∈a,x.8<b)->ag a<b) (λ_=>c) (λa x d h=>?_) a;rw[p6];by_cases z:x.8=0
 .rw[z,EH];exact d λy hy=>h y (by simp[hy])
 .calc dF (Nx _ ()) (h x ⋯)
theorem gw (xs:aa):∀x∈xs,((ag xs:O):Y)∣x:=by
 calc pD (P:=λxs=>∀x∈xs,((ag xs:O):Y)∣x) ⋯ (λxs y a x hx=>?_) xs;rw[p6];rcases b5.mp hx with z|z
 .exact ge (jv.mpr (oO _ _)) (a x z)
 .rw[bZ.mp z];calc EI.mp (jv.mpr (mV _ _))
theorem iS (d:O)(xs:aa):(∀x∈xs,(d:Y)∣x)->d∣ag xs:=by
 calc pD (P:=λxs=>(∀x∈xs,(d:Y)∣x)->d∣ag xs) (λ_=>Ny d) (λxs y a h=>?_) xs;rw[p6];refine qU ?_ (a λx hx=>h x (by simp[hx]));calc jv.mp (EI.mpr (h y ⋯))
def Dy (K:ao):Sp:=λvs H Q _=>∃(a:Zs)(xs:aa),vs=[.ref a]/\SqL K H a (xs.map B)/\(∀x∈xs,Bd 900000 x)/\∀H',Same H H'->Q (.int (ag xs:O)) H'
def wZ:FnOk P w K mg base CX0 3 T.Wr.ax T.Wr.dx ["poly"] (Dy K):=by
 refine T.Wr.Fx.ok wC (λm H Q E h=>?_) (λn A outer s H m Q E o h=>?_)
 .cases h,a,xs,rfl,_;rfl
 cases h,a,xs,rfl,l,u,q;refine#[_,s!"ʭł̦͝ł͞łʄŃɜć ńŅņ˻ʛ̡",?_]
 walk
 calc#[#[_,l],?_];obtain⟨e,b⟩:∃e:O->L2.St->Hp->Prop,∀i c d,e i c d↔∃r:Zk V,c=[W (L a),W (B (ag (xs.take i):O)),r]/\Same H d:=#[_,λ_ _ _=>Zj]
 refine kC (xs:=xs.map B) e ((b _ _ _).mpr #[_,U,Same.refl _]) (λi c d _ z=>by cases (b i c d).mp z,_,_,z;calc z.seq l) ?_ ?_
 .intro i v c d f j;cases (b _ _ _).mp j,r,rfl,k;let hi:i<xs.9:=by let:=(a_.mp f).1;rw[af]at this;exact this
  rw[a7,aq hi]at f;obtain rfl:B xs[i]=v:=Zv f;let y:xs.take (i+1)=xs.take i++[xs[i]]:=by rw[dI,aq hi];rfl
  walk
  refine#[_,_,U,?_,λF C=>(b _ _ _).mpr #[W (B xs[i]),?_,k.trans C]]
  .let:Bd 900000 ((ag (xs.take i):O):Y):=by
    show ((ag (xs.take i):O):Y).8<2^900000;rw[d_];exact mH (eV _) _ λx hx=>u x (gU hx)
   exact this.mono ()
  .rw[y,p6,d_]
 .intro c d j;cases (b _ _ _).mp j,r,rfl,k;rw[af,fY]
  walk
  calc q _ k
def Ss (K:ao):Sp:=λvs H Q _=>∃(a:Zs)(xs:aa)(c:Y),vs=[.ref a,.int c]/\SqL K H a (xs.map B)/\xs.9<=5000/\c≠0/\c.8<2^9000/\eE H Q ((xs.map λx=>x.fdiv c).map B)
def Dz:FnOk P w K mg base CX0 1 T.WB.ax T.WB.dx ["poly","number"] (Ss K):=by
 refine T.WB.Fx.ok RM (λn H Q E h=>?_) (λo A outer s H n Q E F h=>?_)
 .cases h,a,xs,c,rfl,_;rfl
 cases h,a,xs,c,rfl,l,I,r,u,q;refine#[_,s!"ɨ̿Ķ̰J4É˳",?_]
 walk
 calc#[#[_,l],λC hC=>?_];obtain⟨d,b⟩:∃d:dG,∀i e,d i e↔e C=W (Y' (((xs.take i).map λx=>x.fdiv c).map B))/\Same H e:=#[_,λ_ _=>Zj]
 refine fZ (xs:=xs.map B) d ((b _ _).mpr #[by rw[ai];rfl,au hC _]) (λi m _ z=>((b i m).mp z).2.seq l) ?_ ?_
 .intro i v m f j;cases (b _ _).mp j,k1,k;let hi:i<xs.9:=by let:=(a_.mp f).1;rw[af]at this;exact this
  rw[a7,aq hi]at f;obtain rfl:B xs[i]=v:=Zv f
  simp![bst,fF]
  let y:xs.take (i+1)=xs.take i++[xs[i]]:=by rw[dI,aq hi];rfl
  refine#[r,u,_,k1,JQ (by simp;lk),(b _ _).mpr #[?_,k.more hC]];rw[ai,y,aY,aY];rfl
 intro M j;cases (b _ _).mp j,k1,k;rw[af,fY]at k1;calc q C _ k hC k1
def df (xs:aa):aa:=if xs≠[]/\Z xs (xs.9-1)<0 then xs.map λx=>-x else xs
def Su (K:ao):Sp:=λvs H Q _=>∃(a:Zs)(xs:aa),vs=[.ref a]/\SqL K H a (xs.map B)/\xs.9<=1000/\eE H Q ((df xs).map B)
def JR:FnOk P w K mg base CX0 1 T.WH.ax T.WH.dx ["poly"] (Su K):=by
 refine T.WH.Fx.ok RN (λy H Q E h=>?_) (λF A outer s H y Q E M h=>?_)
 .cases h,a,xs,rfl,_;rfl
 cases h,a,xs,rfl,d,e,q;refine#[_,s!"͇̃ʲ̥@¨̢̓˖ɡJ͊ʼ̧",?_]
 w_up
 calc#[_,.inl d,?_];rw[af];unfold df at q;let lst:¬(xs≠[]/\Z xs (xs.9-1)<0)->∃x,(SqL K H a x\/SqT K H a x)/\∀l,H l=Zy->Q (L l) (upd H l (HO.lst x)):=λh=>by
  rw[N h]at q;exact#[_,.inl d,λl e=>q l _ (au e _) e ai]
 refine cu (λh=>?_) (λh=>lst λz=>?_)
 .let c:xs≠[]:=by intro z;rw[z]at h;simp at h
  refine#[_,d,_,i3 c,?_]
  room;walk
  let r:Z xs (xs.9-1)=xs.getLast c:=by rw[aO (),lE]
  calc cu (λf=>?_) (λf=>lst λz=>f #v[<-r,z.2]);rw[Zt #[c,#v[r,f]]]at q;calc#[#[_,d],λC hC=>?_];obtain⟨j,b⟩:∃j:dG,∀i k,j i k↔k C=W (Y' (((xs.take i).map λx=>-x).map B))/\Same H k:=#[_,λ_ _=>Zj]
  refine fZ (xs:=xs.map B) j ((b _ _).mpr #[by rw[ai];rfl,au hC _]) (λi u _ z=>((b i u).mp z).2.seq d) ?_ ?_
  .intro i v u m n;cases (b _ _).mp n,k1,o;let hi:i<xs.9:=by let:=(a_.mp m).1;rw[af]at this;exact this
   rw[a7,aq hi]at m;obtain rfl:B xs[i]=v:=Zv m
   room;simp![bst,fF]
   let I:xs.take (i+1)=xs.take i++[xs[i]]:=by rw[dI,aq hi];rfl
   refine#[_,k1,cy (by simp;lk),(b _ _).mpr #[?_,o.more hC]];rw[ai,I,aY,aY];rfl
  intro R n;cases (b _ _).mp n,k1,o;rw[af,fY]at k1;exact q C _ o hC k1
 .let:0<xs.9:=cE.mpr z.1;lk
def Sv (K:ao):Sp:=λvs H Q _=>∃(a:Zs)(xs:aa),vs=[.ref a]/\SqL K H a (xs.map B)/\xs≠[]/\xs.9<=1000/\∀(M:O) H',Same H H'->(∀x∈xs,x.8<=M)->(∃x∈xs,x.8=M)->Q (.int (M:Y)) H'
def JS:FnOk P w K mg base CX0 1 T.WI.ax T.WI.dx ["poly"] (Sv K):=by
 refine T.WI.Fx.ok RO (λr H Q E h=>?_) (λu A outer s H r Q E I h=>?_)
 .cases h,a,xs,rfl,_;rfl
 cases h,a,xs,rfl,n,c,R,q;refine#[_,s!"ɨ<Ĉ̯˖ɡJ̠̗ɰ",?_]
 simp![oj]
 calc#[#[_,n],λC hC=>?_];obtain⟨d,b⟩:∃d:dG,∀i e,d i e↔e C=W (Y' (((xs.take i).map λx=>((x.8:O):Y)).map B))/\Same H e:=#[_,λ_ _=>Zj]
 refine fZ (xs:=xs.map B) d ((b _ _).mpr #[by rw[ai];rfl,au hC _]) (λi o _ z=>((b i o).mp z).2.seq n) ?_ ?_
 .intro i v o f j;cases (b _ _).mp j,k1,k;let hi:i<xs.9:=by let:=(a_.mp f).1;rw[af]at this;exact this
  rw[a7,aq hi]at f;obtain rfl:B xs[i]=v:=Zv f
  simp![bst,fF,oj]
  let F:xs.take (i+1)=xs.take i++[xs[i]]:=by rw[dI,aq hi];rfl
  refine#[_,k1,cy (by simp;lk),(b _ _).mpr #[?_,k.more hC]];rw[ai,F,aY,aY];rfl
 intro X j;cases (b _ _).mp j,k1,k;rw[af,fY]at k1;refine#[C,U,_,Zw k1,by simpa using c,λM l m=>?_];cases b8.mp l,x,hx,rfl;calc q _ _ k (λy hy=>by let:=m _ (b8.mpr #[y,hy,U]);lk) #[x,hx,U]
def Sw (K:ao):Sp:=λvs H Q _=>∃(n b:Y)(k:O),vs=[.int n,.int b]/\0<n/\2^k*n<b^k/\k<=900/\29<=b/\b.8<2^9000/\
 ∀f:aa,J b f=n->(∀x∈f,2*x.8<=b.8)->f≠[]->0<Z f (f.9-1)->f.9<=900->eE H Q (f.map B)
def Sx:FnOk P w K mg base CX0 1 T.W8.ax T.W8.dx ["number","base"] (Sw K):=by
 refine T.W8.Fx.ok pV (λvs H Q E h=>?_) (λy0 A outer s H vs Q E hr h=>?_)
 .cases h,n,b,k,rfl,_;rfl
 cases h,n,b,k0,rfl,n0,nb,k9,C,bb,q;refine#[_,s!"ʍĉ˩˶¸ɡɸʜĉʝ©˳ˠw4Ɖ&ɴɧɩ1Ĳ)7ĉɚɧĳI̹ɪ̀ʑ(ĉʝÉɻɡɴɧ͔",?_]
 w_up
 refine#[bh _,λf F=>?_]
 w_up
 refine iA (λm j o=>∃(a:Y)(ds:aa)(k:O)(r:Zk V),m=a.8/\j=[W (B a),W (B b),W (L f),r]/\o f=W (Y' (ds.map B))/\Same H o/\0<=a/\2^k*a<b^k/\ds.9+k<=k0/\(∀x∈ds,2*x.8<=b.8)/\(0<a\/ds≠[]/\0<Z ds (ds.9-1))/\∀rest,J b rest=a->J b (ds++rest)=n) n.8 ?_ ?_
 .exact#[n,[],k0,Zy,rfl,rfl,ai,au F _,(),nb,by simp,by simp,.inl n0,λrest h=>h]
 rintro m j o ⟨a,ds,k,r,rfl,rfl,hz,sz,h0,hk,hl,hb,hp,hv⟩
 room;walk
 refine cu (λh=>?_) (λh=>?_)
 .let hn:a≠0:=by simpa using h
  refine#[λu l=>∃low t:Y,u=[W (B t),W (B b),W (L f),W (B low)]/\l=upd o f (Y' ((ds++[low]).map B))/\a=low+b*t/\2*low.8<=b.8/\0<=t,?_,(),?_]
  .rintro u l ⟨low,t,rfl,rfl,c,d,y⟩
   let tb:b*t<=2*a:=by
    by_cases z:t=0
    .rw[z];lk
    .let I:b*1<=b*t:=oS () ();generalize b*t=X at I c ⊢;lk
   let tn:t<a:=by
    by_cases z:t=0
    .lk
    .let z2:29*t<=b*t:=EB C y;lk
   obtain⟨e,rfl⟩:∃e,k=e+1:=⟨k-1,by
    by_cases z:k=0
    .rw[z]at hk;simp at hk;lk
    .lk⟩
   refine#[t.8,(),t,U,ds++[low],e,_,rfl,ai,sz.more F,y,?_,by simp;lk,λx hx=>?_,?_,λrest R=>?_]
   .rw[mW,mW]at hk;let e1:2^e*(b*t)<=2^e*(2*a):=oS tb (zdz ());let e2:(2:Y)^e*(2*a)=2^e*2*a:=by grind
    let e3:(2^e*t)*b<b^e*b:=by
     let:(2:Y)^e*(b*t)=(2^e*t)*b:=by grind
     lk
    exact Int.lt_of_mul_lt_mul_right e3 ()
   .rcases b5.mp hx with z|z
    .exact hb x z
    .rw[bZ.mp z];exact d
   .by_cases z:t=0
    .refine .inr #[by simp,?_];rw[show (ds++[low]).9-1=ds.9 by simp,nN,Zt U];rw[z,dY]at c;lk
    .exact .inl ()
   .rw[qH];calc hv ([low]++rest) ?_;show low+b*J b rest=a;rw[R,c]
  .obtain⟨M,hM⟩:∃M:L2.St->Hp->Prop,∀j l,M j l↔∃low t:Y,j=[W (B a),W (B b),W (L f),W (B low)]/\l=o/\a=low+b*t/\2*low.8<=b.8/\0<=t:=#[_,λ_ _=>Zj]
   let m1:=Int.emod_nonneg a (show b≠0 by lk);let m2:=Int.emod_lt_of_pos a (show 0<b by lk);let m3:=Int.emod_add_mul_ediv a b;let m4:=Int.ediv_nonneg h0 (show 0<=b by lk);let x0:=bb;clear hk bb nb
   room;refine gl M ?_ ?_
   .room;walk
    calc#[.inl #[(),()],cu (λh2=>(hM _ _).mpr #[_,a / b+1,U,U,?_,(),()]) (λh2=>(hM _ _).mpr #[_,a / b,U,U,(),(),m4])];rw[jc,ya];lk
   .intro j l hm;obtain⟨low,t,rfl,rfl,c,d,y⟩:=(hM _ _).mp hm
    room;walk
    let et:(a-low).fdiv b=t:=by
     rw[show a-low=b*t by lk];exact qO _ ()
    rw[et];refine#[iz (Zw hz),_,hz,cy (by simp;lk),(),x0,by rw[aY];rfl,c,d,y]
 .let e0:a=0:=by simpa using h
  subst e0;rcases hp with z|⟨I,z2⟩
  .lk
  let v:=hv [] U;rw[oD]at v;calc q ds v hb I z2 () f _ sz F hz
structure Two (a b g:aa)(G:O):Prop where
 na:S a
 nb:S b
 a0:a≠[]
 b0:b≠[]
 la:a.9<=40
 lb:b.9<=40
 ba:∀z∈a,Bd 5000 z
 bb:∀z∈b,Bd 5000 z
 pg:gP (Z g)
 ng:S g
 lg:g.9<=40
 up:0<Z g (g.9-1)
 bG:Bd 4480 (G:Y)
 da:∃x,Div a g x
 db:∃y,Div b g y
 bz:∃(U V:aa)(m:Y),m≠0/\(∀z∈g,m.8*z.8<=G)/\∀n,J n U*J n a+J n V*J n b=m*J n g
def JT {p:Y}(b:1<=p)(na:S a)(a0:a≠[])(h:∀z∈a,2*z.8<=p.8):J p a≠0:=by
 let c:=dU na a0;rcases yp c with g|g
 .let e:∀j,Z (a.map λz=>-1*z) j=-1*Z a j:=λj=>by
   by_cases h:j<a.9
   .rw[aO (xs:=a.map _) (⇑h),aO h,cZ]
   .rw[aL (xs:=a.map _) (by simp;lk),aL (),dY]
  let:=(wk b (a.map λz=>-1*z) (⇑a0) (λx hx=>by
   cases b8.mp hx,z,d,rfl;let:=h z d;lk) (by rw[af,e];lk)).2
  rw[aJ]at this;lk
 .let:=(wk b a a0 h g).2;lk
theorem JU {p:Y}(b:1<=p):∀a:aa,(∀z∈a,2*z.8<=p.8)->(J p a).8<p.8^a.9
 |[],_=>by simp[J]
 |x::a,h=>by
  let i:=JU b a λz c=>h z (by simp[c]);let hx:=h x ⋯;let e:J p (x::a)=x+p*J p a:=rfl;rw[e,dO,kX];let m:p.8*((J p a).8+1)<=p.8*p.8^a.9:=fE _ i;rw[EJ,mZ,hI _ (p.8^a.9)]at m;let n:(p*J p a).8=p.8*(J p a).8:=du _ _;let d:1<=p.8:=kg.mpr ();calc dE (dF (ju _ _) ?_) m;rw[n];clear n m i e h b;generalize p.8=pn at *;generalize x.8=f at *;lk
def few {p L:O}(a:29<=p)(h:p^L<2^L*p^40):L<=52:=by
 calc qI λf=>?_;obtain⟨r,rfl⟩:∃r,L=52+r:=#[L-52,()]
 let b:p^(52+r)=p^40*(p^12*p^r):=by rw[<-eH,<-eH];congr 1;lk
 let c:(2:O)^(52+r)=2^52*2^r:=eH 2 52 r;let i:29^12<=p^12:=m_ a 12;let d:2^r<=p^r:=m_ () r;let e:2^52*2^r<=p^12*p^r:=fq () d;rw[b,c,hI (2^52*2^r)]at h;calc Zq h (Nat.not_lt.mpr (fE (p^40) e))
def Sy {p:O}(a:29<=p){n:O}(h:n<p^40):2^60*n<p^60:=by
 let b:p^60=p^20*p^40:=by rw[<-eH]
 let c:29^20<=p^20:=m_ a 20;let d:2^60*n<29^20*p^40:=by
  refine dF (fj n (show 2^60<=29^20 by decide)) (Ew h ())
 rw[b];calc dE d (fj _ c)
def JV (f:b_)(c:Y)(j:O):pm f (λi=>if i=0 then c else 0) j=c*f j:=by
 unfold pm;rw[vX (i:=j) () λi hi a=>?_]
 .show f j*(if j-j=0 then c else 0)=_;rw[Zt (gE j),cW]
 .show f i*(if j-i=0 then c else 0)=0;rw[N (),dY]
theorem Sz {G:O}(i:Two a b g G){p:Y}{M:O}(hp:2*(M:Y)+29<=p)(hM:(∀z∈a,z.8<=M)\/(∀z∈b,z.8<=M)):
  (0<cO (J p a).8 (J p b).8/\cO (J p a).8 (J p b).8<p.8^40)/\∀f:aa,J p f=(cO (J p a).8 (J p b).8:O)->(∀x∈f,2*x.8<=p.8)->f≠[]->0<Z f (f.9-1)->
   f.9<=60/\0<ag f/\S (f.map λx=>x.fdiv (ag f))/\(∀qa qb,Div a (f.map λx=>x.fdiv (ag f)) qa->Div b (f.map λx=>x.fdiv (ag f)) qb->f.map (λx=>x.fdiv (ag f))=g)/\(2*(G:Y)+1<=p->f.map (λx=>x.fdiv (ag f))=g):=by
 cases i.bz,U,V,m,m0,hG,bz;cases i.da,x,hx;cases i.db,y,hy;let vx:=jm.mp hx;let vy:=jm.mp hy;let small:∃d:aa,(J p d≠0/\(J p d).8<p.8^40)/\(cO (J p a).8 (J p b).8)∣(J p d).8:=by
  let pw:∀d:aa,d.9<=40->(∀z∈d,z.8<=M)->(J p d).8<p.8^40:=λd hd l=>
   dE (JU () d λz X=>by let:=l z X;lk) (fQ () hd)
  rcases hM with h|h
  .exact#[a,#[JT () i.na i.a0 λz l=>by let:=h z l;lk,pw a i.la h],mV _ _]
  .exact#[b,#[JT () i.nb i.b0 λz l=>by let:=h z l;lk,pw b i.lb h],oO _ _]
 cases small,d,#[d0,dl],dd;let E:0<cO (J p a).8 (J p b).8:=oP λz=>by
  rw[z]at dd;exact d0 (Int.natAbs_eq_zero.mp (Ez dd))
 let x0:=mT (kg.mpr d0) dd;calc#[#[E,dF x0 dl],λf fv fs f0 P=>?_];let fl:f.9<=60:=by
  let t:=(wk () f f0 fs P).1;rw[fv]at t;let e:(p.8:Y)=p:=()
  let t':p.8^(f.9-1)<=2^(f.9-1)*cO (J p a).8 (J p b).8:=by
   let:((p.8^(f.9-1):O):Y)<=((2^(f.9-1)*cO (J p a).8 (J p b).8:O):Y):=by
    rw[EK,fX,EK,e];exact t
   exact Int.ofNat_le.mp this
  let:=few (p:=p.8) (L:=f.9-1) () (dF t' (Ew () (eV _)));lk
 let hl:f.9-1<f.9:=by let:=cE.mpr f0;lk
 let n:0<ag f:=oP λz=>by
  let:=gw f _ (cD hl);rw[z]at this;let:=No.mp (⇑this);rw[aO hl,this]at P;lk
 let c0:((ag f:O):Y)≠0:=()
 let fz:∀z∈f,((ag f:O):Y)*z.fdiv (ag f:O)=z:=λz l=>by
  cases gw f z l,t,ht;rw[ht,qO _ c0]
 let Q:∀j,Z f j=((ag f:O):Y)*Z (f.map λx=>x.fdiv (ag f:O)) j:=λj=>by
  by_cases o:j<f.9
  .rw[aO o,aO (xs:=f.map _) (⇑o),cZ];exact (fz _ (cD o)).symm
  .rw[aL (),aL (xs:=f.map _) (by simp;lk),dY]
 let vf:J p f=((ag f:O):Y)*J p (f.map λx=>x.fdiv (ag f:O)):=by
  rw[<-aJ];calc f9 (λj=>?_) p;rw[Q j];by_cases o:j<f.9
  .rw[aO (xs:=(f.map _).map _) (⇑o),cZ,aO (xs:=f.map _) (⇑o)]
  .rw[aL (xs:=f.map _) (by simp;lk),aL (xs:=(f.map _).map _) (by simp;lk),dY]
 let y0:∀z∈f.map (λx=>x.fdiv (ag f:O)),2*(((ag f:O):Y)*z).8<=p.8:=λz l=>by
  cases b8.mp l,x,hx,rfl;rw[fz x hx];exact fs x hx
 let F:(f.map λx=>x.fdiv (ag f:O)).9=f.9:=af _;let q:0<Z (f.map λx=>x.fdiv (ag f:O)) (f.9-1):=by
  rw[Q]at P;exact EL P ()
 let fp:gP (Z (f.map λx=>x.fdiv (ag f:O))):=λe he=>by
  let:e*ag f∣ag f:=iS _ f λz l=>by
   cases di.mp l,j,o,rfl;rw[<-aO o,Q j,fX,cW];exact Np _ (he j)
  cases this,t,ht;let:ag f*1=ag f*(e*t):=by rw[mZ,<-iG,hI _ e];exact ht
  let:=Nz n this;exact (VP this.symm)
 generalize n0:(f.map λx=>x.fdiv (ag f:O))=r at *;generalize ag f=c at *;let H:r≠[]:=cE.mp ();let s:S r:=fO.mpr λz l=>by
  rw[gC,F,aq ()]at l;rw[aO ()]at q;rw[<-Zv l];lk
 obtain⟨h,R⟩:((J p g).8)∣cO (J p a).8 (J p b).8:=qU #v[vx p,du,zc1 _ _] #v[vy p,du,zc1 _ _];let h1:1<=h:=oP λz=>by rw[z,Nat.mul_zero]at R;lk
 let I:0<J p r:=by
  let:0<(c:Y)*J p r:=by rw[<-vf,fv];lk
  exact EL this ()
 let hv:(c:Y)*J p r=(h:Y)*((J p g).8:Y):=by rw[<-vf,fv,R,fX,cW]
 refine#[fl,n,s,λqa qb da db=>?_,λx1=>?_]
 .rcases Rt (c:=c) (h:=h) hp fp s H () y0 i.pg i.ng hx hy (hM.imp (λz=>#[i.a0,i.na,z]) λz=>#[i.b0,i.nb,z]) da db m0 bz () I hv with e|e
  .exact e
  .exfalso;let lg:r.9=g.9:=by rw[e,af]
   rw[<-F,e]at q;rw[af]at q;let hg:g.9-1<g.9:=by let:=cE.mpr H;lk
   rw[aO (xs:=g.map _) (⇑hg),cZ]at q;let:=i.up;rw[aO hg]at this;lk
 .let hm:h∣m.8:=by
   let dv:(cO (J p a).8 (J p b).8:Y)∣m*J p g:=by
    rw[<-bz p];exact Nm (ge (EI.mp (jv.mpr (mV _ _))) (qR _ _)) (ge (EI.mp (jv.mpr (oO _ _))) (qR _ _))
   let dn:=oJ.mpr dv;rw[d_,du,R,hI m.8]at dn;let gp:0<(J p g).8:=oP λz=>by rw[z,zem]at R;lk
   exact Nat.dvd_of_mul_dvd_mul_left gp dn
  let z0:=mT (kg.mpr m0) hm;let m1:=kg.mpr m0;let g0:g≠[]:=λz=>by let:=i.up;rw[z]at this;simp[Z]at this
  let gs:∀z∈g,2*z.8<=p.8:=λz l=>by
   let:=hG z l;let:z.8<=m.8*z.8:=ik _ m1;lk
  let u0:=(wk () g g0 gs i.up).2;let hc:∀k,Z f k=Z (g.map λz=>(h:Y)*z) k:=Ru () f _ fs (λz l=>by
   cases b8.mp l,y,hy,rfl;let h2:=hG y hy;let h3:h*y.8<=m.8*y.8:=fj _ z0;rw[du,d_];lk) (by rw[aJ,vf,hv];congr 1;lk)
  let u:∀k,(c:Y)*Z r k=(h:Y)*Z g k:=λk=>by
   rw[<-Q k,hc k];by_cases o:k<g.9
   .rw[aO (xs:=g.map _) (⇑o),aO o,cZ]
   .rw[aL (xs:=g.map _) (by simp;lk),aL (),dY]
  let j0:h∣c:=by
   calc jv.mp (Zc λC=>?_);let z:=pP fp h h1 (λj=>if j=0 then (c:Y) else 0) (λj=>by
    rw[JV,u j];calc i0 _ _) 0
   exact C (⇑z)
  let k0:c∣h:=by
   calc jv.mp (Zc λC=>?_);let z:=pP i.pg c n (λj=>if j=0 then (h:Y) else 0) (λj=>by
    rw[JV,<-u j];calc i0 _ _) 0
   exact C (⇑z)
  let ch:c=h:=EF k0 j0;calc gq s i.ng λk=>?_;let:=u k;rw[ch]at this;calc jx () this
def SB (K:ao):Sp:=λvs H Q _=>∃(p q:Zs)(a b g:aa)(G:O),vs=[.ref p,.ref q]/\SqL K H p (a.map B)/\SqL K H q (b.map B)/\Two a b g G/\eE H Q (g.map B)
def JW (h:Div one XY q):Div one XY (aw q):=λk=>by
 rw[h k];unfold pm;calc fC λj _=>by rw[cX]
def JX {K:ao}{one XY:aa}{k l:O}{R:VK}(n:SqL K H d (one.map B))(o:SqL K H i (XY.map B))(l1:one.9<=64)(r:XY.9<=64)(n1:S one)(u:S XY)(j:XY≠[])(b1:∀x∈one,Bd k x)(b2:∀y∈XY,Bd l y)(hk:k<=100000)(z:l<=8995)(m:∀x b,Same H b->((x=.non/\∀q,¬Div one XY q)\/∃(F:Zs)(q:aa),x=.ref F/\H F=Zy/\b F=W (Y' (q.map B))/\S q/\Div one XY q)->R x b):
  JP K c [.ref d,.ref i] H R E0:=by
 calc#[d,i,one,XY,k,l,U,n,o,l1,r,n1,u,b1,b2,hk,(),.inr #[j,?_]];by_cases a:∃q,Div one XY q
 .cases a,q,a;exact .inl #[aw q,cn q,JW a,λF b s f e=>m _ _ s (.inr #[F,aw q,U,f,e,cn q,JW a])]
 .calc .inr #[λq h=>a #[q,h],λb s=>m _ _ s (.inl #[U,λq h=>a #[q,h]])]
theorem ol {k l:O}(b:Bd l n):∀a:aa,(∀x∈a,Bd k x)->Bd (k+(l+1)*a.9) (J n a)
 |[],_=>Bd.zero _
 |x::a,h=>by
  let i:=ol b a λy hy=>h y (by simp[hy]);let e:J n (x::a)=x+n*J n a:=rfl;rw[e,dO,oV];calc (((h x ⋯).mono (l:=l+(k+(l+1)*a.9)) ()).add (b.mul i)).mono ()
def SC:FnOk P w K mg base CX0 4 T.W9.ax T.W9.dx ["one","other"] (SB K):=by
 refine T.W9.Fx.ok pW (λvs H Q E h=>?_) (λv3 A outer s H vs Q E n h=>?_)
 .cases h,p,q,a,b,g,G,rfl,_;rfl
 cases h,pa,pb,a,b,g,G,rfl,hA,hB,c,q;refine#[_,s!"ʍĊɚʅ4Ɖ&<Ľ̴ʏƊˢƋƌƍʽʏƊˢƋƌƍʦɰ&1ˀª¹ʜĊʄǦˢǧǨǩʺŃˢńŅņʺķˢĸĹĺʇʤʏķˢĸĹĺʦ̵ɰʤʜĊʄŇˢňŉŊ˹ʏċˢČčĎ˹ɰ̃̐äɞďˢĐđĒʇ̀_ɩÇ@äɞďˢĐđĒʦ̷̀ɴIʑ,Ċɚʅʢɪɪ&",?_]
 w_up
 refine#[pa,a,U,hA,c.a0,by let:=c.la;lk,λMa H1 s1 x1 y1=>#[pb,b,U,s1.seq hB,c.b0,by let:=c.lb;lk,λMb H2 s2 z1 u1=>#[_,U,_,U,.inl #[(),()],?_]]];let big:∀(M:O)(xs:aa),(∀z∈xs,Bd 5000 z)->(∃z∈xs,z.8=M)->Bd 5000 (M:Y):=λM xs hb ⟨z,hz,e⟩=>by rw[<-e];exact hb z hz
 obtain⟨M,v1,hM,j1⟩:∃M:O,(2*if (Mb:Y)<(Ma:Y) then (Mb:Y) else (Ma:Y))+29=2*(M:Y)+29/\((∀z∈a,z.8<=M)\/(∀z∈b,z.8<=M))/\Bd 5000 (M:Y):=by
  by_cases h:(Mb:Y)<(Ma:Y)
  .exact#[Mb,by rw[Zt h],.inr z1,big _ _ c.bb u1]
  .exact#[Ma,by rw[N h],.inl x1,big _ _ c.ba y1]
 rw[v1];let s3:=s1.trans s2;let g1:Bd 8990 (2*(M:Y)+29):=(((Bd.of_lt (k:=2) (m:=3) () ():Bd 2 (2:Y)).mul j1).add ((Bd.of_lt (m:=30) () ():Bd 5 (29:Y)).mono ())).mono ();refine iA (λk σ H'=>∃(p:Y)(r:Zk V),k=(2*(G:Y)+1-p).toNat/\σ=[W (L pa),W (L pb),W (B p),r]/\Same H H'/\2*(M:Y)+29<=p/\Bd 8990 p) (2*(G:Y)+1-(2*(M:Y)+29)).toNat #[_,Zy,U,U,s3,(),g1] ?_
 rintro k σ H' ⟨p,r,rfl,rfl,sP,hp,bp⟩
 room;walk
 cases Sz c hp hM,#[z3,u0],fi;cases c.da,xg,m1;cases c.db,yg,x2;let la:=c.la;let lb:=c.lb;let bG:=c.bG;let y2:=ol bp a c.ba;let z2:=ol bp b c.bb;let u3:Bd 400000 (J p a):=y2.mono ();let j0:Bd 400000 (J p b):=z2.mono ();refine#[λk0 H1=>∃r:Zk V,k0=[W (L pa),W (L pb),W (B (p*p+1)),r]/\Same H H1/\p<2*(G:Y)+1,?_,?_]
 .rintro k0 H1 ⟨r,rfl,sN,hG⟩
  let pp:29*p<=p*p:=EB () ();let u2:Bd 4482 (2*(G:Y)):=((Bd.of_lt (k:=2) (m:=3) () ():Bd 2 (2:Y)).mul bG).mono ();let bq:Bd 4482 p:=dF (show p.8<=(2*(G:Y)).8 by lk) u2;let v2:=((bq.mul bq).add (Bd.one ())).mono (l:=8990) ();calc#[_,?_,p*p+1,U,r,U,sN,(),v2];generalize p*p=X at pp;lk
 let pe:((p.8:O):Y)=p:=()
 let u:(2:Y)^60*((cO (J p a).8 (J p b).8:O):Y)<p^60:=by
  let h:=Sy (p:=p.8) () u0;let h2:((2^60*cO (J p a).8 (J p b).8:O):Y)<((p.8^60:O):Y):=Int.ofNat_lt.mpr h;rw[fX,EK,EK,pe]at h2;exact h2
 let b9:p.8<2^9000:=dE bp (fQ () ());calc#[pa,a,p,5000,8990,U,sP.seq hA,(),c.ba,bp,(),pb,b,p,5000,8990,U,sP.seq hB,(),c.bb,bp,(),_,_,U,j0.mono (),λH9 s9=>?_];let sP:=sP.trans s9;calc#[_,p,60,U,(),u,(),(),b9,λf fv fs f0 ft fl F G1 s1 nF eF=>?_];cases fi f fv fs f0 ft,j3,c0,fn,n0,I;let bf:∀x∈f,Bd 8990 x:=λx hx=>dF (show x.8<=p.8 by let:=fs x hx;lk) bp;let j2:∀x∈f,Bd 900000 x:=λx hx=>(bf x hx).mono ();let k2:((ag f:O):Y).8<2^9000:=by
  rw[d_];exact dE (mH (eV _) f bf) (fQ () ())
 clear u b9 u0 fl;calc#[F,f,U,Zw eF,j2,λk3 R=>#[F,f,_,U,Zw (R _ _ eF),(),(),k2,λF2 G2 s2 g2 o=>?_]];let x0:(f.map λx=>x.fdiv (ag f:O))≠[]:=by simpa using f0
 let y0:∀y∈f.map (λx=>x.fdiv (ag f:O)),Bd 8991 y:=λy hy=>by
  cases b8.mp hy,x,hx,rfl;exact Dx (bf x hx) ()
 let z0:(f.map λx=>x.fdiv (ag f:O)).9<=64:=by rw[af];lk
 let sQ:=sP.trans (s1.trans (R.trans s2));let m2:H F2=Zy:=(sP.trans (s1.trans R)).free g2;let C:zbw p p:=bp.fits bp ();generalize (f.map λx=>x.fdiv (ag f:O))=f2 at fn n0 I o x0 y0 z0;calc JX (one:=a) (XY:=f2) (k:=5000) (l:=8991) (sQ.seq hA) (Zw o) () z0 c.na fn x0 c.ba y0 () () λx3 G3 d n2=>?_;rcases n2 with ⟨rfl,j⟩|⟨Fq,qa,rfl,_,_,_,da⟩
 .rw[N ⋯];calc#[C,_,U,sQ.trans d,EM λz=>?_];rw[I z]at j;exact j xg m1
 rw[Zt ⋯];calc JX (one:=b) (XY:=f2) (k:=5000) (l:=8991) ((sQ.trans d).seq hB) (Zw (d _ _ o)) () z0 c.nb fn x0 c.bb y0 () () λx4 G4 s4 y3=>?_;rcases y3 with ⟨rfl,j⟩|⟨g3,qb,rfl,_,_,_,db⟩
 .rw[N ⋯];calc#[C,_,U,sQ.trans (d.trans s4),EM λz=>?_];rw[I z]at j;exact j yg x2
 rw[Zt ⋯];let e:=s4 _ _ (d _ _ o);rw[n0 qa qb da db]at e;calc q F2 _ (sQ.trans (d.trans s4)) m2 e
def JY (K:ao):Sp:=λvs H Q _=>∃(pa pb:Zs)(a b:aa),vs=[.ref pa,.ref pb]/\SqL K H pa (a.map B)/\SqL K H pb (b.map B)/\a.9<=1000/\b.9<=1000/\
 ((a=[]/\eE H Q ((df b).map B))\/(a≠[]/\b=[]/\eE H Q ((df a).map B))\/
  (a≠[]/\b≠[]/\0<ag a/\0<ag b/\(∀z∈a,Bd 5000 z)/\(∀z∈b,Bd 5000 z)/\∃(g:aa)(G:O),Two (a.map λx=>x.fdiv (ag a:O)) (b.map λx=>x.fdiv (ag b:O)) g G/\eE H Q ((g.map λz=>((cO (ag a) (ag b):O):Y)*z).map B)))
def SD:FnOk P w K mg base CX0 5 T.W_.ax T.W_.dx ["one","other"] (JY K):=by
 refine T.W_.Fx.ok wD (λvs H Q E h=>?_) (λx0 A outer s H vs Q E d h=>?_)
 .cases h,p,q,a,b,rfl,_;rfl
 cases h,pa,pb,a,b,rfl,e,f,la,lb,q;refine#[_,s!"͘ʲɸʨƎ̋ƏƐƑ́I͘ʳɸʨƎ̋ƏƐƑʽIʍŋʄċ̋ČčĎʽʜŋʄċ̋ČčĎ́ʰŋ˼Ń̋ńŅņ˻̀ɨˍ:ŌʷɞǪ̋ǫǬǭʺŇ̋ňŉŊʇʤʏŇ̋ňŉŊʦ˃ɰJʢɧɡ",?_]
 w_up
 calc#[_,.inl e,?_];rw[af];refine cu (λh=>?_) (λh=>?_)
 .let a0:a=[]:=b7 ();rcases q with ⟨_,q⟩|⟨z,_⟩|⟨z,_⟩
  .exact#[pb,b,U,f,lb,q]
  .exact Zq a0 z
  .exact Zq a0 z
 let a0:a≠[]:=by intro z;rw[z]at h;simp at h
 w_up
 calc#[_,.inl f,?_];rw[af];refine cu (λh=>?_) (λh=>?_)
 .let b0:b=[]:=b7 ();rcases q with ⟨z,_⟩|⟨_,_,q⟩|⟨_,z,_⟩
  .exact Zq z a0
  .exact#[pa,a,U,e,la,q]
  .exact Zq b0 z
 let b0:b≠[]:=by intro z;rw[z]at h;simp at h
 rcases q with ⟨z,_⟩|⟨_,z,_⟩|⟨_,_,ca,cb,ba,bb,g,G,j,q⟩
 .exact Zq z a0
 .exact Zq z b0
 let k:∀{xs:aa},(∀z∈xs,Bd 5000 z)->Bd 5000 ((ag xs:O):Y):=λ{xs} hx=>by
  show ((ag xs:O):Y).8<2^5000;rw[d_];exact mH (eV _) xs hx
 let I:∀{x:Y},Bd 5000 x->x.8<2^9000:=λ{x} hx=>dE hx (fQ () ())
 w_up
 refine#[pa,a,U,e,λx hx=>(ba x hx).mono (),λH7 M=>?_]
 w_up
 refine#[pb,b,U,M.seq f,λx hx=>(bb x hx).mono (),λH8 s8=>?_]
 w_up
 refine#[_,_,U,(k bb).mono (),λH9 s9=>?_]
 w_up
 let l:=M.trans (s8.trans s9);rw[d_,d_];calc#[pa,a,_,U,l.seq e,(),(),I (k ba),λA1 H1 R n1 e1=>#[pb,b,_,U,(l.trans R).seq f,(),(),I (k bb),λB1 H2 X n2 e2=>#[A1,B1,_,_,g,G,U,Zw (X _ _ e1),Zw e2,j,λF H3 s3 n3 e3=>?_]]];let sg:∀z∈g,Bd 4480 z:=λz hz=>by
  cases j.bz,_,_,m,m0,hG,_;let h1:=hG z hz;let h2:z.8<=m.8*z.8:=ik _ (kg.mpr m0);exact dF (show z.8<=(G:Y).8 by lk) j.bG
 let gc:Bd 5000 ((cO (ag a) (ag b):O):Y):=dF (show ((cO (ag a) (ag b):O):Y).8<=((ag a:O):Y).8 by let:=Nx (ag b) ca;lk) (k ba);let lg:=j.lg;calc#[F,U,#[_,Zw e3],λC hC=>?_];obtain⟨n,c⟩:∃n:dG,∀i o,n i o↔o C=W (Y' (((g.take i).map λz=>((cO (ag a) (ag b):O):Y)*z).map B))/\Same H3 o:=#[_,λ_ _=>Zj]
 refine fZ (xs:=g.map B) n ((c _ _).mpr #[by rw[ai];rfl,au hC _]) (λi Hx _ z=>Zw (((c i Hx).mp z).2 _ _ e3)) ?_ ?_
 .intro i v Hx r u;cases (c _ _).mp u,k1,y;let hi:i<g.9:=by let:=(a_.mp r).1;rw[af]at this;exact this
  rw[a7,aq hi]at r;obtain rfl:B g[i]=v:=Zv r
  room;simp![bst,fF]
  let et:g.take (i+1)=g.take i++[g[i]]:=by rw[dI,aq hi];rfl
  refine#[gc.fits (sg _ (cD hi)) (),_,k1,JQ (by simp;lk),(c _ _).mpr #[?_,y.more hC]];rw[ai,et,aY,aY];rfl
 intro H4 u;cases (c _ _).mp u,k1,y;rw[af,fY]at k1;let sA:=l.trans (R.trans (X.trans s3));calc q C _ (sA.trans y) (sA.free hC) k1
noncomputable def dvL (xs:aa) (c:O):aa:=xs.map λx=>x.fdiv (c:Y)
def SE {c:O}(a:0<c){x:Y}(h:(c:Y)∣x):(c:Y)*x.fdiv (c:Y)=x:=by
 rw[Ep _ ()];calc yr h
def SF (xs:aa)(c:O)(j:O):Z (dvL xs c) j=(Z xs j).fdiv (c:Y):=by
 unfold dvL;by_cases h:j<xs.9
 .rw[aO #v[af,h],aO h,cZ]
 .rw[aL (by rw[af];lk),aL ()];simp
def kL (a:0<ag xs)(j:O):((ag xs:O):Y)*Z (dvL xs (ag xs)) j=Z xs j:=by
 rw[SF];calc SE a (cV (gw xs) (qQ _) j)
def i9 (a:0<ag xs)(n:Y):((ag xs:O):Y)*J n (dvL xs (ag xs))=J n xs:=by
 rw[<-aJ];calc f9 (λj=>?_) n;rw[<-kL a j];by_cases h:j<(dvL xs (ag xs)).9
 .rw[aO #v[af,h],aO h,cZ]
 .rw[aL (by rw[af];lk),aL ()];simp
def jW (xs:aa)(c:O):(dvL xs c).9=xs.9:=af ..
theorem fU (h:S xs)(a:xs≠[]):0<ag xs:=by
 calc oP λz=>?_;let:=dU h a;let b:=cV (P:=λx=>((ag xs:O):Y)∣x) (gw xs) (qQ _) (xs.9-1);rw[z]at b;calc this (No.mp b)
def w8 (h:S xs)(a:xs≠[]):S (dvL xs (ag xs)):=by
 calc og (.inr λz=>?_);rw[jW]at z;let:=kL (fU h a) (xs.9-1);rw[z,dY]at this;calc dU h a this.symm
def w_ (a:0<ag xs):gP (Z (dvL xs (ag xs))):=λd hd=>by
 let h:d*ag xs∣ag xs:=iS _ _ (cP λj=>by
  rw[<-kL a j,fX,cW (d:Y)];calc Np _ (hd j))
 cases h,e,b;let c:ag xs*(d*e)=ag xs*1:=by rw[mZ,<-iG,hI (ag xs) d];exact b.symm
 let f:=Nz a c;calc VP f
theorem JZ (a:0<ag p)(b:0<ag g)(h:∀j,Z A j=pm (Z p) (Z g) j):ag A=ag p*ag g:=by
 let e:∀j,Z A j=((ag p*ag g:O):Y)*pm (Z (dvL p (ag p))) (Z (dvL g (ag g))) j:=λj=>by
  rw[h j,fX,cI,<-pH,<-Rh];congr 1
  .funext i;exact (kL a i).symm
  .funext i;exact (kL b i).symm
 let l:ag p*ag g∣ag A:=iS _ _ (cP λj=>#v[e j,i0 _ _]);cases l,f,d;let m:0<ag p*ag g:=jd a b;let c:f=1:=Rs (w_ a) (w_ b) f λj=>by
  let k:=cV (P:=λx=>((ag A:O):Y)∣x) (gw A) (qQ _) j;rw[e j,d,fX _ f]at k;exact VD () k
 rw[d,c,mZ]
def p7 (xs:aa):∃e:Y,(e=1\/e=-1)/\∀j,Z (df xs) j=e*Z xs j:=by
 unfold df
 split
 .exact#[-1,.inr U,λj=>by rw[CP];lk]
 .calc#[1,.inl U,λj=>()]
def mI (xs:aa):(df xs).9=xs.9:=by unfold df;split <;> simp
def kO (h:S xs)(a:xs≠[]):0<Z (df xs) ((df xs).9-1):=by
 let:=dU h a;rw[mI];unfold df
 split
 .rename_i z;rw[CP];lk
 .rename_i z;let:¬Z xs (xs.9-1)<0:=λy=>z #[a,y];lk
def J0 (c:S xs)(hy:S ys){e:Y}(d:e=1\/e=-1)(h:∀j,Z ys j=e*Z xs j)(l:ys≠[]->0<Z ys (ys.9-1)):ys=df xs:=by
 by_cases hx:xs=[]
 .let:ys=[]:=pJ hy λk=>by rw[h k,hx,gn];simp
  rw[this,hx];rfl
 cases p7 xs,f,m,i;let a:ys.9=xs.9:=Nat.le_antisymm (gO hy λk hk=>by rw[h k,aL hk];simp) (gO c λk hk=>by
  let:=h k;rw[aL hk]at this;rcases d with rfl|rfl <;> lk)
 let b:ys≠[]:=by intro z;rw[z]at a;exact hx (b7 a.symm)
 let n:=l b;let o:=kO c hx;rw[mI,i]at o;rw[a,h]at n;let:e=f:=by rcases d with rfl|rfl <;> rcases m with rfl|rfl <;> first|rfl|lk
 calc vU (by rw[a,mI]) λk _=>by rw[h k,i k,this]
def mJ (h:S xs):S (df xs):=by
 by_cases hx:xs=[]
 .rw[hx];exact bH
 .let:=kO h hx;calc og (.inr ())
theorem SG {p q g A B U W:aa}{m:Y}(np:S p)(nq:S q)(ng:S g)(nA:S A)(nB:S B)(p0:p≠[])(q0:q≠[])(g0:g≠[])(lA:A.9<=40)(lB:B.9<=40)(lg:g.9<=40)(bA:∀z∈A,Bd 5000 z)(bB:∀z∈B,Bd 5000 z){G:O}(bg:∀z∈g,m.8*z.8<=G)(hm:m≠0)(bG:Bd 4480 (G:Y))(hb:∀n,J n U*J n p+J n W*J n q=m)(hA:∀n,J n A=J n p*J n g)(hB:∀n,J n B=J n q*J n g):
  0<ag A/\0<ag B/\A≠[]/\B≠[]/\Two (dvL A (ag A)) (dvL B (ag B)) (df (dvL g (ag g))) G/\
   (df (dvL g (ag g))).map (λz=>((cO (ag A) (ag B):O):Y)*z)=df (g.map λz=>((ag (p++q):O):Y)*z):=by
 let cp:=fU np p0;let y:=fU nq q0;let a:=fU ng g0;let I:∀j,Z A j=pm (Z p) (Z g) j:=λj=>by rw[<-gI];exact dX (λn=>by rw[hA,cG]) j
 let M:∀j,Z B j=pm (Z q) (Z g) j:=λj=>by rw[<-gI];exact dX (λn=>by rw[hB,cG]) j
 let Q:=JZ cp a I;let R:=JZ y a M;let cA:0<ag A:=by rw[Q];exact jd cp a
 let k:0<ag B:=by rw[R];exact jd y a
 let X:A≠[]:=by intro z;rw[z]at cA;simp[ag]at cA
 let B0:B≠[]:=by intro z;rw[z]at k;simp[ag]at k
 cases p7 (dvL g (ag g)),e,i,E;let ee:e*e=1:=by rcases i with rfl|rfl <;> rfl
 let f:=w8 ng g0;let l:dvL g (ag g)≠[]:=by intro z;let:=jW g (ag g);rw[z]at this;exact g0 (b7 this.symm)
 let vu:∀n,J n (df (dvL g (ag g)))=e*J n (dvL g (ag g)):=λn=>by
  rw[<-aJ];calc f9 (λj=>?_) n;rw[E j];by_cases h:j<(dvL g (ag g)).9
  .rw[aO (xs:=yt _ _) #v[af,h],aO h,cZ]
  .rw[aL (xs:=yt _ _) (by rw[af];lk),aL (xs:=dvL _ _) ()];simp
 let o:∀{r C:aa},0<ag r->ag C=ag r*ag g->0<ag C->(∀n,J n C=J n r*J n g)->∀n,J n (dvL C (ag C))=J n (dvL r (ag r))*J n (dvL g (ag g)):=λ{r C} F h2 h3 h4 n=>by
  let b:=i9 h3 n;rw[h4 n,<-i9 F n,<-i9 a n]at b;let s:((ag C:O):Y)*J n (dvL C (ag C))=((ag C:O):Y)*(J n (dvL r (ag r))*J n (dvL g (ag g))):=by
   rw[b]
   conv=>rhs;rw[h2,fX]
   simp only[cI,kZ]
  exact jx () s
 let kA:=o cp Q cA hA;let kB:=o y R k hB;let small:∀{C:aa},0<ag C->(∀z∈C,Bd 5000 z)->∀z∈dvL C (ag C),Bd 5000 z:=λ{C} F h2=>cP λj=>by
  let b:=kL F j;let s:Bd 5000 (Z C j):=cV h2 (Bd.zero _) j;let a3:(Z C j).8=ag C*(Z (dvL C (ag C)) j).8:=by rw[<-b,du,d_]
  let a4:(Z (dvL C (ag C)) j).8<=ag C*(Z (dvL C (ag C)) j).8:=ik _ F;exact dF (show (Z (dvL C (ag C)) j).8<=(Z C j).8 by lk) s
 refine⟨cA,k,X,B0,⟨w8 nA X,w8 nB B0,by intro z;let:=jW A (ag A);rw[z]at this;exact X (b7 this.symm),by intro z;let:=jW B (ag B);rw[z]at this;exact B0 (b7 this.symm),
  by rw[jW];exact lA,#v[jW,lB],small cA bA,small k bB,?_,mJ f,#v[mI,jW,lg],kO f l,bG,?_,?_,?_⟩,?_⟩
 .intro d hd;calc w_ a d λj=>?_;let:=hd j;rw[E j]at this;rcases i with rfl|rfl
  .rwa [cL]at this
  .rw[zey,cL]at this;exact Int.dvd_neg.mp this
 .calc#[(dvL p (ag p)).map λx=>e*x,jm.mpr λn=>?_];rw[kA n,vu n,aJ];generalize J n (dvL p (ag p))=u;generalize J n (dvL g (ag g))=v
  calc u*v=(e*e)*(u*v):=by rw[ee,cL]
   _=e*v*(e*u):=by simp only[cI,cW,kZ]
 .calc#[(dvL q (ag q)).map λx=>e*x,jm.mpr λn=>?_];rw[kB n,vu n,aJ];generalize J n (dvL q (ag q))=u;generalize J n (dvL g (ag g))=v
  calc u*v=(e*e)*(u*v):=by rw[ee,cL]
   _=e*v*(e*u):=by simp only[cI,cW,kZ]
 .refine#[U.map λx=>((ag p:O):Y)*x,W.map λx=>((ag q:O):Y)*x,m*e,?_,?_,λn=>?_]
  .rcases i with rfl|rfl <;> lk
  .calc cP λj=>?_;let b:(m*e).8=m.8:=by rcases i with rfl|rfl <;> lk
   let s:(Z (df (dvL g (ag g))) j).8=(Z (dvL g (ag g)) j).8:=by rw[E j];rcases i with rfl|rfl <;> lk
   let a3:=kL a j;let a4:m.8*(Z g j).8<=G:=cV (P:=λz=>m.8*z.8<=G) bg ⋯ j;let a5:(Z g j).8=ag g*(Z (dvL g (ag g)) j).8:=by rw[<-a3,du,d_]
   let a6:(Z (dvL g (ag g)) j).8<=ag g*(Z (dvL g (ag g)) j).8:=ik _ a;rw[b,s];exact aP (fE _ ()) a4
  .let b:=hb n;rw[<-i9 cp n,<-i9 y n]at b;rw[aJ,aJ,kA n,kB n,vu n,<-b];generalize J n (dvL p (ag p))=u;generalize J n (dvL q (ag q))=u';generalize J n (dvL g (ag g))=v;generalize ((ag p:O):Y)=c1;generalize ((ag q:O):Y)=c2
   calc c1*J n U*(u*v)+c2*J n W*(u'*v)=(J n U*(c1*u)+J n W*(c2*u'))*v:=by rw[yn];simp only[cI,cW,kZ]
    _=(J n U*(c1*u)+J n W*(c2*u'))*((e*e)*v):=by rw[ee,cL]
    _=_:=by simp only[cI]
 .let ec:cO (ag A) (ag B)=ag (p++q)*ag g:=by
   rw[Q,R,Nat.gcd_mul_right];congr 1;refine EF (iS _ _ λx hx=>?_) (qU (iS _ _ λx hx=>gw _ x (by simp[hx])) (iS _ _ λx hx=>gw _ x (by simp[hx])));rcases b5.mp hx with z|z
   .exact ge (jv.mpr (mV _ _)) (gw p x z)
   .exact ge (jv.mpr (oO _ _)) (gw q x z)
  let y0:0<ag (p++q):=oP λz=>by
   rw[z]at ec;let:0<cO (ag A) (ag B):=yy _ cA;lk
  let H:∀(c:Y)(xs:aa) j,Z (xs.map λz=>c*z) j=c*Z xs j:=λc xs j=>by
   by_cases h:j<xs.9
   .rw[aO #v[af,h],aO h,cZ]
   .rw[aL (by rw[af];lk),aL (xs:=xs) ()];simp
  let ut:=kO f l;let x0:0<cO (ag A) (ag B):=yy _ cA;let tp:0<Z ((df (dvL g (ag g))).map λz=>((cO (ag A) (ag B):O):Y)*z) (((df (dvL g (ag g))).map λz=>((cO (ag A) (ag B):O):Y)*z).9-1):=by
   rw[af,H];exact yq () ut
  refine J0 ?_ (og (.inr ())) i (λj=>?_) (λ_=>tp)
  .calc og (.inr ?_);rw[af,H];exact fL () (dU ng g0)
  .rw[H,H,E,ec,<-kL a j,fX];simp only[cI,cW,kZ]
def fJ (A B R:aa):Prop:=
 (A=[]/\R=df B)\/(A≠[]/\B=[]/\R=df A)\/
 (A≠[]/\B≠[]/\0<ag A/\0<ag B/\(∀z∈A,Bd 5000 z)/\(∀z∈B,Bd 5000 z)/\∃(g:aa)(G:O),Two (dvL A (ag A)) (dvL B (ag B)) g G/\R=g.map λz=>((cO (ag A) (ag B):O):Y)*z)
def dg (c:Y)(xs:aa)(j:O):Z (xs.map λz=>c*z) j=c*Z xs j:=by
 by_cases h:j<xs.9
 .rw[aO #v[af,h],aO h,cZ]
 .rw[aL (by rw[af];lk),aL (xs:=xs) ()];simp
def cx (n:Y)(xs:aa):J n (aw xs)=J n xs:=f9 (λk=>cX xs k) n
def pdL (g h:aa):aa:=aw (bI g h)
def bJ (g h:aa):S (pdL g h):=cn _
def aG (n:Y)(g h:aa):J n (pdL g h)=J n g*J n h:=by unfold pdL;rw[cx,cG]
def DA (g:aa):pdL g []=[]:=aZ (bJ _ _) bH λn=>by rw[aG];simp[J]
def mL (g h:aa)(j:O):Z (pdL g h) j=pm (Z g) (Z h) j:=by unfold pdL;rw[cX,gI]
def d9 (ng:S g)(b:S h)(g0:g≠[])(c:h≠[]):pdL g h≠[]:=λz=>by
 let:=mL g h (h.9-1+(g.9-1));rw[z,gn,mv (λj a=>iP j a) (λj a=>iP j a)]at this;calc fL (dU ng g0) (dU b c) this.symm
def p8 (ng:S g)(a:S h):(pdL g h).9<=g.9+h.9-1:=jo ng a (bJ _ _) (mL g h)
def J2 {g h:aa}{M N:O}(a:∀z∈g,z.8<=M)(b:∀z∈h,z.8<=N):∀z∈pdL g h,z.8<=g.9*(M*N):=cP λj=>by
 unfold pdL;rw[cX];calc Dj b g a j
def p9 (xs:aa):∃e:Y,(e=1\/e=-1)/\∀n,J n (df xs)=e*J n xs:=by
 cases p7 xs,e,a,b;calc#[e,a,λn=>by rw[<-aJ];exact f9 (λj=>by rw[b j,dg]) n]
def DB (a:S xs)(hy:S ys){e:Y}(b:e=1\/e=-1)(h:∀n,J n ys=e*J n xs)(c:ys≠[]->0<Z ys (ys.9-1)):ys=df xs:=
 J0 a hy b (λj=>by rw[<-dg];exact dX (λn=>by rw[h n,aJ]) j) c
theorem SH (hx:S xs)(hy:S ys){e:Y}(a:e=1\/e=-1)(h:∀n,J n ys=e*J n xs):df ys=df xs:=by
 cases p9 ys,f,b,c;refine DB (e:=f*e) hx (mJ hy) (by rcases b with rfl|rfl <;> rcases a with rfl|rfl <;> simp) (λn=>by rw[c,h,cI]) λz=>?_;calc kO hy λw=>z (by rw[w];rfl)
def DC {xs:aa}(h:xs≠[]):df xs≠[]:=λz=>h (b7 (by rw[<-mI,z];rfl))
def SI {K:ao}{pa pb:Zs}{A B R:aa}{E:XK}(a:SqL K H pa (A.map V'))(b:SqL K H pb (B.map V'))(la:A.9<=1000)(lb:B.9<=1000)(h:fJ A B R)(q:eE H Q (R.map V')):JY K [.ref pa,.ref pb] H Q E:=by
 calc#[pa,pb,A,B,U,a,b,la,lb,?_];rcases h with ⟨z,rfl⟩|⟨c,d,rfl⟩|⟨e,B0,f,i,b1,b2,g,k,j,rfl⟩
 .exact .inl #[z,q]
 .exact .inr (.inl #[c,d,q])
 .calc .inr (.inr #[e,B0,f,i,b1,b2,g,k,j,q])
def SJ (K:ao):Sp:=λvs H Q _=>∃(R:Zs)(as:ap)(rows:ae)(f:O->aa),vs=[.ref R]/\SqL K H R (as.map L)/\LL K H as rows/\rows.9<=1000/\(∀r∈rows,r.9<=1000)/\(∀i,(f i).9<=1000)/\
 f 0=[]/\(∀i r,rows[i]?=W r->fJ (f i) r (f (i+1)))/\eE H Q ((f rows.9).map B)
def J3:FnOk P w K mg base CX0 6 T.WJ.ax T.WJ.dx ["polys"] (SJ K):=by
 refine T.WJ.Fx.ok wE (λF H Q E h=>?_) (λI A outer s H F Q E M h=>?_)
 .cases h,R,as,rows,f,rfl,_;rfl
 cases h,R,as,rows,f,rfl,o,u,lr,br,bf,f0,fs,q;refine#[_,s!"ʭō˩͝ō͞ōʄǮɜē ǯǰǱʦʤ̡",?_]
 w_up
 calc#[bh _,λX0 x=>?_];let y:=au x (Y' [])
 w_up
 calc#[#[_,y.seq o],?_];obtain⟨l,b⟩:∃l:O->L2.St->Hp->Prop,∀i d c,l i d c↔∃(X:Zs)(m:Zk V),d=[W (L R),W (L X),m]/\c X=W (Y' ((f i).map B))/\H X=Zy/\Same H c:=#[_,λ_ _ _=>Zj]
 refine kC (xs:=as.map L) l ((b _ _ _).mpr #[X0,_,U,by rw[ai,f0];rfl,x,y]) (λi d c _ z=>by cases (b i d c).mp z,_,_,_,_,_,z;calc z.seq o) ?_ ?_
 .intro i v d c hv n;cases (b _ _ _).mp n,X,m,rfl,k,C,e;obtain⟨a,r,rfl,ha,j,hA⟩:=u.nth hv
  room;walk
  exact SI (Zw k) (e.seq hA) (bf i) (br r (cH j)) (fs i r j) λY H2 s2 nY eY=>(b _ _ _).mpr #[Y,_,U,eY,e.free nY,e.trans s2]
 .intro d c n;obtain⟨X,m,rfl,k,C,e⟩:=(b _ _ _).mp n
  room;walk
  rw[af,u.len]at k;calc q X _ e C k
def gZ (b:Yl)(R:aa):aa:=if b then R.map (λz=>-z) else R
def SK (K:ao):Sp:=λvs H Q _=>∃(A:Zs)(as:ap)(ps:ae)(f:O->aa)(qs:ae)(p0:aa)(t:Y),vs=[.ref A]/\SqL K H A (as.map L)/\LL K H as ps/\ps.9<=60/\(∀p∈ps,p.9<=64/\S p/\∀c∈p,Bd 5000 c)/\(∀i,(f i).9<=64)/\f 0=[]/\(∀i r,ps[i]?=W r->fJ (f i) r (f (i+1)))/\
 ps.getLast?=W (p0++[t])/\f ps.9≠[]/\S (f ps.9)/\(∀c∈f ps.9,Bd 8000 c)/\qs.9=ps.9/\(∀(i:O)(p q:aa),ps[i]?=W p->qs[i]?=W q->S q/\Div p (gZ (decide (t<0)) (f ps.9)) q)/\
 ∀(D:Zs)(bs:ap)(H':Hp),Same H H'->H D=Zy->H' D=W (Y' (bs.map L))->LH H' bs qs->(∀b∈bs,H b=Zy)->D∉bs->Q (.ref D) H'
def SL (h:S R):S (R.map λz=>-z):=fO.mpr λx hx=>by
 rw[EN]at hx;cases e_.mp hx,y,hy,rfl;let:=fO.mp h y hy;lk
def SM:FnOk P w K mg base CX0 7 T.Xe.ax T.Xe.dx ["polys"] (SK K):=by
 refine T.Xe.Fx.ok C_ (λvs H Q E h=>?_) (λk0 A outer s H vs Q E hr h=>?_)
 .cases h,A,as,ps,f,X,p0,t,rfl,_;rfl
 cases h,A,as,ps,f,X,p0,t,rfl,hA,hL,n0,bp,bf,f0,fs,hl,fn,nf,u,lq,hq,u0;refine#[_,s!"ʭƒ˼ƓɣƔƕƖʽˠ¨ɥ̢ʣ͟ƒʓ̩͊ʼ̿Ō̰ʩďɣĐđĒ̜",?_]
 let la:=hL.len
 w_up
 refine#[A,as,ps,f,U,hA,hL,(),λr hr=>by let:=(bp r hr).1;lk,λi=>by let:=bf i;lk,f0,fs,λS H1 s1 nS eS=>?_];generalize hR:f ps.9=R at fn nf u hq eS;let lR:R.9<=64:=by rw[<-hR];exact bf _
 obtain⟨M,hM⟩:∃M:L2.St->Hp->Prop,∀σ H',M σ H'↔∃S':Zs,σ=[W (L A),W (L S')]/\H' S'=W (Y' ((gZ (decide (t<0)) R).map B))/\Same H H':=#[_,λ_ _=>Zj]
 room;refine gl M ?_ ?_
 .room;walk
  cases qS.mp hl,j0,rfl;obtain⟨l,a,rfl⟩:∃l a,as=l++[a]:=by
   cases z:as.getLast? with
   |none=>rw[yu]at z;rw[z]at la;simp at la
   |some a=>exact#[_,a,(qS.mp z).choose_spec]
  let l1:l.9=j0.9:=by simpa using la
  let m:SqL K H a ((p0++[t]).map B):=hL.get l.9 a _ ⋯ (by rw[l1];simp);let e1:(l++[a]).map L=l.map L++[L a]:=by rw[aY];rfl
  let e2:(p0++[t]).map B=p0.map B++[B t]:=by rw[aY];rfl
  rw[e1]at hA;rw[e2]at m;refine#[_,s1.seq hA,_,HN _ _,a,U,_,s1.seq m,_,HN _ _,t,U,cu (λz=>#[#[_,Zw eS],λD C=>?_]) (λz=>(hM _ _).mpr #[S,U,?_,s1])]
  .obtain⟨x,e⟩:∃x:dG,∀j k,x j k↔k D=W (Y' (((R.map λz=>-z).take j).map B))/\Same H1 k:=#[_,λ_ _=>Zj]
   refine fZ (xs:=R.map B) x ((e _ _).mpr #[ai,au C _]) (λi k _ y=>by cases (e i k).mp y,_,y;calc Zw (y _ _ eS)) ?_ ?_
   .intro j v k hv o;cases (e _ _).mp o,k1,n;rw[a7]at hv;cases e_.mp hv,c,x0,rfl;let hj:=(a_.mp x0).1
    room;simp![bst,fF]
    refine#[_,k1,?_,(e _ _).mpr #[?_,n.more C]]
    .rw[af,cB];exact cy ()
    .rw[ai,dI,a7,x0,aY];rfl
   intro k o;cases (e _ _).mp o,k1,n;rw[af,ii #v[af,aC _]]at k1;calc (hM _ _).mpr #[D,U,?_,s1.trans n];rw[k1];unfold gZ;rw[Zt (⇑z)]
  .rw[eS];unfold gZ;rw[N (⇑z)]
 intro σ H2 hm;obtain⟨S',rfl,y0,F⟩:=(hM _ _).mp hm
 w_up
 let nR:Nml (gZ (decide (t<0)) R)/\gZ (decide (t<0)) R≠[]/\(gZ (decide (t<0)) R).9<=64/\∀c∈gZ (decide (t<0)) R,Bd 8000 c:=by
  unfold gZ
  split
  .calc#[SL nf,λz=>fn (kf.mp z),#v[af,lR],λc o=>?_];cases b8.mp o,d,hd,rfl;exact (u d hd).neg
  .exact#[nf,fn,lR,u]
 generalize gZ (decide (t<0)) R=R' at nR hq y0;cases nR,n1,n2,n3,n4;calc#[#[_,F.seq hA],λD C=>?_];obtain⟨x,e⟩:∃x:dG,∀j k,x j k↔∃bs:ap,k D=W (Y' (bs.map L))/\LH k bs (X.take j)/\D∉bs/\Same H2 k/\∀b∈bs,H2 b=Zy:=#[_,λ_ _=>Zj]
 refine fZ (xs:=as.map L) x ((e _ _).mpr #[[],ai,LH.nil _,by simp,au C _,by simp]) (λi k _ y=>by cases (e i k).mp y,_,_,_,_,y,_;calc (F.trans y).seq hA) ?_ ?_
 .intro j v k hv o;cases (e _ _).mp o,bs,k1,n,k3,I,k5;cases hL.nth hv,a,p,rfl,ha,hp,sq;let hj:j<ps.9:=(a_.mp hp).1;cases bp p (cH hp),b1,b2,b3;let z0:X[j]?=W X[j]:=aq ();obtain⟨d1,d2⟩:=hq j p _ hp z0
  room;simp![bst,fF]
  calc#[a,S',p,R',5000,8000,U,(F.trans I).seq sq,Zw (I _ _ y0),b1,n3,b2,n1,b3,n4,(),(),.inr #[n2,.inl #[X[j],d1,d2,λr Hy s3 nr er=>?_]]];let lb:=n.len;rw[cB]at lb;let ne:r≠D:=λz=>by rw[z,k1]at nr;cases nr
  refine#[_,s3 _ _ k1,#v[af,cy ()],(e _ _).mpr #[bs++[r],by rw[ai,aY];rfl,?_,by simp[k3];exact λz=>ne z.symm,(I.trans s3).more C,λb hb=>?_]]
  rotate_left
  .rcases b5.mp hb with h|h
   .exact k5 b h
   .rw[bZ.mp h];exact I.free nr
  rw[dI,z0];calc LH.snoc #[n.len,λi b q e1 e2=>?_] #v[aK ne,er];let hb:b≠D:=λz=>k3 #v[<-z,cH e1];rw[aK hb];exact s3 _ _ (n.get i b q e1 e2)
 intro k o;cases (e _ _).mp o,bs,k1,n,k3,I,k5;rw[af,la,ii ()]at n;calc u0 D bs k (F.trans I) (F.free C) k1 n (λb hb=>F.free (k5 b hb)) k3
def jX (w:O)(XW:aB)(cs:aE)(p:Y)(n:O):Bool:=(aT n).all λi=>Z (gJ w XW cs p i) (cs.getD i 0) != 0
def xa {w:O}{n:O}:jX w XW cs p n=K'↔Piv w XW cs p n:=by
 unfold jX Piv;rw[List.all_eq_true];constructor
 .intro h i hi;let:=h i (eN.mpr hi)
  simpa using this
 .intro h i hi
  simpa using h i (eN.mp hi)
def plc (w:O)(XW:aB)(cs:aE)(t:O):aa:=((aT t).filter λp:O=>jX w XW cs (p:Y) XW.9).map λp:O=>(p:Y)
def p_ {w:O}{t:O}(h:Piv w XW cs (t:Y) XW.9):plc w XW cs (t+1)=plc w XW cs t++[(t:Y)]:=by
 unfold plc;rw[gM,NA,aY];simp[xa.mpr h]
def qc {w:O}{t:O}(h:¬Piv w XW cs (t:Y) XW.9):plc w XW cs (t+1)=plc w XW cs t:=by
 let a:jX w XW cs (t:Y) XW.9=O':=by
  cases e:jX w XW cs (t:Y) XW.9 with
  |false=>rfl
  |true=>exact Zq (xa.mp e) h
 unfold plc;rw[gM,NA,aY];simp[a]
def J4 {w:O}{t:O}{p:Y}(h:p∈plc w XW cs t):∃n:O,p=(n:Y)/\n<t/\Piv w XW cs p XW.9:=by
 unfold plc at h;cases b8.mp h,n,a,rfl;cases mQ.mp a,b,c;calc#[n,U,eN.mp b,xa.mp c]
theorem J5 {w:O}:∀t,(plc w XW cs t).9<=t
 |0=>aC _
 |t+1=>by
  let a:=J5 (w:=w) (XW:=XW) (cs:=cs) t;by_cases hp:Piv w XW cs (t:Y) XW.9
  .rw[p_ hp,cC];simp;lk
  .rw[qc hp];lk
def SN {w:O}{t:O}:(plc w XW cs (t+1)).9<=(plc w XW cs t).9+1:=by
 by_cases hp:Piv w XW cs (t:Y) XW.9
 .rw[p_ hp,cC];exact aC _
 .rw[qc hp];lk
theorem J7 (w:O)(XW:aB)(cs:aE):∀t,(plc w XW cs t).Nodup
 |0=>ln
 |t+1=>by
  let c:=J7 w XW cs t;by_cases hp:Piv w XW cs (t:Y) XW.9
  .rw[p_ hp,kh];refine#[c,by simp,λa d b e=>?_];rw[bZ.mp e];cases J4 d,n,rfl,f,_;lk
  .rw[qc hp];calc c
structure OcOk (w:O)(XW:aB)(cs:aE)(q:ae)(gs:ae)(Pn:O):Prop where
 k19:XW.9<=19
 kw:XW.9<=w
 wid:∀v∈XW++[q],v.9=w
 col:∀c∈cs,c<w
 cl:cs.9<=19
 len:gs.9=XW.9+1
 P7:Pn<=700
 tb:∀p:O,p<Pn->TBd w XW cs (p:Y)
 lo:∀p:O,p<Pn->Piv w XW cs (p:Y) XW.9->LowOk (dq w q XW.9 (p:Y)) (ff w XW cs (p:Y) XW.9) cs
 vq:q.9<=20/\∀f∈q,f.9<=60/\∀c∈f,Bd 1000 c
 mrk:∀p:O,p<Pn->Piv w XW cs (p:Y) XW.9->∀(i:O)(g:aa),gs[i]?=W g->Z (fm w XW cs q (p:Y)) (w+i)=J (p:Y) g
 ng:∀g∈gs,S g/\∀p:O,p<Pn->Bd 10000 (J (p:Y) g)
def qd (qs:aB)(cs:aE)(N:Y):Prop:=∃(bv bc:aa)(m:Y),bv.9=qs.9/\bc.9=cs.9/\(∀(i:O)(b:Y)(q:ae),bv[i]?=W b->qs[i]?=W q->jp (i7 q cs) b)/\(∀(i:O)(b:Y)(c:O),bc[i]?=W b->cs[i]?=W c->jp (i8 qs c) b)/\m∈bv/\(∀b∈bv,m<=b)/\N=(if bc.sum<bv.sum-m then bc.sum else bv.sum-m)
def SO {K:ao}{mg:ck}(T:Tx K mg):Sp:=λvs H Q _=>∃(x dx Kp Cl Tb Vc:Zs)(us:ap)(kvs:G (Key×V))(M:ap)(w:O)(XW:aB)(cs:aE)(pl:Y)(q gs:ae)(Pn:O)(f:O->aa)(qs:ae)(p0:aa)(t0:Y),vs=[.ref x,.ref Vc]/\Spn T H x dx Kp Cl Tb us kvs M w XW cs pl/\VecAt H M Vc q/\OcOk w XW cs q gs Pn/\kvs.9+Pn<=900/\(∀N,qd (XW++[q]) cs N->0<=N/\N<60/\(∀g∈gs,(g.9:Y)<=N+1)/\N<((plc w XW cs Pn).9:Y))/\
 ((∀p∈gs,p.9<=64/\S p/\∀c∈p,Bd 5000 c)/\(∀i,(f i).9<=64)/\f 0=[]/\(∀i r,gs[i]?=W r->fJ (f i) r (f (i+1)))/\gs.getLast?=W (p0++[t0])/\f gs.9≠[]/\S (f gs.9)/\(∀c∈f gs.9,Bd 8000 c)/\qs.9=gs.9/\(∀(i:O)(p q:aa),gs[i]?=W p->qs[i]?=W q->S q/\Div p (gZ (decide (t0<0)) (f gs.9)) q))/\
 ∀(H':Hp)(kvs':G (Key×V))(M':ap)(D:Zs)(bs:ap),Spn T H' x dx Kp Cl Tb us kvs' M' w XW cs pl->KX M H H'->(∀a∈M,a∈M')->(∀a∈M',a∈M\/H a=Zy)->kvs'.9<=kvs.9+Pn->D∉M'->H D=Zy->H' D=W (Y' (bs.map L))->LH H' bs qs->(∀b∈bs,b∉M'/\H b=Zy)->D∉bs->Q (.ref D) H'
def SQ (bs:aa)(k:O):gj (bs.map B) (W (k:Y)) Zy=(bs.drop k).map B:=by
 unfold gj;rw[HT.sIx_nat,HT.sIx_none,af,<-Ng,ii (by rw[af,qG];lk)];congr 1;by_cases z:k<=bs.9
 .rw[zdk z]
 .rw[Nat.min_eq_right (),VR (aC _),VR ()]
def KW.trans {c b:G (Key×V)}(k:KW x d f i c H j)(tk:∀e∈b,e∈c\/∀a,e.2=L a->H a=Zy)(C:KW x d f i b j l):KW x d f i c H l:=λy o m n q r s e=>by
 calc C y o m n q r (λu E z=>?_) (k y o m n q r s e);rcases tk u E with h|h
 .exact s u h z
 .rw[h y z]at e;cases e
def SR {M M1:ap}{d b c:G (Key×V)}(kx:KX M H f)(ms:∀a∈M,a∈M1)(al:∀a∈M1,∃o,f a=W o)(tk:∀e∈b,e∈d\/∀a,e.2=L a->H a=Zy)(i:∀e∈c,e∈b\/∀a,e.2=L a->f a=Zy):∀e∈c,e∈d\/∀a,e.2=L a->H a=Zy:=λe l=>by
 rcases i e l with h|h
 .exact tk e h
 .calc .inr λa n=>?_;let j:=h a n
  cases z:H a with
  |none=>rfl
  |some o=>
   by_cases m:a∈M
   .cases al a (ms a m),q,k;rw[j]at k;cases k
   .rw[kx a o m z]at j;cases j
def SS:FnOk P w K mg base CX0 8 T.Xq.ax T.Xq.dx ["self","vector"] (SO T):=by
 refine T.Xq.Fx.ok mC (λvs H Q E h=>?_) (λg9 A outer s H vs Q E hr h=>?_)
 .cases h,x,dx,Kp,Cl,Tb,Vc,us,x0,M,w,XW,cs,pl,q,gs,Pn,f,qs,p0,t0,rfl,_;rfl
 cases h,x,dx,Kp,Cl,Tb,Vc,us,x0,M,w,XW,cs,pl,q,gs,Pn,f,qs,p0,t0,rfl,S,hV,O,l9,hN,hC,k7;refine#[_,s!"ʍÖɚʅ&ɞǲɣǳǴǵɭ͖ʗ>ʛ#ˎʜÖʓʎʰÖʓʎˊÖ̦˶¨͠$ɪɩ˲Öɚ˛Ɨ-Ƙɢƙʦ˪ˠäʔ_ɩ̹ɴ˪͙ɲ#ðñʔóʗò$I1Ĳ)DÖ̦øʨǶɣǷǸǹɭǺ Ļʈʠ7ǻʚ[:Ǽ̛ʶʅ̈ˎɼʩǽɣǾǿȀʦ#ˍ(Ķ̛ļʻɪJ̲˳ɟɰ",?_]
 let lk:=S.lk;let k19:=O.k19;let lq:(XW++[q]).9=XW.9+1:=by simp
 let j4:=mF (Φ:=λu qv=>VecAt H M u qv) (L:=XW++[q]) (rs:=us) (r:=Vc) (λt u qv e1 e2=>by
  let ht:t<XW.9:=by let:=(a_.mp e1).1;lk
  rw[dH ht]at e2;calc S.vec t u qv e1 e2) (λqv e2=>by
  rw[dQ (),show us.9-XW.9=0 by lk]at e2
  cases Zv e2
  calc hV)
 w_up
 calc#[_,_,_,S.hx,T.Wd,T.WE,_,U,(),λq1 m1=>?_];let u1:=au m1 (Y' [Z' Vc]);refine#[Kp,U,_,u1 _ _ S.hK,_,ai,?_,λq2 m2=>?_]
 .rw[af];exact dj (cy (by simp;lk))
 let u2:=au m2 (Y' (us.map Z'++[Z' Vc]));let e2:=ai (H:=Zx H q1 (Y' [Z' Vc])) (a:=q2) (o:=.lst (us.map Z'++[Z' Vc]));let s2:=u1.trans u2;generalize Zx (Zx H q1 (Y' [Z' Vc])) q2 (Y' (us.map Z'++[Z' Vc]))=H3 at e2 s2 ⊢;clear u1 u2 m1 m2;let m4:H3 q2=W (Y' ((us++[Vc]).map Z')):=by rw[e2,aY];rfl
 let S3:=S.same s2;let vl:VL K H3 (us++[Vc]) (XW++[q]):=⟨by simp[lk],λi v qv e1 e3=>by
  cases j4 i v qv e1 e3,as,v1,v2,_;calc#[as,Zw (s2 _ _ v1),(v2.same s2).ll]⟩
 refine#[_,_,_,S3.hx,T.Wd,T.W3,_,U,q2,Cl,us++[Vc],XW++[q],cs,rfl,Zw m4,vl,Zw S3.hC,by simp,by rw[lq];lk,by let:=O.cl;lk,λv hv c hc=>#v[O.wid v hv,O.col c hc],λbv bc m N H4 s4 d1 d2 d3 d4 d5 d6 d7=>?_];cases hN N #[bv,bc,m,d1,d2,d3,d4,d5,d6,d7],N0,N6,gN,pN;obtain⟨Nn,rfl⟩:∃Nn:Nat,N=(Nn:Y):=#[N.toNat,()]
 clear d1 d2 d3 d4 d5 d6 d7 bv bc m;let z1:=s2.trans s4;let S4:=S.same z1;clear S3 vl m4 e2 s2 s4;refine#[_,U,?_]
 w_up
 calc#[bh _,λk j1=>?_];let S5:=S4.more (o:=.lst []) j1;let u5:=au j1 (Y' []);let e5:=ai (H:=H4) (a:=k) (o:=.lst []);generalize Zx H4 k (Y' [])=H5 at S5 u5 e5 ⊢
 w_up
 calc#[bh _,λMk y0=>?_];let S6:=S5.more (o:=.lst []) y0;let u6:=au y0 (Y' []);let e6:=ai (H:=H5) (a:=Mk) (o:=.lst []);let f6:=u6 _ _ e5;let n4:k≠Mk:=λz=>by rw[<-z,e5]at y0;cases y0
 generalize Zx H5 Mk (Y' [])=H6 at S6 u6 e6 f6 ⊢;let x5:=z1.trans (u5.trans u6);let l:=z1.free j1;let C:=z1.free (u5.free y0);let y5:∀a∈Mk::k::M,a∈M\/H a=Zy:=λa ha=>by
  rcases bV.mp ha with z|ha
  .exact .inr #v[z,C]
  .rcases bV.mp ha with z|z
   .exact .inr #v[z,l]
   .exact .inl z
 let V6:=(hV.more y5).same x5;let nk:∀e∈x0,e.2≠Z' k/\e.2≠Z' Mk:=λe he=>by
  cases S.tab e he,p,ta,n,rs,h1,h2,h3,_;refine#[λz=>?_,λz=>?_]
  .rw[h1]at z;injection z with z;rw[z,l]at h3;cases h3
  .rw[h1]at z;injection z with z;rw[z,C]at h3;cases h3
 let dP:k≠x/\k≠Kp/\k≠Cl/\k≠Tb:=#[(λz=>by rw[z,S.hx]at l;cases l),(λz=>by rw[z,S.hK]at l;cases l),(λz=>by rw[z,S.hC]at l;cases l),(λz=>by rw[z,S.hT]at l;cases l)]
 let dM:Mk≠x/\Mk≠Kp/\Mk≠Cl/\Mk≠Tb:=#[(λz=>by rw[z,S.hx]at C;cases C),(λz=>by rw[z,S.hK]at C;cases C),(λz=>by rw[z,S.hC]at C;cases C),(λz=>by rw[z,S.hT]at C;cases C)]
 clear S4 S5 u5 u6 e5 j1 y0
 w_up
 w_up
 obtain⟨J,hJ⟩:∃J:Nat->L2.St->Hp->Prop,∀m σ X,J m σ X↔∃(t:Nat)(F:G (Key×V))(M':ap)(r6:Zk V)(I:ap),σ=[W (Z' x),W (Z' Vc),W (B (1+(Nn:Y))),W (Z' k),W (Z' Mk),W (B (t:Y)),r6]/\Spn T X x dx Kp Cl Tb us F M' w XW cs pl/\VecAt X M' Vc q/\X k=W (Y' ((plc w XW cs t).map B))/\X Mk=W (Y' (I.map Z'))/\LH X I ((plc w XW cs t).map λp=>(fm w XW cs q p).drop w)/\(∀a∈I,a∉M')/\k∈M'/\Mk∈M'/\KW x Kp Cl Tb x0 H X/\(∀a∈M,a∈M')/\(∀a∈M',a∈M\/H a=Zy)/\(∀e∈F,e.2≠Z' k/\e.2≠Z' Mk)/\(∀e∈F,e∈x0\/∀a,e.2=Z' a->H a=Zy)/\F.9<=x0.9+t/\t<=Pn/\(plc w XW cs t).9<=Nn+1/\m=Pn-t:=#[_,λ_ _ _=>Zj]
 refine iA J Pn ((hJ _ _ _).mpr #[0,x0,Mk::k::M,Zy,[],rfl,S6,V6,f6,e6,LH.nil _,λa ha=>by simp at ha,.tail _ (.head _),.head _,λy o _ _ _ _ _ e=>x5 _ _ e,λa h=>.tail _ (.tail _ h),y5,nk,λ_ h=>.inl h,(),bh _,bh _,rfl]) ?_;intro m σ H7 hm;obtain⟨t,F,M',r6,I,rfl,S7,V7,eP,eM,j0,y0,mP,mM,kw,ms,mf,nt,tk,m9,tP,m7,rfl⟩:=(hJ _ _ _).mp hm
 room;walk
 calc#[_,.inl (Zw eP),?_];rw[af];refine cu (λz=>?_) (λz=>?_)
 .let ht:t<Pn:=by
   rcases Nu t Pn with h|h
   .exact h
   .rw[show t=Pn by lk]at z;lk
  calc#[J (Pn-(t+1)),λn9 X z=>#[_,(),z],dx,_,S7.hx,rfl,x,dx,Kp,Cl,Tb,Vc,us,F,M',w,XW,cs,pl,(t:Y),q,rfl,S7,O.tb t ht,(),(),V7,O.vq.1,O.vq.2,O.lo t ht,λH8 x1 M8 S8 x2 n0 y3 l8 z5=>?_];let v5:=S7.kx x2;let j5:KX M8 H7 H8:=λy o ny e=>v5 y o (λz=>ny (n0 y z)) e;let V8:=(V7.more y3).kx j5;let nt7:=nt;let z3:=x2 k _ dP.1 dP.2.1 dP.2.2.1 dP.2.2.2 (λe he=>(nt e he).1) eP;let k5:=x2 Mk _ dM.1 dM.2.1 dM.2.2.1 dM.2.2.2 (λe he=>(nt e he).2) eM;let j2:=j0.kx v5 y0;let k0:∀a∈I,a∉M8:=λa ha z=>by
   rcases y3 a z with h|h
   .exact y0 a ha h
   .cases di.mp ha,i,hi,rfl;let:=j0.get i _ _ (aq hi) (aq #v[<-j0.len,hi]);rw[h]at this;cases this
  let u3:∀e∈x1,e.2≠Z' k/\e.2≠Z' Mk:=λe he=>by
   rcases z5 e he with h|h
   .exact nt e h
   .refine#[λz=>?_,λz=>?_]
    .let y:=h k z;rw[eP]at y;cases y
    .let y:=h Mk z;rw[eM]at y;cases y
  let m5:=kw.trans tk x2;let n7:=SR (S.kx kw) ms S7.al tk z5;let x8:=mG (S.kx kw) mf y3;let y8:∀a∈M,a∈M8:=λa h=>n0 a (ms a h);obtain⟨Mx,v3⟩:∃Mx:L2.St->Hp->Prop,∀σ X,Mx σ X↔∃(r6:Zk V)(z0:ap),σ=[W (Z' x),W (Z' Vc),W (B (1+(Nn:Y))),W (Z' k),W (Z' Mk),W (B (t:Y)),r6]/\Spn T X x dx Kp Cl Tb us x1 M8 w XW cs pl/\VecAt X M8 Vc q/\X k=W (Y' ((plc w XW cs (t+1)).map B))/\X Mk=W (Y' (z0.map Z'))/\LH X z0 ((plc w XW cs (t+1)).map λp=>(fm w XW cs q p).drop w)/\(∀a∈z0,a∉M8)/\KW x Kp Cl Tb x0 H X:=#[_,λ_ _=>Zj]
  let x3:∀σ X,Mx σ X->∃r6:Zk V,σ=[W (Z' x),W (Z' Vc),W (B (1+(Nn:Y))),W (Z' k),W (Z' Mk),W (B (t:Y)),r6]/\J (Pn-(t+1)) [W (Z' x),W (Z' Vc),W (B (1+(Nn:Y))),W (Z' k),W (Z' Mk),W (B ((t:Y)+1)),r6] X:=λσ X h=>by
   cases (v3 _ _).mp h,r6,z0,rfl,g1,g2,g3,g4,g5,g6,g7;exact#[r6,U,(hJ _ _ _).mpr #[t+1,x1,M8,r6,z0,U,g1,g2,g3,g4,g5,g6,n0 _ mP,n0 _ mM,g7,y8,x8,u3,n7,(),(),by let:=SN (w:=w) (XW:=XW) (cs:=cs) (t:=t);lk,rfl]]
  refine#[λR nR eR pv=>?_,λnp=>?_]
  .room;refine gl Mx ?_ ?_
   .room;walk
    rw[Zt (λz=>nomatch z)];let j3:=n0 _ mP;let m3:=n0 _ mM;let dR:R≠k:=λz=>nR #v[z,j3];let lpl:=J5 (w:=w) (XW:=XW) (cs:=cs) t;let P7:=O.P7;let S9:=S8.other (o:=.lst ((plc w XW cs t).map B++[B (t:Y)])) j3 dP.1 dP.2.1 dP.2.2.1 dP.2.2.2 λe he=>(u3 e he).1;let k9:KX M8 H8 (Zx H8 k (Y' ((plc w XW cs t).map B++[B (t:Y)]))):=λy o ny e=>by
     let d:y≠k:=λz=>ny #v[z,j3];rw[aK d];exact e
    let n5:=ai (H:=H8) (a:=k) (o:=.lst ((plc w XW cs t).map B++[B (t:Y)]));let x4:=(aK (H:=H8) (o:=.lst ((plc w XW cs t).map B++[B (t:Y)])) (ZQ n4)).trans k5;let x6:=(aK (H:=H8) (o:=.lst ((plc w XW cs t).map B++[B (t:Y)])) dR).trans eR;let y6:KW x Kp Cl Tb x0 H (Zx H8 k (Y' ((plc w XW cs t).map B++[B (t:Y)]))):=λy o a1 a2 a3 a4 a5 e=>by
     let d:y≠k:=λz=>by rw[z,l]at e;cases e
     rw[aK d];exact m5 y o a1 a2 a3 a4 a5 e
    calc#[iz (Zw z3),_,z3,#v[af,cy ()],?_];generalize Zx H8 k (Y' ((plc w XW cs t).map B++[B (t:Y)]))=H9 at S9 k9 n5 x4 x6 y6 ⊢;calc#[iz (Zw x4),_,_,_,S9.hx,T.Wd,T.W4,_,U,_,U,_,Zw x6,λD nD=>?_];rw[SQ];let u:=au nD (Y' (((fm w XW cs q (t:Y)).drop w).map B));let SA:=S9.same u;let eD:=ai (H:=H9) (a:=D) (o:=.lst (((fm w XW cs q (t:Y)).drop w).map B));let z6:D∉M8:=λz=>by cases S9.al D z,o,e;rw[nD]at e;cases e
    let z8:D≠Mk:=λz=>z6 #v[z,m3];let v6:=u _ _ x4;let j6:=u _ _ n5;let k6:=(j2.kx k9 k0).same u;let VA:=(V8.kx k9).same u;let m6:KW x Kp Cl Tb x0 H (Zx H9 D (Y' (((fm w XW cs q (t:Y)).drop w).map B))):=λy o a1 a2 a3 a4 a5 e=>u _ _ (y6 y o a1 a2 a3 a4 a5 e);generalize Zx H9 D (Y' (((fm w XW cs q (t:Y)).drop w).map B))=HA at SA eD v6 j6 k6 VA m6 ⊢;let y4:I.9<=t:=by let:=j0.len;rw[af]at this;lk
    let kB:KX M8 HA (Zx HA Mk (Y' (I.map Z'++[Z' D]))):=λy o ny e=>by
     let d:y≠Mk:=λz=>ny #v[z,m3];rw[aK d];exact e
    refine#[_,v6,#v[af,cy ()],(v3 _ _).mpr #[_,I++[D],rfl,SA.other m3 dM.1 dM.2.1 dM.2.2.1 dM.2.2.2 λe he=>(u3 e he).2,VA.kx kB,?_,by rw[ai,aY];rfl,?_,λa ha=>?_,λy o a1 a2 a3 a4 a5 e=>?_]]
    .rw[aK n4,p_ pv,aY];exact j6
    .rw[p_ pv,aY];exact (k6.kx kB k0).snoc #v[aK z8,eD]
    .rcases b5.mp ha with h|h
     .exact k0 a h
     .rw[bZ.mp h];exact z6
    .let d:y≠Mk:=λz=>by rw[z,C]at e;cases e
     rw[aK d];exact m6 y o a1 a2 a3 a4 a5 e
   .intro σ H9 h9;obtain⟨u8,rfl,hj⟩:=x3 σ H9 h9
    room;walk
    exact hj
  .room;refine gl Mx ?_ ?_
   .room;walk
    refine (v3 _ _).mpr #[_,I,U,S8,V8,?_,k5,?_,k0,m5]
    .rw[qc np];exact z3
    .rw[qc np];exact j2
   .intro σ H9 h9;obtain⟨u8,rfl,hj⟩:=x3 σ H9 h9
    room;walk
    exact hj
 .let gt:Nn+1<=(plc w XW cs t).9:=()
  calc#[_,_,_,S7.hx,T.Wd,T.WE,_,U,Kp,U,_,.inl (Zw S7.hK),?_];let v8:(us.map Z').9=XW.9:=by rw[af];exact lk
  rw[v8];calc#[(),(),λD nD=>?_];rw[show ((XW.9:Y)+1).toNat=XW.9+1 by lk];let P7:=O.P7;let lg:=O.len;let y2:∀p∈plc w XW cs t,∃n:Nat,p=(n:Y)/\n<Pn/\Piv w XW cs p XW.9:=λp hp=>by
   cases J4 hp,n,h1,h2,h3;exact#[n,h1,(),h3]
  let nd:=J7 w XW cs t;obtain⟨u0,n6⟩:∃u0,plc w XW cs t=u0:=#[_,rfl]
  rw[n6]at y2 nd gt m7 eP j0;let y4:=j0.len;rw[af]at y4;obtain⟨Pc,z2⟩:∃Pc:dG,∀j Hx,Pc j Hx↔∃bs:ap,Hx D=W (Y' (bs.map Z'))/\LH Hx bs (gs.take j)/\D∉bs/\Same H7 Hx:=#[_,λ_ _=>Zj]
  refine uT Pc ((z2 _ _).mpr #[[],ai,LH.nil _,by simp,au nD _]) ?_ ?_
  .intro j Hx hj hc;cases (z2 _ _).mp hc,bs,k1,k2,k3,k4;let z4:gs[j]?=W gs[j]:=aq ();obtain⟨n1,n2⟩:=O.ng _ (cD (show j<gs.9 by lk));let n3:=gN _ (cD (show j<gs.9 by lk));let e0:(0:Y)+(j:Y)=(j:Y):=ij _;let kj:=O.kw;generalize gs[j]=g at z4 n1 n2 n3
   room;simp![bst,fF,e0]
   calc#[#[_,Zw (k4 _ _ eM)],λD1 x7=>?_];obtain⟨Pi,y1⟩:∃Pi:dG,∀i Hy,Pi i Hy↔Hy D1=W (Y' (((u0.map λp=>val p g).take i).map B))/\Same Hx Hy:=#[_,λ_ _=>Zj]
   refine fZ (xs:=I.map Z') Pi ((y1 _ _).mpr #[ai,au x7 _]) (λi Hy _ y=>by cases (y1 i Hy).mp y,_,y;calc Zw ((k4.trans y) _ _ eM)) ?_ ?_
   .intro i v Hy hv hi;cases (y1 _ _).mp hi,m1,m2;rw[a7]at hv;cases e_.mp hv,a,ha,rfl;let y7:i<u0.9:=by let:=(a_.mp ha).1;lk
    let u4:u0[i]?=W u0[i]:=aq y7;cases y2 _ (cD y7),n,z7,u7,v4;generalize u0[i]=p at u4 z7 v4;subst z7;let ea:=j0.get i a _ ha (by rw[a7,u4];rfl);let v7:=pZ (O.lo n u7 v4) XW.9 #v[fP,aC _];let j8:q.9=w:=O.wid q ⋯;let k8:(fm w XW cs q (n:Y)).9=w+(w+1):=by
     unfold fm;rw[v7];unfold dq;rw[cC,af,af,im,j8]
    let g8:j<((fm w XW cs q (n:Y)).drop w).9:=by rw[qG,k8];lk
    let m8:Z ((fm w XW cs q (n:Y)).drop w) j=val (n:Y) g:=by
     rw[<-O.mrk n u7 v4 j g z4];unfold Z;rw[aD,aD,zce]
    room;simp![bst,fF]
    refine#[_,Zw ((k4.trans m2) _ _ ea),_,oi g8,_,m1,?_,(y1 _ _).mpr #[?_,m2.more x7]]
    .rw[af,cB];exact cy ()
    .rw[ai,dI,a7,u4,aY,m8];rfl
   intro Hy hi;cases (y1 _ _).mp hi,m1,m2;rw[af,y4,ii #v[af,aC _]]at m1;refine⟨k,D1,u0,g,U,Zw ((k4.trans m2) _ _ eP),Zw m1,⟨(),n1,(),λa b ha hb n8 h=>by
    rcases zco n8 with y|y
    .exact qV.mp nd a b ha hb y h
    .exact qV.mp nd b a hb ha y h.symm,λp hp=>?_,λp hp=>?_⟩,λR Hz sz nR eR=>?_⟩
   .cases y2 p hp,n,rfl,h2,_;exact Bd.of_lt (m:=701) () ()
   .cases y2 p hp,n,rfl,h2,_;exact n2 n h2
   let lb:=k2.len;rw[cB]at lb;let ne:R≠D:=λz=>by rw[z,m2 _ _ k1]at nR;cases nR
   refine#[_,sz _ _ (m2 _ _ k1),#v[af,cy ()],(z2 _ _).mpr #[bs++[R],by rw[ai,aY];rfl,?_,by simp[k3];exact λz=>ne z.symm,(k4.trans (m2.trans sz)).more nD]];rw[dI,z4];calc LH.snoc #[k2.len,λi b' p e1 e2=>?_] #v[aK ne,eR];let hb:b'≠D:=λz=>k3 #v[<-z,cH e1];rw[aK hb];exact sz _ _ (m2 _ _ (k2.get i b' p e1 e2))
  intro Hx hc;cases (z2 _ _).mp hc,bs,k1,k2,k3,k4;rw[ii ()]at k2;cases hC,c1,c2,c3,c4,c5,c6,c7,c8,c9,x9;calc#[D,bs,gs,f,qs,p0,t0,U,Zw k1,k2.ll,(),c1,c2,c3,c4,c5,c6,c7,c8,c9,x9,λD2 y9 Hz sz j7 z9 u9 v9 j9=>?_];let S8:=(S7.same k4).same sz;let fr:∀y,Hx y=Zy->y∉M'/\H y=Zy:=λy hy=>by
   let h1:y∉M':=λz=>by cases (S7.same k4).al y z,o,e;rw[hy]at e;cases e
   refine#[h1,?_]
   cases e:H y with
   |none=>rfl
   |some o=>
    let:=k4 _ _ (S.kx kw y o (λz=>h1 (ms y z)) e);rw[hy]at this;cases this
  calc k7 Hz F M' D2 y9 S8 (S.kx λy o a1 a2 a3 a4 a5 e=>sz _ _ (k4 _ _ (kw y o a1 a2 a3 a4 a5 e))) ms mf () (fr D2 j7).1 (fr D2 j7).2 z9 u9 (λb hb=>fr b (v9 b hb)) j9
noncomputable def spw (n:O) (few:aE) (ws:ae):O->ae
 |0=>bj n []++[ws.getD few.9 []]
 |t+1=>(spw n few ws t).set (few.getD t 0) (ws.getD t [])
theorem i_ (n:O)(few:aE)(ws:ae):∀t,(spw n few ws t).9=n+1
 |0=>by simp[spw]
 |t+1=>#v[spw,jt,i_ n few ws t]
def J8 {w:O}{XW:aB}{cs:aE}{c:O}(a:cs.9=XW.9)(b:Piv w XW cs p XW.9)(h:Z (fm w XW cs q p) c≠0):Piv w (XW++[q]) (cs++[c]) p (XW.9+1):=λi hi=>by
 by_cases z:i<XW.9
 .exact JN a (aC _) b i z
 .let e:i=XW.9:=()
  subst e;unfold gJ;rw[wX a _ (aC _),wW _ ()];let d:(XW++[q]).getD XW.9 []=q:=by simp
  let f:(cs++[c]).getD XW.9 0=c:=by rw[<-a];simp
  rw[d,f];calc h
structure SpTh (w B KM:O)(St:aB->aE->Y->Prop)(Vq:aB->ae->Prop)(Rl:aB->ae->ae->Prop):Prop where
 b3:(KM+2)*(2*B+2)<=900
 k18:KM<=18
 st0:St [] [] 97
 stS:∀XW cs pl q c (t:O),St XW cs pl->Vq XW q->c<w->c∉cs->t<=B->Piv w (XW++[q]) (cs++[c]) (pl+(t:Y)) (XW.9+1)->St (XW++[q]) (cs++[c]) (pl+(t:Y))
 bd:∀XW cs pl q,St XW cs pl->Vq XW q->XW.9<=KM/\q.9=w/\∀f∈q,f.9<=40/\∀c∈f,Bd 1000 c
 tb:∀XW cs pl q,St XW cs pl->Vq XW q->TBd w XW cs pl/\Piv w XW cs pl XW.9/\LowOk (dq w q XW.9 pl) (ff w XW cs pl XW.9) cs
 hit:∀XW cs pl q c,St XW cs pl->Vq XW q->c<w->Z (fm w XW cs q pl) c≠0->c∉cs/\TBd w (XW++[q]) (cs++[c]) pl
 oc:∀XW cs pl q,St XW cs pl->Vq XW q->(∀c,c<w->Z (fm w XW cs q pl) c=0)->∃(gs:ae)(Pn:O)(f:O->aa)(qs:ae)(p0:aa)(t0:Y),OcOk w XW cs q gs Pn/\Pn<=B/\(∀N,qd (XW++[q]) cs N->0<=N/\N<60/\(∀g∈gs,(g.9:Y)<=N+1)/\N<((plc w XW cs Pn).9:Y))/\
  ((∀p∈gs,p.9<=64/\S p/\∀c∈p,Bd 5000 c)/\(∀i,(f i).9<=64)/\f 0=[]/\(∀i r,gs[i]?=W r->fJ (f i) r (f (i+1)))/\gs.getLast?=W (p0++[t0])/\f gs.9≠[]/\S (f gs.9)/\(∀c∈f gs.9,Bd 8000 c)/\qs.9=gs.9/\(∀(i:O)(p q:aa),gs[i]?=W p->qs[i]?=W q->S q/\Div p (gZ (decide (t0<0)) (f gs.9)) q))/\
  FcOk w (XW++[q]) qs/\((∀c,c<w->c∉cs->fI (XW++[q]) qs c (XW.9+1)=[])->Rl XW q qs)/\
  ∀c,c<w->c∉cs->fI (XW++[q]) qs c (XW.9+1)≠[]->∃N,N<=B/\(∀t:O,t<=N->TBd w (XW++[q]) (cs++[c]) (pl+(t:Y)))/\Piv w (XW++[q]) (cs++[c]) (pl+(N:Y)) (XW.9+1)
 sub:∀XW cs pl q (few:aE),St XW cs pl->Vq XW q->few.Pairwise (· < ·)->(∀i∈few,i<XW.9)->few.9<XW.9->
  Vq (few.map λi=>XW.getD i []) q/\(∀(i j:O),few[i]?=W j->Vq ((few.take i).map λi=>XW.getD i []) (XW.getD j [])/\∀ws,¬Rl ((few.take i).map λi=>XW.getD i []) (XW.getD j []) ws)
 len:∀XW q ws,Rl XW q ws->ws.9=XW.9+1
 up:∀XW cs pl q (few:aE) ws,St XW cs pl->Vq XW q->few.Pairwise (· < ·)->(∀i∈few,i<XW.9)->few.9<XW.9->Rl (few.map λi=>XW.getD i []) q ws->Rl XW q (spw XW.9 few ws few.9)
def J9 {K:ao}{mg:ck}(T:Tx K mg)(w B:O)(St:aB->aE->Y->Prop)(Vq:aB->ae->Prop)(Rl:aB->ae->ae->Prop)(d:O):Sp:=λvs H Q _=>∃(x dx Kp Cl Tb Vc:Zs)(us:ap)(kvs:G (Key×V))(M:ap)(XW:aB)(cs:aE)(pl:Y)(as:ap)(q:ae),vs=[.ref x,.ref Vc]/\Spn T H x dx Kp Cl Tb us kvs M w XW cs pl/\SqL K H Vc (as.map L)/\LL K H as q/\St XW cs pl/\Vq XW q/\XW.9<d/\kvs.9+(2*B+2)<=900/\
 (∀(H':Hp)(us':ap)(kvs':G (Key×V))(M':ap)(c:O)(pl':Y),Spn T H' x dx Kp Cl Tb us' kvs' M' w (XW++[q]) (cs++[c]) pl'->St (XW++[q]) (cs++[c]) pl'->KX M H H'->(∀a∈M,a∈M')->(∀a∈M',a∈M\/H a=Zy)->kvs'.9<=kvs.9+(2*B+2)->Q .non H')/\
 (∀(H':Hp)(kvs':G (Key×V))(M':ap)(D:Zs)(bs:ap)(ws:ae),Spn T H' x dx Kp Cl Tb us kvs' M' w XW cs pl->Rl XW q ws->KX M H H'->(∀a∈M,a∈M')->(∀a∈M',a∈M\/H a=Zy)->kvs'.9<=kvs.9+(2*B+2)->D∉M'->H D=Zy->H' D=W (Y' (bs.map L))->LH H' bs ws->(∀b∈bs,b∉M'/\H b=Zy)->D∉bs->Q (.ref D) H')
def SU {K:ao}{mg:ck}(T:Tx K mg)(w B:O)(St:aB->aE->Y->Prop)(Vq:aB->ae->Prop)(Rl:aB->ae->ae->Prop)(d:O):Sp:=λvs H Q _=>∃(x dx Kp Cl Tb Vc Fw:Zs)(us:ap)(kvs:G (Key×V))(M:ap)(XW:aB)(cs:aE)(pl:Y)(q:ae)(few:aE),vs=[.ref x,.ref Vc,.ref Fw]/\Spn T H x dx Kp Cl Tb us kvs M w XW cs pl/\VecAt H M Vc q/\H Fw=W (Y' ((few.map λc:O=>(c:Y)).map V'))/\St XW cs pl/\Vq XW q/\XW.9<=d/\few.Pairwise (· < ·)/\(∀i∈few,i<XW.9)/\few.9<XW.9/\
 (∀H':Hp,Same H H'->Q .non H')/\
 (∀(H':Hp)(D:Zs)(bs:ap)(ws:ae),Same H H'->Rl XW q ws->H D=Zy->H' D=W (Y' (bs.map L))->LH H' bs ws->(∀b∈bs,H b=Zy)->D∉bs->Q (.ref D) H')
def SV {H:Hp}{x dx:Zs}(hx:H x=Zy)(hd:H dx=Zy):Same H (Zx (Zx H dx u) x o):=λb v e=>#v[aK (fH e hx),aK (fH e hd),e]
theorem J_ {K:ao}{mg:ck}{T:Tx K mg}{Q:Zs->Hp->Prop}{E:XK}{w:O}(k:∀(x dx f h j:Zs)(M:ap)(b:Hp),Same H b->(∀a∈M,H a=Zy)->Spn T b x dx f h j [] [] M w [] [] 97->Q x b)(x dx:Zs)(hx:H x=Zy)(hd:H dx=Zy)(_:dx≠x):
  JH T.We [.ref x,.int (w:Y)] (Zx (Zx H dx (.own x)) x (.ins T.We dx [])) (λv s=>v=V.non/\Q x s) E:=by
 let l:Same H (Zx (Zx H dx (.own x)) x (.ins T.We dx [])):=SV hx hd;calc#[x,dx,(w:Y),U,ai,λf h j b z n1 C F I R X ex m n r=>#[U,?_]];let P:Same H b:=λy o e=>z y o (fH e hx) (l y o e);refine k x dx f h j [x,f,h,j] b P (λa c=>?_) #[ex,m,n,r,U,U,λi u q e=>by simp at e,λe d=>by simp at d,λe d=>by simp at d,by simp,λe d=>by simp at d,I,λa c=>?_]
 .simp only[bV,iZ,Yi]at c;rcases c with rfl|rfl|rfl|rfl
  .exact hx
  .exact l.free n1
  .exact l.free C
  .exact l.free F
 .simp only[bV,iZ,Yi]at c;rcases c with rfl|rfl|rfl|rfl
  .exact#[_,ex]
  .exact#[_,m]
  .exact#[_,n]
  .calc#[_,r]
def SW (xs:ap)(a:Zs):gj ((xs++[a]).map L) (W (-1)) Zy=[L a]:=by
 unfold gj;let e:HT.sIx ((xs++[a]).map L).9 0 (W (-1))=xs.9:=by
  unfold HT.sIx;dsimp only;rw[Zt ()];simp;lk
 rw[e,HT.sIx_none,<-Ng];simp
def SX {P:Zb}{K:ao}{mg:ck}{base:ZN}(T:Tx K mg){w B KM:O}{St:aB->aE->Y->Prop}(Z:SpTh w B KM St Vq Rl)(d:O)(F:FnOk P wd K mg base CX0 (2*d+9) T.WG.ax T.WG.dx ["self","vector"] (J9 T w B St Vq Rl d)):FnOk P wd K mg base CX0 (2*d+10) T.Xs.ax T.Xs.dx ["self","vector","few"] (SU T w B St Vq Rl d):=by
 refine T.Xs.Fx.ok mD (λvs H Q E h=>?_) (λk6 A outer s H vs Q E hr h=>?_)
 .cases h,x,dx,Kp,Cl,Tb,Vc,Fw,us,y5,M,XW,cs,pl,q,few,rfl,_;rfl
 cases h,x,dx,Kp,Cl,Tb,Vc,Fw,us,y5,M,XW,cs,pl,q,few,rfl,S,hV,hF,z1,j1,kd,fp,fk,fl,q1,q2;refine#[_,s!"ʜ×ɚƚƛ-ƜɣƝƞɭˎ̉ɪɶ:×ˁbnɴoŎ-͂ŏʡʗ˂$ˊ×ɚnɴoŎ-͂ŏ́ʸăʞ̷̶˲×̑˖ʗJʎðñʞóɺ&òʆ˰̵˪˿:×̀W×͈²˟³ʔɲrɨʔ",?_]
 cases Z.bd XW cs pl q z1 j1,k18,qw,bq;let b3:=Z.b3;let kM:=Z.k18
 w_up
 calc#[_,_,_,S.hx,T.Wd,T.W4,_,U,J_ λx2 y0 g1 y2 z2 M2 H1 s1 m1 S1=>?_];obtain⟨z3,v3⟩:=Z.sub XW cs pl q few z1 j1 fp fk fl
 w_up
 obtain⟨Pv,C⟩:∃Pv:O->L2.St->Hp->Prop,∀i I l,Pv i I l↔∃(z0:ap)(f:G (Key×V))(M2:ap)(R:aE)(X:Y)(r4:Zk V),I=[W (L x),W (L Vc),W (L Fw),W (L x2),r4,Zy,Zy,Zy]/\Spn T l x2 y0 g1 y2 z2 z0 f M2 w ((few.take i).map λi=>XW.getD i []) R X/\St ((few.take i).map λi=>XW.getD i []) R X/\(∀a∈M2,H a=Zy)/\f.9<=i*(2*B+2)/\Same H l:=#[_,λ_ _ _=>Zj]
 let lf:(few.map λc:O=>(c:Y)).9=few.9:=af ..;refine#[#[_,Zw (s1 _ _ hF)],kC (xs:=(few.map λc:O=>(c:Y)).map V') Pv ((C _ _ _).mpr #[[],[],M2,[],97,Zy,rfl,S1,Z.st0,m1,bh _,s1]) (λi I l _ z=>by cases (C i I l).mp z,_,_,_,_,_,_,_,_,_,_,_,z;calc Zw (z _ _ hF)) ?_ ?_]
 .intro i v I H2 hv hp;cases (C _ _ _).mp hp,z0,f,M2,R,X,r4,rfl,S2,t2,m2,l2,s2;rw[a7,a7]at hv;cases e_.mp hv,j',j2,rfl;cases e_.mp j2,j,hj,rfl;let hi:i<few.9:=(a_.mp hj).1;let j3:=fk j (cH hj);cases v3 i j hj,v1,v2;let hu:j<us.9:=by let:=S.lk;lk
  let g3:XW[j]?=W XW[j]:=aq j3;cases S.vec j _ _ (aq hu) g3,as,w1,w2,w3,w4;let ek:XW.getD j []=XW[j]:=by rw[aD,g3];rfl
  let et:few.take (i+1)=few.take i++[j]:=by rw[dI,hj];rfl
  let lt:((few.take i).map λi=>XW.getD i []).9=i:=by rw[af,cB];lk
  let S0:=S.same s2;let lb:i*(2*B+2)+(2*B+2)<=900:=by
   let:(i+1)*(2*B+2)<=(KM+2)*(2*B+2):=fj _ ();rw[il,gD]at this;lk
  w_up
  refine#[y0,_,S2.hx,U,_,_,_,S0.hx,T.Wd,T.WE,_,U,Kp,U,_,Zw S0.hK,L us[j],jK (by rw[a7,aq hu];rfl),x2,y0,g1,y2,z2,us[j],z0,f,M2,_,R,X,as,XW[j],rfl,S2,Zw (s2 _ _ w1),(w2.same s2).ll,t2,#v[<-ek,v1],by rw[lt];lk,(),λH3 m3 u M3 c n3 S3 t3 kx ms mf l3=>?_,λH3 u M3 D bs ws _ hR _ _ _ _ _ _ _ _ _ _=>by rw[<-ek]at hR;calc Zq hR (v2 ws)];let s3:Same H H3:=λy o e=>kx y o (λz=>by rw[m2 y z]at e;cases e) (s2 y o e);let ea:((few.take (i+1)).map λi=>XW.getD i [])=((few.take i).map λi=>XW.getD i [])++[XW[j]]:=by rw[et,aY,fo,yh,ek]
  refine (C _ _ _).mpr #[m3,u,M3,_,n3,_,U,#v[ea,S3],#v[ea,t3],λa ha=>?_,by rw[il,gD];lk,s3];rcases mf a ha with h|h
  .exact m2 a h
  .exact s2.free h
 intro I H2 hp;cases (C _ _ _).mp hp,z0,f,M2,R,X,r4,rfl,S2,t2,m2,l2,s2;rw[af,lf]at S2 t2 l2;rw[ii (aC _)]at S2 t2;clear hp C Pv;let lt:(few.map λi=>XW.getD i []).9=few.9:=af ..;let lb:few.9*(2*B+2)+(2*B+2)<=900:=by
  let:(few.9+1)*(2*B+2)<=(KM+2)*(2*B+2):=fj _ ();rw[il,gD]at this;lk
 obtain⟨z5,w1,w2,_,_⟩:=hV
 w_up
 refine#[y0,_,S2.hx,U,x2,y0,g1,y2,z2,Vc,z0,f,M2,_,R,X,z5,q,U,S2,Zw (s2 _ _ w1),(w2.same s2).ll,t2,z3,by rw[lt];lk,(),λH3 m3 u M3 c n3 S3 t3 kx ms mf l3=>?_,λH3 u M3 D bs ws S3 hR kx ms mf l3 g6 nD eD lD nb Db=>?_]
 .room;walk
  exact q1 H3 λy o e=>kx y o (λz=>by rw[m2 y z]at e;cases e) (s2 y o e)
 let s3:Same H H3:=λy o e=>kx y o (λz=>by rw[m2 y z]at e;cases e) (s2 y o e);let S0:=S.same s3;let u5:=Z.up XW cs pl q few ws z1 j1 fp fk fl hR;let lw:=Z.len _ _ _ hR;rw[lt]at lw;let g2:=lD.len
 w_up
 rw[N (λz=>nomatch z)]
 w_up
 let v5:(us.map L).9=XW.9:=by rw[af];exact S.lk
 calc#[_,_,_,S0.hx,T.Wd,T.WE,_,U,Kp,U,#[_,Zw S0.hK],λD1 x4=>?_];obtain⟨Pc,x0⟩:∃Pc:dG,∀j Hx,Pc j Hx↔∃r:ap,Hx D1=W (Y' (r.map L))/\LH Hx r (bj j [])/\D1∉r/\Same H3 Hx/\∀b∈r,H3 b=Zy:=#[_,λ_ _=>Zj]
 refine fZ (xs:=us.map L) Pc ((x0 _ _).mpr #[[],ai,LH.nil _,by simp,au x4 _,by simp]) (λi Hx _ y=>by cases (x0 i Hx).mp y,_,_,_,_,y,_;calc Zw (y _ _ S0.hK)) ?_ ?_
 .intro j v Hx hv hc;cases (x0 _ _).mp hc,r,k1,k2,k3,k4,k5;let hj:j<XW.9:=by let:=(a_.mp hv).1;lk
  let lr:=k2.len;rw[mS]at lr
  room;walk
  calc#[bh _,λp np=>?_];let ne:p≠D1:=λz=>by rw[z,k1]at np;cases np
  let u1:=au np (Y' []);refine#[_,u1 _ _ k1,#v[af,cy ()],(x0 _ _).mpr #[r++[p],by rw[ai,aY];rfl,?_,by simp[k3];exact λz=>ne z.symm,(k4.trans u1).more x4,λb hb=>?_]]
  .rw[List.replicate_succ'];refine LH.snoc ((k2.same u1).upd k3) #v[aK ne,ai]
  .rcases b5.mp hb with h|h
   .exact k5 b h
   .rw[bZ.mp h];exact k4.free np
 intro H4 hc;cases (x0 _ _).mp hc,r,k1,k2,k3,k4,k5;rw[v5]at k2;clear hc x0 Pc;let lr:=k2.len;rw[mS]at lr;let n0:=k4 _ _ eD;let y4:=lD.same k4;obtain⟨bi,bl,rfl⟩:∃bi bl,bs=bi++[bl]:=by
  cases z:bs.getLast? with
  |none=>rw[yu]at z;rw[z]at g2;simp at g2;lk
  |some a=>exact#[_,a,(qS.mp z).choose_spec]
 let j5:bi.9=few.9:=by simp at g2;lk
 calc#[_,Zw n0,λD2 z4=>#[D1,U,?_]];rw[SW];let u2:=au z4 (Y' [L bl]);refine#[_,u2 _ _ k1,_,ai,by rw[af];exact dj (cy (by simp;lk)),λm nW=>?_];let u3:=au nW (Y' (r.map L++[L bl]));let s4:=s3.trans (k4.trans (u2.trans u3));let eW:=ai (H:=Zx H4 D2 (Y' [L bl])) (a:=m) (o:=.lst (r.map L++[L bl]));let x1:H m=Zy:=s3.free (k4.free (u2.free nW));let y1:=k4.trans (u2.trans u3);let n2:=lD.same y1;let u4:=y1 _ _ eD;let g5:m≠D:=λz=>by rw[<-z]at n0;rw[u2 _ _ n0]at nW;cases nW
 let v4:m∉bi++[bl]:=(y4.same u2).notin nW;let m5:m∉r:=(k2.same u2).notin nW;let j4:=(k2.same u2).same u3;let g4:Zx (Zx H4 D2 (Y' [L bl])) m (Y' (r.map L++[L bl])) m=W (Y' ((r++[bl]).map L)):=by rw[eW,aY];rfl
 let m4:=s4 _ _ hF;let n5:m≠Fw:=λz=>by rw[z,hF]at x1;cases x1
 generalize Zx (Zx H4 D2 (Y' [L bl])) m (Y' (r.map L++[L bl]))=H5 at s4 n2 u4 j4 g4 m4 y1 ⊢;let x6:H5 bl=W (Y' ((ws.getD few.9 []).map V')):=by
  refine n2.get few.9 bl _ (by rw[<-j5];simp) ?_;rw[aD,aq ()];rfl
 let n4:∀b∈bi++[bl],H b=Zy:=λb hb=>s2.free (nb b hb).2;let y6:∀b∈r,H b=Zy:=λb hb=>s3.free (k5 b hb);clear u2 u3 z4 nW eW k1 k2 n0 y4 y1
 w_up
 obtain⟨Pz,u0⟩:∃Pz:O->L2.St->Hp->Prop,∀n I l,Pz n I l↔∃(wb:ap)(r4 r7:Zk V),I=[W (L x),W (L Vc),W (L Fw),W (L x2),r4,W (L D),W (L m),r7]/\l m=W (Y' (wb.map L))/\LH l wb (spw XW.9 few ws n)/\(∀b∈wb,H b=Zy/\b≠m)/\KB m H5 l:=#[_,λ_ _ _=>Zj]
 let j0:∀{l:Hp},KB m H5 l->SqL K l Fw ((few.map λc:O=>(c:Y)).map V')/\SqL K l D ((bi++[bl]).map L):=λ{l} k=>#[Zw (k _ _ (ZQ n5) m4),Zw (k _ _ (ZQ g5) u4)]
 cases j0 (KB.of (Same.refl H5)),kf1,kf2;refine#[_,kf1,_,kf2,vz (xs:=(few.map λc:O=>(c:Y)).map V') (ys:=(bi++[bl]).map L) Pz ((u0 _ _ _).mpr #[r++[bl],_,_,rfl,g4,#v[spw,j4.snoc x6],λb hb=>?_,KB.of (Same.refl _)]) (λn I l _ _ y=>by cases (u0 n I l).mp y,_,_,_,_,_,_,_,y;calc j0 y) ?_ ?_]
 .rcases b5.mp hb with h|h
  .exact#[y6 b h,λz=>m5 #v[<-z,h]]
  .rw[bZ.mp h];exact#[n4 bl ⋯,λz=>v4 (by rw[<-z];simp)]
 .intro n v1 v2 pr I H6 e1 e3 x3 z6;cases (u0 _ _ _).mp x3,wb,t4,t7,rfl,eW,lW,k0,kb;rw[a7,a7]at e1;cases e_.mp e1,j',j2,rfl;cases e_.mp j2,j,hj,rfl;rw[a7]at e3;cases e_.mp e3,b,hb,rfl;let hn:n<few.9:=(a_.mp hj).1;let j3:=fk j (cH hj);let w1:=au z6 (.tup [V' (j:Y),L b]);let y3:b≠m:=λz=>v4 #v[<-z,cH hb];let u6:ws[n]?=W (ws.getD n []):=by rw[aD,aq ()];rfl
  let v6:=n2.get n b _ hb u6;let j6:=lW.len;rw[i_]at j6;let ef:few.getD n 0=j:=by rw[aD,hj];rfl
  room;walk
  refine#[_,SqT.of ai,U,_,_,U,_,_,U,U,(j:Y),U,_,w1 _ _ eW,j,iB (by rw[af];lk),(u0 _ _ _).mpr #[wb.set j b,_,_,U,by rw[ai,zd9],?_,λc hc=>?_,(kb.on w1).set]]
  .rw[spw,ef];exact ((lW.same w1).upd (λz=>(k0 _ z).2 U)).set #v[aK y3,w1 _ _ (kb _ _ y3 v6)] j
  .rcases VS hc with h|h
   .exact k0 c h
   .rw[h];exact#[n4 b (cH hb),y3]
 intro I H6 x3;cases (u0 _ _ _).mp x3,wb,t4,t7,rfl,eW,lW,k0,kb;let x5:min ((few.map λc:O=>(c:Y)).map V').9 ((bi++[bl]).map L).9=few.9:=by simp;lk
 rw[x5]at lW
 room;walk
 calc q2 H6 m wb _ (λy o e=>kb y o (λz=>by rw[z,x1]at e;cases e) (s4 y o e)) u5 x1 eW lW (λb hb=>(k0 b hb).1) λz=>(k0 _ z).2 rfl
def gQ (H:Hp)(Q:VK)(ds:ae):Prop:=∀(D:Zs)(bs:ap) H',Same H H'->H D=Zy->H' D=W (Y' (bs.map L))->LH H' bs ds->(∀b∈bs,H b=Zy)->D∉bs->bs.Nodup->Q (.ref D) H'
def iT {K:ao}{as:ap}{ps ds:ae}{P:TE}{h:Hp}{D:Zs}(o:h D=Zy)(hA:SqL K h a (as.map L))(hL:LL K h as ps)(hd:ds.9=ps.9)(hl:ps.9<=900)(hs:∀(i:O)(b:Zs)(p d:aa)(c:Hp)(R:VK),ps[i]?=W p->ds[i]?=W d->Same h c->SqL K c b (p.map B)->eE c R (d.map B)->P (bst M X (W (L b))) c R)(he:gQ h Q ds):mo (Itl K a) M P Q X h D:=by
 obtain⟨q,f⟩:∃q:dG,∀j c,q j c↔∃bs:ap,c D=W (Y' (bs.map L))/\LH c bs (ds.take j)/\D∉bs/\bs.Nodup/\(∀b∈bs,h b=Zy)/\Same h c:=#[_,λ_ _=>Zj]
 refine fZ (xs:=as.map L) q ((f _ _).mpr #[[],ai,LH.nil _,by simp,ln,by simp,au o _]) (λi c _ z=>by cases (f i c).mp z,_,_,_,_,_,_,z;calc z.seq hA) ?_ ?_
 .intro j v c hv r;cases (f _ _).mp r,bs,k1,k,s,u,C,l;cases hL.nth hv,b,p,rfl,hb,hp,hB;let hj:j<ps.9:=(a_.mp hp).1;let m:ds[j]?=W ds[j]:=aq ();calc hs j b p _ c _ hp m l (l.seq hB) λF H2 E n eF=>?_;let lk:=k.len;rw[cB]at lk;let H:F≠D:=λz=>by rw[z,k1]at n;cases n
  let I:F∉bs:=k.notin n;let m1:D∉bs++[F]:=λz=>by
   rcases b5.mp z with z|z
   .exact s z
   .exact H (bZ.mp z).symm
  refine#[_,E _ _ k1,#v[af,cy ()],(f _ _).mpr #[bs++[F],by rw[ai];simp,?_,m1,?_,?_,(l.trans E).more o]]
  .let e:ds.take (j+1)=ds.take j++[ds[j]]:=by rw[dI,m];rfl
   rw[e];exact ((k.same E).snoc eF).upd m1
  .exact kh.mpr #[u,by simp,λx hx y hy z=>I (by rw[bZ.mp hy]at z;rw[<-z];calc hx)]
  .intro x hx;rcases b5.mp hx with z|z
   .exact C x z
   .rw[bZ.mp z];exact l.free n
 .intro H' r;cases (f _ _).mp r,bs,k1,k,s,u,C,l;rw[af,hL.len,<-hd,fY]at k;calc he D bs H' l o k1 k C s u
def SY {lo:Y}{n:O}{j:TT}{Q:VK}{L:Zs}(a:dG)(q:a 0 (Zx h L (Y' [])))(hs:∀i H,i<n->a i H->j (bst d c (W (.int (lo+i)))) H λb l=>if b=K' then k (bst d c (W (.int (lo+i)))) l λy o=>∃f,o L=W (Y' f)/\f.9<Zg/\a (i+1) (Zx o L (Y' (f++[y]))) else a (i+1) l)(hd:∀H,a n H->Q (.ref L) H):
  CC (Itr lo n) d j k Q c h L:=by
 refine#[λi m H=>m=n-i/\i<=n/\a i H,#[n,by simp,bh _,q],?_]
 rintro i m H ⟨rfl,hi,p⟩
 by_cases hlt:i<n
 .calc .inr #[hlt,a (i+1),λr s=>#[n-(i+1),(),U,hlt,s],λv r y=>?_];cases y,e,y;subst e y;exact hs i _ hlt p
 .let e:i=n:=()
  subst e;calc .inl #[aC _,hd H p]
theorem Ka {P:Zb}{K:ao}{mg:ck}{base:ZN}(T:Tx K mg){w B KM:Nat}{St:aB->aE->Y->Prop}(Z:SpTh w B KM St Vq Rl):∀d:Nat,FnOk P wd K mg base CX0 (2*d+9) T.WG.ax T.WG.dx ["self","vector"] (J9 T w B St Vq Rl d)
 |0=>T.WG.Fx.ok jT (λ_ _ _ _ h=>by cases h,_,_,_,_,_,_,_,_,_,_,_,_,_,_,_,_,_,_,_,_,z,_;calc Zq z (zdj _)) (λ_ _ _ _ _ _ _ _ _ h=>by cases h,_,_,_,_,_,_,_,_,_,_,_,_,_,_,_,_,_,_,_,_,z,_;calc Zq z (zdj _))
 |d+1=>by
  let F:=SX (P:=P) (wd:=wd) (base:=base) T Z d (Ka T Z d);refine T.WG.Fx.ok jT (λvs H Q E h=>?_) (λj5 A outer s H vs Q E hr h=>?_)
  .cases h,x,dx,Kp,Cl,Tb,Vc,us,z2,M,XW,k,pl,as,q,rfl,_;rfl
  cases h,x,dx,Kp,Cl,Tb,Vc,us,z2,M,XW,k,pl,as,q,rfl,S,hV,hL,C,I,kd,l9,q1,q2;refine#[_,s!"̚,ʂʹ˧qĔʪʀʵʧÏʀʜÏʓ˛Ɨ-Ƙɢƙ˻#ˎ˷ˎɶ:Ïˁʋ¸ɥɴ˂ɸ'b˛Ɵ-Ơɢơ˻̘ɨ̶'ȁ)Dʂʈʠ7Ȃʚ[(ȃ̛ʶ̈ʗɰJ@¸̲ɧʅȄʻɪ ɡɟɸJɡÏʀhɝFÏɚā@¨ɱˣ̈ˎɩ˛ȅ-͂Ȇ˻˪_ʸäʔ̷ʔI˲Ïɚ˛ȇ-Ȉɢȉ̂ʰÏɚ˛Ȋ-ȋɢȌ˻̸$ʸăɲ̷ʔI'b˛Ɵ-Ơɢơ˻̘ɨ_",?_]
  cases Z.bd XW k pl q C I,k18,qw,bq;cases Z.tb XW k pl q C I,tb,pv,lo;let kM:=Z.k18;let b3:=Z.b3;let b1:2*(2*B+2)<=900:=aP (fj _ ()) b3;let w20:=tb.w20;let lk:=S.lk;let lc:=S.lc
  w_up
  refine#[#[_,hV],λD nD=>iT (ps:=q) (ds:=q) nD hV hL U () (λi b p d Hx R' hp hd sx hb m3=>?_) (λO ob H1 s1 nO eO lO u2 n3 nd=>?_)]
  .let e:d=p:=by rw[hp]at hd;exact (Zv hd).symm
   subst e
   room;simp![bst]
   exact#[_,.inl hb,λl hl=>m3 l _ (au hl _) hl ai]
  let S1:=S.same s1;let nM:∀a,H a=Zy->a∉M:=λa u z=>by cases S.al a z,o,e;rw[u]at e;cases e
  let V1:VecAt H1 M O q:=#[ob,eO,lO,nM O nO,λa u=>nM a (u2 a u)]
  clear eO lO u2 n3 nd
  w_up
  refine#[dx,_,S1.hx,U,_,_,_,S1.hx,T.Wd,T.Xu,_,U,x,dx,Kp,Cl,Tb,O,us,z2,M,w,XW,k,pl,pl,q,U,S1,tb,(),(),V1,(),λf hf=>#[by let:=(bq f hf).1;lk,(bq f hf).2],λ_=>lo,λH2 x0 M2 S2 v1 y0 j1 l2 x4=>#[λR nR eR _=>?_,λnp=>Zq pv np]];let x1:KX M H H2:=λy o ny e=>S1.kx v1 y o ny (s1 y o e);let V2:=(V1.more j1).kx (λy o ny e=>S1.kx v1 y o (λz=>ny (y0 y z)) e);let r:∀a∈M2,a∈M\/H a=Zy:=λa u=>(j1 a u).imp (λh=>h) s1.free;clear j1 x4 v1 V1 S1;let k5:(fm w XW k q pl).9=w+(w+1):=by
   unfold fm;rw[pZ lo XW.9 #v[fP,aC _]];unfold dq;rw[cC,af,af,im,qw]
  w_up
  calc#[_,_,_,S2.hx,T.Wd,T.W4,_,U,_,U,(),(),?_];rw[gB];obtain⟨Pv,u0⟩:∃Pv:Nat->L2.St->Hp->Prop,∀i σ H',Pv i σ H'↔∃r4:Zk V,σ=[W (L x),W (L Vc),W (L O),W (L R),r4,Zy,Zy]/\H'=H2/\∀c,c<i->co (fm w XW k q pl) c=0:=#[_,λ_ _ _=>Zj]
  refine ie Pv ((u0 _ _ _).mpr #[Zy,U,U,λc hc=>()]) ?_ ?_
  .intro i σ H' hi hp;cases (u0 _ _ _).mp hp,r4,rfl,rfl,hz;let e0:(0:Y)+(i:Y)=(i:Y):=ij _
   room;simp![e0]
   refine#[_,Zw eR,_,oi (),?_]
   room;walk
   refine cu (λz=>?_) (λz=>(u0 _ _ _).mpr #[_,U,U,λc hc=>?_])
   .cases Z.hit XW k pl q i C I hi (⇑z),y4,z4;let u4:=J8 lc pv (show co (fm w XW k q pl) i≠0 by simpa using z);let v2:pl+((0:Nat):Y)=pl:=()
    refine#[dx,_,S2.hx,U,x,dx,Kp,Cl,Tb,O,us,x0,M2,w,XW,k,pl,q,i,0,U,S2,V2,(),(),λt ht=>?_,#v[v2,u4],λH3 j2 M3 t ht S3 v4 g1 j4 k4 l3=>?_]
    .rw[show t=0 by lk,v2];exact z4
    .let et:t=0:=()
     subst et;let hs:=Z.stS XW k pl q i 0 C I hi y4 (bh _) v4;exact q1 H3 _ j2 M3 i _ S3 hs (x1.trans g1 r) (λa h=>j4 a (y0 a h)) (mG x1 r k4) ()
   .by_cases y:c=i
    .rw[y];simpa using z
    .exact hz c ()
  intro σ H' hp;cases (u0 _ _ _).mp hp,r4,rfl,rfl,hz;clear hp u0 Pv;cases Z.oc XW k pl q C I hz,gs,Pn,f,qs,p0,t0,O1,O2,O3,O4,O5,O6,O7;let y1:(us.map L).9=XW.9:=by rw[af];exact S.lk
  w_up
  refine#[_,_,_,S2.hx,T.Wd,T.WE,_,U,Kp,U,_,.inl (Zw S2.hK),by rw[y1];lk,by rw[y1];lk,λFw g2=>?_];rw[y1,gB];obtain⟨fw,X⟩:∃fw:Nat->aE,∀j,fw j=(aT j).filter λn=>decide (co (fm w XW k q pl) (w+n)≠0):=#[_,λ_=>rfl]
  let m2:fw 0=[]:=by rw[X];rfl
  let n2:∀j,(fw j).9<=j:=λj=>by rw[X];exact aP (List.length_filter_le _ _) #v[im,aC _]
  let m1:∀j,fw (j+1)=if co (fm w XW k q pl) (w+j)≠0 then fw j++[j] else fw j:=λj=>by
   rw[X,X,gM,NA];by_cases z:co (fm w XW k q pl) (w+j)=0 <;> simp[z]
  let fp:(fw XW.9).Pairwise (· < ·):=by rw[X];exact List.pairwise_lt_range.filter _
  let fk:∀i∈fw XW.9,i<XW.9:=λi hi=>by rw[X]at hi;exact eN.mp (mQ.mp hi).1
  obtain⟨Pc,z0⟩:∃Pc:dG,∀j Hx,Pc j Hx↔Hx Fw=W (Y' (((fw j).map λc:Nat=>(c:Y)).map V'))/\Same H' Hx:=#[_,λ_ _=>Zj]
  let kw:=O1.kw;refine SY Pc ((z0 _ _).mpr #[by rw[ai,m2];rfl,au g2 _]) ?_ ?_
  .intro j Hx hj hc;cases (z0 _ _).mp hc,k1,k2;let e0:(0:Y)+(j:Y)=(j:Y):=ij _;let e1:(w:Y)+(j:Y)=((w+j:Nat):Y):=()
   let g4:=S2.same k2;let lj:=n2 j
   room;simp![f7,bst,e0,fF]
   refine#[_,_,_,g4.hx,T.Wd,T.W4,_,U,_,U,_,Zw (k2 _ _ eR),_,#v[e1,oi ()],?_]
   room;walk
   refine cu (λz=>#[_,k1,#v[af,af,cy ()],(z0 _ _).mpr #[?_,k2.more g2]]) (λz=>(z0 _ _).mpr #[?_,k2])
   .rw[ai,m1,Zt (⇑z),aY,aY];rfl
   .rw[k1,m1,if_neg (⇑z)]
  intro H3 hc;cases (z0 _ _).mp hc,eF,s3;clear hc z0 Pc;generalize fw XW.9=few at fp fk eF;clear X m2 n2 m1;let S3:=S2.same s3;let V3:=V2.same s3;let g1:KX M H H3:=λy o ny e=>s3 _ _ (x1 y o ny e);let x3:∀a,H' a=Zy->a∉M2:=λa u z=>by cases S2.al a z,o,e;rw[u]at e;cases e
  let y3:∀a,H' a=Zy->H a=Zy:=λa u=>by
   cases e:H a with
   |none=>rfl
   |some o=>
    by_cases m:a∈M
    .exact Zq (y0 a m) (x3 a u)
    .rw[x1 a o m e]at u;cases u
  obtain⟨Mx,j0⟩:∃Mx:L2.St->Hp->Prop,∀σ H',Mx σ H'↔∃v6:V,σ=[W (L x),W (L Vc),W (L O),W (L R),r4,W (L Fw),W v6]/\Same H3 H'/\(v6=.non\/∃(D:Zs)(bs:ap)(ws:ae),v6=.ref D/\Rl XW q ws/\H3 D=Zy/\H' D=W (Y' (bs.map L))/\LH H' bs ws/\(∀b∈bs,H3 b=Zy)/\D∉bs):=#[_,λ_ _=>Zj]
  room;refine gl Mx ?_ ?_
  .room;walk
   calc#[_,.inl (Zw eF),_,_,_,S3.hx,T.Wd,T.WE,_,U,Kp,U,_,.inl (Zw S3.hK),?_];rw[y1,af,af];calc cu (λz=>?_) (λz=>(j0 _ _).mpr #[_,U,Same.refl _,.inl U]);refine#[dx,_,S3.hx,U,x,dx,Kp,Cl,Tb,O,Fw,us,x0,M2,XW,k,pl,q,few,U,S3,V3,eF,C,I,(),fp,fk,(),λH4 s4=>(j0 _ _).mpr #[_,U,s4,.inl U],λH4 D bs ws s4 hR nD eD lD nb Db=>(j0 _ _).mpr #[_,U,s4,.inr #[D,bs,ws,U,hR,nD,eD,lD,nb,Db]]]
  intro σ H4 hm;cases (j0 _ _).mp hm,v6,rfl,s4,m4;clear hm j0 Mx;let S4:=S3.same s4;let V4:=V3.same s4;let x2:KX M H H4:=λy o ny e=>s4 _ _ (g1 y o ny e)
  w_up
  rcases m4 with rfl|⟨D,bs,ws,rfl,hR,nD,eD,lD,nb,Db⟩
  .rw[if_neg (λz=>z U)]
   w_up
   calc#[dx,_,S4.hx,U,x,dx,Kp,Cl,Tb,O,us,x0,M2,w,XW,k,pl,q,gs,Pn,f,qs,p0,t0,U,S4,V4,O1,(),O3,O4,λH5 k0 M5 D bs S5 z3 y2 u3 l5 x5 nD eD lD nb Db=>?_];let z1:=x2.trans z3 r;let n0:=mG x2 r u3;let V5:=(V4.more u3).kx (λy o ny e=>z3 y o (λz=>ny (y2 y z)) e);let n5:∀a,H4 a=Zy->H a=Zy:=λa u=>y3 a (s3.free (s4.free u))
   w_up
   refine#[dx,_,S5.hx,U,x,dx,Kp,Cl,Tb,O,D,us,k0,M5,w,XW,k,pl,q,bs,qs,U,S5,V5,Zw eD,lD.ll,O5,λH6 s6=>#[λc v3 j3 hs hb=>?_,λk3=>?_]]
   .cases O7 c v3 j3 hs,N,N1,N2,N3;let S6:=S5.same s6
    room;walk
    rw[if_neg (λz=>nomatch z)];calc#[dx,_,S6.hx,U,x,dx,Kp,Cl,Tb,O,us,k0,M5,w,XW,k,pl,q,c,N,U,S6,V5.same s6,(),(),N2,N3,λH7 g3 M7 t ht S7 y5 z5 u5 v5 l7=>?_];let hs:=Z.stS XW k pl q c t C I v3 j3 () y5;let u1:KX M H H6:=λy o ny e=>s6 _ _ (z1 y o ny e);exact q1 H7 _ g3 M7 c _ S7 hs (u1.trans z5 n0) (λa h=>u5 a (y2 a (y0 a h))) (mG u1 n0 v5) ()
   .let S6:=S5.same s6
    room;walk
    exact q2 H6 k0 M5 D bs qs S6 (O6 k3) (λy o ny e=>s6 _ _ (z1 y o ny e)) (λa h=>y2 a (y0 a h)) n0 () x5 (n5 D nD) (s6 _ _ eD) (lD.same s6) (λb hb=>#[(nb b hb).1,n5 b (nb b hb).2]) Db
  .rw[Zt (λz=>nomatch z)];let n4:∀a,H3 a=Zy->a∉M2/\H a=Zy:=λa u=>#[x3 a (s3.free u),y3 a (s3.free u)]
   calc q2 H4 x0 M2 D bs ws S4 hR x2 y0 r () (n4 D nD).1 (n4 D nD).2 eD lD (λb hb=>n4 b (nb b hb)) Db
def DD (q:S f){ps:aa}(nd:ps.Nodup)(x:f.9<=ps.9)(r:∀p∈ps,J p f=0):f=[]:=by
 let d:∀i j (hi:i<ps.9) (C:j<ps.9),i≠j->ps[i]≠ps[j]:=λa b l m e h=>by
  rcases zco e with y|y
  .exact qV.mp nd a b l m y h
  .exact qV.mp nd b a m l y h.symm
 let z:∀t,t<ps.9->dd f (ps.take (t+1))=0:=λt o=>by
  let h:=wn f d (B:=0) (λi h=>#v[r _ (cD h),aC _]) t 0 ();let s:run ps 0 (t+1)=ps.take (t+1):=by unfold run;rw[oR]
  rw[s]at h;lk
 let we:∀k t,t+k=ps.9->∀n,dd f (ps.take t++[n])=0:=λk=>by
  induction k with
  |zero=>intro t o n;calc Ja (by rw[cC,cB];simp;lk)
  |succ k ih=>
   intro t o n;let c:t<ps.9:=()
   let u:ps.take (t+1)=ps.take t++[ps[t]]:=by rw[dI,aq c];rfl
   rw[Jd f (ps.take t) ps[t] n,<-u,z t c,ih (t+1) () n];simp
 exact aZ q bH λn=>by
  let:=we ps.9 0 () n;rw[zdl,gT,wm]at this;rw[this];rfl
def Kb (d:S f)(i:f≠[])(pl:Y){N:O}(l:f.9<=N+1):∃t:O,t<=N/\J (pl+(t:Y)) f≠0:=by
 by_cases h:∃t:O,t<=N/\J (pl+(t:Y)) f≠0
 .exact h
 refine Zq (DD d (ps:=(aT (N+1)).map λt:O=>pl+(t:Y)) ?_ (by simp;lk) λp j=>?_) i
 .calc za4 _ (λa b c=>?_) (zc2 (n:=N+1));intro e;apply c;lk
 .cases b8.mp j,t,k,rfl;let:=eN.mp k;by_cases z:J (pl+(t:Y)) f=0
  .exact z
  .calc Zq #[t,(),z] h
def S_ {w:O}(nd:S d)(l:d≠[]){Pn:O}(h:∀p:O,p<Pn->J (p:Y) d≠0->Piv w XW cs (p:Y) XW.9):Pn<(plc w XW cs Pn).9+d.9:=by
 let f:∀(g:O->Yl)(c:aE),(c.filter g).9+(c.filter λx=>! g x).9=c.9:=λg c=>by
  induction c with
  |nil=>rfl
  |cons x c ih=>cases e:g x <;> simp[List.filter_cons,e] <;> lk
 let e:=f (λp:O=>jX w XW cs (p:Y) XW.9) (aT Pn);rw[im]at e;let m:(plc w XW cs Pn).9=((aT Pn).filter λp:O=>jX w XW cs (p:Y) XW.9).9:=by unfold plc;rw[af]
 rw[m];let s:((aT Pn).filter λp:O=>! jX w XW cs (p:Y) XW.9).9<d.9:=by
  refine mU λi=>l (DD nd (ps:=((aT Pn).filter λp:O=>! jX w XW cs (p:Y) XW.9).map λp:O=>(p:Y)) ?_ #v[af,i] λp o=>?_)
  .calc za4 _ (λa b j=>?_) ((zc2 (n:=Pn)).filter _);intro e;apply j;lk
  .cases b8.mp o,t,q,rfl;cases mQ.mp q,r,k;by_cases z:J (t:Y) d=0
   .exact z
   .let:=xa.mpr (h t (eN.mp r) z);rw[this]at k;simp at k
 lk
def Tc {a b:aa}{j:O}(c:j<a.9)(d:j<b.9):Z (dw g a b) j=g (Z a j) (Z b j):=by
 rw[aO (by rw[km];lk),VT,aO c,aO d]
def om {w:O}{vec:ae}{a:O}(b:vec.9=w):(dq w vec a p).9=w+(w+1):=by
 unfold dq;rw[cC,af,af,im,b]
def DE {w:O}{vec:ae}{a:O}{j:O}(b:j<vec.9):Z (dq w vec a p) j=J p (vec.getD j []):=by
 unfold dq Z;rw[aD,aD,dH #v[af,b],a7,aq b];rfl
def mN {w:O}{vec:ae}{a:O}{i:O}(b:vec.9=w)(hi:i<=w):Z (dq w vec a p) (w+i)=if i=a then 1 else 0:=by
 unfold dq Z;rw[aD,dQ (by rw[af];lk),af,b,Nat.add_sub_cancel_left,a7,oU ()];rfl
def Kc {w:O}{vec:ae}{a:O}{k l L:O}(b:Bd l p)(d:∀f∈vec,f.9<=L/\∀c∈f,Bd k c)(hk:0<k):∀y∈dq w vec a p,Bd (k+(l+1)*L) y:=λy hy=>by
 unfold dq at hy;rcases b5.mp hy with h|h
 .cases b8.mp h,f,e,rfl;cases d f e,i,j;exact (ol b f j).mono (EO (fE _ i) _)
 .obtain⟨o,_,rfl⟩:=b8.mp h
  split
  .exact Bd.one ()
  .calc Bd.zero _
def Kd {z e:Y}(a:e≠0)(h:e∣z):z.fdiv e*e=z:=by
 cases h,k,rfl;rw[qO _ a,cW]
theorem qe {e:Y}(c:e≠0)(n:Y):∀b:aa,(∀z∈b,e∣z)->J n (b.map λz=>z.fdiv e)*e=J n b
 |[],_=>by simp[J]
 |z::b,h=>by
  let i:=qe c n b λa d=>h a (by simp[d]);show (z.fdiv e+n*J n (b.map λz=>z.fdiv e))*e=z+n*J n b;rw[yn,Kd c (h z ⋯),cI,i]
def Ke {e:Y}(f:e≠0)(nx:S xs)(h:∀z∈xs,e∣z):S (xs.map λz=>z.fdiv e):=fO.mpr λa c=>by
 rw[EN]at c;cases e_.mp c,z,d,rfl;let i:=fO.mp nx z d;let b:=Kd f (h z (ni d));intro y;rw[y]at b;simp at b;calc i b.symm
def Td (n:Y)(b:Yl)(R:aa):J n (gZ b R)=(if b then -1 else 1)*J n R:=by
 unfold gZ
 cases b
 .simp
 .let:(R.map λz=>-z)=R.map λz=>-1*z:=gf λa _=>by lk
  rw[Zt U,Zt U,this,aJ]
def gx {e:Y}(c:e≠0)(d:S y):S (y.map λz=>e*z):=fO.mpr λa b=>by
 rw[EN]at b;cases e_.mp b,z,f,rfl;calc fL c (fO.mp d z f)
def dr (nx:S x)(b:S u)(c:x≠[])(u0:u≠[]):(pdL x u).9=x.9+u.9-1/\Z (pdL x u) ((pdL x u).9-1)=Z x (x.9-1)*Z u (u.9-1):=by
 let lx:x.9≠0:=λz=>c (b7 z);let lu:u.9≠0:=λz=>u0 (b7 z);let t:Z (pdL x u) (x.9+u.9-2)=Z x (x.9-1)*Z u (u.9-1):=by
  rw[mL,show x.9+u.9-2=u.9-1+(x.9-1) by lk,mv (λj a=>iP j a) (λj a=>iP j a)]
 let e:=p8 nx b;let f:x.9+u.9-1<=(pdL x u).9:=by
  calc qI λh=>?_;rw[aL ()]at t;exact fL (dU nx c) (dU b u0) t.symm
 let d:(pdL x u).9=x.9+u.9-1:=()
 calc#[d,by rw[d,show x.9+u.9-1-1=x.9+u.9-2 by lk];calc t]
def iU (g:aa):pdL [] g=[]:=aZ (bJ _ _) bH λn=>by rw[aG];simp[J]
def xp (d:O):aa:=bj d 0++[1]
def Kf (d:O):S (xp d):=jU _
def Kg (d:O):xp d≠[]:=by unfold xp;simp
def xb (d:O):(xp d).9=d+1:=by unfold xp;simp
def Kh (d:O):Z (xp d) ((xp d).9-1)=1:=by
 rw[xb];unfold xp Z;simp
def xf (a:S p)(p0:p≠[]):S (dvL p (ag p))/\dvL p (ag p)≠[]/\gP (Z (dvL p (ag p)))/\p=pdL [((ag p:O):Y)] (dvL p (ag p)):=by
 let c:=fU a p0;refine#[w8 a p0,λz=>p0 (b7 (by rw[<-jW p (ag p),z];rfl)),w_ c,aZ a (bJ _ _) λn=>?_];rw[aG,<-i9 c n];simp[J]
structure Gc (p q g a b U W:aa)(m:Y):Prop where
 ng:S g
 g0:g≠[]
 pg:gP (Z g)
 na:S a
 nb:S b
 pa:p=pdL a g
 qb:q=pdL b g
 m0:m≠0
 bz:∀n,J n U*J n a+J n W*J n b=m
def Gc.swap {p q g a b U W:aa}(h:Gc p q g a b U W m):Gc q p g b a W U m:=#[h.ng,h.g0,h.pg,h.nb,h.na,h.qb,h.pa,h.m0,λn=>by rw[<-h.bz n];lk]
theorem xi:∀(n:O)(p q:aa),p.9+q.9<=n->S p->S q->(p≠[]\/q≠[])->∃(g a b U W:aa)(m:Y),Gc p q g a b U W m
 |0,p,q,h,_,_,hz=>by
  let u:p=[]:=b7 ();let E:q=[]:=b7 ();rcases hz with z|z
  .exact Zq u z
  .calc Zq E z
 |n+1,p,q,h,x,o,hz=>by
  let s:∀{p q:aa},p.9+q.9<=n+1->S p->S q->q≠[]->q.9<=p.9->∃(g a b U W:aa)(m:Y),Gc p q g a b U W m:=λ{p q} h x o f I=>by
   let y:p≠[]:=λz=>f (b7 (by rw[z]at I;simpa using I));let x0:q.9≠0:=λz=>f (b7 z);let M:=dU o f;generalize hc:Z q (q.9-1)=c at M;generalize P:Z p (p.9-1)=l;obtain⟨d,hd⟩:∃d,p.9=d+q.9:=#[p.9-q.9,()]
   cases dr (Kf d) o (Kg d) f,t1,Q;rw[xb]at t1;rw[Kh,hc,cL]at Q;obtain⟨r,R⟩:∃r,r=aw (cq (p.map λz=>c*z) ((pdL (xp d) q).map λz=>-l*z)):=#[_,rfl]
   let nr:S r:=by rw[R];exact cn _
   let rc:∀j,Z r j=c*Z p j-l*Z (pdL (xp d) q) j:=λj=>by rw[R,cX,gu,dg,dg];grind
   let rv:∀n,J n r=c*J n p-l*(J n (xp d)*J n q):=λn=>by rw[R,cx,d8,aJ,aJ,aG];grind
   let lr:r.9<=p.9-1:=gO nr λk hk=>by
    rw[rc];by_cases z:k=p.9-1
    .let e:(pdL (xp d) q).9-1=k:=()
     rw[e]at Q;rw[Q,z,P];grind
    .rw[aL (xs:=p) (),aL (xs:=pdL (xp d) q) ()];simp
   cases xi n r q () nr o (.inr f),g,F,b,U,W,m,G;let A:∀n,c*J n p=(J n F+l*(J n (xp d)*J n b))*J n g:=λn=>by
    let C:=rv n;let X:J n r=J n F*J n g:=by rw[G.pa,aG]
    let e3:J n q=J n b*J n g:=by rw[G.qb,aG]
    rw[X,e3]at C;grind
   obtain⟨i,H⟩:∃i,i=aw (cq F ((pdL (xp d) b).map λz=>l*z)):=#[_,rfl]
   let nA:S i:=by rw[H];exact cn _
   let vA:∀n,J n i=J n F+l*(J n (xp d)*J n b):=λn=>by rw[H,cx,d8,aJ,aG]
   let dv:∀j,c∣Z i j:=by
    let u:=pP G.pg c.8 () (Z i) λj=>by
     let e:pm (Z g) (Z i) j=c*Z p j:=by
      rw[<-gI,<-dg];exact dX (λn=>by rw[cG,aJ,A n,vA n];grind) j
     rw[e];exact ge (k_.mpr (oQ c)) (i0 _ _)
    exact λj=>k_.mp (u j)
   let dA:∀z∈i,c∣z:=cP dv;obtain⟨a,ha⟩:∃a,a=i.map λz=>z.fdiv c:=#[_,rfl]
   let na:S a:=by rw[ha];exact Ke M nA dA
   let va:∀n,J n a*c=J n i:=λn=>by rw[ha];exact qe M n i dA
   refine#[g,a,b,U.map λz=>c*z,aw (cq W ((pdL (xp d) U).map λz=>-l*z)),m,G.ng,G.g0,G.pg,na,G.nb,?_,G.qb,G.m0,λn=>?_]
   .calc aZ x (bJ _ _) λn=>?_;rw[aG];let C:=A n;rw[<-vA n,<-va n]at C;exact jx M (by rw[C];grind)
   .rw[aJ,cx,d8,aJ,aG];let C:=G.bz n;let X:=va n;rw[vA n]at X;let e3:J n F=J n a*c-l*(J n (xp d)*J n b):=()
    rw[e3]at C;grind
  by_cases f:q=[]
  .subst f;let y:p≠[]:=by
    rcases hz with z|z
    .exact z
    .exact Zq rfl z
   cases xf x y,u,E,h3,h4;refine#[_,[((ag p:O):Y)],[],[1],[],((ag p:O):Y),u,E,h3,e7 (by let:=fU x y;lk),bH,h4,(iU _).symm,by let:=fU x y;lk,λn=>by simp[J]]
  .by_cases I:q.9<=p.9
   .exact s h x o f I
   .by_cases y:p=[]
    .subst y;cases xf o f,u,E,h3,h4;exact#[_,[],[((ag q:O):Y)],[],[1],((ag q:O):Y),u,E,h3,bH,e7 (by let:=fU o f;lk),(iU _).symm,h4,by let:=fU o f;lk,λn=>by simp[J]]
    .cases s () o x y (),g,a,b,U,W,m,G;calc#[g,b,a,W,U,m,G.swap]
def fB (f:b_):O->G Rw
 |0=>[]
 |k+1=>f::fB (sh f) k
theorem ja:∀(k:O)(f:b_),(fB f k).9=k
 |0,_=>rfl
 |k+1,f=>by rw[fB,dO,ja k]
theorem qf {B:O}:∀(k:O)(f:b_),(∀a,(f a).8<=B)->∀r∈fB f k,∀a,(r a).8<=B
 |0,_,_,r,hr,_=>by simp[fB]at hr
 |k+1,f,h,r,hr,a=>by
  rw[fB]at hr;rcases bV.mp hr with z|z
  .rw[z];exact h a
  .calc qf k (sh f) (λa=>?_) r z a;unfold sh;split
   .simp
   .calc h _
theorem qg {L:O}:∀(k:O)(f:b_),(∀b,L+1<=b->f b=0)->∀r∈fB f k,∀b,L+k<=b->r b=0
 |0,_,_,r,hr,_,_=>by simp[fB]at hr
 |k+1,f,h,r,hr,b,a=>by
  rw[fB]at hr;rcases bV.mp hr with z|z
  .rw[z];exact h b ()
  .calc qg (L:=L+1) k (sh f) (λb a=>?_) r z b ();unfold sh;rw[N ()];calc h _ ()
def Te (u:Y)(us:aa)(f:b_)(b:O):pm (Z (u::us)) f b=u*f b+pm (Z us) (sh f) b:=by
 rw[IV];unfold pm sh;rw[mw];congr 1;by_cases z:b=0
 .rw[Zt z,z];rfl
 .rw[N z];obtain⟨i,rfl⟩:∃i,b=i+1:=#[b-1,()]
  exact fC λj a=>by
   show Z us j*f (i+1-(j+1))=Z us j*f (i+1-1-j);congr 2;lk
theorem qh:∀(a:aa)(f:b_)(b:O),dot a (fB f a.9) b=pm (Z a) f b
 |[],f,b=>by
  rw[show pm (Z []) f b=aX (b+1) (λj=>Z [] j*f (b-j)) from rfl,iN λj _=>by rw[gn];simp];rfl
 |u::a,f,b=>by rw[dO,fB,dot,qh a (sh f) b,Te]
theorem oo:∀(N e:O)(a:aE),a.Nodup->(∀c∈a,e<=c/\c<e+N)->a.9<=N
 |0,e,a,_,h=>by
  cases a with
  |nil=>calc aC _
  |cons c a=>have:=h c e9;lk
 |N+1,e,a,nd,h=>by
  by_cases z:e+N∈a
  .let:=oo N e (a.erase (e+N)) (nd.erase _) λc b=>by
    let d:=(nd.mem_erase_iff).mp b;let:=h c d.2;let:=d.1;lk
   rw[List.length_erase_of_mem z]at this;lk
  .let:=oo N e a nd λc b=>by
    let:=h c b;let:c≠e+N:=λy=>z #v[<-y,b];lk
   lk
def Tf {N e:O}{cs:aE}(nd:cs.Nodup)(h:∀c∈cs,e<=c/\c<e+N)(f:cs.9=N){i:O}(a:e<=i)(b:i<e+N):i∈cs:=by
 by_cases z:i∈cs
 .exact z
 .let:=oo N e (i::cs) (mR.mpr #[z,nd]) λc d=>by
   rcases bV.mp d with y|y
   .rw[y];exact#[a,b]
   .exact h c y
  rw[dO]at this;lk
abbrev Rp:=O->aa
def fW (p q:aa):aa:=aw (cq p q)
def oq (p q:aa):S (fW p q):=cn _
def gS (n:Y)(p q:aa):J n (fW p q)=J n p+J n q:=by unfold fW;rw[cx,d8]
def Ki {p q:aa}{L:O}(a:p.9<=L)(b:q.9<=L):(fW p q).9<=L:=gO (oq _ _) λk hk=>by
 unfold fW;rw[cX,gu,aL (xs:=p) (),aL (xs:=q) ()];rfl
def iop (c:O):G Rp->(G Rp->aa)->aa
 |[],_=>[]
 |r::w,F=>fW (pdL [(-1)^w.9] (pdL (r c) (F w))) (iop c w λu=>F (r::u))
def dtp:aE->G Rp->aa
 |[],[]=>[1]
 |[],_::_=>[]
 |c::cs,l=>iop c l (dtp cs)
def evR (n:Y)(r:Rp):Rw:=λc=>J n (r c)
theorem Tg {c:O}:∀(w:G Rp)(F:G Rp->aa),S (iop c w F)
 |[],_=>bH
 |_::_,_=>oq _ _
theorem iV:∀(a:aE)(l:G Rp),S (dtp a l)
 |[],[]=>e7 ()
 |[],_::_=>bH
 |_::_,_=>Tg _ _
theorem Kj (n:Y){c:O}:∀(w:G Rp)(F:G Rp->aa)(a:G Rw->Y),(∀u,J n (F u)=a (u.map (evR n)))->J n (iop c w F)=io c (w.map (evR n)) a
 |[],_,_,_=>rfl
 |r::w,F,a,h=>by
  rw[iop,gS,aG,aG,fo,io,Kj n w (λu=>F (r::u)) (λu=>a (evR n r::u)) (λu=>by rw[h];rfl),h w,af];simp[J,evR];grind
theorem xj (n:Y):∀(a:aE)(l:G Rp),J n (dtp a l)=dt a (l.map (evR n))
 |[],[]=>by simp[dtp,dt,J]
 |[],_::_=>by simp[dtp,dt,J]
 |c::a,l=>by rw[dtp,dt];calc Kj n l _ _ λu=>xj n a u
def Th (k:O)(a:S f):(pdL [(-1)^k] f).9<=f.9:=by
 let hk:(-1:Y)^k=1\/(-1:Y)^k=-1:=by
  induction k with
  |zero=>calc .inl U
  |succ k ih=>rw[mW];rcases ih with z|z <;> rw[z] <;> simp
 let:=p8 (e7 (c:=(-1)^k) (by rcases hk with z|z <;> rw[z] <;> decide)) a;simp at this;lk
theorem qj {c D:O}:∀(w b:G Rp)(F:G Rp->aa),(∀u,S (F u))->(∀pre r a,w=pre++r::a->S (r c)/\(r c≠[]->(r c).9+(F (b++pre++a)).9<=D+2))->(iop c w λu=>F (b++u)).9<=D+1
 |[],_,_,_,_=>by simp[iop]
 |r::w,b,F,nF,h=>by
  rw[iop];refine Ki (aP (Th _ (bJ _ _)) ?_) ?_
  .cases h [] r w rfl,d,f;by_cases z:r c=[]
   .rw[z,iU];exact bh _
   .let l:=p8 d (nF (b++w));let:=f z;rw[oD]at this;lk
  .let:=qj w (b++[r]) F nF λpre x a e=>by
    let:=h (r::pre) x a (by rw[e];rfl)
    simpa using this
   simpa using this
theorem DF (d:O->O):∀(a:aE)(l:G Rp),(∀r∈l,∀c∈a,S (r c)/\(r c).9<=d c+1)->(dtp a l).9<=(a.map d).sum+1
 |[],[],_=>by simp[dtp]
 |[],_::_,_=>by simp[dtp]
 |c::a,l,h=>by
  rw[dtp];calc qj l [] (dtp a) (iV a) λpre r b e=>?_;let i:r∈l:=by rw[e];simp
  cases h r i c e9,j,m;calc#[j,λ_=>?_];let:=DF d a (pre++b) λx hx k f=>h x (by
   rw[e];rcases b5.mp hx with z|z
   .simp[z]
   .simp[z]) k (eQ _ f)
  rw[gT,fo,i2];lk
def g_ (rd:Rp->O)(l:G Rp):Nat:=(l.map rd).sum
theorem qk (d:Rp->O):∀(a:aE)(l:G Rp),(∀r∈l,∀c∈a,S (r c)/\(r c).9<=d r+1)->(dtp a l).9<=g_ d l+1
 |[],[],_=>by simp[dtp]
 |[],_::_,_=>by simp[dtp]
 |c::a,l,h=>by
  rw[dtp];calc qj l [] (dtp a) (iV a) λpre r b e=>?_;let i:r∈l:=by rw[e];simp
  cases h r i c e9,j,m;calc#[j,λ_=>?_];let:=qk d a (pre++b) λx hx k f=>h x (by
   rw[e];rcases b5.mp hx with z|z
   .simp[z]
   .simp[z]) k (eQ _ f)
  rw[e];unfold g_ at this ⊢;simp only[gT,aY,gX,fo,i2]at this ⊢;lk
theorem ot {b:O}:∀(a:aa)(R:G Rw),(∀r∈R,r b=0)->dot a R b=0
 |[],R,_=>by cases R <;> rfl
 |m::a,[],_=>rfl
 |m::a,r::R,h=>by rw[dot,h r e9,ot a R λx hx=>h x (eQ _ hx)];simp
def Ti {rs:G Rw}{i:O}{x:Rw}{d:O}(h:∀r∈rs,r d=0)(hx:x d=0):bo rs cs i x d=0:=by
 cases i5 (rs:=rs) (cs:=cs) i x,c,_,a;rw[a,ot _ _ λr b=>h r (gU b),hx];simp
def cK (w:O)(XW:aB)(p:Y):G Rw:=(aT XW.9).map λi=>Z (dq w (XW.getD i []) i p)
section
variable {w:O}{XW:aB}{cs:aE}{p:Y}
def jY:(cK w XW p).9=XW.9:=by unfold cK;rw[af,im]
def kP {i:O}(h:i<(cK w XW p).9):(cK w XW p)[i]=Z (dq w (XW.getD i []) i p):=by
 let e:(cK w XW p)[i]?=W (Z (dq w (XW.getD i []) i p)):=by
  rw[jY]at h;unfold cK;rw[a7,oU h];rfl
 calc Zv ((aq h).symm.trans e)
def Tj (W:∀v∈XW,v.9=w){d:O}(c:w+(w+1)<=d):∀r∈cK w XW p,r d=0:=λr b=>by
 unfold cK at b;cases b8.mp b,i,hi,rfl;let a:=eN.mp hi;calc aL #v[om (W _ (mem_getD a)),c]
def DG {n i:O}(h:i<n):(ff w XW cs p n).getD i []=gJ w XW cs p i:=by
 induction n with
 |zero=>lk
 |succ n ih=>
  rw[ff,aD];by_cases z:i<n
  .rw[dH #v[fP,z],<-aD];exact ih z
  .let e:i=n:=()
   subst e;rw[dQ #v[fP,aC _],fP,gE];rfl
def Kk (w:O)(XW:aB)(cs:aE)(p:Y)(n:O):Prop:=(∀i,i<=n->mi (cK w XW p) cs i≠0)/\∀i,i<n->(gJ w XW cs p i).9=w+(w+1)/\∀j,Z (gJ w XW cs p i) j=bo (cK w XW p) cs i (Z (dq w (XW.getD i []) i p)) j
theorem ou {n:O}(W:∀v∈XW,v.9=w)(m:n<=XW.9)(o:n<=cs.9)(h:Kk w XW cs p n){x:aa}(lx:x.9=w+(w+1)):∀i,i<=n->(eJ x (ff w XW cs p n) cs i).1=mi (cK w XW p) cs i/\(eJ x (ff w XW cs p n) cs i).2.9=w+(w+1)/\∀j,Z (eJ x (ff w XW cs p n) cs i).2 j=bo (cK w XW p) cs i (Z x) j
 |0,_=>⟨rfl,lx,λj=>by
  show Z x j=dt [j] [Z x];simp[dt,io]⟩
 |i+1,hi=>by
  cases ou W m o h lx i (),q,c,d;cases h.2 i (),e,f;let b:i<(cK w XW p).9:=by rw[jY];lk
  let a:i<cs.9:=()
  let r:=DG (w:=w) (XW:=XW) (cs:=cs) (p:=p) (show i<n by lk);let s:cs.getD i 0=cs[i]:=by rw[aD,aq a];rfl
  let k:Z (gJ w XW cs p i) cs[i]=mi (cK w XW p) cs (i+1):=by rw[f,mz b a,kP]
  let m0:=h.1 i ();rw[eJ,r,s];refine#[k,by rw[km,c,e];lk,λj=>?_];by_cases hj:j<w+(w+1)
  .rw[Tc () (),k,d,d,f,q];let st:=RI b a (λl u=>h.1 l ()) (Z x) j;rw[kP b]at st;rw[<-st];exact qO _ m0
  .rw[aL (by rw[km,c,e];lk)];calc (Ti (Tj W ()) (aL ())).symm
theorem kQ (W:∀v∈XW,v.9=w):∀n,n<=XW.9->n<=cs.9->Piv w XW cs p n->Kk w XW cs p n
 |0,_,_,_=>#[λi hi=>by rw[show i=0 by lk,pR];decide,λi hi=>()]
 |n+1,hk,hc,pv=>by
  let b:=kQ W n () () λi hi=>pv i ();let lx:(dq w (XW.getD n []) n p).9=w+(w+1):=om (W _ (mem_getD ()));cases ou W () () b lx n (aC _),_,d,f;let c:n<(cK w XW p).9:=by rw[jY];lk
  let a:n<cs.9:=()
  let h:cs.getD n 0=cs[n]:=by rw[aD,aq a];rfl
  let hT:(gJ w XW cs p n).9=w+(w+1)/\∀j,Z (gJ w XW cs p n) j=bo (cK w XW p) cs n (Z (dq w (XW.getD n []) n p)) j:=#[d,f]
  refine#[λi hi=>?_,λi hi=>?_]
  .by_cases z:i<=n
   .exact b.1 i z
   .let e:i=n+1:=()
    subst e;rw[mz c a,kP c,<-hT.2];let:=pv n ();rw[h]at this;exact this
  .by_cases z:i<n
   .exact b.2 i z
   .rw[show i=n by lk];calc hT
noncomputable def dN (w:O) (v:ae) (num:O):Rp:=λj=>if j<w then v.getD j [] else if j=w+num then [1] else []
def Tk {v:ae}{a:O}(b:v.9=w)(c:a<=w):evR p (dN w v a)=Z (dq w v a p):=by
 funext j
 unfold evR dN;by_cases z:j<w
 .rw[Zt z,DE ()]
 .rw[N z];obtain⟨i,rfl⟩:∃i,j=w+i:=#[j-w,()]
  by_cases y:i<=w
  .rw[mN b y];by_cases x:i=a
   .rw[Zt (),Zt x];simp[J]
   .rw[N (),N x];rfl
  .rw[N (),aL (by rw[om b];lk)];rfl
def cY (w:O)(XW:aB):G Rp:=(aT XW.9).map λi=>dN w (XW.getD i []) i
def Kl (W:∀v∈XW,v.9=w)(hk:XW.9<=w+1)(p:Y):(cY w XW).map (evR p)=cK w XW p:=by
 unfold cY cK;rw[iF];calc gf λi hi=>?_;let:=eN.mp hi;calc Tk (W _ (mem_getD this)) ()
def mkP (w:O)(XW:aB)(cs:aE)(q:ae)(j:O):aa:=dtp (j::cr cs XW.9) (cY w (XW++[q]))
def Tl (q:ae):cK w (XW++[q]) p=cK w XW p++[Z (dq w q XW.9 p)]:=by
 unfold cK;rw[cC,oE,gM,aY];congr 1
 .calc gf λi hi=>?_;let:=eN.mp hi;rw[aD,aD,dH this]
 .simp
def ql (W:∀v∈XW++[q],v.9=w)(hk:XW.9<=w)(p:Y)(j:O):J p (mkP w XW cs q j)=bo (cK w XW p) cs XW.9 (Z (dq w q XW.9 p)) j:=by
 unfold mkP bo;rw[xj,Kl W (by simp;lk),Tl,<-jY (w:=w) (XW:=XW) (p:=p),fY]
def DH (W:∀v∈XW++[q],v.9=w)(hk:XW.9<=w)(a:XW.9<=cs.9)(pv:Piv w XW cs p XW.9)(j:O):Z (fm w XW cs q p) j=J p (mkP w XW cs q j):=by
 let b:∀v∈XW,v.9=w:=λv c=>W v (by simp[c]);rw[ql W hk];calc (ou b (aC _) a (kQ b _ (aC _) a pv) (om (W q ⋯)) XW.9 (aC _)).2.2 j
end
def Km {rs:G Rw}{i R:O}{x:Rw}(b:∀r∈rs,∀j,Bd R (r j))(hx:∀j,Bd R (x j))(hi:i<=7)(j:O):Bd ((R+3)*(i+1)+1) (bo rs cs i x j):=by
 let h:=C7 (B:=2^R) (N:=2^3) (jd (eV _) (eV _)) (j::cr cs i) (rs.take i++[x]) (by rw[cC,cB];simp;lk) λr a c=>by
  rcases b5.mp a with z|z
  .exact dj (b r (gU z) c)
  .rw[bZ.mp z];exact dj (hx c)
 rw[<-eH,<-nj]at h;calc dF h (dF (fQ () ?_) (mY () (qE _)));rw[oG R 3];calc fE _ ?_;unfold cr;rw[dO,oX,cB];lk
def Tn {rs:G Rw}{i R:O}(b:∀r∈rs,∀j,Bd R (r j))(hi:i<=7):Bd ((R+3)*i+1) (mi rs cs i):=by
 let h:=C7 (B:=2^R) (N:=2^3) (jd (eV _) (eV _)) (cr cs i) (rs.take i) (by rw[cB];lk) λr a c=>dj (b r (gU a) c);rw[<-eH,<-nj]at h;calc dF h (dF (fQ () ?_) (mY () (qE _)));rw[oG R 3];calc fE _ ?_;unfold cr;rw[oX,cB];lk
structure VB (w:O)(XW:aB)(L b:O):Prop where
 wid:∀v∈XW,v.9=w
 nml:∀v∈XW,∀f∈v,S f/\f.9<=L/\∀c∈f,Bd b c
 few:XW.9<=6
 w9:w<=9
 b0:0<b
section
variable {w L b:O}{XW:aB}{cs:aE}{p:Y}{q:ae}
theorem VB.row (B:VB w XW L b){v:ae}(c:v∈XW)(e:Bd 9 p)(a:O)(j:O):Bd (b+10*L) (Z (dq w v a p) j):=
 cV (P:=λz=>Bd (b+10*L) z) (Kc e (λf d=>#[(B.nml v c f d).2.1,(B.nml v c f d).2.2]) B.b0) (Bd.zero _) j
def VB.rows (B:VB w XW L b)(c:Bd 9 p):∀r∈cK w XW p,∀j,Bd (b+10*L) (r j):=λr a j=>by
 unfold cK at a;cases b8.mp a,i,hi,rfl;calc B.row (mem_getD (eN.mp hi)) c i j
theorem VB.low (B:VB w XW L b)(d:Bd 9 p)(o:(b+10*L+3)*7+1<=4000)(l:∀c∈cs,c<w){n:O}(m:n<=XW.9)(k:n<=cs.9)(pv:Piv w XW cs p n){v:ae}{a:O}(q:v.9=w)(bv:∀f∈v,f.9<=L/\∀c∈f,Bd b c):LowOk (dq w v a p) (ff w XW cs p n) cs:=by
 let tb:=kQ B.wid n m k pv;let w9:=B.w9;let few:=B.few;let lx:(dq w v a p).9=w+(w+1):=om q;let r:∀j,Bd (b+10*L) (Z (dq w v a p) j):=λj=>cV (P:=λz=>Bd (b+10*L) z) (Kc d bv B.b0) (Bd.zero _) j;let big:∀i,i<=6->(b+10*L+3)*(i+1)+1<=4000:=λi hi=>aP (EQ (fE _ (show i+1<=7 by lk)) 1) o;refine#[#v[fP,k],(),λy hy=>?_,λc h=>by rw[lx];let:=l c h;lk,λy hy=>?_,λi hi=>?_,λi hi=>?_]
 .cases di.mp hy,i,hi,rfl;rw[fP]at hi;let e:=DG (w:=w) (XW:=XW) (cs:=cs) (p:=p) hi;rw[aD,aq #v[fP,hi]]at e;rw[show (ff w XW cs p n)[i]'(#v[fP,hi])=gJ w XW cs p i from e,(tb.2 i hi).1,lx]
 .cases di.mp hy,i,hi,rfl;rw[fP]at hi;let e:=DG (w:=w) (XW:=XW) (cs:=cs) (p:=p) hi;rw[aD,aq #v[fP,hi]]at e;rw[show (ff w XW cs p n)[i]'(#v[fP,hi])=gJ w XW cs p i from e];calc cP λj=>?_;rw[(tb.2 i hi).2 j];exact (Km (B.rows d) (B.row (mem_getD ()) d i) () j).mono (big i ())
 .rw[fP]at hi;cases ou B.wid m k tb lx i (),s,_;rw[s];exact#[tb.1 i (),(Tn (B.rows d) ()).mono (aP (EQ (fE _ (show i<=7 by lk)) 1) o)]
 .rw[fP]at hi;cases ou B.wid m k tb lx i (),_,_,u;calc cP λj=>?_;rw[u];calc (Km (B.rows d) r () j).mono (big i ())
theorem VB.tbd (B:VB w XW L b)(j:Bd 9 p)(m:(b+10*L+3)*7+1<=4000)(r:L<=60)(e:b<=1000)(h:∀c∈cs,c<w)(k:XW.9<=cs.9):TBd w XW cs p:=by
 let w9:=B.w9;refine#[(),j.mono (),λn o pv=>?_,λv l=>#[by rw[B.wid v l];lk,λf a=>?_]]
 .let i:=mem_getD (d:=([]:ae)) o;exact B.low j m h () () pv (B.wid _ i) λf a=>#[(B.nml _ i f a).2.1,(B.nml _ i f a).2.2]
 .cases B.nml v l f a,_,s,q;calc#[(),λc k=>(q c k).mono e]
theorem To (W:∀v∈XW++[q],v.9=w)(hk:XW.9<=w)(p:Y)(j:O):J p (mkP w XW cs q j)=dot ((aT XW.9).map λi=>J p (mkP w XW cs q (w+i))) (cK w XW p) j+J p (mkP w XW cs q (w+XW.9))*Z (dq w q XW.9 p) j:=by
 cases i5 (rs:=cK w XW p) (cs:=cs) XW.9 (Z (dq w q XW.9 p)),E,o,u;let M:(cK w XW p).take XW.9=cK w XW p:=ii #v[jY,aC _];rw[M]at o u;let lr:=jY (w:=w) (XW:=XW) (p:=p);let lq:=W q ⋯;let x:∀i,i<XW.9->XW.getD i []∈XW++[q]:=λi hi=>iE _ (mem_getD hi);let F:∀i,i<XW.9->∀a,a<=w->Z (dq w (XW.getD i []) i p) (w+a)=if a=i then 1 else 0:=λi hi a c=>mN (W _ (x i hi)) c
 let P:∀(e:aa)(s:O)(R:G Rw),e.9=R.9->(∀i (h:i<R.9) a,a<=w->R[i] (w+a)=if a=s+i then 1 else 0)->∀i (h:i<e.9),s+i<=w->dot e R (w+(s+i))=e[i]:=λe=>by
  induction e with
  |nil=>intro s R _ _ i h;simp at h
  |cons m e ih=>
   intro s R H I i h hs
   cases R with
   |nil=>simp at H
   |cons r R=>
    let k:=I 0 ⋯ (s+i) hs;simp only[NB,zeo]at k;let f:∀i (h:i<R.9) a,a<=w->R[i] (w+a)=if a=s+1+i then 1 else 0:=λi h a c=>by
     let:=I (i+1) (by simp;lk) a c;simp only[NC]at this;rw[this,show s+(i+1)=s+1+i by lk]
    rw[dot,k]
    cases i with
    |zero=>
     let z:dot e R (w+(s+0))=0:=ot _ _ λr k=>by
      cases di.mp k,l,b,rfl;rw[f l b (s+0) (),N ()]
     rw[z,Zt ()];simp
    |succ i=>
     rw[N ()];let:=ih (s+1) R (⇑H) f i (⇑h) ();rw[show s+(i+1)=s+1+i by lk,this];simp
 let y:E=(aT XW.9).map λi=>J p (mkP w XW cs q (w+i)):=by
  refine h8 (by rw[o,lr,af,im]) λi C Q=>?_;let hi:i<XW.9:=by rw[o,lr]at C;exact C
  rw[cZ,ki,ql W hk,u];let d:=P E 0 (cK w XW p) o (λl h a c=>by
   rw[kP h,F l (by rw[lr]at h;calc h) a c,qW]) i C ()
  rw[qW]at d;rw[d,mN lq (),N ()];simp
 let n:J p (mkP w XW cs q (w+XW.9))=mi (cK w XW p) cs XW.9:=by
  rw[ql W hk,u,mN lq hk,Zt U,ot _ _ λr k=>by
   cases di.mp k,l,b,rfl;rw[kP b,F l (by rw[lr]at b;calc b) _ hk,N (by rw[lr]at b;lk)]]
  simp
 rw[ql W hk p j,u,y,n]
def Kn {c:O}(a:c∈cs)(b:cs.9=XW.9):mkP w XW cs q c=[]:=aZ (iV _ _) bH λn=>by
 unfold mkP;rw[xj];calc C5 _ _ ?_;unfold cr;rw[mX,<-b,fY];calc a
end
noncomputable def mx (xs:aE):Nat:=xs.foldr max 0
def DI {xs:aE}{x:O}(h:x∈xs):x<=mx xs:=by
 induction xs with
 |nil=>simp at h
 |cons y xs ih=>
  show x<=max y (mx xs);rcases bV.mp h with z|z
  .lk
  .let:=ih z;lk
def DJ {xs:aE}{b:O}(h:∀x∈xs,x<=b):mx xs<=b:=by
 induction xs with
 |nil=>calc bh _
 |cons y xs ih=>
  show max y (mx xs)<=b;let a:=h y e9;let c:=ih λx hx=>h x (eQ _ hx);lk
def xk (h:jp ps b):b=((mx (ps.map λp=>p.9-1):O):Y):=by
 rcases h with ⟨z,rfl⟩|⟨a,c⟩
 .let:ps=[]:=kf.mp z;rw[this];rfl
 .cases b8.mp a,p,d,rfl;let f:p.9-1<=mx (ps.map λp=>p.9-1):=DI (b8.mpr #[p,d,U]);let i:mx (ps.map λp=>p.9-1)<=p.9-1:=DJ λx hx=>by
   cases b8.mp hx,r,e,rfl;let:=c _ (b8.mpr #[r,e,U]);unfold dgL at this;lk
  unfold dgL;lk
def Ko (xs:aE):(xs.map λx:O=>(x:Y)).sum=((xs.sum:O):Y):=by
 induction xs with
 |nil=>rfl
 |cons x xs ih=>simp[ih]
def DK {xs:aE}{x:O}(h:x∈xs):x<=xs.sum:=by
 induction xs with
 |nil=>simp at h
 |cons y xs ih=>
  rw[i2];rcases bV.mp h with z|z
  .lk
  .let:=ih z;lk
section
variable {w L b:O}{XW:aB}{cs:aE}{p:Y}{q:ae}
theorem Tp (W:∀v∈XW++[q],v.9=w)(nml:∀v∈XW++[q],∀f∈v,S f/\f.9<=L)(hk:XW.9<=w)(hl:cs.9=XW.9)(F:∀c∈cs,c<w){N:Y}(h:qd (XW++[q]) cs N):0<=N/\N<=((XW.9*(L-1):O):Y)/\∀i,i<=XW.9->((mkP w XW cs q (w+i)).9:Y)<=N+1:=by
 cases h,bv,bc,m,h1,h2,h3,h4,h5,h6,h7;let ev:bv=((XW++[q]).map λv=>mx (cs.map λc=>(v.getD c []).9-1)).map λx:O=>(x:Y):=by
  calc h8 #v[af,af,h1] λi k a2=>?_;let hi:i<(XW++[q]).9:=by rw[h1]at k;exact k
  rw[cZ,cZ,xk (h3 i bv[i] _ (aq k) (aq hi))];unfold i7;rw[iF];rfl
 let ec:bc=(cs.map λc=>mx ((XW++[q]).map λv=>(v.getD c []).9-1)).map λx:O=>(x:Y):=by
  calc h8 #v[af,af,h2] λi k a2=>?_;let hi:i<cs.9:=by rw[h2]at k;exact k
  rw[cZ,cZ,xk (h4 i bc[i] _ (aq k) (aq hi))];unfold i8;rw[iF];rfl
 let Q:=ZL zb2 ev;let sc:=ZL zb2 ec;rw[Ko]at Q sc;generalize R:(XW++[q]).map (λv=>mx (cs.map λc=>(v.getD c []).9-1))=b at ev Q;generalize hC:cs.map (λc=>mx ((XW++[q]).map λv=>(v.getD c []).9-1))=M at ec sc;let mm:∃P:O,m=(P:Y)/\P∈b/\∀x∈b,P<=x:=by
  rw[ev]at h5 h6;cases b8.mp h5,P,x0,rfl;exact#[P,U,x0,λx hx=>by let:=h6 _ (b8.mpr #[x,hx,U]);lk]
 cases mm,P,rfl,y0,z0;let k0:=DK y0;let lL:∀v∈XW++[q],∀c,(v.getD c []).9-1<=L-1:=λv hv c=>by
  by_cases z:c<v.9
  .let:=(nml v hv _ (mem_getD (d:=([]:aa)) z)).2;lk
  .rw[aD,yj ()];simp
 let n0:M.sum<=XW.9*(L-1):=by
  let:∀xs:aE,(∀x∈xs,x<=L-1)->xs.sum<=xs.9*(L-1):=λxs=>by
   induction xs with
   |nil=>intro _;simp
   |cons x xs ih=>
    intro hx;let k:=hx x e9;let a2:=ih λy hy=>hx y (eQ _ hy);rw[i2,dO,il,gD];lk
  let a:=this M λx hx=>by
   rw[<-hC]at hx;cases b8.mp hx,c,_,rfl;exact DJ λy hy=>by
    cases b8.mp hy,v,hv,rfl;exact lL v hv c
  rw[show M.9=XW.9 by rw[<-hC,af,hl]]at a;exact a
 let N0:0<=N/\N<=(M.sum:Y):=by rw[h7,sc,Q];split <;> lk
 calc#[N0.1,(),λi hi=>?_];let u0:∀c∈cr cs XW.9,c∈cs:=λc j=>by
  unfold cr at j;exact gU (mX.mp j)
 let row:∀r∈cY w (XW++[q]),∃t,∃_:t<(XW++[q]).9,r=dN w ((XW++[q]).getD t []) t:=λr X=>by
  unfold cY at X;cases b8.mp X,t,l,rfl;exact#[t,eN.mp l,U]
 let H:∀t c,c<w->dN w ((XW++[q]).getD t []) t c=((XW++[q]).getD t []).getD c []:=λt c j=>by unfold dN;rw[Zt j]
 let nm:∀t,t<(XW++[q]).9->∀c,S (dN w ((XW++[q]).getD t []) t c):=λt l c=>by
  unfold dN
  split
  .rename_i z;exact (nml _ (mem_getD l) _ (mem_getD #v[W _ (mem_getD l),z])).1
  .split
   .exact e7 ()
   .exact bH
 let x1:(mkP w XW cs q (w+i)).9<=M.sum+1:=by
  let:=DF (λc=>if c<w then mx ((XW++[q]).map λv=>(v.getD c []).9-1) else 0) ((w+i)::cr cs XW.9) (cY w (XW++[q])) λr X c j=>by
   cases row r X,t,l,rfl;calc#[nm t l c,?_];by_cases z:c<w
   .rw[Zt z,H t c z];let:=DI (xs:=(XW++[q]).map λv=>(v.getD c []).9-1) (b8.mpr #[_,mem_getD (d:=([]:ae)) l,rfl]);lk
   .rw[if_neg z];unfold dN;rw[if_neg z]
    split <;> simp
  unfold mkP;calc aP this ?_;let e1:(yt (λc=>if c<w then mx ((XW++[q]).map λv=>(v.getD c []).9-1) else 0) ((w+i)::cr cs XW.9)).sum=M.sum:=by
   rw[fo,i2,if_neg (),qW,<-hC];unfold cr;rw[List.map_reverse,List.sum_reverse,<-hl,fY];congr 1;exact gf λc j=>by rw[Zt (F c j)]
  lk
 let n:i<(XW++[q]).9:=by simp;lk
 let y1:(mkP w XW cs q (w+i)).9+b.getD i 0<=b.sum+1:=by
  obtain⟨C,I⟩:∃C:Rp->O,∀r,C r=mx (cs.map λc=>(r c).9-1):=#[_,λ_=>rfl]
  let j0:g_ C (cY w (XW++[q]))=b.sum:=by
   unfold g_ cY;rw[iF,<-R];let:(XW++[q]).map (λv=>mx (cs.map λc=>(v.getD c []).9-1))=(aT (XW++[q]).9).map λt=>mx (cs.map λc=>(((XW++[q]).getD t []).getD c []).9-1):=by
    calc h8 ⋯ λt k a2=>?_;rw[cZ,cZ,ki,aD,aq (⇑k)];rfl
   rw[this];congr 1;calc gf λt l=>?_;show C _=_;rw[I];congr 1;exact gf λc j=>by
    show (dN w ((XW++[q]).getD t []) t c).9-1=_;rw[H t c (F c j)]
  let ri:C (dN w ((XW++[q]).getD i []) i)=b.getD i 0:=by
   let e:b.getD i 0=mx (cs.map λc=>(((XW++[q]).getD i []).getD c []).9-1):=by
    let eg:(XW++[q]).getD i []=(XW++[q])[i]:=by rw[aD,aq n];rfl
    rw[eg,<-R,aD,a7,aq n];rfl
   rw[I,e];congr 1;exact gf λc j=>by rw[H i c (F c j)]
  let le:b.getD i 0<=b.sum:=by
   calc DK ?_;rw[aD,aq #v[<-R,af,n]];exact cD _
  let:=qj (c:=w+i) (D:=b.sum-b.getD i 0) (cY w (XW++[q])) [] (dtp (cr cs XW.9)) (iV _) λpre r E e=>by
   obtain⟨t,l,rfl⟩:=row r (by rw[e];simp);calc#[nm t l _,λo=>?_];let et:t=i:=by
    unfold dN at o;rw[if_neg ()]at o;by_cases z:w+i=w+t
    .lk
    .rw[if_neg z]at o;exact Zq U o
   subst et;let l1:(dN w ((XW++[q]).getD t []) t (w+t)).9=1:=by unfold dN;rw[if_neg (),Zt U];rfl
   let l2:=qk C (cr cs XW.9) (pre++E) λx hx c j=>by
    obtain⟨s,hs,rfl⟩:=row x (by
     rw[e];rcases b5.mp hx with z|z
     .simp[z]
     .simp[z])
    calc#[nm s hs c,?_];rw[I];let:=DI (xs:=cs.map λc=>(dN w ((XW++[q]).getD s []) s c).9-1) (b8.mpr #[c,u0 c j,U]);lk
   let l3:g_ C (pre++E)+C (dN w ((XW++[q]).getD t []) t)=b.sum:=by
    rw[<-j0,e];unfold g_;simp only[aY,gX,fo,i2];lk
   rw[ri]at l3;rw[gT,l1];lk
  let e2:(mkP w XW cs q (w+i))=iop (w+i) (cY w (XW++[q])) (λu=>dtp (cr cs XW.9) ([]++u)):=rfl;rw[e2];lk
 let z1:=z0 (b.getD i 0) (by
  rw[aD,aq #v[<-R,af,n]];calc cD _)
 rw[h7,sc,Q]
 split <;> lk
end
section
variable {w L b:O}{XW:aB}{cs:aE}{p:Y}{q:ae}
theorem DL (W:∀v∈XW,v.9=w):∀n,n<=XW.9->n<=cs.9->(∀i,i<=n->mi (cK w XW p) cs i≠0)->Piv w XW cs p n
 |0,_,_,_=>λi hi=>by lk
 |n+1,hk,hc,h=>by
  let b:=DL W n () () λi hi=>h i ();let tb:=kQ W n () () b;let c:n<(cK w XW p).9:=by rw[jY];lk
  let a:n<cs.9:=()
  let d:cs.getD n 0=cs[n]:=by rw[aD,aq a];rfl
  intro i hi;by_cases z:i<n
  .exact b i z
  .let e:i=n:=()
   subst e;let lx:(dq w (XW.getD i []) i p).9=w+(w+1):=om (W _ (mem_getD ()));let f:=(ou W () () tb lx i (aC _)).2.2 cs[i];rw[d];let j:Z (gJ w XW cs p i) cs[i]=mi (cK w XW p) cs (i+1):=by rw[mz c a,kP c];exact f
   rw[j];calc h (i+1) (aC _)
def mnP (w:O)(XW:aB)(cs:aE)(i:O):aa:=dtp (cr cs i) ((cY w XW).take i)
def xn (W:∀v∈XW,v.9=w)(hk:XW.9<=w+1)(n:Y)(i:O):J n (mnP w XW cs i)=mi (cK w XW n) cs i:=by
 unfold mnP mi;rw[xj,Nf,Kl W hk]
def prP (w:O)(XW:aB)(cs:aE):O->aa
 |0=>[1]
 |i+1=>pdL (prP w XW cs i) (mnP w XW cs (i+1))
theorem places (W:∀v∈XW,v.9=w)(nml:∀v∈XW,∀f∈v,S f/\f.9<=L)(hk:XW.9<=w)(E:cs.9=XW.9)(m:∀c∈cs,c<w)(pv:Piv w XW cs p XW.9):∃d:aa,S d/\d≠[]/\d.9<=1+XW.9*(XW.9*(L-1))/\∀n:Y,J n d≠0->Piv w XW cs n XW.9:=by
 let tb:=kQ W _ (aC _) () pv;let M:(cY w XW).9=XW.9:=by unfold cY;rw[af,im]
 let P:∀i,i<=XW.9->(mnP w XW cs i).9<=XW.9*(L-1)+1:=λi hi=>by
  let:=DF (λ_=>L-1) (cr cs i) ((cY w XW).take i) λr Q c F=>by
   let a:=gU Q;unfold cY at a;cases b8.mp a,t,R,rfl;let o:=eN.mp R;let b:c<w:=by
    unfold cr at F;exact m c (gU (mX.mp F))
   unfold dN;rw[Zt b];let H:=mem_getD (d:=([]:ae)) o;let:=nml _ H _ (mem_getD (d:=([]:aa)) (show c<(XW.getD t []).9 by rw[W _ H];calc b));exact#[this.1,()]
  let e:(yt (λ_:O=>L-1) (cr cs i)).sum<=XW.9*(L-1):=by
   let:∀h:aE,(h.map λ_=>L-1).sum=h.9*(L-1):=λh=>by
    induction h with
    |nil=>simp
    |cons x h ih=>rw[fo,i2,ih,dO,il,gD];lk
   rw[this];calc fj _ ?_;unfold cr;rw[oX,cB];lk
  unfold mnP;lk
 let q:∀i,i<=XW.9->mnP w XW cs i≠[]:=λi hi z=>tb.1 i hi (by rw[<-xn W (),z];rfl);let s:∀i,i<=XW.9->S (prP w XW cs i)/\prP w XW cs i≠[]/\(prP w XW cs i).9<=1+i*(XW.9*(L-1))/\∀n:Y,J n (prP w XW cs i)≠0->∀l,l<=i->mi (cK w XW n) cs l≠0:=λi=>by
  induction i with
  |zero=>intro _;calc#[e7 (),by simp[prP],by simp[prP],λn _ l E=>by rw[show l=0 by lk,pR];decide]
  |succ i ih=>
   intro hi;cases ih (),k,u,I,C;let nm:=iV (cr cs (i+1)) ((cY w XW).take (i+1));refine#[bJ _ _,d9 k nm u (q _ hi),?_,λn j l E=>?_]
   .let:=p8 k nm;let:=P (i+1) hi;unfold mnP at this;show (pdL (prP w XW cs i) (mnP w XW cs (i+1))).9<=_;unfold mnP;rw[il,gD];lk
   .let e:J n (prP w XW cs (i+1))=J n (prP w XW cs i)*J n (mnP w XW cs (i+1)):=aG _ _ _;rw[e]at j;by_cases z:l<=i
    .exact C n (λy=>j (by rw[y];simp)) l z
    .rw[show l=i+1 by lk,<-xn W ()];exact λy=>j (by rw[y];simp)
 cases s XW.9 (aC _),k,u,I,C;calc#[_,k,u,I,λn j=>DL W _ (aC _) () (C n j)]
theorem Tq (W:∀v∈XW,v.9=w)(hk:XW.9<=w+1)(F:cs.9=XW.9)(pv:Piv w XW cs p XW.9){ms:aa}(H:ms.9=XW.9)(f:∀c∈cs,dot ms (cK w XW p) c=0):∀m∈ms,m=0:=by
 let tb:=kQ W _ (aC _) () pv;let lr:=jY (w:=w) (XW:=XW) (p:=p);let n:(cK w XW p).take XW.9=cK w XW p:=ii #v[lr,aC _];let all:=C6 (rs:=cK w XW p) (cs:=cs) XW.9 () () tb.1 ms (by rw[n];lk) λl h _=>by rw[n];exact f _ (cD h)
 rw[n]at all;let y:∀(ms:aa)(s:O)(R:G Rw),ms.9=R.9->(∀i (h:i<R.9) a,a<=w->R[i] (w+a)=if a=s+i then 1 else 0)->s+ms.9<=w+1->(∀j,dot ms R j=0)->∀m∈ms,m=0:=λms=>by
  induction ms with
  |nil=>intro _ _ _ _ _ _ m C;simp at C
  |cons m ms ih=>
   intro s R e u hs f E o
   cases R with
   |nil=>simp at e
   |cons r R=>
    simp only[dO]at hs e;let b:∀i (h:i<R.9) a,a<=w->R[i] (w+a)=if a=s+1+i then 1 else 0:=λi h a d=>by
     let:=u (i+1) (by simp;lk) a d;simp only[NC]at this;rw[this,show s+(i+1)=s+1+i by lk]
    let m0:m=0:=by
     let x:=f (w+s);let k:=u 0 ⋯ s ();simp only[NB,zeo]at k;rw[dot,k,ot _ _ λr k=>by
      cases di.mp k,l,q,rfl;rw[b l q s (),N ()]]at x
     simpa using x
    rcases bV.mp o with z|z
    .rw[z];exact m0
    .calc ih (s+1) R () b () (λj=>?_) E z;let:=f j;rw[dot,m0]at this;lk
 calc y ms 0 (cK w XW p) () (λi h a d=>?_) () all;rw[kP h,qW];calc mN (W _ (mem_getD (by rw[lr]at h;calc h))) d
end
noncomputable def ds:aa->aa->Y
 |a::as,b::bs=>a*b+ds as bs
 |_,_=>0
theorem Kq:∀(a:aa)(R:G Rw)(j:O),dot a R j=ds a (R.map λr=>r j)
 |[],R,_=>by cases R <;> rfl
 |m::a,[],_=>rfl
 |m::a,r::R,j=>by rw[dot,fo,ds,Kq a R j]
noncomputable def cf:aE->aa->O->Y
 |i::S,m::ms,x=>(if x=i then m else 0)+cf S ms x
 |_,_,_=>0
theorem xo:∀(b:aE)(a:aa)(x:O),x∉b->cf b a x=0
 |[],_,_,_=>by simp[cf]
 |i::b,[],_,_=>by simp[cf]
 |i::b,m::a,x,h=>by
  rw[cf,N (λz=>h #v[z,e9]),xo b a x λz=>h (eQ _ z)];rfl
theorem Kr:∀(d:aE)(a:aa),d.Nodup->d.9=a.9->∀t (h:t<d.9) (b:t<a.9),cf d a d[t]=a[t]
 |[],_,_,_,t,h,_=>by simp at h
 |i::d,[],_,hl,_,_,_=>by simp at hl
 |i::d,m::a,nd,hl,t,h,b=>by
  rw[mR]at nd
  cases t with
  |zero=>
   simp only[NB];rw[cf,Zt U,xo d a i nd.1];simp
  |succ t=>
   simp only[NC];let c:t<d.9:=by simpa using h
   let:d[t]≠i:=λz=>nd.1 #v[<-z,cD _];rw[cf,N this,Kr d a nd.2 (⇑hl) t (⇑h) (⇑b)];simp
def Ks {k i:O}(h:i<k)(f:b_):aX k (λx=>if x=i then f x else 0)=f i:=by
 rw[vX h λj b a=>by rw[N a],Zt U]
theorem Kt {k:O}(F:b_):∀(c:aE)(a:aa),c.9=a.9->(∀i∈c,i<k)->ds a (c.map F)=aX k λx=>cf c a x*F x
 |[],[],_,_=>by
  show (0:Y)=_;rw[iN λj _=>by simp[cf]]
 |[],_::_,h,_=>by simp at h
 |_::_,[],h,_=>by simp at h
 |i::c,m::a,h,hS=>by
  let b:=Kt F c a (⇑h) λx hx=>hS x (eQ _ hx);let e:aX k (λx=>cf (i::c) (m::a) x*F x)=aX k (λx=>if x=i then m*F x else 0)+aX k λx=>cf c a x*F x:=by
   rw[<-pF];exact fC λx _=>by rw[cf];split <;> grind
  rw[fo,ds,b,e,Ks (hS i e9)]
def Ts {p q g U W:aa}{m:Y}{G:O}(a:S p)(c:S q)(ng:S g)(p0:p≠[])(q0:q≠[])(g0:g≠[])(lA:(pdL p g).9<=40)(lB:(pdL q g).9<=40)(lg:g.9<=40)(bA:∀z∈pdL p g,Bd 5000 z)(bB:∀z∈pdL q g,Bd 5000 z)(d:m≠0)(e:∀n,J n U*J n p+J n W*J n q=m)(f:∀z∈g,m.8*z.8<=G)(bG:Bd 4480 (G:Y)):fJ (pdL p g) (pdL q g) (df (pdL [((ag (p++q):O):Y)] g)):=by
 obtain⟨h,i,j,B0,k,l⟩:=SG a c ng (bJ p g) (bJ q g) p0 q0 g0 lA lB lg bA bB f d bG e (λn=>aG n p g) (λn=>aG n q g);calc .inr (.inr #[j,B0,h,i,bA,bB,_,_,k,?_]);rw[l];let o:((ag (p++q):O):Y)≠0:=by
  let s:=fU a p0;let b:ag (p++q)∣ag p:=iS _ _ λx hx=>gw _ x (by simp[hx]);intro z;let r:ag (p++q)=0:=()
  rw[r]at b;let:=Ez b;lk
 congr 1;exact aZ (bJ _ _) (gx o ng) λn=>by rw[aG,aJ];simp[J]
def Ku {B k b:O}(h:B<=2^b):B^k<=2^(b*k):=#v[nj,m_ h k]
theorem Kv (a:aB)(ws:ae)(c:O):∀n,S (fI a ws c n)
 |0=>bH
 |n+1=>Dm _ _
theorem qm (a:aB)(ws:ae)(c:O)(n:Y):∀k,J n (fI a ws c k)=aX k λt=>J n ((a.getD t []).getD c [])*J n (ws.getD t [])
 |0=>rfl
 |k+1=>by
  rw[fI,Dk,Jz,qm a ws c n k];rfl
def Kw (F G:b_):∀m,ds ((aT m).map F) ((aT m).map G)=aX m λt=>F t*G t:=λm=>by
 let f:∀(as bs c d:aa),as.9=bs.9->ds (as++c) (bs++d)=ds as bs+ds c d:=λas=>by
  induction as with
  |nil=>intro bs c d e;cases bs with
   |nil=>simp[ds]
   |cons=>simp at e
  |cons a as ih=>intro bs c d e;cases bs with
   |nil=>simp at e
   |cons b bs=>simp only[je,ds];rw[ih bs c d (⇑e)];lk
 induction m with
 |zero=>rfl
 |succ m ih=>
  rw[gM,aY,aY,f _ _ _ _ ⋯,ih];simp[ds,aX]
theorem Kx {n:O}{few:aE}(c:few.Pairwise (· < ·))(d:∀i∈few,i<n):∀m,m<=few.9->(∀l (h:l<few.9),l<m->(spw n few ws m)[few[l]]?=W (ws.getD l []))/\(∀i,i<n->i∉few.take m->(spw n few ws m)[i]?=W [])/\(spw n few ws m)[n]?=W (ws.getD few.9 [])
 |0,_=>by
  refine#[λl h e=>(),λi hi _=>?_,?_]
  .rw[spw,dH (⇑hi),ke,Zt hi]
  .rw[spw,dQ ⋯,mS,gE];rfl
 |m+1,hm=>by
  cases Kx (ws:=ws) c d m (),f,j,k;let a:m<few.9:=()
  let o:few.getD m 0=few[m]:=by rw[aD,aq a];rfl
  let q:=d _ (cD a);let ll:=i_ n few ws m;rw[spw,o];refine#[λl h e=>?_,λi hi b=>?_,?_]
  .by_cases z:l=m
   .subst z;rw[x_ ()]
   .let:few[l]<few[m]:=qV.mp c l m h a ();rw[qD ()];exact f l h ()
  .rw[dI,aq a]at b;simp only[Option.toList_some,b5,bZ,not_or]at b;rw[qD (λz=>b.2 z.symm)];exact j i hi b.1
  .rw[qD ()];calc k
def syn (x:Y):aa->aa
 |[]=>[]
 |_::e=>cq e ((syn x e).map λz=>x*z)
theorem DM:∀(a b:aa),b.9<=a.9->(cq a b).9=a.9
 |[],[],_=>rfl
 |[],_::_,h=>by simp at h
 |x::a,[],_=>by simp[cq]
 |x::a,y::b,h=>by simp only[cq,dO];rw[DM a b (⇑h)]
theorem Ky (x:Y):∀e:aa,(syn x e).9<=e.9
 |[]=>aC _
 |a::e=>by
  rw[syn,DM _ _ #v[af,Ky x e],dO];lk
def Tt (x a:Y)(e:aa):(syn x (a::e)).9=e.9:=by
 rw[syn,DM _ _ #v[af,Ky x e]]
theorem Kz (x n:Y):∀e:aa,J n e=J x e+(n-x)*J n (syn x e)
 |[]=>by simp[J,syn]
 |a::e=>by
  let b:=Kz x n e;rw[syn,d8,aJ];simp only[J];grind
theorem KC (x:Y):∀(e:aa)(a:Y)(j:O),Z (syn x (a::e)) (j+1)=Z (syn x e) j
 |[],a,j=>by simp[syn,cq,Z]
 |b::e,a,j=>by
  let c:=KC x e b j;rw[syn,gu,dg,c,syn,gu,dg];rfl
theorem KD (x:Y):∀(e:aa)(a:Y),Z (syn x (a::e)) 0=J x e
 |[],a=>by simp[syn,cq,Z,J]
 |b::e,a=>by
  let c:=KD x e b;rw[syn,gu,dg,c];rfl
theorem KE (X:O):∀(d:O)(e b:aa)(M:O),e.9<=d+1->b.9=d+1->b.Nodup->(∀x∈b,x.8<=X)->(∀x∈b,(J x e).8<=M)->∀j,(Z e j).8<=M*(2*X+3)^d
 |d,[],b,M,_,_,_,_,_,j=>by rw[aL ⋯];simp
 |0,a::e,b,M,he,hl,_,_,hm,j=>by
  let q:e=[]:=b7 (⇑he);subst q;cases qX.mp hl,x,rfl;let:=hm x ⋯;simp[J]at this
  cases j with
  |zero=>simpa [Z] using this
  |succ j=>rw[aL ⋯];simp
 |d+1,a::e,b,M,he,hl,nd,hx,hm,j=>by
  cases b with
  |nil=>simp at hl
  |cons x b=>
   rw[mR]at nd;let n:=hx x e9;let f:=hm x e9;let h:=KE X d (syn x (a::e)) b (2*M) (by rw[Tt];simpa using he) (⇑hl) nd.2 (λy hy=>hx y (eQ _ hy)) λy hy=>by
    let l:=Kz x y (a::e);let i:=hm y (eQ _ hy);let r:y-x≠0:=λz=>nd.1 (by rw[show x=y by lk];calc hy);let m:((y-x)*J y (syn x (a::e))).8<=2*M:=by
     rw[show (y-x)*J y (syn x (a::e))=J y (a::e)-J x (a::e) by lk,Nat.two_mul];exact aP (oN _ _) (oM i f)
    rw[du]at m;exact aP (ik _ ()) m
   generalize hT:2*M*(2*X+3)^d=C at h;let k:C+X*C+M<=M*(2*X+3)^(d+1):=by
    let u:M<=M*(2*X+3)^d:=h_ _ (Nh ());rw[kX,<-iG,<-hT];let o:2*M*(2*X+3)^d=2*(M*(2*X+3)^d):=by rw[iG]
    rw[o];clear o hT h;generalize M*(2*X+3)^d=E at *;grind
   let c:∀z:Y,z.8<=C->(x*z).8<=X*C:=λz s=>by rw[du];exact fq n s
   cases j with
   |zero=>
    let l:Z (a::e) 0=J x (a::e)-x*Z (syn x (a::e)) 0:=by rw[KD];simp[Z,J]
    let i:=c _ (h 0);rw[l];calc aP (aP (oN _ _) (oM f i)) (aP ?_ k);rw[oG];calc EQ (Nat.le_add_left _ _) _
   |succ j=>
    let l:Z (a::e) (j+1)=Z (syn x (a::e)) j-x*Z (syn x (a::e)) (j+1):=by
     rw[KC,syn,gu,dg];let:Z (a::e) (j+1)=Z e j:=rfl;lk
    let i:=c _ (h (j+1));let m:=h j;rw[l];calc aP (aP (oN _ _) (oM m i)) (aP (zdc _ _) k)
def Tu (d:S f)(e:f≠[]){D:O}(i:f.9<=D+1):∃b:aa,b.9=D+1/\b.Nodup/\(∀x∈b,x.8<=2*D)/\∀x∈b,J x f≠0:=by
 obtain⟨R,c⟩:∃R,R=(aT (2*D+1)).map λn:O=>(n:Y):=#[_,rfl]
 let a:R.Nodup:=by
  rw[c];refine List.pairwise_map.mpr (List.nodup_range.imp λh z=>h ())
 let j:∀x∈R,x.8<=2*D:=λx hx=>by
  rw[c]at hx;cases b8.mp hx,n,k,rfl;let:=eN.mp k;lk
 let lb:(R.filter λx=>J x f == 0).9<=D:=by
  calc qI λh=>e (DD d (a.filter _) (aP i h) λp m=>?_);exact beq_iff_eq.mp (mQ.mp m).2
 let lt:(R.filter λx=>J x f == 0).9+(R.filter λx=>!(J x f == 0)).9=R.9:=by
  rw[<-VU,<-VU];let:=List.length_eq_countP_add_countP (λx=>J x f == 0) (l:=R);rw[this];congr 1;exact List.countP_congr λx _=>by simp
 let o:R.9=2*D+1:=by rw[c];simp
 refine#[(R.filter λx=>!(J x f == 0)).take (D+1),by rw[cB];lk,(a.filter _).sublist (yd _ _),λx hx=>j x (mQ.mp (gU hx)).1,λx hx=>?_];let:=(mQ.mp (gU hx)).2
 simpa using this
def DN {c:O}(i:0<c)(na:S a)(h:∀x∈a,(c:Y)∣x):∃b:aa,S b/\(∀n,J n a=(c:Y)*J n b)/\∀j,Z a j=(c:Y)*Z b j:=by
 let e:(a.map λx=>x / (c:Y)).map (λz=>(c:Y)*z)=a:=by
  rw[iF]
  conv=>rhs;rw[<-Nr a]
  exact gf λx hx=>yr (h x hx)
 refine#[a.map λx=>x / (c:Y),fO.mpr λz d f=>?_,λn=>?_,λj=>?_]
 .rw[EN]at d;cases e_.mp d,y,hy,rfl;calc fO.mp na y hy ?_;let:=yr (h y (ni hy));rw[f]at this;lk
 .conv=>lhs;rw[<-e]
  rw[aJ]
 .conv=>lhs;rw[<-e]
  rw[dg]
def Tv (c:S h){k:Y}(a:k≠0)(e:∀n,k=J n h*J n v):h.9<=1:=by
 let d:pdL h (aw v)=[k]:=aZ (bJ _ _) (e7 a) λn=>by
  rw[aG,cx,<-e];simp[J]
 let f:h≠[]:=λz=>a (by rw[e 0,z];simp[J]);let v0:aw v≠[]:=λz=>a (by rw[e 0,<-cx 0 v,z];simp[J]);let b:=(dr c (cn v) f v0).1;rw[d]at b;let i:(aw v).9≠0:=λz=>v0 (b7 z);rw[oE]at b;lk
def NF (us:ae):Prop:=∀h:aa,S h->2<=h.9->∀M:Y,M≠0->(∀u∈us,∃v,∀n,M*J n u=J n h*J n v)->False
structure PG (w L e b l B D β:O):Prop where
 w5:w<=5
 L1:1<=L
 Ll:L+e<=2 ^ l
 L40:L+e<=40
 b0:0<b
 b1:(b+10*(L+e)+3)*7+1<=4000
 b2:b<=1000
 b3:(w+2)*(2*B+2)<=900
 pl:97+B*(w+1)<512
 D15:D<=15
 dD:w*(L-1)+e<=D
 d60:w*(L+e-1)<60
 bb:(3+l+b)*w+3 < β
 big:5*(2*D+1)+(β+12*D+7)*D+β * D+(β+12*D+7)+β+1<=4480
 pls:w*(w*(L-1))+w*(L+e-1)<B
section
variable {w L e b l B D β:O}{XW:aB}{cs:aE}{q:ae}
def StG (w B:O)(XW:aB)(cs:aE)(pl:Y):Prop:=cs.9=XW.9/\(∀c∈cs,c<w)/\cs.Nodup/\97<=pl/\pl<=97+(B:Y)*(XW.9:Y)/\Piv w XW cs pl XW.9
def RlG (w D g:O)(XW:aB)(q ws:ae):Prop:=ws.9=XW.9+1/\(∀r∈ws,S r/\r.9<=D+1/\∀c∈r,Bd g c)/\(∃p0 t0,ws.getD XW.9 []=p0++[t0]/\0<t0)/\(∀s:O,Prm s->(∀u∈ws,∀j,(s:Y)∣Z u j)->False)/\
 ∀c,c<w->∀n,aX (XW.9+1) (λt=>J n (((XW++[q]).getD t []).getD c [])*J n (ws.getD t []))=0
theorem StG.few (h:StG w B XW cs pl):XW.9<=w:=by
 cases h,a,b,d,_;rw[<-a];calc oo w 0 cs d λc e=>#[bh _,by let:=b c e;lk]
theorem Tw (W:∀v∈XW++[q],v.9=w)(kw:XW.9<=w)(p:Y):J p (mkP w XW cs q (w+XW.9))=mi (cK w XW p) cs XW.9:=by
 rw[ql W kw];cases i5 (rs:=cK w XW p) (cs:=cs) XW.9 (Z (dq w q XW.9 p)),d,_,b;let lr:=jY (w:=w) (XW:=XW) (p:=p);rw[b,mN (W q ⋯) kw,Zt U,ot _ _ λr c=>by
  cases di.mp (gU c),l,a,rfl;rw[kP a,mN (W _ (iE _ (mem_getD (by rw[lr]at a;calc a)))) kw,N (by rw[lr]at a;lk)]]
 simp
def DO {k:O}{c:O}(a:c∈cr cs k):c∈cs:=by
 unfold cr at a;calc gU (mX.mp a)
def Tz (k:O):(cr cs k).9<=k:=by unfold cr;rw[oX,cB];lk
theorem KF (W:∀v∈XW,v.9=w){j:O}(a:j<w)(F:b_):dot ((aT XW.9).map F) (cK w XW p) j=aX XW.9 λx=>F x*J p ((XW.getD x []).getD j []):=by
 rw[Kq];let:(cK w XW p).map (λr=>r j)=(aT XW.9).map λx=>J p ((XW.getD x []).getD j []):=by
  unfold cK;rw[iF];calc gf λx hx=>?_;let b:=mem_getD (d:=([]:ae)) (eN.mp hx);show Z (dq w (XW.getD x []) x p) j=_;rw[DE #v[W _ b,a]]
 rw[this,Kw]
theorem TB (W:∀v∈XW++[q],v.9=w)(kw:XW.9<=w){c:O}(a:c<w)(n:Y):aX (XW.9+1) (λt=>J n (((XW++[q]).getD t []).getD c [])*J n (mkP w XW cs q (w+t)))=J n (mkP w XW cs q c):=by
 rw[To W kw n c,KF (λv b=>W v (iE _ b)) a,DE (by rw[W q ⋯];calc a),wl];congr 1
 .calc fC λx hx=>?_;rw[cW,aD (l:=XW++[q]),dH hx,<-aD]
 .rw[aD (l:=XW++[q]),dQ (aC _),gE,cW];rfl
end
section
variable {w L e b l B D β:O}{XW:aB}{cs:aE}{q:ae}{pl:Y}
def KG {few:aE}(a:∀v∈XW,v.9=w/\∀f∈v,S f/\f.9<=L/\∀c∈f,Bd b c)(d:∀i∈few,i<XW.9):∀v∈few.map (λi=>XW.getD i []),v.9=w/\∀f∈v,S f/\f.9<=L/\∀c∈f,Bd b c:=λv h=>by
 cases b8.mp h,i,hi,rfl;calc a _ (mem_getD (d i hi))
def DP {few:aE}{t:O}(a:t<few.9):(few.map λi=>XW.getD i []).getD t []=XW.getD few[t] []:=by
 rw[aD,a7,aq a];rfl
theorem KH {few:aE}(nd:few.Nodup)(a:∀i∈few,i<XW.9)(ws:ae)(c:O)(n:Y):aX few.9 (λt=>J n ((XW.getD (few.getD t 0) []).getD c [])*J n (ws.getD t []))=aX XW.9 λx=>cf few ((aT few.9).map λt=>J n (ws.getD t [])) x*J n ((XW.getD x []).getD c []):=by
 rw[<-Kt (k:=XW.9) (λx=>J n ((XW.getD x []).getD c [])) few _ ⋯ a];let:few.map (λx=>J n ((XW.getD x []).getD c []))=(aT few.9).map λt=>J n ((XW.getD (few.getD t 0) []).getD c []):=by
  calc h8 ⋯ λt b d=>?_;rw[cZ,cZ,ki,aD (l:=few),aq (⇑b)];rfl
 rw[this,Kw];calc fC λt _=>cW _ _
theorem KI {q:ae}{few:aE}{ws:ae}(c:O)(n:Y):aX ((few.map λi=>XW.getD i []).9+1) (λt=>J n (((few.map (λi=>XW.getD i [])++[q]).getD t []).getD c [])*J n (ws.getD t []))=aX few.9 (λt=>J n ((XW.getD (few.getD t 0) []).getD c [])*J n (ws.getD t []))+J n (q.getD c [])*J n (ws.getD few.9 []):=by
 rw[af,wl];congr 1
 .calc fC λt a=>?_;rw[aD (l:=_++[q]),dH (⇑a),<-aD,DP a,aD (l:=few),aq a];rfl
 .rw[aD (l:=_++[q]),dQ ⋯];simp
end
section
variable {w:O}{XW:aB}{cs:aE}{q:ae}
noncomputable def dgS (ds:O->O) (m t:O):Nat:=((aT m).map λs=>if s=t then 0 else ds s).sum
def xq (ds:O->O)(m t:O)(h:t<m):dgS ds m t+ds t=((aT m).map ds).sum:=by
 unfold dgS
 induction m with
 |zero=>lk
 |succ m ih=>
  rw[gM,aY,aY,gX,gX,jy,jy,lH,lH];by_cases z:m=t
  .subst z;rw[Zt U];let:(aT m).map (λs=>if s=m then 0 else ds s)=(aT m).map ds:=gf λs hs=>by
    let:=eN.mp hs;rw[N ()]
   rw[this];lk
  .rw[N z];let:=ih ();lk
def xr {s t:O}:dN w v s (w+t)=if t=s then [1] else []:=by
 unfold dN;rw[N ()];by_cases z:t=s
 .rw[Zt z,Zt ()]
 .rw[N z,N ()]
theorem TC {ds:O->O}(V:∀s v,(XW++[q])[s]?=W v->v.9=w/\∀f∈v,S f/\f.9<=ds s+1)(u:∀c∈cs,c<w){t:O}(Q:t<XW.9+1):(mkP w XW cs q (w+t)).9<=dgS ds (XW.9+1) t+1:=by
 let P:(XW++[q]).9=XW.9+1:=by simp
 obtain⟨j,y⟩:∃j:Rp->O,∀r,j r=((aT (XW.9+1)).map λs=>if r (w+s)=[] then 0 else ds s).sum:=#[_,λ_=>rfl]
 let C:∀s v,s<XW.9+1->j (dN w v s)=ds s:=λs v hs=>by
  rw[y];let e:(aT (XW.9+1)).map (λb=>if dN w v s (w+b)=[] then 0 else ds b)=(aT (XW.9+1)).map (λb=>if b=s then ds s else 0):=gf λb _=>by
   rw[xr];by_cases z:b=s
   .rw[Zt z,N ⋯,Zt z,z]
   .rw[N z,Zt U,N z]
  rw[e];clear e;let:∀m,s<m->((aT m).map λb=>if b=s then ds s else 0).sum=ds s:=λm=>by
   induction m with
   |zero=>intro h;lk
   |succ m ih=>
    intro h;rw[gM,aY,gX,jy,lH];by_cases z:m=s
    .subst z;rw[Zt U];let:(aT m).map (λb=>if b=m then ds m else 0)=bj m 0:=List.eq_replicate_iff.mpr ⟨by simp,λx hx=>by
      cases b8.mp hx,b,a,rfl;let:=eN.mp a;rw[N ()]⟩
     rw[this,List.sum_replicate_nat];lk
    .rw[N z,ih ()];lk
  exact this _ hs
 let rows:cY w (XW++[q])=(aT (XW.9+1)).map λi=>dN w ((XW++[q]).getD i []) i:=by unfold cY;rw[P]
 let E:g_ j (cY w (XW++[q]))=((aT (XW.9+1)).map ds).sum:=by
  rw[rows];unfold g_;rw[iF];congr 1;exact gf λs hs=>C s _ (eN.mp hs)
 let all:∀r∈cY w (XW++[q]),∃s,s<XW.9+1/\j r=ds s/\(∀t,r (w+t)=if t=s then [1] else [])/\∀c,c<w->S (r c)/\(r c).9<=j r+1:=λr n=>by
  rw[rows]at n;cases b8.mp n,s,hs,rfl;let a:=eN.mp hs;calc#[s,a,C s _ a,λt=>xr,λc o=>?_];rw[C s _ a];let R:(XW++[q])[s]?=W ((XW++[q]).getD s []):=by
   rw[aD,aq #v[P,a]];rfl
  cases V s _ R,X,v2;unfold dN;rw[Zt o];exact v2 _ (mem_getD (d:=([]:aa)) #v[X,o])
 let F:=qj (c:=w+t) (D:=dgS ds (XW.9+1) t) (cY w (XW++[q])) [] (dtp (cr cs XW.9)) (iV _) λpre r k H=>by
  let n:r∈cY w (XW++[q]):=by rw[H];simp
  cases all r n,s,s1,s2,I,s4;refine#[?_,λl=>?_]
  .rw[I];split
   .exact e7 ()
   .exact bH
  let st:t=s:=by
   rw[I]at l;by_cases z:t=s
   .exact z
   .rw[N z]at l;exact Zq U l
  subst st;let l1:(r (w+t)).9=1:=by rw[I,Zt U];rfl
  let l2:=qk j (cr cs XW.9) (pre++k) λx hx c o=>by
   let M:x∈cY w (XW++[q]):=by
    rw[H];rcases b5.mp hx with z|z
    .simp[z]
    .simp[z]
   cases all x M,_,_,_,_,y4;exact y4 c (u c (DO o))
  let l3:g_ j (pre++k)+j r=((aT (XW.9+1)).map ds).sum:=by
   rw[<-E,H];unfold g_;simp only[aY,gX,fo,i2];lk
  let l4:=xq ds (XW.9+1) t Q;rw[gT];lk
 calc F
end
def prR (M:Rp->O)(l:G Rp):Nat:=l.foldr (λr a=>M r*a) 1
theorem xu (M:Rp->O)(r:Rp)(a:G Rp):∀pre:G Rp,prR M (pre++r::a)=M r*prR M (pre++a)
 |[]=>rfl
 |x::pre=>by
  show M x*prR M (pre++r::a)=M r*(M x*prR M (pre++a));rw[xu M r a pre];grind
theorem DQ {c X:O}:∀(w b:G Rp)(F:G Rp->aa),(∀pre r a,w=pre++r::a->∀j,(Z (pdL (r c) (F (b++pre++a))) j).8<=X)->∀j,(Z (iop c w λu=>F (b++u)) j).8<=w.9*X
 |[],_,_,_,j=>by simp[iop,Z]
 |r::w,b,F,h,j=>by
  let f:=DQ w (b++[r]) F (λpre i a e j=>by
   let:=h (r::pre) i a (by rw[e];rfl) j
   rwa [show b++(r::pre)++a=b++[r]++pre++a by simp]at this) j
  let d:=h [] r w U j;rw[oD]at d;let k:Z (pdL [(-1)^w.9] (pdL (r c) (F (b++w)))) j=(-1)^w.9*Z (pdL (r c) (F (b++w))) j:=by
   rw[<-dg];exact dX (λn=>by rw[aG,aJ];simp[J]) j
  rw[iop,dO,il,gD];unfold fW;rw[cX,gu,k];let l:((-1:Y)^w.9*Z (pdL (r c) (F (b++w))) j).8<=X:=by
   rw[du,Nt]
   simpa using d
  let m:(λu=>F (b++r::u))=λu=>F (b++[r]++u):=by funext u;simp
  let o:(Z (iop c w λu=>F (b++r::u)) j).8<=w.9*X:=by rw[m];exact f
  let:=ju ((-1:Y)^w.9*Z (pdL (r c) (F (b++w))) j) (Z (iop c w λu=>F (b++r::u)) j);calc aP this #v[oG (w.9*X),oM l o]
theorem KJ {N L:O}(M:Rp->O):∀(d:aE)(l:G Rp),l.9<=N->(∀r∈l,∀c∈d,(r c).9<=L/\∀z∈r c,z.8<=M r)->∀j,(Z (dtp d l) j).8<=N^d.9*prR (λr=>L*M r) l
 |[],[],_,_,j=>by
  let:(Z (dtp [] []) j).8<=1:=cV (P:=λz=>z.8<=1) (xs:=dtp [] []) (by simp[dtp]) ⋯ j
  simpa [prR] using this
 |[],r::l,_,h,j=>by
  let:(Z (dtp [] (r::l)) j).8=0:=by simp[dtp,Z]
  rw[this];calc bh _
 |c::d,l,hl,hb,j=>by
  let f:=DQ (c:=c) (X:=N^d.9*prR (λr=>L*M r) l) l [] (dtp d) (λpre r a e j=>by
   let m:r∈l:=by rw[e];simp
   let sub:∀x∈pre++a,x∈l:=λx hx=>by
    rw[e];rcases b5.mp hx with z|z
    .simp[z]
    .simp[z]
   let n:(pre++a).9<=N:=by
    let:l.9=pre.9+(a.9+1):=by rw[e];simp
    rw[cC];lk
   let k:=KJ M d (pre++a) n λx hx o i=>hb x (sub x hx) o (eQ _ i);cases hb r m c e9,q,s;rw[gT,e,xu];generalize prR (λr=>L*M r) (pre++a)=y at k;let b:=cV (P:=λz=>z.8<=(r c).9*(M r*(N^d.9*y))) (J2 s (cP k)) ⋯ j;calc aP b (aP (fj _ q) (yc ?_));grind) j
  show (Z (iop c l λu=>dtp d ([]++u)) j).8<=_;calc aP f (aP (fj _ hl) (yc ?_));rw[dO,kX];grind
section
variable {w:O}{XW:aB}{cs:aE}{q:ae}
noncomputable def pA (ms:O->O):O->O
 |0=>1
 |m+1=>pA ms m*ms m
noncomputable def pS (ms:O->O) (t:O):O->O
 |0=>1
 |m+1=>pS ms t m*(if m=t then 1 else ms m)
theorem KL {t:O}:∀m,m<=t->pS ms t m=pA ms m
 |0,_=>rfl
 |m+1,h=>by
  show pS ms t m*_=pA ms m*ms m;rw[KL m (),N ()]
theorem KN {t:O}:∀m,t<m->pS ms t m*ms t=pA ms m
 |0,h=>by lk
 |m+1,h=>by
  show pS ms t m*_*ms t=pA ms m*ms m;by_cases z:m=t
  .subst z;rw[Zt U,mZ,KL m (aC _)]
  .rw[N z,iG,hI (ms m),<-iG,KN m ()]
theorem KO (M:Rp->O)(g:O->Rp)(ms:O->O):∀m,(∀s,s<m->M (g s)=ms s)->prR M ((aT m).map g)=pA ms m
 |0,_=>rfl
 |m+1,h=>by
  rw[gM,aY,jy,xu,oD,KO M g ms m λs hs=>h s (),h m ()];calc hI _ _
theorem TD {ms:O->O}{L:O}(L1:1<=L)(m1:∀s,1<=ms s)(V:∀s v,(XW++[q])[s]?=W v->v.9=w/\∀f∈v,f.9<=L/\∀z∈f,z.8<=ms s)(E:∀c∈cs,c<w){t:O}(ht:t<XW.9+1):∀j,(Z (mkP w XW cs q (w+t)) j).8<=(XW.9+1)*((XW.9+1)^XW.9*pS (λs=>L*ms s) t (XW.9+1)):=λj=>by
 let I:(XW++[q]).9=XW.9+1:=by simp
 obtain⟨M,hM⟩:∃M:Rp->O,∀r,M r=pA (λs=>if r (w+s)=[] then 1 else ms s) (XW.9+1):=#[_,λ_=>rfl]
 let F:∀s v,s<XW.9+1->M (dN w v s)=ms s:=λs v hs=>by
  rw[hM];let:∀m,(s<m->pA (λl=>if dN w v s (w+l)=[] then 1 else ms l) m=ms s)/\(m<=s->pA (λl=>if dN w v s (w+l)=[] then 1 else ms l) m=1):=λm=>by
   induction m with
   |zero=>calc#[λh=>(),λ_=>U]
   |succ m ih=>
    let e:(if dN w v s (w+m)=[] then 1 else ms m)=if m=s then ms m else 1:=by
     rw[xr];by_cases z:m=s
     .rw[Zt z,if_neg ⋯,Zt z]
     .rw[if_neg z,Zt U,if_neg z]
    refine#[λh=>?_,λh=>?_]
    .show pA _ m*(if dN w v s (w+m)=[] then 1 else ms m)=_;rw[e];by_cases z:m=s
     .rw[Zt z,ih.2 (),z,gD]
     .rw[if_neg z,ih.1 (),mZ]
    .show pA _ m*(if dN w v s (w+m)=[] then 1 else ms m)=_;rw[e,if_neg (),ih.2 ()]
  exact (this _).1 hs
 let rows:cY w (XW++[q])=(aT (XW.9+1)).map λi=>dN w ((XW++[q]).getD i []) i:=by unfold cY;rw[I]
 let H:prR (λr=>L*M r) (cY w (XW++[q]))=pA (λs=>L*ms s) (XW.9+1):=by
  rw[rows];exact KO _ _ _ _ λs hs=>by rw[F s _ hs]
 let lr:(cY w (XW++[q])).9=XW.9+1:=by rw[rows];simp
 let all:∀r∈cY w (XW++[q]),∃s,s<XW.9+1/\M r=ms s/\(∀t,r (w+t)=if t=s then [1] else [])/\∀c,c<w->(r c).9<=L/\∀z∈r c,z.8<=M r:=λr u=>by
  rw[rows]at u;cases b8.mp u,s,hs,rfl;let k:=eN.mp hs;calc#[s,k,F s _ k,λt=>xr,λc y=>?_];rw[F s _ k];let hv:(XW++[q])[s]?=W ((XW++[q]).getD s []):=by
   rw[aD,aq #v[I,k]];rfl
  cases V s _ hv,v1,v2;unfold dN;rw[Zt y];exact v2 _ (mem_getD (d:=([]:aa)) #v[v1,y])
 let o:=DQ (c:=w+t) (X:=(XW.9+1)^XW.9*pS (λs=>L*ms s) t (XW.9+1)) (cY w (XW++[q])) [] (dtp (cr cs XW.9)) (λpre r a C j=>by
  let u:r∈cY w (XW++[q]):=by rw[C];simp
  cases all r u,s,s1,s2,Q,s4;rw[gT];by_cases st:t=s
  .subst st;let sub:∀x∈pre++a,x∈cY w (XW++[q]):=λx hx=>by
    rw[C];rcases b5.mp hx with z|z
    .simp[z]
    .simp[z]
   let lp:(pre++a).9<=XW.9+1:=by
    rw[C]at lr;simp at lr;rw[cC];lk
   let b:=KJ (N:=XW.9+1) (L:=L) M (cr cs XW.9) (pre++a) lp λx hx c y=>by
    cases all x (sub x hx),_,_,_,_,y4;exact y4 c (E c (DO y))
   let pe:prR (λr=>L*M r) (pre++a)=pS (λs=>L*ms s) t (XW.9+1):=by
    let R:=KN (ms:=λs=>L*ms s) (t:=t) (XW.9+1) ht;rw[<-H,C,xu,s2,hI (pS _ _ _)]at R;exact (Nz (jd () (by let:=m1 t;lk)) R).symm
   rw[pe]at b;rw[Q,Zt U];let b1:=cV (P:=λz=>z.8<=[(1:Y)].9*(1*((XW.9+1)^(cr cs XW.9).9*pS (λs=>L*ms s) t (XW.9+1)))) (J2 (M:=1) (λz hz=>by rw[bZ.mp hz];decide) (cP b)) ⋯ j;calc aP b1 ?_;rw[oE,gD,gD];exact fj _ (fQ () (Tz _))
  .rw[Q,if_neg st];let:(Z (pdL ([]:aa) (dtp (cr cs XW.9) (pre++a))) j).8=0:=by
    let:∀n,J n (pdL ([]:aa) (dtp (cr cs XW.9) (pre++a)))=J n []:=λn=>by rw[aG];simp[J]
    rw[dX this j];simp[Z]
   rw[this];calc bh _) j
 rw[lr]at o;calc o
end
theorem xv (h:O->O):∀(k:O)(few:aE),few.Nodup->(∀i∈few,i<k)->(few.map h).sum<=((aT k).map h).sum
 |0,few,_,hf=>by
  let:few=[]:=List.eq_nil_iff_forall_not_mem.mpr λi hi=>by let:=hf i hi;lk
  rw[this];simp
 |k+1,few,nd,hf=>by
  rw[gM,aY,gX,jy,lH];by_cases z:k∈few
  .let e:=((List.perm_cons_erase z).map h).sum_nat;rw[fo,i2]at e;let a:=xv h k (few.erase k) (nd.erase k) λi hi=>by
    let b:=hf i (List.mem_of_mem_erase hi);let c:=(List.Nodup.mem_erase_iff nd).mp hi;let:=c.1;lk
   lk
  .let a:=xv h k few nd λi hi=>by
    let b:=hf i hi;let:i≠k:=λy=>z (y ▸ hi);lk
   lk
def TF {h:O->O}{k t:O}{few:aE}(nd:few.Nodup)(a:∀i∈few,i<k)(d:t<few.9):dgS (λs=>h (few.getD s 0)) few.9 t<=dgS h k few[t]:=by
 let e:dgS (λs=>h (few.getD s 0)) few.9 t=(few.map λs=>if s=few[t] then 0 else h s).sum:=by
  unfold dgS;congr 1;calc h8 ⋯ λs b f=>?_;let hs:s<few.9:=by simpa using b
  rw[cZ,cZ,ki];let c:few.getD s 0=few[s]:=by rw[aD,aq hs];rfl
  show (if s=t then 0 else h (few.getD s 0))=_;rw[c];by_cases z:s=t
  .subst z;rw[Zt U,Zt U]
  .rw[N z,N λy=>z ((zc4 nd).mp y)]
 rw[e];calc xv _ k few nd a
def TH (h:O->O)(k:O):dgS h (k+1) k=((aT k).map h).sum:=by
 let:=xq h (k+1) k ();rw[gM,aY,gX,jy,lH]at this;lk
def TJ (h:O->O){k t:O}(a:t<k):dgS h (k+1) t=dgS h k t+h k:=by
 unfold dgS;rw[gM,aY,gX,jy,lH,N ()]
def sS (g:ae->O)(XW:aB)(q:ae)(t:O):Nat:=dgS (λs=>g ((XW++[q]).getD s [])) (XW.9+1) t
def xw {XW:aB}{t:O}(a:t<XW.9):sS g XW q t=dgS (λs=>g (XW.getD s [])) XW.9 t+g q:=by
 unfold sS;rw[TJ _ a];congr 1
 .unfold dgS;congr 1;calc gf λs hs=>?_;let:=eN.mp hs;show (if s=t then 0 else g ((XW++[q]).getD s []))=if s=t then 0 else g (XW.getD s [])
  rw[aD (l:=XW++[q]),dH this,<-aD]
 .rw[aD,dQ (aC _),gE];rfl
def xx:sS g XW q XW.9=((aT XW.9).map λs=>g (XW.getD s [])).sum:=by
 unfold sS;rw[TH];congr 1;calc gf λs hs=>?_;let:=eN.mp hs;rw[aD,dH this,<-aD]
def xz {XW:aB}{q:ae}{few:aE}(nd:few.Nodup)(c:∀i∈few,i<XW.9){t:O}(b:t<few.9):sS g (few.map λi=>XW.getD i []) q t<=sS g XW q few[t]:=by
 rw[xw (⇑b),xw (c _ (cD b)),af];calc EQ ?_ _;let e:dgS (λs=>g ((few.map λi=>XW.getD i []).getD s [])) few.9 t=dgS (λs=>g (XW.getD (few.getD s 0) [])) few.9 t:=by
  unfold dgS;congr 1;calc gf λs hs=>?_;let a:=eN.mp hs;show (if s=t then 0 else g ((few.map λi=>XW.getD i []).getD s []))=if s=t then 0 else g (XW.getD (few.getD s 0) [])
  rw[DP a,aD (l:=few),aq a];rfl
 rw[e];calc TF (h:=λs=>g (XW.getD s [])) nd c b
def qo {XW:aB}{q:ae}{few:aE}(nd:few.Nodup)(b:∀i∈few,i<XW.9):sS g (few.map λi=>XW.getD i []) q few.9<=sS g XW q XW.9:=by
 let a:=xx (g:=g) (XW:=few.map λi=>XW.getD i []) (q:=q);rw[af]at a;rw[a,xx];let e:((aT few.9).map λs=>g ((few.map λi=>XW.getD i []).getD s []))=few.map λi=>g (XW.getD i []):=by
  calc h8 ⋯ λs c d=>?_;let hs:s<few.9:=by simpa using c
  rw[cZ,cZ,ki,DP hs]
 rw[e];calc xv (λi=>g (XW.getD i [])) _ few nd b
noncomputable def mxl (xs:aE):Nat:=xs.foldr max 0
def xC {xs:aE}{x:O}(h:x∈xs):x<=mxl xs:=by
 induction xs with
 |nil=>simp at h
 |cons y ys ih=>
  show x<=max y (mxl ys);rcases bV.mp h with rfl|h
  .exact Nat.le_max_left _ _
  .calc aP (ih h) (Nat.le_max_right _ _)
def dv (v:ae):Nat:=mxl (v.map ka)-1
def bv (v:ae):Nat:=Nat.log2 (mxl (v.map λf=>mxl (f.map oY)))+1
def KP {v:ae}{f:aa}(h:f∈v):f.9<=dv v+1:=by
 let:=xC (b8.mpr #[f,h,U]:f.9∈v.map ka);unfold dv;lk
def TK {v:ae}{f:aa}(h:f∈v){z:Y}(a:z∈f):z.8<=2^bv v:=by
 let b:=xC (b8.mpr #[z,a,U]:z.8∈f.map oY);let c:=xC (b8.mpr #[f,h,U]:mxl (f.map oY)∈v.map λf=>mxl (f.map oY));let d:mxl (v.map λf=>mxl (f.map oY))<2^bv v:=zdb;lk
theorem KQ (b:O->O)(l t:O):∀m,pS (λs=>2^l*2^b s) t m=2^dgS (λs=>l+b s) m t
 |0=>rfl
 |m+1=>by
  show pS _ t m*(if m=t then 1 else 2^l*2^b m)=_;let e:dgS (λs=>l+b s) (m+1) t=dgS (λs=>l+b s) m t+if m=t then 0 else l+b m:=by
   unfold dgS;rw[gM,aY,gX,jy,lH]
  rw[e,KQ b l t m,eH];congr 1;by_cases z:m=t
  .rw[Zt z,Zt z]
  .rw[N z,N z,eH]
section
variable {w L e b l B D β:O}{XW:aB}{cs:aE}{q:ae}
theorem KR (W:∀v∈XW++[q],v.9=w/\∀f∈v,S f/\f.9<=2^l)(r:XW.9<=5)(a:∀c∈cs,c<w){t:O}(u:t<=XW.9):(mkP w XW cs q (w+t)).9<=sS dv XW q t+1/\∀z∈mkP w XW cs q (w+t),Bd (sS (λv=>l+bv v) XW q t+3*XW.9+4) z:=by
 let g:∀s v,(XW++[q])[s]?=Zz v->(XW++[q]).getD s []=v/\v∈XW++[q]:=λs v h=>#[by rw[aD,h];rfl,cH h]
 refine#[TC (ds:=λs=>dv ((XW++[q]).getD s [])) (λs v h=>?_) a (),cP λj=>?_]
 .cases g s v h,i,b;calc#[(W v b).1,λf d=>#[((W v b).2 f d).1,?_]];show f.9<=dv ((XW++[q]).getD s [])+1;rw[i];exact KP d
 .let e:=TD (ms:=λs=>2^bv ((XW++[q]).getD s [])) (L:=2^l) (t:=t) (XW:=XW) (q:=q) (w:=w) (cs:=cs) (eV l) (λs=>eV _) (λs v h=>by
   cases g s v h,i,b;calc#[(W v b).1,λf d=>#[((W v b).2 f d).2,λz m=>?_]];show z.8<=2^bv ((XW++[q]).getD s []);rw[i];calc TK d m) a () j
  rw[KQ]at e;show (Z (mkP w XW cs q (w+t)) j).8<2^(sS (λv=>l+bv v) XW q t+3*XW.9+4);calc dF e ?_;let k:XW.9+1<=2^3:=()
  let n:(XW.9+1)^XW.9<=2^(3*XW.9):=by rw[nj];exact m_ k _
  calc dF (fq k (fj _ n)) ?_;rw[<-eH,<-eH];let o:sS (λv=>l+bv v) XW q t=dgS (λs=>l+bv ((XW++[q]).getD s [])) (XW.9+1) t:=rfl;rw[o];calc mY () ()
end
structure Gw (p q g a b U W:aa)(m:Y):Prop where
 ng:S g
 g0:g≠[]
 na:S a
 nb:S b
 pa:p=pdL a g
 qb:q=pdL b g
 m0:m≠0
 bz:∀n,J n U*J n a+J n W*J n b=m
theorem TL {p q g a b U W:aa}(G:Gw p q g a b U W m)(p0:p≠[])(q0:q≠[]){Bp Bq N k1 n1:O}(hp:∀z∈p,z.8<=Bp)(hq:∀z∈q,z.8<=Bq)(E:1<=Bp)(C:1<=Bq)(v1:b.9<=k1+1)(j1:a.9<=n1+1)(hN:k1+n1=N):
  ∃(U' W':aa)(m':Y),m'≠0/\(∀n,val n U'*val n p+val n W'*val n q=m'*val n g)/\∀z∈g,m'.8*z.8<=(N+1)^(N+1)*(Bp^k1*(Bq^n1*(Bp*Bq))):=by
 let a0:a≠[]:=λz=>p0 (by rw[G.pa,z,iU]);let b0:b≠[]:=λz=>q0 (by rw[G.qb,z,iU]);let la:a.9≠0:=λz=>a0 (b7 z);let lb:b.9≠0:=λz=>b0 (b7 z);let lg:g.9≠0:=λz=>G.g0 (b7 z);let lp:=(dr G.na G.ng a0 G.g0).1;let lq:=(dr G.nb G.ng b0 G.g0).1;rw[<-G.pa]at lp;rw[<-G.qb]at lq;let vp:∀n,val n p=val n a*val n g:=λn=>by rw[G.pa,aG]
 let vq:∀n,val n q=val n b*val n g:=λn=>by rw[G.qb,aG]
 let pw:∀{x y z:O},1<=x->y<=z->x^y<=x^z:=λhx h=>fQ hx h;let one:∀{x y:O},1<=x->1<=x^y:=λ{x y} hx=>Nh hx;let top:Bp<=(N+1)^(N+1)*(Bp^k1*(Bq^n1*(Bp*Bq))):=by
  let h0:=h_ Bp C;let i:=ik (Bp*Bq) (one (x:=Bq) (y:=n1) C);let o:=ik (Bq^n1*(Bp*Bq)) (one (x:=Bp) (y:=k1) E);let h3:=ik (Bp^k1*(Bq^n1*(Bp*Bq))) (one (x:=N+1) (y:=N+1) ());lk
 obtain⟨e,he⟩:∃e,g.9=e+1:=#[g.9-1,()]
 obtain⟨k,hk⟩:∃k,b.9=k+1:=#[b.9-1,()]
 obtain⟨n,hn⟩:∃n,a.9=n+1:=#[a.9-1,()]
 by_cases N0:n+k=0
 .-- both are the common times a number
  obtain⟨c,hc⟩:=qX.mp (show a.9=1 by lk);let c0:c≠0:=λz=>by let:=G.na;rw[hc,z]at this;exact fO.mp this 0 rfl rfl
  refine#[[1],[],c,c0,λn=>by rw[vp n,hc];simp[val],cP λj=>?_];let Q:Z p j=c*Z g j:=by
   rw[<-dg];exact dX (λn=>by rw[vp n,aJ,hc];simp[val]) j
  rw[<-du,<-Q];exact aP (cV (P:=λz=>z.8<=Bp) hp ⋯ j) top
 obtain⟨rs,F⟩:∃rs,rs=fB (Z p) k++fB (Z q) n:=#[_,rfl]
 let g1:rs.9=k+n:=by rw[F,cC,ja,ja]
 let b1:∀r∈fB (Z p) k,∀J,(r J).8<=Bp:=λr z=>qf k _ (λJ=>cV (P:=λz=>z.8<=Bp) hp ⋯ J) r z;let b2:∀r∈fB (Z q) n,∀J,(r J).8<=Bq:=λr z=>qf n _ (λJ=>cV (P:=λz=>z.8<=Bq) hq ⋯ J) r z;obtain⟨X,hX⟩:∃X:Rw,∀J,X J=if J=e then 1 else 0:=#[_,λ_=>rfl]
 obtain⟨β,w1,w2,w3,w4,w5⟩:∃β:Rw->O,(∀r∈rs++[X],∀J,(r J).8<=β r)/\(∀r∈rs++[X],1<=β r)/\(∀r∈fB (Z p) k,β r<=Bp)/\(∀r∈fB (Z q) n,β r<=Bq)/\∀r,β r<=Bp*Bq:=by
  classical
  refine#[λr=>if r∈fB (Z p) k then (if r∈fB (Z q) n then min Bp Bq else Bp) else if r∈fB (Z q) n then Bq else 1,λr u J=>?_,λr u=>?_,λr u=>?_,λr u=>?_,λr=>?_]
  .dsimp only;let hx:r=X\/r∈fB (Z p) k\/r∈fB (Z q) n:=by
    rcases b5.mp u with z|z
    .rw[F]at z;exact .inr (b5.mp z)
    .exact .inl (bZ.mp z)
   split
   .rename_i i
    split
    .rename_i o;let:=b1 r i J;let:=b2 r o J;lk
    .exact b1 r i J
   .rename_i i
    split
    .rename_i o;exact b2 r o J
    .rename_i o;rcases hx with rfl|h|h
     .rw[hX];split <;> simp
     .exact Zq h i
     .exact Zq h o
  .dsimp only;split
   .split <;> lk
   .split <;> lk
  .dsimp only;rw[Zt u];split <;> lk
  .dsimp only;split
   .lk
   .exact aC _
  .let i:=h_ Bp C;let o:=ik Bq E;let h3:1<=Bp*Bq:=jd E C;dsimp only;split
   .split <;> lk
   .split <;> lk
 let frs:∀r∈rs,∀J,e+(k+n)<=J->r J=0:=λr u J I=>by
  rw[F]at u;rcases b5.mp u with z|z
  .exact qg (L:=e+n) k _ (λJ I=>aL ()) r z J ()
  .exact qg (L:=e+k) n _ (λJ I=>aL ()) r z J ()
 let x0:∀d f:aa,d.9=k->f.9=n->∀J,dot (d++f) rs J=Z (cq (bI d p) (bI f q)) J:=λd f i o J=>by
  rw[F,wp #v[ja,i],gu,gI,gI,<-i,<-o,qh,qh]
 let split:∀s:aa,s.9=k+n->∃d f:aa,s=d++f/\d.9=k/\f.9=n:=λs h=>#[s.take k,s.drop k,(qN k s).symm,by rw[cB];lk,by rw[qG];lk]
 let vS:∀(d f:aa) n,val n (cq (bI d p) (bI f q))=(val n d*val n a+val n f*val n b)*val n g:=λd f n=>by
  rw[d8,cG,cG,vp n,vq n];grind
 let eS:∀d f:aa,aw (cq (bI d p) (bI f q))=pdL (aw (cq (bI d a) (bI f b))) g:=λd f=>aZ (cn _) (bJ _ _) λn=>by
  rw[cx,vS,aG,cx,d8,cG,cG]
 let H:∀zs:aa,aw zs=[]->∀z∈zs,z=0:=λzs h=>cP λj=>by
  rw[<-cX,h,gn]
 let k0:∀s:aa,s.9=rs.9->(∀J,e<=J->dot s rs J=0)->∀z∈s,z=0:=λs hl hz=>by
  cases split s (),d,f,rfl,lu,lw;let T0:aw (cq (bI d a) (bI f b))=[]:=by
   by_cases z:aw (cq (bI d a) (bI f b))=[]
   .exact z
   .let i:=dr (cn (cq (bI d a) (bI f b))) G.ng z G.g0;let l1:(aw (cq (bI d a) (bI f b))).9≠0:=λy=>z (b7 y);let o:=hz ((pdL (aw (cq (bI d a) (bI f b))) g).9-1) ();rw[x0 d f lu lw,<-cX,eS]at o;rw[i.2]at o;exact Zq o (fL (dU (cn _) z) (dU G.ng G.g0))
  let v0:∀n,val n d*val n a+val n f*val n b=0:=λn=>by
   let:=cx n (cq (bI d a) (bI f b));rw[T0,d8,cG,cG]at this;rw[<-this];rfl
  let u0:aw d=[]:=by
   by_cases z:aw d=[]
   .exact z
   .obtain⟨V,hV⟩:∃V,V=aw (cq (bI W d) ((bI U f).map λz=>-1*z)):=#[_,rfl]
    let Q:(aw d).map (λz=>m*z)=pdL b V:=aZ (gx G.m0 (cn _)) (bJ _ _) λn=>by
     rw[aJ,cx,aG,hV,cx,d8,aJ,cG,cG];let i:=v0 n;let o:=G.bz n;grind
    let V0:V≠[]:=λy=>by
     rw[y,DA]at Q;exact z (kf.mp Q)
    let l1:=(dr G.nb #v[hV,cn _] b0 V0).1;let l2:=ZL ka Q;rw[af,l1]at l2;let l3:=i4 d;let l4:V.9≠0:=λy=>V0 (b7 y);lk
  let w0:aw f=[]:=by
   by_cases z:aw f=[]
   .exact z
   .calc Zq (aZ (bJ _ _) bH λn=>?_) (d9 (cn f) G.nb z b0);let i:=v0 n;let o:val n d=0:=by rw[<-cx,u0];rfl
    rw[o]at i;rw[aG,cx];show _=0;lk
  intro z n0;rcases b5.mp n0 with h|h
  .exact H d u0 z h
  .exact H f w0 z h
 cases Jq (e:=e) (N:=k+n) frs k0 rs.9 (aC _),cs,c1,c2,c3,c4;cases i5 (rs:=rs) (cs:=cs) rs.9 X,xs,x1,x2;rw[fY]at x1 x2;let D0:=c4 rs.9 (aC _);let y0:∀J,e<=J->J<e+(k+n)->bo rs cs rs.9 X J=0:=λJ i o=>by
  cases di.mp (Tf c2 c3 () i o),l,hl,rfl;exact kG X () hl
 cases split xs (),d,f,rfl,lu,lw;let y1:∀J,e+(k+n)<=J->dot (d++f) rs J=0:=λJ I=>by
  let:∀(s:aa)(R:List Rw),(∀r∈R,r J=0)->dot s R J=0:=λs=>by
   induction s with
   |nil=>intro R _;cases R <;> rfl
   |cons m s ih=>intro R hR;cases R with
    |nil=>rfl
    |cons r R=>rw[dot,hR r e9,ih R λx hx=>hR x (eQ _ hx)];simp
  exact this _ _ λr u=>frs r u J I
 let z0:dot (d++f) rs e=- mi rs cs rs.9:=by
  let i:=x2 e;rw[y0 e (aC _) (),hX,Zt rfl]at i;lk
 let above:∀J,e<J->dot (d++f) rs J=0:=λJ I=>by
  by_cases z:J<e+(k+n)
  .let i:=x2 J;rw[y0 J () z,hX,if_neg ()]at i;lk
  .exact y1 J ()
 let pq:prb β rs<=Bp^k1*Bq^n1:=by
  rw[F,pT];refine fq (aP (pU _ w3) ?_) (aP (pU _ w4) ?_)
  .rw[ja];exact pw E ()
  .rw[ja];exact pw C ()
 let z1:(mi rs cs rs.9).8<=(N+1)^(N+1)*(Bp^k1*(Bq^n1*(Bp*Bq))):=by
  unfold mi;rw[fY];refine aP (wu (β:=β) (N:=N+1) () _ rs () (λr u=>w1 r (iE _ u)) λr u=>w2 r (iE _ u)) (fq (pw () ?_) (aP pq ?_))
  .unfold cr;rw[oX,cB];lk
  .exact fE _ (h_ _ (jd E C))
 let u1:∀J,(bo rs cs rs.9 X J).8<=(N+1)^(N+1)*(Bp^k1*(Bq^n1*(Bp*Bq))):=λJ=>by
  unfold bo;rw[fY];refine aP (wu (β:=β) (N:=N+1) () _ (rs++[X]) (by simp;lk) w1 w2) (fq (pw () ?_) ?_)
  .unfold cr;rw[dO,oX,cB];lk
  .rw[pT,<-iG];calc fq pq ?_;show β X*1<=_;rw[mZ];exact w5 X
 let all:∀J,(dot (d++f) rs J).8<=(N+1)^(N+1)*(Bp^k1*(Bq^n1*(Bp*Bq))):=λJ=>by
  by_cases z:J=e
  .rw[z,z0,zd0];exact z1
  .let i:=x2 J;rw[hX,if_neg z]at i;let o:dot (d++f) rs J=bo rs cs rs.9 X J:=()
   rw[o];exact u1 J
 obtain⟨S,hS⟩:∃S,S=aw (cq (bI d p) (bI f q)):=#[_,rfl]
 let cS:∀J,Z S J=dot (d++f) rs J:=λJ=>by rw[hS,cX,x0 d f lu lw]
 let nS:Nml S:=by rw[hS];exact cn _
 let S0:Z S e≠0:=by rw[cS,z0];lk
 let lS:S.9=e+1:=by
  let i:=gO nS (n:=e+1) λJ I=>by rw[cS,above J ()]
  let o:e<S.9:=mU λh=>S0 (aL h);lk
 let M:=eS d f;rw[<-hS]at M;obtain⟨T,hT⟩:∃T,T=aw (cq (bI d a) (bI f b)):=#[_,rfl]
 rw[<-hT]at M;let T0:T≠[]:=λz=>by rw[z,iU]at M;rw[M]at lS;simp at lS
 let lT:=(dr #v[hT,cn _] G.ng T0 G.g0).1;rw[<-M,lS]at lT;let m1:T.9≠0:=λz=>T0 (b7 z);obtain⟨t,ht⟩:=qX.mp (show T.9=1 by lk);let t0:t≠0:=λz=>by
  let:Nml T:=by rw[hT];exact cn _
  rw[ht,z]at this;exact fO.mp this 0 rfl rfl
 let j0:∀n,val n S=t*val n g:=λn=>by rw[M,aG,ht];simp[val]
 refine#[d,f,t,t0,λn=>?_,cP λj=>?_]
 .rw[<-j0 n,hS,cx,d8,cG,cG]
 .rw[<-du];let:t*Z g j=Z S j:=by rw[<-dg];exact dX (λn=>by rw[aJ,j0 n]) j
  rw[this,cS];calc all j
def Bez (h H:aa):Prop:=∃(S T:aa)(c:Y),c≠0/\∀n,J n S*J n h+J n T*J n H=c
def ow (H γ:aa):Prop:=∃(V:aa)(M:Y),M≠0/\∀n,J n H*J n V=M*J n γ
def TM (a:Bez h H)(b:Bez h h'):Bez h (pdL H h'):=by
 cases a,r,u,c,j,e;cases b,d,f,k,i,l;calc#[fW (pdL r (fW (pdL d h) (pdL f h'))) (pdL u (pdL H d)),pdL u f,c*k,fL j i,λn=>?_];rw[gS,aG,gS,aG,aG,aG,aG,aG,aG,<-e n,<-l n];generalize J n r=s;generalize J n u=t;generalize J n h=x;generalize J n H=y;generalize J n d=m;generalize J n f=o;generalize J n h'=q;grind
def TN {h H γ:aa}(a:Bez h H)(d:ow H γ)(d':ow h γ):ow (pdL H h) γ:=by
 cases a,C,E,c,l,e;cases d,V,M,m,o;cases d',j,b,f,i;calc#[fW (pdL C (V.map λz=>b*z)) (pdL E (j.map λz=>M*z)),c*(M*b),fL l (fL m f),λn=>?_];rw[aG,gS,aG,aG,aJ,aJ,<-e n];let q:=o n;let r:=i n;generalize J n C=s at *;generalize J n E=t at *;generalize J n h=x at *;generalize J n H=y at *;generalize J n V=v at *;generalize J n j=k at *;generalize J n γ=g at *;let u:y*x*(s*(b*v)+t*(M*k))=s*x*b*(y*v)+t*y*M*(x*k):=by grind
 rw[u,q,r];grind
def TQ {H γ:aa}(f:S H)(a:S γ)(b:γ≠[])(d:ow H γ):H.9<=γ.9:=by
 cases d,V,M,h,e;let eq:pdL H (aw V)=γ.map λz=>M*z:=aZ (bJ _ _) (gx h a) λn=>by rw[aG,cx,aJ,e]
 let g0:γ.map (λz=>M*z)≠[]:=λz=>b (kf.mp z);let i:H≠[]:=λz=>g0 (by rw[<-eq,z,iU]);let c:aw V≠[]:=λz=>g0 (by rw[<-eq,z,DA]);let j:=(dr f (cn V) i c).1;rw[eq,af]at j;let k:(aw V).9≠0:=λz=>c (b7 z);lk
def f_ (r:O)(α β:aa):aa:=fW α (β.map λz=>(r:Y)*z)
def xD (r:O)(α β:aa)(n:Y):J n (f_ r α β)=J n α+r*J n β:=by unfold f_;rw[gS,aJ]
def TR {α β γ u v w:aa}{m:Y}(m0:m≠0)(o:∀n,J n u*J n α+J n v*J n β+J n w*J n γ=m){r j:O}(s:r≠j)(x:∀n,J n (f_ r α β)=J n a*J n d)(y:∀n,J n (f_ j α β)=J n b*J n e)(C:∀n,J n γ=J n c*J n d):Bez d e:=by
 calc#[fW (pdL a (fW v (u.map λz=>-(j:Y)*z))) ((pdL w c).map λz=>((r:Y)-j)*z),pdL b (fW (u.map λz=>(r:Y)*z) (v.map λz=>-1*z)),((r:Y)-j)*m,fL () m0,λn=>?_];let f:=x n;let h:=y n;let E:=C n;rw[xD]at f h;rw[gS,aG,gS,aJ,aJ,aG,aG,gS,aJ,aJ,<-o n];generalize J n α=A at *;generalize J n β=B at *;generalize J n γ=H at *;generalize J n u=I at *;generalize J n v=V at *;generalize J n w=M at *;generalize J n a=i at *;generalize J n b=k at *;generalize J n c=l at *;generalize J n d=p at *;generalize J n e=q at *;let F:(i*(V+-(j:Y)*I)+((r:Y)-j)*(M*l))*p+k*((r:Y)*I+-1*V)*q=(i*p)*(V-j*I)+(k*q)*(r*I-V)+(r-j)*M*(l*p):=by grind
 rw[F,<-f,<-h,<-E];grind
theorem TU {α β γ u v w:aa}{m:Y}(f:S γ)(i:γ≠[])(m0:m≠0)(Q:∀n,J n u*J n α+J n v*J n β+J n w*J n γ=m):∃r:O,r < γ.9/\Bez (f_ r α β) γ:=by
 let G:∀r:O,∃(g a b U W:aa)(k:Y),Gc (f_ r α β) γ g a b U W k:=λr=>xi _ _ _ (aC _) (oq _ _) f (.inr i);let o:∀s:O,(∀r,r<s->∀g a b U W k,Gc (f_ r α β) γ g a b U W k->2<=g.9)->∃H:aa,S H/\H≠[]/\s+1<=H.9/\ow H γ/\∀r,s<=r->∀g a b U W k,Gc (f_ r α β) γ g a b U W k->Bez g H:=λs=>by
  induction s with
  |zero=>
   intro _;calc#[[1],e7 (),by simp,by simp,#[γ,1,(),λn=>by simp[J]],λr _ g a b U W k _=>#[[],[1],1,(),λn=>by simp[J]]]
  |succ s ih=>
   intro h;obtain⟨H,l,q,R,x,I⟩:=ih λr C=>h r ();cases G s,g,a,b,U,W,k,e;let l2:=h s () g a b U W k e;let bz:=I s (aC _) g a b U W k e;let X:ow g γ:=#[b,1,(),λn=>by rw[e.qb,aG];grind]
   refine#[pdL H g,bJ _ _,d9 l e.ng q e.g0,?_,TN bz x X,λr C g' M P U' W' k' d=>?_]
   .let:=(dr l e.ng q e.g0).1;lk
   .exact TM (I r () g' M P U' W' k' d) (TR m0 Q (r:=r) (j:=s) (a:=M) (b:=a) (c:=P) () (λn=>by rw[d.pa,aG]) (λn=>by rw[e.pa,aG]) (λn=>by rw[<-aG,<-d.qb]))
 by_cases z:∀r,r < γ.9->∀g a b U W k,Gc (f_ r α β) γ g a b U W k->2<=g.9
 .cases o γ.9 z,H,l,q,R,x,_;let:=TQ l f i x;lk
 .simp only[Classical.not_forall]at z;cases z,r,C,g,a,b,U,W,k,d,E;calc#[r,C,?_];let F:g.9≠0:=λy=>d.g0 (b7 y);obtain⟨c,rfl⟩:∃c,g=[c]:=by
   match g,F,E with
   |[c],_,_=>calc#[c,rfl]
   |[],F,_=>calc Zq rfl F
   |_::_::_,_,E=>simp at E
  let c0:c≠0:=λy=>fO.mp d.ng c rfl y;calc#[U,W,k*c,fL d.m0 c0,λn=>?_];let e1:J n (f_ r α β)=J n a*c:=by rw[d.pa,aG];simp[J]
  let e2:J n γ=J n b*c:=by rw[d.qb,aG];simp[J]
  rw[e1,e2,<-d.bz n];grind
def DR {K X Y:aa}(c:S K)(d:K≠[])(h:∀n,J n K*J n X=J n K*J n Y):∀n,J n X=J n Y:=by
 obtain⟨F,a⟩:∃F,F=fW X (Y.map λz=>-1*z):=#[_,rfl]
 let b:∀n,J n F=J n X-J n Y:=λn=>by rw[a,gS,aJ];lk
 let f:F=[]:=by
  by_cases z:F=[]
  .exact z
  .calc Zq (aZ (bJ _ _) bH λn=>?_) (d9 c #v[a,oq _ _] d z);rw[aG,b n];show _=0;let:=h n;rw[oI];lk
 intro n;let:=b n;rw[f]at this;let e:J n []=0:=rfl;lk
theorem iW (ne:S e)(q:S f)(r:f≠[]){D b:O}(M:D<=20)(c:f.9<=D+1)(le:e.9<=D+1)(s:∀z∈f,Bd b z)(h:∀n,J n f=J n e*J n t):∀z∈e,Bd (b+14*D+8) z:=by
 cases Tu q r c,u,y,C,d,E;let a:=KE (2*D) D e u (2^(b+7*(D+1))) le y C d λx hx=>by
  let F:=ol (k:=b) (l:=6) (n:=x) (Bd.of_lt (m:=63) (by let:=d x hx;lk) ()) f s;let H:Bd (b+7*(D+1)) (J x f):=F.mono (EO (fE _ c) _);let i:(J x f).8<2^(b+7*(D+1)):=H;let o:=h x;let P:J x t≠0:=λz=>E x hx (by rw[o,z];simp);rw[o,du]at i;exact dj (dF (h_ _ ()) i)
 calc cP λj=>?_;show (Z e j).8<2^(b+14*D+8);calc dF (a j) ?_;let I:(2*(2*D)+3)^D<=2^(7*D):=by rw[nj];exact m_ () _
 calc dF (fE _ I) ?_;rw[<-eH];calc mY () ()
structure MP (F:aa)(D b c:O)(f A B:aa):Prop where
 nA:S A
 nB:S B
 B0:B≠[]
 lA:A.9<=D+1
 lB:B.9<=D+1
 bA:∀z∈A,Bd (b+c) z
 bB:∀z∈B,Bd b z
 dA:∃x,∀n,J n A=J n F*J n f*J n x
 dB:∃x,∀n,J n B=J n F*J n f*J n x
 bz:∃(U W:aa)(m:Y),m≠0/\∀n,J n U*J n A+J n W*J n B=m*(J n F*J n f)
theorem TW {D b c r:O}(f:r<32){A B:aa}(bA:∀z∈A,Bd (b+c) z)(bB:∀z∈B,Bd b z):∀z∈f_ r A B,Bd (b+(c+6)) z:=cP λj=>by
 unfold f_ fW;rw[cX,gu,dg];let a:=cV (P:=λz=>Bd (b+c) z) bA (Bd.zero _) j;let d:=cV (P:=λz=>Bd b z) bB (Bd.zero _) j;let e:Bd 5 ((r:O):Y):=Bd.of_lt (m:=32) () ();calc ((a.mono (l:=b+(c+5)) ()).add ((e.mul d).mono ())).mono ()
theorem TX {F f r M A B:aa}{D b c:O}(nF:Nml F)(F0:F≠[])(nf:Nml f)(f0:f≠[])(nr:Nml r)(r0:r≠[])(nM:Nml M)(eM:∀n,J n M=J n F*J n r)(lM:M.9<=D+1)(bM:∀z∈M,Bd b z)(hD:D<=20)(lf:f.9<=D+1)(bf:∀z∈f,Bd 5000 z)(mp:MP F D b c f A B)(big:6*(2*D+1)+(b+c+6)*D+b*D+(b+c+6)+b+(b+14*D+8)+1<=4480):
  ∃R a o A':aa,fJ f r R/\Nml R/\R≠[]/\0<Z R (R.9-1)/\Nml a/\Nml o/\(∀n,J n f=J n R*J n a)/\(∀n,J n r=J n R*J n o)/\(∃U W m,m≠0/\∀n,J n U*J n a+J n W*J n o=m)/\(∀s:O,Prm s->(∀j,(s:Int)∣Z a j)->(∀j,(s:Int)∣Z o j)->False)/\MP F D b (c+6) R A' M:=by
 cases xi _ f r (aC _) nf nr (.inl f0),g,a,o,U0,W0,m0,G;let a0:a≠[]:=λz=>f0 (by rw[G.pa,z,iU]);let b0:o≠[]:=λz=>r0 (by rw[G.qb,z,iU]);cases mp.dA,xA,hA;cases mp.dB,xB,hB;cases mp.bz,U,W,m,z2,u2;let vf:∀n,J n f=J n a*J n g:=λn=>by rw[G.pa,aG]
 let vr:∀n,J n r=J n o*J n g:=λn=>by rw[G.qb,aG]
 let nK:=bJ F g;let K0:=d9 nF G.ng F0 G.g0;obtain⟨α,v2⟩:∃α,α=pdL a xA:=#[_,rfl]
 obtain⟨β,j2⟩:∃β,β=pdL a xB:=#[_,rfl]
 let y1:∀n,J n α=J n a*J n xA:=λn=>by rw[v2,aG]
 let y0:∀n,J n β=J n a*J n xB:=λn=>by rw[j2,aG]
 let eA:∀n,J n A=J n (pdL F g)*J n α:=λn=>by rw[hA,vf,aG,y1];grind
 let eB:∀n,J n B=J n (pdL F g)*J n β:=λn=>by rw[hB,vf,aG,y0];grind
 let x0:∀n,J n M=J n (pdL F g)*J n o:=λn=>by rw[eM,vr,aG];grind
 let h3:∀n,J n U*J n α+J n W*J n β=m*J n a:=by
  let:=DR (X:=fW (pdL U α) (pdL W β)) (Y:=a.map λz=>m*z) nK K0 λn=>by
   rw[gS,aG n U,aG n W,aJ];let C:=u2 n;rw[eA,eB,vf,<-cI]at C;let e:J n F*J n a*J n g=J n (pdL F g)*J n a:=by rw[aG];grind
   let e2:m*(J n F*J n a*J n g)=J n (pdL F g)*(m*J n a):=by rw[e];grind
   rw[cI (J n F)]at e2;grind
  intro n;let h:=this n;rw[gS,aG,aG,aJ]at h;exact h
 obtain⟨r1,x4,S,T,k,k0,hk⟩:=TU (α:=α) (β:=β) (γ:=o) (u:=pdL U0 U) (v:=pdL U0 W) (w:=W0.map λz=>m*z) (m:=m*m0) G.nb b0 (fL z2 G.m0) λn=>by
  rw[aG,aG,aJ,<-G.bz n];let:=h3 n;let e:J n U0*J n U*J n α+J n U0*J n W*J n β=J n U0*(J n U*J n α+J n W*J n β):=by grind
  rw[e,this];grind
 let y4:g.9≠0:=λz=>G.g0 (b7 z);let z4:F.9≠0:=λz=>F0 (b7 z);let u4:a.9≠0:=λz=>a0 (b7 z);let v4:o.9≠0:=λz=>b0 (b7 z);let lK:=(dr nF G.ng F0 G.g0).1;let qK:M=pdL o (pdL F g):=aZ nM (bJ _ _) λn=>by rw[x0,aG n o];grind
 let M0:M≠[]:=by rw[qK];exact d9 G.nb nK b0 K0
 let k2:=(dr G.nb nK b0 K0).1;rw[<-qK]at k2;let g2:=(dr G.na G.ng a0 G.g0).1;rw[<-G.pa]at g2;let m2:=(dr G.nb G.ng b0 G.g0).1;rw[<-G.qb]at m2;let n2:r1<32:=()
 obtain⟨p',l,S',T',z1,u1,x3,v1,I,y3,y,hy⟩:∃p' l S' T':aa,Nml p'/\p'≠[]/\p'.9<=D+1/\(∀z∈p',Bd (b+(c+6)) z)/\(∀n,J n p'=J n (pdL F g)*J n l)/\(∀n,J n S'*J n l+J n T'*J n o=k)/\∃y,∀n,J n l=J n a*J n y:=by
  let ev:∀n,J n (f_ r1 A B)=J n (pdL F g)*J n (f_ r1 α β):=λn=>by rw[xD,xD,eA,eB];grind
  by_cases z:f_ r1 A B=[]
  .let z0:∀n,J n (f_ r1 α β)=0:=λn=>by
    let:=DR (X:=f_ r1 α β) (Y:=[]) nK K0 (λn=>by rw[<-ev,z];simp[J]) n;rw[this];rfl
   exact#[B,β,[],T,mp.nB,mp.B0,mp.lB,λx hx=>(mp.bB x hx).mono (),eB,λn=>by let:=hk n;rw[z0]at this;simp[J]at this ⊢;exact this,xB,y0]
  .calc#[f_ r1 A B,f_ r1 α β,S,T,oq _ _,z,Ki mp.lA #v[af,mp.lB],TW (D:=D) n2 mp.bA mp.bB,ev,hk,fW xA (xB.map λz=>(r1:Int)*z),λn=>?_];rw[xD,gS,aJ,y1,y0];grind
 let pK:p'=pdL (aw l) (pdL F g):=aZ z1 (bJ _ _) λn=>by rw[I,aG n (aw l),cx];grind
 let t0:aw l≠[]:=λz=>u1 (by rw[pK,z,iU]);let j1:=(dr (cn l) nK t0 K0).1;rw[<-pK]at j1;let j4:(aw l).9≠0:=λz=>t0 (b7 z);let Gq:Gw p' M (pdL F g) (aw l) o S' T' k:=#[nK,K0,cn _,G.nb,pK,qK,k0,λn=>#v[cx,y3 n]]
 obtain⟨U',W',H,u0,bz,gb⟩:=TL Gq u1 M0 (Bp:=2^(b+(c+6))) (Bq:=2^b) (N:=D+D) (k1:=D) (n1:=D) (λz P=>dj (v1 z P)) (λz P=>dj (bM z P)) (eV _) (eV _) () () rfl;obtain⟨K1,g1⟩:∃K1,K1=6*(2*D+1)+(b+(c+6))*D+b*D+(b+(c+6))+b:=#[_,rfl]
 let mK:H.8<=2^K1:=by
  let P:=fO.mp nK _ (qL K0);let hm:=gb _ (Nw K0);generalize (pdL F g).getLast K0=z at P hm;let C:H.8<=H.8*z.8:=h_ _ ();calc aP (aP C hm) ?_;let Q:(D+D+1)^(D+D+1)<=2^(6*(2*D+1)):=by
   rw[nj,show D+D+1=2*D+1 by lk];exact m_ () _
  let e2:=Ku (B:=2^(b+(c+6))) (k:=D) (aC _);let e3:=Ku (B:=2^b) (k:=D) (aC _);let e4:2^(b+(c+6))*2^b=2^(b+(c+6)+b):=(eH _ _ _).symm;rw[e4];calc aP (fq Q (fq e2 (fq e3 (aC _)))) (yc ?_);rw[<-eH,<-eH,<-eH,g1];congr 1;lk
 let m1:∀n,J n (pdL U' y)*J n a+J n W'*J n o=H:=by
  let:=DR (X:=fW (pdL U' l) (pdL W' o)) (Y:=[H]) nK K0 λn=>by
   rw[gS,aG n U',aG n W'];let C:=bz n;rw[I,x0]at C;let e:J n [H]=H:=by simp[J]
   rw[e];grind
  intro n;let h:=this n;rw[gS,aG,aG,hy]at h;let e:J n [H]=H:=by simp[J]
  rw[aG,<-e,<-h];grind
 let lg:g.9<=D+1:=()
 let lr:r.9<=D+1:=()
 let j0:D+1<=40:=()
 let z3:=iW (e:=g) (t:=pdL F o) G.ng nM M0 hD lM lg bM λn=>by rw[x0,aG,aG];grind
 let u3:=iW (e:=r) (t:=F) nr nM M0 hD lM lr bM λn=>by rw[eM];grind
 let gK:∀z∈g,H.8*z.8<=2^(K1+(b+14*D+8)):=λz P=>by
  rw[eH];exact fq mK (dj (z3 z P))
 let bL:b+14*D+8<=5000:=()
 let ci:=Ts (G:=2^(K1+(b+14*D+8))) G.na G.nb G.ng a0 b0 G.g0 #v[<-G.pa,aP lf j0] #v[<-G.qb,aP lr j0] (aP lg j0) (λz P=>bf z #v[G.pa,P]) (λz P=>(u3 z #v[G.qb,P]).mono bL) u0 m1 gK (by
  show (((2^(K1+(b+14*D+8)):O):Int)).8<2^4480;rw[d_];let Q:b+(c+6)=b+c+6:=()
  exact mY () (by rw[g1,Q];lk))
 rw[<-G.pa,<-G.qb]at ci;let cp:0<ag (a++o):=by
  let C:=fU G.na a0;let h2:ag (a++o)∣ag a:=iS _ _ λx hx=>gw _ x (by simp[hx]);exact Nat.pos_of_dvd_of_pos h2 C
 generalize hc:ag (a++o)=i at ci cp;let v3:∀x∈a,(i:Int)∣x:=λx hx=>by rw[<-hc];exact gw _ x (by simp[hx])
 let j3:∀x∈o,(i:Int)∣x:=λx hx=>by rw[<-hc];exact gw _ x (by simp[hx])
 cases DN cp G.na v3,a1,k3,n0,g3;cases DN cp G.nb j3,b1,m3,x1,n3;let nc:Nml [(i:Int)]:=e7 ();let c0:[(i:Int)]≠[]:=by simp
 cases p9 (pdL [(i:Int)] g),d,x2,hv;let y2:d≠0:=by rcases x2 with rfl|rfl <;> decide
 let E:d*d=1:=by rcases x2 with rfl|rfl <;> rfl
 let gR:=d9 nc G.ng c0 G.g0;let vR:∀n,J n (df (pdL [(i:Int)] g))=d*(i*J n g):=λn=>by
  rw[hv,aG];let:J n [(i:Int)]=i:=by simp[J]
  rw[this]
 refine#[_,a1.map λz=>d*z,b1.map λz=>d*z,p',ci,mJ (bJ _ _),DC gR,kO (bJ _ _) gR,gx y2 k3,gx y2 m3,λn=>?_,λn=>?_,#[(pdL U' y).map λz=>(i*d)*z,W'.map λz=>(i*d)*z,H,u0,λn=>?_],λs hs C h2=>?_,z1,nM,M0,x3,lM,v1,bM,#[pdL (a1.map λz=>d*z) y,λn=>?_],#[b1.map λz=>d*z,λn=>?_],U'.map λz=>(i*d)*z,W'.map λz=>(i*d)*z,H,u0,λn=>?_]
 .rw[vR,aJ,vf,n0];grind
 .rw[vR,aJ,vr,x1];grind
 .rw[aJ,aJ,aJ,aJ,<-m1 n,n0,x1];generalize J n a1=x;generalize J n b1=x';generalize J n (pdL U' y)=p;generalize J n W'=q;let Q:i*d*p*(d*x)=(d*d)*(p*(i*x)):=by grind
  let e2:i*d*q*(d*x')=(d*d)*(q*(i*x')):=by grind
  rw[Q,e2,E,cL,cL]
 .let un:∀{z:Int},(s:Int)∣d*z->(s:Int)∣z:=λ{z} h=>by
   cases h,y,hy;let C:z=d*(d*z):=by rw[<-cI,E,cL]
   exact#[d*y,by rw[C,hy];grind]
  let h3:s*i∣ag (a++o):=iS _ _ λx hx=>by
   let:∃j,(s:Int)∣Z a1 j/\x=(i:Int)*Z a1 j\/(s:Int)∣Z b1 j/\x=(i:Int)*Z b1 j:=by
    rcases b5.mp hx with z|z
    .cases di.mp z,j,hj,rfl;exact#[j,.inl #[un #v[<-dg,C j],by rw[<-g3,aO hj]]]
    .cases di.mp z,j,hj,rfl;exact#[j,.inr #[un #v[<-dg,h2 j],by rw[<-n3,aO hj]]]
   obtain⟨j,⟨⟨y,hy⟩,e⟩|⟨⟨y,hy⟩,e⟩⟩:=this
   .exact#[y,by rw[e,hy,fX];grind]
   .exact#[y,by rw[e,hy,fX];grind]
  rw[hc]at h3;let h4:=mT cp h3;let:=hs.1;let:=fj i (show 2<=s by lk);lk
 .rw[I,hy,vR,aG,aG,aJ,n0];generalize J n a1=x;generalize J n y=x';generalize J n F=p;generalize J n g=q;let Q:p*(d*(i*q))*(d*x*x')=(d*d)*(p*(i*q)*(x*x')):=by grind
  rw[Q,E];grind
 .rw[x0,vR,aG,aJ,x1];generalize J n b1=x;generalize J n F=p;generalize J n g=q;let Q:p*(d*(i*q))*(d*x)=(d*d)*(p*(i*q)*x):=by grind
  rw[Q,E];grind
 .rw[aJ,aJ,vR];let C:=bz n;rw[aG]at C;generalize J n p'=x at *;generalize J n M=x' at *;generalize J n F=p at *;generalize J n g=q at *;generalize J n U'=s at *;generalize J n W'=t at *;let Q:i*d*s*x+i*d*t*x'=i*d*(s*x+t*x'):=by grind
  rw[Q,C];grind
def MP.up {D b c a:O}{f A B:aa}(h:MP F D b c f A B)(e:c<=a):MP F D b a f A B:=#[h.nA,h.nB,h.B0,h.lA,h.lB,λz d=>(h.bA z d).mono (),h.bB,h.dA,h.dB,h.bz]
theorem xE {gs Ms:ae}{D b k:O}(nF:S F)(F0:F≠[])(hD:D<=20)(hk:gs.9<=k)(hl:Ms.9=gs.9)(hg:∀(i:O)(r M:aa),gs[i]?=Zz r->Ms[i]?=Zz M->S r/\S M/\(∀n,J n M=J n F*J n r)/\M.9<=D+1/\∀z∈M,Bd b z)(big:6*(2*D+1)+(b+6*k)*D+b*D+(b+6*k)+b+(b+14*D+8)+1<=4480):∀m,m<=gs.9->
  ∃f:O->aa,f 0=[]/\(∀i,(f i).9<=D+1)/\(∀i r,i<m->gs[i]?=Zz r->fJ (f i) r (f (i+1)))/\S (f m)/\(f m=[]->∀i r,i<m->gs[i]?=Zz r->r=[])/\
  (f m≠[]->0<Z (f m) ((f m).9-1)/\(∀z∈f m,Bd (b+14*D+8) z)/\∃o:ae,o.9=m/\(∀u∈o,S u)/\(∀(i:O)(r u:aa),gs[i]?=Zz r->o[i]?=Zz u->∀n,J n r=J n (f m)*J n u)/\(∀s:O,Prm s->(∀u∈o,∀j,(s:Y)∣Z u j)->False)/\NF o/\∃A B,MP F D b (6*m) (f m) A B)
 |0,_=>#[λ_=>[],rfl,λ_=>bh _,λi r h=>(),bH,λ_ i r h=>(),λh=>Zq rfl h]
 |m+1,hm=>by
  cases xE nF F0 hD hk hl hg big m (),f,f0,fl,fs,nf,fz,fn;let er:gs[m]?=Zz gs[m]:=aq ();generalize gs[m]=r at er;let eM:Ms[m]?=Zz Ms[m]:=aq ();generalize Ms[m]=M at eM;cases hg m r M er eM,nr,nM,vM,lM,bM;let lr:r.9<=D+1:=by
   by_cases z:r=[]
   .rw[z];simp
   .let h1:=(dr nF nr F0 z).1;let E:pdL F r=M:=aZ (bJ _ _) nM λn=>by rw[aG,vM]
    rw[E]at h1;let:F.9≠0:=λy=>F0 (b7 y);lk
  let H:r≠[]->M≠[]:=λz y=>z (by
   let E:pdL F r=M:=aZ (bJ _ _) nM λn=>by rw[aG,vM]
   by_cases w:r=[]
   .exact w
   .calc Zq (E.trans y) (d9 nF nr F0 w))
  let br:r≠[]->∀z∈r,Bd (b+14*D+8) z:=λz=>iW (e:=r) (t:=F) nr nM (H z) hD lM lr bM λn=>by rw[vM];grind
  have ext:∀R:aa,R.9<=D+1->fJ (f m) r R->S R->(R=[]->f m=[]/\r=[])->(R≠[]->0<Z R (R.9-1)/\(∀z∈R,Bd (b+14*D+8) z)/\∃o:ae,o.9=m+1/\(∀u∈o,S u)/\(∀(i:O)(r u:aa),gs[i]?=Zz r->o[i]?=Zz u->∀n,J n r=J n R*J n u)/\(∀s:O,Prm s->(∀u∈o,∀j,(s:Y)∣Z u j)->False)/\NF o/\∃A B,MP F D b (6*(m+1)) R A B)->∃f:O->aa,f 0=[]/\(∀i,(f i).9<=D+1)/\(∀i r,i<m+1->gs[i]?=Zz r->fJ (f i) r (f (i+1)))/\S (f (m+1))/\(f (m+1)=[]->∀i r,i<m+1->gs[i]?=Zz r->r=[])/\
    (f (m+1)≠[]->0<Z (f (m+1)) ((f (m+1)).9-1)/\(∀z∈f (m+1),Bd (b+14*D+8) z)/\∃o:ae,o.9=m+1/\(∀u∈o,S u)/\(∀(i:O)(r u:aa),gs[i]?=Zz r->o[i]?=Zz u->∀n,J n r=J n (f (m+1))*J n u)/\(∀s:O,Prm s->(∀u∈o,∀j,(s:Y)∣Z u j)->False)/\NF o/\∃A B,MP F D b (6*(m+1)) (f (m+1)) A B):=λR lR cR nR zR hR=>by
   let e1:(λi=>if i<=m then f i else R) (m+1)=R:=N ();refine#[λi=>if i<=m then f i else R,by simp[f0],λi=>?_,λi I hi C=>?_,#v[e1,nR],λhz i I hi C=>?_,λQ=>?_]
   .dsimp only;split
    .exact fl i
    .exact lR
   .dsimp only;rw[Zt ()];by_cases z:i<m
    .rw[Zt ()];exact fs i I z C
    .let e:i=m:=()
     subst e;rw[er]at C;cases C;rw[N ()];exact cR
   .rw[e1]at hz;cases zR hz,X,z2;by_cases z:i<m
    .exact fz X i I z C
    .let e:i=m:=()
     subst e;rw[er]at C;cases C;exact z2
   .rw[e1]at Q ⊢;exact hR Q
  by_cases X:f m=[]
  .-- nothing so far
   cases p9 r,l,y0,hv;let z0:l≠0:=by rcases y0 with rfl|rfl <;> decide
   let x0:l*l=1:=by rcases y0 with rfl|rfl <;> rfl
   refine ext (df r) #v[mI,lr] (.inl #[X,rfl]) (mJ nr) (λz=>#[X,?_]) λQ=>?_
   .by_cases y:r=[]
    .exact y
    .exact Zq z (DC y)
   .let r0:r≠[]:=λy=>Q (by rw[y];rfl);refine#[kO nr r0,λz hz=>?_,bj m []++[[l]],by simp,λu d=>?_,λi I u C d n=>?_,λs hs h=>?_,λh nh E M H hh=>?_,M,M,nM,nM,H r0,lM,lM,λz hz=>(bM z hz).mono (),bM,#[[l],λn=>?_],#[[l],λn=>?_],[],[l],1,(),λn=>?_]
    .cases p7 r,y1,u0,hc;calc cP (xs:=df r) (P:=λz=>Bd (b+14*D+8) z) (λj=>?_) z hz;rw[hc];let:=cV (P:=λz=>Bd (b+14*D+8) z) (br r0) (Bd.zero _) j;rcases u0 with rfl|rfl
     .rw[cL];exact this
     .rw[show (-1:Y)*Z r j=- Z r j by lk];exact this.neg
    .rcases b5.mp d with y|y
     .rw[ND y];exact bH
     .rw[bZ.mp y];exact e7 z0
    .by_cases y:i<m
     .rw[dH (⇑y),ke,Zt y]at d
      cases d
      rw[fz X i I y C];simp[J]
     .let hi:=(a_.mp d).1;let e:i=m:=by simp at hi;lk
      subst e;rw[er]at C;cases C;rw[dQ ⋯]at d;simp at d;subst d;rw[hv];let:J n [l]=l:=by simp[J]
      rw[this];grind
    .let:=h [l] ⋯ 0;let e:Z [l] 0=l:=rfl;rw[e]at this;let E:(s:Y).8∣l.8:=oJ.mpr this;let h3:l.8=1:=by rcases y0 with rfl|rfl <;> rfl
     rw[h3,d_]at E;let:=Nat.dvd_one.mp E;let:=hs.1;lk
    .obtain⟨v,j0⟩:=hh [l] ⋯;let:=Tv nh (fL H z0) (v:=v) λn=>by rw[<-j0 n];simp[J]
     lk
    .rw[vM,hv];let:J n [l]=l:=by simp[J]
     rw[this];generalize J n F=x;generalize J n r=y;let e:x*(l*y)*l=(l*l)*(x*y):=by grind
     rw[e,x0,cL]
    .rw[vM,hv];let:J n [l]=l:=by simp[J]
     rw[this];generalize J n F=x;generalize J n r=y;let e:x*(l*y)*l=(l*l)*(x*y):=by grind
     rw[e,x0,cL]
    .rw[vM,hv];let:J n [l]=l:=by simp[J]
     rw[this];let e0:J n ([]:aa)=0:=rfl;rw[e0];grind
  .cases fn X,g1,g2,o,u1,u2,u3,u4,u5,A,B,mp;clear fn;by_cases z2:r=[]
   .let eu:df (f m)=f m:=by unfold df;rw[N λh=>()]
    refine ext (f m) (fl m) (.inr (.inl #[X,z2,eu.symm])) nf (λz=>Zq z X) λ_=>#[g1,g2,o++[[]],by simp[u1],λu d=>?_,λi I u C d n=>?_,λs hs h=>u4 s hs λu d=>h u (iE _ d),λh nh E M H hh=>u5 h nh E M H λu d=>hh u (iE _ d),A,B,mp.up ()]
    .rcases b5.mp d with y|y
     .exact u2 u y
     .rw[bZ.mp y];exact bH
    .by_cases y:i<m
     .rw[dH ()]at d;exact u3 i I u C d n
     .let hi:=(a_.mp d).1;let e:i=m:=by simp at hi;lk
      subst e;rw[er]at C;cases C;rw[dQ (),u1,gE]at d;simp at d;subst d;rw[z2];simp[J]
   .let bk:(b+6*m+6)*D<=(b+6*k)*D:=fj _ ();obtain⟨R,a,c,A',ci,nR,R0,tR,na,nc,va,vc,⟨U,W,m',k0,bz⟩,hp,n0⟩:=TX nF F0 nf X nr z2 nM vM lM bM hD (fl m) (λz hz=>(g2 z hz).mono ()) mp ();let c0:c≠[]:=λz=>z2 (aZ nr bH λn=>by rw[vc,z];simp[J]);let lR:R.9<=D+1:=by
     let h1:=(dr nR nc R0 c0).1;let E:pdL R c=r:=aZ (bJ _ _) nr λn=>by rw[aG,vc]
     rw[E]at h1;let:c.9≠0:=λz=>c0 (b7 z);lk
    refine ext R lR ci nR (λz=>Zq z R0) λ_=>#[tR,iW (e:=R) (t:=pdL F c) nR nM (H z2) hD lM lR bM (λn=>by rw[vM,vc,aG];grind),o.map (pdL a)++[c],by simp[u1],λu d=>?_,λi I u C d n=>?_,λs hs h=>?_,λh nh E M H hh=>?_,A',M,by rw[show 6*(m+1)=6*m+6 by lk];calc n0]
    .rcases b5.mp d with y|y
     .cases b8.mp y,v,_,rfl;exact bJ _ _
     .rw[bZ.mp y];exact nc
    .by_cases y:i<m
     .rw[dH (by simp;lk),a7]at d;cases e_.mp d,v,hv,rfl;rw[aG,u3 i I v C hv n,va];grind
     .let hi:=(a_.mp d).1;let e:i=m:=by simp at hi;lk
      subst e;rw[er]at C;cases C;rw[dQ (by simp[u1])]at d;simp[u1]at d;subst d;exact vc n
    .by_cases y:∀j,(s:Y)∣Z a j
     .exact hp s hs y (h c ⋯)
     .calc u4 s hs λu d=>?_;rcases pO hs (f:=Z a) (g:=Z u) λk=>by rw[<-mL];exact h (pdL a u) (iE _ (b8.mpr #[u,d,rfl])) k with z|z
      .exact Zq z y
      .exact z
    .calc u5 h nh E (m'*M) (fL k0 H) λu d=>?_;cases hh (pdL a u) (iE _ (b8.mpr #[u,d,rfl])),v1,h1;obtain⟨v2,x1⟩:=hh c ⋯;calc#[cq (bI U v1) (bI (bI W u) v2),λn=>?_];let e1:=h1 n;let e2:=x1 n;rw[aG]at e1;rw[d8,cG,cG,cG,<-bz n];generalize J n U=p at *;generalize J n W=q at *;generalize J n u=x at *;generalize J n a=y at *;generalize J n c=z at *;generalize J n h=k at *;generalize J n v1=a1 at *;generalize J n v2=a2 at *;let:(p*y+q*z)*M*x=p*(M*(y*x))+q*x*(M*z):=by grind
     rw[this,e1,e2];grind
section
def KS {α:Type}(d:α)(xs:G α):(aT xs.9).map (λs=>xs.getD s d)=xs:=by
 calc h8 ⋯ λi b a=>?_;rw[cZ,ki,aD,aq a];rfl
def sT (g:ae->O)(XW:aB)(q:ae):Nat:=sS g XW q XW.9+g q
def xF:sS g XW q XW.9=(XW.map g).sum:=by
 rw[xx]
 conv=>rhs;rw[<-KS ([]:ae) XW]
 rw[iF];rfl
def DS:sT g XW q=((XW++[q]).map g).sum:=by
 unfold sT;rw[xF,aY,gX];simp
def TY (h:O->O)(t:O):∀k,dgS h k t<=((aT k).map h).sum:=λk=>by
 unfold dgS
 induction k with
 |zero=>simp
 |succ k ih=>
  rw[gM,aY,aY,gX,gX,jy,jy,lH,lH]
  split <;> lk
def T2 {XW:aB}{t:O}(a:t<=XW.9):sS g XW q t<=sT g XW q:=by
 by_cases z:t=XW.9
 .rw[z];unfold sT;lk
 .rw[xw ()];unfold sT;rw[xx];let:=TY (λs=>g (XW.getD s [])) t XW.9;lk
def T3 {XW:aB}{few:aE}{i j t:O}(nd:few.Nodup)(d:∀x∈few,x<XW.9)(b:few[i]?=W j)(l:t<=i):∃x,x<XW.9/\sS g ((few.take i).map λi=>XW.getD i []) (XW.getD j []) t<=sS g XW q x:=by
 let hi:=(a_.mp b).1;let lt:(few.take (i+1)).9=i+1:=by rw[cB];lk
 let a:t<(few.take (i+1)).9:=()
 let c:∀x∈few.take (i+1),x<XW.9:=λx hx=>d x (gU hx);let e:=xz (g:=g) (q:=q) (nd.sublist (yd (i+1) few)) c a;calc#[_,c _ (cD a),aP ?_ e];rw[xw (XW:=(few.take (i+1)).map λi=>XW.getD i []) #v[af,a]];calc aP ?_ (zdc _ _);unfold sS;let f:few.take (i+1)=few.take i++[j]:=by rw[dI,b];rfl
 let h:(few.take i).map (λi=>XW.getD i [])++[XW.getD j []]=(few.take (i+1)).map λi=>XW.getD i []:=by rw[f,aY];rfl
 let k:((few.take i).map λi=>XW.getD i []).9+1=((few.take (i+1)).map λi=>XW.getD i []).9:=by rw[af,af,lt,cB];lk
 rw[h,k];calc aC _
structure PF (w L b l B D β:O):Prop where
 w5:w<=5
 L1:1<=L
 Ll:L<=2 ^ l
 L40:L<=40
 b0:0<b
 b1:(b+10*L+3)*7+1<=4000
 b2:b<=1000
 b3:(w+2)*(2*B+2)<=900
 pl:97+B*(w+1)<512
 D20:D<=20
 big:6*(2*D+1)+(β+6*(w+1))*D+β * D+(β+6*(w+1))+β+(β+14*D+8)+1<=4480
 pls:w*D+D<B
def VqF (w L b l D β:O)(XW:aB)(q:ae):Prop:=(∀v∈XW,v.9=w/\∀f∈v,S f/\f.9<=L/\∀c∈f,Bd b c)/\q.9=w/\(∀f∈q,S f/\f.9<=L/\∀c∈f,Bd b c)/\sT dv XW q<=D/\∀t,t<=XW.9->sS (λv=>l+bv v) XW q t+3*XW.9+4<=β
def UnB (l:O)(XW:aB)(q ws:ae):Prop:=NF ws/\∃F:aa,S F/\F≠[]/\∀t,t<=XW.9->∃M:aa,S M/\(∀n,J n M=J n F*J n (ws.getD t []))/\M.9<=sS dv XW q t+1/\∀z∈M,Bd (sS (λv=>l+bv v) XW q t+3*XW.9+4) z
def RlF (w D g l:O)(XW:aB)(q ws:ae):Prop:=RlG w D g XW q ws/\UnB l XW q ws
variable {w L b l B D β:O}{XW:aB}{cs:aE}{q:ae}{pl p:Y}
def VqF.vb (P:PF w L b l B D β)(h:VqF w L b l D β XW q)(hk:XW.9<=5):VB w XW L b:=#[λv a=>(h.1 v a).1,λv a=>(h.1 v a).2,(),by let:=P.w5;lk,P.b0]
def VqF.vbq (P:PF w L b l B D β)(h:VqF w L b l D β XW q)(hk:XW.9<=5):VB w (XW++[q]) L b:=by
 let c:=h.vb P hk;refine#[λv a=>?_,λv a=>?_,by simp;lk,by let:=P.w5;lk,P.b0]
 .rcases b5.mp a with z|z
  .exact c.wid v z
  .rw[bZ.mp z];exact h.2.1
 .rcases b5.mp a with z|z
  .exact c.nml v z
  .rw[bZ.mp z];calc h.2.2.1
def rdw (w:O)(r:Rp):Nat:=mxl ((aT w).map λc=>(r c).9)-1
theorem T4 {v:ae}(a:v.9=w)(t:O):rdw w (dN w v t)=dv v:=by
 unfold rdw dv;congr 2;refine h8 (by simp[a]) λi b c=>?_;let hi:i<w:=by simpa using b
 rw[cZ,ki,cZ];unfold dN;rw[Zt hi,aD,aq ()];rfl
def KT {r:Rp}{c:O}(a:c<w):(r c).9<=rdw w r+1:=by
 let:=xC (b8.mpr #[c,eN.mpr a,U]:(r c).9∈(aT w).map λc=>(r c).9);unfold rdw;lk
def KU (W:∀v∈XW,v.9=w):g_ (rdw w) (cY w XW)=(XW.map dv).sum:=by
 unfold g_ cY;rw[iF]
 conv=>rhs;rw[<-KS ([]:ae) XW]
 rw[iF];congr 1;calc gf λi hi=>T4 (W _ (mem_getD (eN.mp hi))) i
def T5 (a:Rp->O)(l:G Rp)(i:O):g_ a (l.take i)<=g_ a l:=by
 conv=>rhs;rw[<-qN i l]
 unfold g_;rw[aY,gX];lk
theorem KY (W:∀v∈XW,v.9=w)(nml:∀v∈XW,∀f∈v,S f){r:Rp}(a:r∈cY w XW)(c:O):S (r c):=by
 unfold cY at a;cases b8.mp a,t,e,rfl;let b:=mem_getD (d:=([]:ae)) (eN.mp e);unfold dN
 split
 .rename_i h;exact nml _ b _ (mem_getD (d:=([]:aa)) #v[W _ b,h])
 .split
  .exact e7 ()
  .calc bH
theorem DT (W:∀v∈XW,v.9=w)(nml:∀v∈XW,∀f∈v,S f)(hk:XW.9<=w)(u:cs.9=XW.9)(h:∀c∈cs,c<w)(pv:Piv w XW cs p XW.9):∃d:aa,S d/\d≠[]/\d.9<=1+XW.9*(XW.map dv).sum/\∀n:Y,J n d≠0->Piv w XW cs n XW.9:=by
 let tb:=kQ W _ (aC _) () pv;let E:(cY w XW).9=XW.9:=by unfold cY;rw[af,im]
 let F:∀i,i<=XW.9->(mnP w XW cs i).9<=(XW.map dv).sum+1:=λi hi=>by
  let:=qk (rdw w) (cr cs i) ((cY w XW).take i) λr H c x=>by
   let j:=gU H;let k:c<w:=by
    unfold cr at x;exact h c (gU (mX.mp x))
   exact#[KY W nml j c,KT k]
  let e:=T5 (rdw w) (cY w XW) i;rw[KU W]at e;unfold mnP;lk
 let m:∀i,i<=XW.9->mnP w XW cs i≠[]:=λi hi z=>tb.1 i hi (by rw[<-xn W (),z];rfl);let o:∀i,i<=XW.9->S (prP w XW cs i)/\prP w XW cs i≠[]/\(prP w XW cs i).9<=1+i*(XW.map dv).sum/\∀n:Y,J n (prP w XW cs i)≠0->∀l,l<=i->mi (cK w XW n) cs l≠0:=λi=>by
  induction i with
  |zero=>intro _;calc#[e7 (),by simp[prP],by simp[prP],λn _ l u=>by rw[show l=0 by lk,pR];decide]
  |succ i ih=>
   intro hi;cases ih (),b,q,C,s;let nm:=iV (cr cs (i+1)) ((cY w XW).take (i+1));refine#[bJ _ _,d9 b nm q (m _ hi),?_,λn a l u=>?_]
   .let:=p8 b nm;let:=F (i+1) hi;unfold mnP at this;show (pdL (prP w XW cs i) (mnP w XW cs (i+1))).9<=_;unfold mnP;rw[il,gD];lk
   .let e:J n (prP w XW cs (i+1))=J n (prP w XW cs i)*J n (mnP w XW cs (i+1)):=aG _ _ _;rw[e]at a;by_cases z:l<=i
    .exact s n (λy=>a (by rw[y];simp)) l z
    .rw[show l=i+1 by lk,<-xn W ()];exact λy=>a (by rw[y];simp)
 cases o XW.9 (aC _),b,q,C,s;calc#[_,b,q,C,λn a=>DL W _ (aC _) () (s n a)]
theorem T6 (W:∀v∈XW++[q],v.9=w)(f:∀c∈cs,c<w){N:Y}(h:qd (XW++[q]) cs N):N<=((sT dv XW q:O):Y):=by
 cases h,bv,r,m,s,u,H,I,z,C,M;let ev:bv=((XW++[q]).map λv=>mx (cs.map λc=>(v.getD c []).9-1)).map λx:O=>(x:Y):=by
  calc h8 #v[af,af,s] λi a E=>?_;let hi:i<(XW++[q]).9:=by rw[s]at a;exact a
  rw[cZ,cZ,xk (H i bv[i] _ (aq a) (aq hi))];unfold i7;rw[iF];rfl
 let F:r=(cs.map λc=>mx ((XW++[q]).map λv=>(v.getD c []).9-1)).map λx:O=>(x:Y):=by
  calc h8 #v[af,af,u] λi a E=>?_;let hi:i<cs.9:=by rw[u]at a;exact a
  rw[cZ,cZ,xk (I i r[i] _ (aq a) (aq hi))];unfold i8;rw[iF];rfl
 let j:=ZL zb2 ev;let sc:=ZL zb2 F;rw[Ko]at j sc;generalize P:(XW++[q]).map (λv=>mx (cs.map λc=>(v.getD c []).9-1))=k at ev j;generalize hC:cs.map (λc=>mx ((XW++[q]).map λv=>(v.getD c []).9-1))=us at F sc;let Q:∃b:O,m=(b:Y)/\b∈k/\∀x∈k,b<=x:=by
  rw[ev]at z C;cases b8.mp z,b,l,rfl;exact#[b,U,l,λx hx=>by let:=C _ (b8.mpr #[x,hx,U]);lk]
 cases Q,b,rfl,n,R;let X:=DK n;let le:k.sum<=sT dv XW q:=by
  rw[DS,<-P];let:∀e:aB,(∀v∈e,v∈XW++[q])->(e.map λv=>mx (cs.map λc=>(v.getD c []).9-1)).sum<=(e.map dv).sum:=λe=>by
   induction e with
   |nil=>intro _;simp
   |cons v e ih=>
    intro hx;let E:=ih λy hy=>hx y (eQ _ hy);let a:mx (cs.map λc=>(v.getD c []).9-1)<=dv v:=DJ λy hy=>by
     cases b8.mp hy,c,hc,rfl;let o:=W v (hx v e9);let:=KP (mem_getD (d:=([]:aa)) (show c<v.9 by rw[o];calc f c hc));lk
    rw[fo,fo,i2,i2];lk
  exact this _ λv o=>o
 rw[M,sc,j];split <;> lk
def PF.at (P:PF w L b l B D β)(i:StG w B XW cs pl)(hk:XW.9<=w){t:O}(c:t<=B):Bd 9 (pl+(t:Y)):=by
 cases i,_,_,_,d,e,_;let a:=P.pl;let f:(B:Y)*(XW.9:Y)<=(B:Y)*(w:Y):=oS () ();rw[EJ,mZ]at a;let h:((B*w:O):Y)=(B:Y)*(w:Y):=fX _ _;calc Bd.of_lt (m:=512) () ()
def T7 (P:PF w L b l B D β)(S:StG w B XW cs pl)(V:VqF w L b l D β XW q){c:O}(C:c<w)(E:c∉cs)(i:mkP w XW cs q c≠[]):∃N,N<=B/\(∀t:O,t<=N->TBd w (XW++[q]) (cs++[c]) (pl+(t:Y)))/\Piv w (XW++[q]) (cs++[c]) (pl+(N:Y)) (XW.9+1):=by
 let kw:=S.few;let w5:=P.w5;cases S,m,a,nd,F,H,pv;let o:=V.vb P ();let j:=V.vbq P ();let k1:XW.9+1<=w:=by
  let:=oo w 0 (c::cs) (mR.mpr #[E,nd]) λx hx=>⟨bh _,by
   rcases bV.mp hx with z|z
   .lk
   .let:=a x z;lk⟩
  rw[dO]at this;lk
 obtain⟨d,s,u,d3,I⟩:=DT o.wid (λv e f n=>(o.nml v e f n).1) kw m a pv;let sd:(XW.map dv).sum+dv q=sT dv XW q:=by unfold sT;rw[xF]
 let lc:(mkP w XW cs q c).9<=sT dv XW q+1:=by
  let:=qk (rdw w) (c::cr cs XW.9) (cY w (XW++[q])) λr M k h=>by
   let:k<w:=by
    rcases bV.mp h with z|z
    .lk
    .exact a k (DO z)
   exact#[KY j.wid (λv e f n=>(j.nml v e f n).1) M k,KT this]
  rw[KU j.wid,<-DS]at this;unfold mkP;exact this
 let y:Nml (mkP w XW cs q c):=iV _ _;let Q:=d9 s y u i;let R:(pdL d (mkP w XW cs q c)).9<=B+1:=by
  let h1:=(dr s y u i).1;let V3:=V.2.2.2.1;let h2:XW.9*(XW.map dv).sum<=w*D:=fq kw ();let:=P.pls;lk
 cases Kb (bJ d (mkP w XW cs q c)) Q pl R,N,X,e;rw[aG]at e;let v1:J (pl+(N:Y)) d≠0:=λz=>e (by rw[z];simp);let v2:J (pl+(N:Y)) (mkP w XW cs q c)≠0:=λz=>e (by rw[z];simp);let pn:=I _ v1;refine#[N,X,λt ht=>j.tbd (P.at #[m,a,nd,F,H,pv] kw ()) P.b1 (by let:=P.L40;lk) P.b2 (λk h=>?_) (by simp[m]),J8 m pn ?_]
 .rcases b5.mp h with z|z
  .exact a k z
  .rw[bZ.mp z];exact C
 .rw[DH j.wid kw () pn];calc v2
def DU (P:PF w L b l B D β)(V:VqF w L b l D β XW q)(kw:XW.9<=w)(a:∀c∈cs,c<w){t:O}(d:t<=XW.9):(mkP w XW cs q (w+t)).9<=D+1/\∀z∈mkP w XW cs q (w+t),Bd β z:=by
 let w5:=P.w5;let e:=V.vbq P ();cases V,_,_,_,m,j;let own:=KR (l:=l) (w:=w) (XW:=XW) (q:=q) (cs:=cs) (λv h=>#[e.wid v h,λf i=>#[(e.nml v h f i).1,aP (e.nml v h f i).2.1 P.Ll]]) () a d;let n:=T2 (g:=dv) (XW:=XW) (q:=q) d;calc#[(),λz k=>(own.2 z k).mono (j t d)]
def T8 (P:PF w L b l B D β)(S:StG w B XW cs pl)(V:VqF w L b l D β XW q):∃(gs:ae)(Pn:O)(f:O->aa)(C:ae)(p0:aa)(t0:Y),OcOk w XW cs q gs Pn/\Pn<=B/\(∀N,qd (XW++[q]) cs N->0<=N/\N<60/\(∀g∈gs,(g.9:Y)<=N+1)/\N<((plc w XW cs Pn).9:Y))/\
  ((∀p∈gs,p.9<=64/\Nml p/\∀c∈p,Bd 5000 c)/\(∀i,(f i).9<=64)/\f 0=[]/\(∀i r,gs[i]?=Zz r->fJ (f i) r (f (i+1)))/\gs.getLast?=Zz (p0++[t0])/\f gs.9≠[]/\Nml (f gs.9)/\(∀c∈f gs.9,Bd 8000 c)/\C.9=gs.9/\(∀(i:O)(p q:aa),gs[i]?=Zz p->C[i]?=Zz q->Nml q/\Div p (gZ (decide (t0<0)) (f gs.9)) q))/\
  FcOk w (XW++[q]) C/\((∀c,c<w->c∉cs->fI (XW++[q]) C c (XW.9+1)=[])->RlF w D (β+14*D+8) l XW q C)/\
  ∀c,c<w->c∉cs->fI (XW++[q]) C c (XW.9+1)≠[]->∃N,N<=B/\(∀t:O,t<=N->TBd w (XW++[q]) (cs++[c]) (pl+(t:Y)))/\Piv w (XW++[q]) (cs++[c]) (pl+(N:Y)) (XW.9+1):=by
 let kw:=S.few;let w5:=P.w5;let S0:=S;cases S,hl,E,nd,p1,p2,pv;let B0:=V.vb P ();let B1:=V.vb P ();let Bq:=V.vbq P ();let W:=Bq.wid;let D20:=P.D20;let big:=P.big;let bB:∀n:O,n<B->Bd 9 (n:Y):=λn hn=>Bd.of_lt (m:=512) (by let:=P.pl;let:B<=B*(w+1):=h_ _ ();lk) ();obtain⟨d,d1,d2,d3,d4⟩:=DT B0.wid (λv hv f R=>(B0.nml v hv f R).1) kw hl E pv;let pm:=S_ (w:=w) (XW:=XW) (cs:=cs) d1 d2 (Pn:=B) λn _ hn=>d4 n hn;let sd:(XW.map dv).sum+dv q=sT dv XW q:=by unfold sT;rw[xF]
 let V3:=V.2.2.2.1;let m2:XW.9*(XW.map dv).sum<=w*D:=fq kw ();let pls:=P.pls;obtain⟨gs,z1⟩:∃gs,gs=(aT (XW.9+1)).map λt=>mkP w XW cs q (w+t):=#[_,rfl]
 let k0:gs.9=XW.9+1:=by rw[z1,af,im]
 let I:∀t,t<=XW.9->gs[t]?=Zz (mkP w XW cs q (w+t)):=λt Q=>by rw[z1,a7,oU ()];rfl
 let v1:∀g∈gs,∃t,t<=XW.9/\g=mkP w XW cs q (w+t):=λg X=>by
  rw[z1]at X;cases b8.mp X,t,Q,rfl;exact#[t,by let:=eN.mp Q;lk,rfl]
 let sz:∀g∈gs,Nml g/\g.9<=D+1/\∀z∈g,Bd β z:=λg X=>by
  cases v1 g X,t,Q,rfl;exact#[iV _ _,DU P V kw E Q]
 obtain⟨f,f0,fl,fs,nf,fz,fn⟩:=xE (gs:=gs) (Ms:=gs) (F:=[1]) (D:=D) (b:=β) (k:=w+1) (e7 ()) ⋯ D20 () rfl (λi r M h1 h2=>by
  rw[h1]at h2;cases h2;cases sz r (cH h1),a1,a2,a3;exact#[a1,a1,λn=>by simp[J],a2,a3]) big gs.9 (aC _)
 let tb:=kQ B0.wid _ (aC _) () pv;let x0:mkP w XW cs q (w+XW.9)≠[]:=λz=>tb.1 XW.9 (aC _) (by rw[<-Tw W kw,z];rfl);let F0:f gs.9≠[]:=λz=>x0 (fz z XW.9 _ () (I _ (aC _)));cases fn F0,tF,bF,us,u1,u2,u3,u4,u5,u6;clear fn u6;obtain⟨F,hF⟩:∃F,F=f gs.9:=#[_,rfl]
 rw[<-hF]at nf F0 tF bF u3;obtain⟨p0,t0,ev⟩:∃p0 t0,mkP w XW cs q (w+XW.9)=p0++[t0]:=by
  cases z:(mkP w XW cs q (w+XW.9)).getLast? with
  |none=>rw[yu]at z;calc Zq z x0
  |some a=>exact#[_,a,(qS.mp z).choose_spec]
 obtain⟨o,j1⟩:∃o:Y,o=if decide (t0<0)=K' then -1 else 1:=#[_,rfl]
 let m1:o=1\/o=-1:=by rw[j1];split <;> simp
 let x2:o≠0:=by rcases m1 with z|z <;> rw[z] <;> decide
 let z0:o*o=1:=by rcases m1 with z|z <;> rw[z] <;> rfl
 obtain⟨C,x1⟩:∃C,C=us.map λu=>u.map λz=>o*z:=#[_,rfl]
 let y2:C.9=gs.9:=by rw[x1,af,u1]
 let j0:∀t,t<=XW.9->∃u,us[t]?=Zz u/\Nml u/\C[t]?=Zz (u.map λz=>o*z)/\C.getD t []=(u.map λz=>o*z)/\∀n,J n (mkP w XW cs q (w+t))=J n F*J n u:=λt Q=>by
  let h1:t<us.9:=()
  let h2:C[t]?=Zz ((us[t]).map λz=>o*z):=by rw[x1,a7,aq h1];rfl
  exact#[us[t],aq h1,u2 _ (cD h1),h2,by rw[aD,h2];rfl,u3 t _ _ (I t Q) (aq h1)]
 let z2:∀r∈C,Nml r/\r.9<=D+1/\∀c∈r,Bd (β+14*D+8) c:=λr hr=>by
  cases di.mp hr,t,Q,rfl;cases j0 t (),u,_,nu,h3,_,h5;rw[aq Q]at h3;rw[Zv h3];let bu:u.9<=D+1/\∀z∈u,Bd (β+14*D+8) z:=by
   by_cases z:u=[]
   .rw[z];exact#[by simp,λz hz=>by simp at hz]
   .let g0:=sz _ (cH (I t ()));let eg:pdL F u=mkP w XW cs q (w+t):=aZ (bJ _ _) g0.1 λn=>by rw[aG,h5]
    let g1:mkP w XW cs q (w+t)≠[]:=by rw[<-eg];exact d9 nf nu F0 z
    let h6:=(dr nf nu F0 z).1;rw[eg]at h6;let:F.9≠0:=λy=>F0 (b7 y);let lu:u.9<=D+1:=by let:=g0.2.1;lk
    exact#[lu,iW (t:=F) nu g0.1 g1 D20 g0.2.1 lu g0.2.2 λn=>by rw[h5,cW]]
  calc#[gx x2 nu,#v[af,bu.1],λc H=>?_];cases b8.mp H,y,hy,rfl;rcases m1 with z|z
  .rw[z,cL];exact bu.2 y hy
  .rw[z,show (-1:Y)*y=-y by lk];exact (bu.2 y hy).neg
 let v2:NF C:=λh nh hh M M0 hv=>u5 h nh hh M M0 λu hu=>by
  obtain⟨v,j2⟩:=hv (u.map λz=>o*z) #v[x1,b8.mpr #[u,hu,rfl]];calc#[v.map λz=>o*z,λn=>?_];let h1:=j2 n;rw[aJ]at h1 ⊢;let:M*J n u=(o*o)*(M*J n u):=by rw[z0,cL]
  rw[this];grind
 let k2:UnB l XW q C:=⟨v2,F.map λz=>o*z,gx x2 nf,λz=>F0 (kf.mp z),λt Q=>by
  cases j0 t Q,u,_,nu,_,h4,h5;let own:=KR (l:=l) (w:=w) (XW:=XW) (q:=q) (cs:=cs) (λv hv=>#[Bq.wid v hv,λf R=>#[(Bq.nml v hv f R).1,aP (Bq.nml v hv f R).2.1 P.Ll]]) () E Q;calc#[_,iV _ _,λn=>?_,own.1,own.2];rw[h4,aJ,aJ];let e:=h5 n;generalize J n F=x at *;generalize J n u=y at *;let e2:o*x*(o*y)=(o*o)*(x*y):=by grind
  rw[e2,z0,cL];calc e⟩
 let x3:β+14*D+8<=4480:=()
 let col:∀c,c<w->∀n,J n F*aX (XW.9+1) (λt=>J n (((XW++[q]).getD t []).getD c [])*J n (C.getD t []))=o*J n (mkP w XW cs q c):=λc H n=>by
  rw[<-TB W kw H n,<-kF,<-kF];calc fC λt Q=>?_;cases j0 t (),u,_,_,_,h4,h5;rw[h4,aJ,h5];grind
 let y1:∀c,c<w->mkP w XW cs q c=[]->∀n,aX (XW.9+1) (λt=>J n (((XW++[q]).getD t []).getD c [])*J n (C.getD t []))=0:=λc H hz n=>by
  let h1:fI (XW++[q]) C c (XW.9+1)=[]:=by
   by_cases z:fI (XW++[q]) C c (XW.9+1)=[]
   .exact z
   .calc Zq (aZ (bJ F (fI (XW++[q]) C c (XW.9+1))) bH λn=>?_) (d9 nf (Kv _ _ _ _) F0 z);rw[aG,qm,col c H n,hz];simp[J]
  rw[<-qm,h1];rfl
 refine#[gs,B,f,C,p0,t0,#[(),kw,W,E,(),k0,by let:=P.pl;let:B<=B*(w+1):=h_ _ ();lk,λn hn=>B1.tbd (bB n hn) P.b1 (by let:=P.L40;lk) P.b2 E (),λn hn pn=>B1.low (bB n hn) P.b1 E (aC _) () pn V.2.1 λf R=>(V.2.2.1 f R).2,#[by rw[V.2.1];lk,λf R=>#[by let:=(V.2.2.1 f R).2.1;let:=P.L40;lk,λc H=>((V.2.2.1 f R).2.2 c H).mono P.b2]],λn hn pn i g X=>?_,λg X=>?_],aC _,λN hN=>?_,#[λg X=>?_,λi=>by let:=fl i;lk,f0,λi r hr=>fs i r (a_.mp hr).1 hr,?_,#v[<-hF,F0],#v[<-hF,nf],λc H=>(bF c #v[hF,H]).mono (),y2,λi a r ha hr=>?_],#[by rw[y2,k0];simp,by simp;lk,(),W,λv hv f R=>?_,λr hr=>?_],λhz=>?_,λc H hn g2=>?_]
 .let hi:i<=XW.9:=by let:=(a_.mp X).1;lk
  rw[I i hi]at X;rw[<-Zv X];exact DH W kw () pn (w+i)
 .cases v1 g X,t,Q,rfl;calc#[iV _ _,λn hn=>?_];calc (ol (k:=β) (l:=9) (bB n hn) _ (DU P V kw E Q).2).mono ?_;let:=fE (9+1) (DU (cs:=cs) P V kw E Q).1;lk
 .obtain⟨n0,n1,n2⟩:=Tp (L:=L) W (λv hv f R=>#[(Bq.nml v hv f R).1,(Bq.nml v hv f R).2.1]) kw hl E hN;let n3:=T6 W E hN;calc#[n0,(),λg X=>?_,()];cases v1 g X,t,Q,rfl;exact n2 t Q
 .let:=sz g X;exact#[(),this.1,λc H=>(this.2.2 c H).mono ()]
 .rw[gC,k0,zcr,I _ (aC _),ev]
 .let hi:i<=XW.9:=by let:=(a_.mp ha).1;lk
  rw[I i hi]at ha;rw[<-Zv ha];cases j0 i hi,u,_,nu,h3,_,h5;rw[h3]at hr;rw[<-Zv hr];calc#[gx x2 nu,jm.mpr λn=>?_];rw[<-hF,Td,<-j1,aJ,h5];grind
 .cases Bq.nml v hv f R,_,a2,a3;exact#[by let:=P.L40;lk,λc H=>(a3 c H).mono P.b2]
 .cases z2 r hr,_,a2,a3;exact#[(),λc H=>(a3 c H).mono ()]
 .refine#[#[by rw[y2,k0],z2,?_,λs hs h=>u4 s hs λu hu j=>?_,λc H n=>?_],k2]
  .cases j0 XW.9 (aC _),u,_,nu,_,h4,h5;rw[h4];let eg:pdL F u=p0++[t0]:=aZ (bJ _ _) #v[<-ev,iV _ _] λn=>by rw[aG,<-h5,ev]
   let u0:u≠[]:=λz=>by rw[z]at eg;let:=ZL ka eg;rw[show pdL F []=[] from aZ (bJ _ _) bH λn=>by rw[aG];simp[J]]at this;simp at this
   let tt:=(dr nf nu F0 u0).2;rw[eg]at tt;let e1:Z (p0++[t0]) ((p0++[t0]).9-1)=t0:=by unfold Z;simp
   rw[e1]at tt;obtain⟨v,y,rfl⟩:∃v y,u=v++[y]:=by
    cases z:u.getLast? with
    |none=>rw[yu]at z;calc Zq z u0
    |some a=>exact#[_,a,(qS.mp z).choose_spec]
   let e2:Z (v++[y]) ((v++[y]).9-1)=y:=by unfold Z;simp
   rw[e2]at tt;let y0:y≠0:=fO.mp nu y ⋯;refine#[v.map λz=>o*z,o*y,by simp,?_];rw[j1];generalize Z F (F.9-1)=lf at tF tt;by_cases z:t0<0
   .let:y<0:=by
     calc EM λh=>?_;let:=yo (EA tF) h;lk
    simp[z];lk
   .let:0<y:=by
     calc EM λh=>?_;let:=yq tF (show 0 < -y by lk);rw[qM]at this;lk
    simp[z];lk
  .let:=h (u.map λz=>o*z) #v[x1,b8.mpr #[u,hu,U]] j;rw[dg]at this;cases this,y,hy;let h1:Z u j=o*(o*Z u j):=by rw[<-cI,z0,cL]
   exact#[o*y,by rw[h1,hy];grind]
  .by_cases z:c∈cs
   .exact y1 c H (Kn z hl) n
   .let:=hz c H z;rw[<-qm,this];rfl
 .calc T7 P S0 V H hn λz=>g2 ?_;calc aZ (Kv _ _ _ _) bH λn=>?_;rw[qm,y1 c H z n];rfl
theorem KZ (P:PF w L b l B D β)(S:StG w B XW cs pl)(o:∀v∈XW,v.9=w/\∀f∈v,Nml f/\f.9<=L/\∀c∈f,Bd b c){few:aE}{j:O}(nd:few.Nodup)(E:∀i∈few,i<XW.9)(q:j<XW.9)(k:j∉few){ws:ae}(F:Nml u)(u0:u≠[])(h:∀c,c<w->∀n,aX few.9 (λt=>J n ((XW.getD (few.getD t 0) []).getD c [])*J n (ws.getD t []))+J n ((XW.getD j []).getD c [])*J n u=0):False:=by
 let kw:=S.few;let w5:=P.w5;cases S,r,a,_,p1,p2,pv;let W:∀v∈XW,v.9=w:=λv e=>(o v e).1;obtain⟨d,H,I,d3,M⟩:=DT W (λv e f Q=>((o v e).2 f Q).1) kw r a pv;cases Kb (bJ d u) (d9 H F I u0) 0 (Er _),N,_,m;rw[aG]at m;let R:J (0+(N:Y)) d≠0:=λz=>m (by rw[z];simp);let v2:J (0+(N:Y)) u≠0:=λz=>m (by rw[z];simp);generalize (0+(N:Y))=p at *;obtain⟨G,s⟩:∃G:b_,∀x,G x=cf few ((aT few.9).map λt=>J p (ws.getD t [])) x+if x=j then J p u else 0:=#[_,λ_=>rfl]
 let all:=Tq W () r (M _ R) (ms:=(aT XW.9).map G) ⋯ (λc y=>by
  rw[KF W (a c y)];let C:=h c (a c y) p;rw[KH nd E]at C;let X:aX XW.9 (λx=>G x*J p ((XW.getD x []).getD c []))=aX XW.9 (λx=>cf few ((aT few.9).map λt=>J p (ws.getD t [])) x*J p ((XW.getD x []).getD c []))+aX XW.9 (λx=>if x=j then J p ((XW.getD x []).getD c [])*J p u else 0):=by
   rw[<-pF];exact fC λx _=>by rw[s];split <;> grind
  rw[X,Ks q];calc C) (G j) (b8.mpr #[j,eN.mpr q,U])
 rw[s,xo _ _ _ k,Zt U]at all;lk
theorem DW (P:PF w L b l B D β):SpTh w B w (StG w B) (VqF w L b l D β) (RlF w D (β+14*D+8) l) where
 b3:=P.b3
 k18:=by let:=P.w5;lk
 st0:=#[U,by simp,ln,(),by simp,λi hi=>by simp at hi]
 stS:=λXW cs pl q c t E _ C hn k pv=>by
  cases E,hl,H,nd,p1,p2,_;refine#[by simp[hl],λc' x0=>?_,?_,(),?_,#v[cC,pv]]
  .rcases b5.mp x0 with z|z
   .exact H c' z
   .rw[bZ.mp z];exact C
  .exact kh.mpr #[nd,by simp,λa ha b' z1 z=>hn (by rw[bZ.mp z1]at z;rw[<-z];calc ha)]
  .let Q:((XW++[q]).9:Y)=(XW.9:Y)+1:=by simp
   rw[Q,jc];lk
 bd:=λXW cs pl q E m=>#[E.few,m.2.1,λf hf=>#[by let:=(m.2.2.1 f hf).2.1;let:=P.L40;lk,λc C=>((m.2.2.1 f hf).2.2 c C).mono P.b2]]
 tb:=λXW cs pl q E m=>by
  let kw:=E.few;let w5:=P.w5;let B1:=m.vb P ();let b9:=P.at E kw (bh B);let e0:pl+((0:O):Y)=pl:=()
  rw[e0]at b9;cases E,hl,H,nd,p1,p2,pv;exact#[B1.tbd b9 P.b1 (by let:=P.L40;lk) P.b2 H (),pv,B1.low b9 P.b1 H (aC _) () pv m.2.1 λf hf=>(m.2.2.1 f hf).2]
 hit:=λXW cs pl q c E m C h0=>by
  let kw:=E.few;let w5:=P.w5;let Bq:=m.vbq P ();let b9:=P.at E kw (bh B);let e0:pl+((0:O):Y)=pl:=()
  rw[e0]at b9;cases E,hl,H,nd,p1,p2,pv;refine#[λhm=>h0 ?_,Bq.tbd b9 P.b1 (by let:=P.L40;lk) P.b2 (λc' x0=>?_) (by simp[hl])]
  .rw[DH Bq.wid kw () pv,Kn hm hl];rfl
  .rcases b5.mp x0 with z|z
   .exact H c' z
   .rw[bZ.mp z];exact C
 oc:=λXW cs pl q E m _=>T8 P E m
 sub:=λXW cs pl q few E m fp o fl=>by
  let nd:few.Nodup:=fp.imp λh=>by lk
  cases id m,v2,u1,v1,j0,z0;let sub:∀g:ae->O,sT g (few.map λi=>XW.getD i []) q<=sT g XW q:=λg=>by
   let:=qo (g:=g) (q:=q) nd o;unfold sT;rw[af];lk
  refine#[#[KG m.1 o,u1,v1,aP (sub dv) j0,λt k=>?_],λi j R=>?_]
  .rw[af]at k ⊢;by_cases z:t<few.9
   .let h1:=xz (g:=λv=>l+bv v) (q:=q) nd o z;let h2:=z0 few[t] (by let:=o _ (cD z);lk);lk
   .let h1:=qo (g:=λv=>l+bv v) (q:=q) nd o;let h2:=z0 XW.9 (aC _);rw[show t=few.9 by lk];lk
  let j1:=cH R;let hj:=o j j1;let hi:=(a_.mp R).1;let k0:∀x∈few.take i,x<XW.9:=λx hx=>o x (gU hx);let hm:=mem_getD (d:=([]:ae)) hj;let n0:∀g:ae->O,sT g ((few.take i).map λi=>XW.getD i []) (XW.getD j [])<=sT g XW q:=λg=>by
   let h1:=qo (g:=g) (q:=q) (nd.sublist (yd (i+1) few)) λx hx=>o x (gU hx);let h2:sS g ((few.take (i+1)).map λi=>XW.getD i []) q (few.take (i+1)).9=sT g ((few.take i).map λi=>XW.getD i []) (XW.getD j []):=by
    let Q:(few.take (i+1)).9=((few.take (i+1)).map λi=>XW.getD i []).9:=by rw[af]
    rw[Q,xF,DS];let e2:few.take (i+1)=few.take i++[j]:=by rw[dI,R];rfl
    rw[e2,aY];rfl
   rw[h2]at h1;unfold sT at h1 ⊢;lk
  let lt:((few.take i).map λi=>XW.getD i []).9<=XW.9:=by rw[af,cB];lk
  refine#[#[KG m.1 k0,(m.1 _ hm).1,(m.1 _ hm).2,aP (n0 dv) j0,λt k=>?_],λws hR=>?_]
  .let m1:t<=i:=by rw[af,cB]at k;lk
   obtain⟨x,hx,h1⟩:=T3 (g:=λv=>l+bv v) (q:=q) nd o R m1;let h2:=z0 x ();lk
  .cases hR,#[h1,h2,#[p0,t0,h3,x1],h4,h5],_;rw[af]at h1 h3;refine KZ P E m.1 (few:=few.take i) (j:=j) (nd.sublist (yd _ _)) k0 hj (λhx=>?_) (ws:=ws) (u:=ws.getD (few.take i).9 []) (h2 _ (mem_getD ())).1 (by rw[h3];simp) λc C n=>?_
   .cases di.mp hx,t,k,et;rw[zcs]at et;let x2:t<i:=by rw[cB]at k;lk
    let:=qV.mp fp t i () hi x2;let e2:=(a_.mp R).2;lk
   .rw[<-KI];exact h5 c C n
 len:=λXW q ws hR=>hR.1.1
 up:=λXW cs pl q few ws E m fp o fl hR=>by
  let nd:few.Nodup:=fp.imp λh=>by lk
  cases hR,#[h1,h2,#[p0,t0,h3,x1],h4,h5],hB;rw[af]at h1 h3;cases Kx (ws:=ws) fp o few.9 (aC _),g1,g2,g3;rw[fY]at g2;let X:∀t,t<few.9->(spw XW.9 few ws few.9).getD (few.getD t 0) []=ws.getD t []:=λt k=>by
   let Q:few.getD t 0=few[t]:=by rw[aD,aq k];rfl
   rw[Q,aD,g1 t k k];rfl
  let u0:∀i,i<XW.9->i∉few->(spw XW.9 few ws few.9).getD i []=[]:=λi hi hn=>by rw[aD,g2 i hi hn];rfl
  let I:(spw XW.9 few ws few.9).getD XW.9 []=ws.getD few.9 []:=by rw[aD,g3];rfl
  cases hB,hN,F,nF,F0,hF;let z2:NF (spw XW.9 few ws few.9):=λh nh hh M M0 hv=>hN h nh hh M M0 λu hu=>by
   cases di.mp hu,t,k,rfl;let e:ws[t]=ws.getD t []:=by rw[aD,aq k];rfl
   rw[e];by_cases z:t<few.9
   .let:=o (few.getD t 0) (mem_getD z);rw[<-X t z];exact hv _ (mem_getD (by rw[i_];lk))
   .rw[show t=few.9 by lk,<-I];exact hv _ (mem_getD (by rw[i_];lk))
  let u2:UnB l XW q (spw XW.9 few ws few.9):=⟨z2,F,nF,F0,λi hi=>by
   let lf:few.9<=XW.9:=()
   by_cases z:i=XW.9
   .rw[z,I];cases hF few.9 #v[af,aC _],M,y0,y1,y2,y3;let s1:=qo (g:=dv) (q:=q) nd o;let s2:=qo (g:=λv=>l+bv v) (q:=q) nd o;rw[af]at y3;exact#[M,y0,y1,(),λc C=>(y3 c C).mono ()]
   .by_cases y:i∈few
    .cases di.mp y,t,k,rfl;let Q:few.getD t 0=few[t]:=by rw[aD,aq k];rfl
     rw[<-Q,X t k,Q];obtain⟨M,y0,y1,y2,y3⟩:=hF t (by rw[af];lk);let s1:=xz (g:=dv) (q:=q) nd o k;let s2:=xz (g:=λv=>l+bv v) (q:=q) nd o k;rw[af]at y3;exact#[M,y0,y1,(),λc C=>(y3 c C).mono ()]
    .rw[u0 i () y];exact#[[],bH,λn=>by simp[J],by simp,λc C=>by simp at C]⟩
  refine#[#[i_ _ _ _ _,λr hr=>?_,#[p0,t0,by rw[I,h3],x1],λs hs h=>h4 s hs λu hu=>?_,λc C n=>?_],u2]
  .cases di.mp hr,i,hi,rfl;rw[i_]at hi;let e0:(spw XW.9 few ws few.9)[i]'(#v[i_,hi])=(spw XW.9 few ws few.9).getD i []:=by rw[aD,aq #v[i_,hi]];rfl
   rw[e0];by_cases z:i=XW.9
   .rw[z,I];exact h2 _ (mem_getD ())
   .by_cases y:i∈few
    .cases di.mp y,t,k,rfl;let Q:few.getD t 0=few[t]:=by rw[aD,aq k];rfl
     rw[<-Q,X t k];exact h2 _ (mem_getD ())
    .rw[u0 i () y];exact#[bH,by simp,λc C=>by simp at C]
  .cases di.mp hu,t,k,rfl;let e0:ws[t]=ws.getD t []:=by rw[aD,aq k];rfl
   rw[e0];by_cases z:t<few.9
   .rw[<-X t z];exact h _ (mem_getD (by rw[i_];let:=o (few.getD t 0) (mem_getD z);lk))
   .rw[show t=few.9 by lk,<-I];exact h _ (mem_getD (by rw[i_];lk))
  .let h6:=h5 c C n;rw[KI,KH nd o]at h6;rw[wl,<-h6];congr 1
   .calc fC λx hx=>?_;rw[aD (l:=XW++[q]),dH hx,<-aD,cW];congr 1;by_cases y:x∈few
    .cases di.mp y,t,k,rfl;let Q:few.getD t 0=few[t]:=by rw[aD,aq k];rfl
     rw[Kr few _ nd ⋯ t k (⇑k),cZ,ki,<-X t k,Q]
    .rw[u0 x hx y,xo _ _ _ y];rfl
   .rw[I,aD (l:=XW++[q]),dQ (aC _),gE];rfl
end
def T9 {K:ao}(w B KM:O)(St:aB->aE->Y->Prop)(Vq:aB->ae->Prop)(Rl:aB->ae->ae->Prop):Sp:=λvs H Q _=>∃(A:Zs)(us:ap)(qs:aB),vs=[.ref A]/\SqL K H A (us.map L)/\VL K H us qs/\(∀q,qs[0]?=W q->q.9=w)/\qs≠[]/\(∀(i:O)(q:ae)(cs:aE)(pl:Y),qs[i]?=W q->St (qs.take i) cs pl->Vq (qs.take i) q)/\
 (∀(H':Hp)(i:O)(q:ae)(D:Zs)(bs:ap)(ws:ae)(cs:aE)(pl:Y),qs[i]?=W q->St (qs.take i) cs pl->Rl (qs.take i) q ws->Same H H'->H D=Zy->H' D=W (Y' (bs.map L))->LH H' bs ws->(∀b∈bs,H b=Zy)->D∉bs->Q (.ref D) H')/\
 (∀(H':Hp)(cs:aE)(pl:Y),St qs cs pl->Same H H'->Q .non H')
def T_ {P:Zb}{K:ao}{mg:ck}{base:ZN}(T:Tx K mg){w B I:O}{St:aB->aE->Y->Prop}(Z:SpTh w B I St Vq Rl):FnOk P wd K mg base CX0 (2*(I+2)+10) T.Xf.ax T.Xf.dx ["vectors"] (T9 (K:=K) w B I St Vq Rl):=by
 let F:=Ka (P:=P) (wd:=wd) (base:=base) T Z (I+2);refine T.Xf.Fx.ok wG (λr H Q E h=>?_) (λj0 A outer s H r Q E hr h=>?_)
 .cases h,A,us,d,rfl,_;rfl
 cases h,A,us,d,rfl,hA,hL,hw,ne,x0,q1,q2;refine#[_,s!"͘ʲ̶̓ʭŐɚƚƛ-ƜɣƝƞɭ̈ʮɦɰ͝ŐɚʜŐɚnɧoŎ-͂ŏ̂1ʋäɴ̷ɴʼ_",?_]
 let lu:=hL.len;let b3:=Z.b3;let l0:0<d.9:=cE.mpr ne
 w_up
 calc#[_,.inl hA,?_];rw[N (by rw[af];lk)]
 w_up
 let R:us[0]?=W us[0]:=aq ();let X:d[0]?=W d[0]:=aq l0;cases hL.get 0 _ _ R X,y0,a1,a2;let ew:(y0.map L).9=w:=by rw[af,a2.len,hw _ X]
 refine#[_,hA,_,jK (j:=0) (by rw[a7,R];rfl),_,rfl,_,.inl a1,?_];rw[ew];refine J_ λx dx Kp Cl Tb M H1 s1 m1 S1=>?_
 w_up
 obtain⟨Pv,f⟩:∃Pv:O->L2.St->Hp->Prop,∀i C H',Pv i C H'↔∃(r:ap)(k:G (Key×V))(M:ap)(m:aE)(pl:Y)(r2 r3:Zk V),C=[W (L A),W (L x),r2,r3]/\Spn T H' x dx Kp Cl Tb r k M w (d.take i) m pl/\St (d.take i) m pl/\(∀a∈M,H a=Zy)/\k.9<=i*(2*B+2)/\Same H H':=#[_,λ_ _ _=>Zj]
 refine#[#[_,s1.seq hA],kC (xs:=us.map L) Pv ((f _ _ _).mpr #[[],[],M,[],97,Zy,Zy,rfl,S1,Z.st0,m1,bh _,s1]) (λi C H' _ z=>by cases (f i C H').mp z,_,_,_,_,_,_,_,_,_,_,_,_,z;calc z.seq hA) ?_ ?_]
 .intro i v C H2 hv hp;cases (f _ _ _).mp hp,r,k,M,m,pl,r2,r3,rfl,S2,q,m2,l2,l;rw[a7]at hv;cases e_.mp hv,u,hu,rfl;let hi:i<d.9:=by let:=(a_.mp hu).1;lk
  let hq:d[i]?=W d[i]:=aq hi;cases hL.get i u _ hu hq,as,w1,w2;let vq:=x0 i _ m pl hq q;let iK:=(Z.bd _ _ _ _ q vq).1;rw[cB]at iK;let et:d.take (i+1)=d.take i++[d[i]]:=by rw[dI,hq];rfl
  let lb:i*(2*B+2)+(2*B+2)<=900:=by
   let:(i+1)*(2*B+2)<=(I+2)*(2*B+2):=fj _ ();rw[il,gD]at this;lk
  room;walk
  refine#[dx,_,S2.hx,U,x,dx,Kp,Cl,Tb,u,r,k,M,_,m,pl,as,d[i],rfl,S2,l.seq w1,w2.same l,q,vq,by rw[cB];lk,(),λH3 z0 n M3 c u0 S3 t3 kx ms mf l3=>?_,λH3 n M3 D bs ws S3 hR kx ms mf l3 k0 nD eD lD nb Db=>?_]
  .show if ¬V.non=V.non then _ else Pv (i+1) _ H3
   rw[N (λz=>z U)];let s3:Same H H3:=λy o e=>kx y o (λz=>by rw[m2 y z]at e;cases e) (l y o e);refine (f _ _ _).mpr #[z0,n,M3,_,u0,_,_,U,#v[et,S3],#v[et,t3],λa ha=>?_,by rw[il,gD];lk,s3];rcases mf a ha with h|h
   .exact m2 a h
   .exact l.free h
  .show if ¬L D=V.non then Q (L D) H3 else _
   rw[Zt (λz=>nomatch z)];exact q1 H3 i _ D bs ws m pl hq q hR (λy o e=>kx y o (λz=>by rw[m2 y z]at e;cases e) (l y o e)) (l.free nD) eD lD (λb hb=>l.free (nb b hb).2) Db
 intro C H2 hp;cases (f _ _ _).mp hp,r,k,M,m,pl,r2,r3,rfl,S2,q,m2,l2,l;rw[af,ii ()]at q
 room;walk
 calc q2 H2 m pl q l
def Ua (K:ao):Sp:=λvs H Q _=>∃(a:Zs)(xs:aa)(b:Y)(k l:O),vs=[.ref a,.int b]/\SqL K H a (xs.map B)/\xs.9<=64/\(∀x∈xs,Bd k x)/\Bd l b/\k+l*5000<=60000000/\eE H Q ((aw (bT b xs)).map B)
def xG:FnOk P w K mg base CX0 2 T.Wq.ax T.Wq.dx ["poly","by"] (Ua K):=by
 refine T.Wq.Fx.ok wx (λvs H Q E h=>?_) (λj0 A outer s H vs Q E hr h=>?_)
 .cases h,a,f,b,k,l,rfl,_;rfl
 cases h,a,f,b,k,l,rfl,hS,hl,hk,hb,hf,q;refine#[_,s!"ʍőɚ̧˷ɻ̄˨7őˁɾ͍̄ʥɻɴ͎:őˁöɪɲ÷ʢɧʐʅ˗ø͉ùɣúûü̂",?_]
 w_up
 refine#[_,.inl hS,λL hL=>?_]
 w_up
 refine#[_,.inl (Zw ai),by rw[af];lk,by rw[af];lk,?_];let e0:(((f.map B).9:O):Y)-1=(f.9:Y)-1:=by rw[af]
 let e1:((f.9:Y)-1).toNat=f.9-1:=()
 rw[e0,e1];clear e0 e1;obtain⟨Pv,o⟩:∃Pv:O->L2.St->Hp->Prop,∀i u n,Pv i u n↔∃r1 r2 pre d,u=[W (Z' a),W (B b),W (Z' L),r1,r2]/\n=upd H L (Y' ((pre++d).map B))/\pre.9=i/\pre.9+d.9=f.9/\
  bT b f=pre++iO b d.9 d/\∀y∈pre++d,Bd (k+(l+1)*(i*64)) y:=#[_,λ_ _ _=>Zj]
 refine ie Pv ((o _ _ _).mpr #[Zy,Zy,[],f,rfl,rfl,rfl,by simp,rfl,λy hy=>(hk y hy).mono ()]) ?_ ?_
 .intro low u n u0 M;cases (o _ _ _).mp M,r1,r2,pre,d,rfl,rfl,F,I,x,R;let el:(0:Y)+(low:Y)=(low:Y):=ij _
  room;simp![el]
  clear el;obtain⟨m,hm⟩:∃m,d.9=m+1:=#[d.9-1,()]
  let hy:((pre++d).map B).9=f.9:=by rw[af,cC];exact I
  calc#[_,.inl (Zw ai),(),(),?_];rw[hy];clear hy;calc#[pi () () () (),m,pj (),?_];obtain⟨Pw,C⟩:∃Pw:O->L2.St->Hp->Prop,∀t u n,Pw t u n↔∃r,u=[W (Z' a),W (B b),W (Z' L),W (B (low:Y)),r]/\n=upd H L (Y' ((pre++f8 b d (m-t)).map B))/\
   ∀y∈pre++f8 b d (m-t),Bd (k+(l+1)*(low*64+t)) y:=#[_,λ_ _ _=>Zj]
  let hz:d≠[]:=by intro z;rw[z]at hm;simp at hm
  refine mr Pw ((C _ _ _).mpr #[r2,U,?_,?_]) ?_ ?_
  .rw[show m-0=d.9-1 by lk,IM b d hz]
  .rw[show m-0=d.9-1 by lk,IM b d hz];exact R
  .intro t u n ht M;cases (C _ _ _).mp M,r,rfl,rfl,e;obtain⟨j,hj⟩:∃j,m-t=j+1:=#[m-t-1,()]
   let ej:m-(t+1)=j:=()
   let ep:(f.9:Y)-2+(t:Y) * -1=((low+j:O):Y):=()
   let X:(f.9:Y)-2+(t:Y) * -1+1=((low+j+1:O):Y):=()
   rw[hj]at e ⊢;let x0:j<d.9:=()
   let g0:(pre++f8 b d (j+1))[low+j]?=W d[j]:=by
    rw[dQ (),show low+j-pre.9=j by lk];exact Ra b d j x0
   let g1:(pre++f8 b d (j+1))[low+j+1]?=W (hd (de b (d.drop (j+1)))):=by
    rw[dQ (),show low+j+1-pre.9=j+1 by lk];exact Rb b d j ()
   let gs:(pre++f8 b d (j+1)).set (low+j) (d[j]+b*hd (de b (d.drop (j+1))))=pre++f8 b d j:=by
    rw[Vv _ _ (),show low+j-pre.9=j by lk,Rc b d j x0]
   let b0:=e _ (cH g0);let b1:=e _ (cH g1)
   room;simp![ep,X]
   clear ep X;let k0:(l+1)*(low*64+t)<=l*4097+4097:=by let:=fE (l+1) (by lk:low*64+t<=4097);lk
   refine#[_,Zw ai,_,pk g0,_,Zw ai,_,pk g1,_,U,hb.fits b1 (),_,U,_,ai,low+j,iB (by rw[af,cC,Q9];lk),(C _ _ _).mpr #[_,U,?_,?_]]
   .rw[GF,map_set,gs,ej]
   .rw[ej,<-gs];intro y hy;let y0:(l+1)*(low*64+(t+1))=(l+1)*(low*64+t)+(l+1):=by rw[<-Nat.add_assoc,oV]
    rcases VS hy with z|z
    .exact (e y z).mono ()
    .rw[z];exact ((b0.mono (by lk:k+(l+1)*(low*64+t)<=l+(k+(l+1)*(low*64+t)))).add (hb.mul b1)).mono ()
  .intro u n M;cases (C _ _ _).mp M,r,rfl,rfl,e;rw[gE,Q_]at e ⊢;cases Re b m d hm,s1,s2,s3;rw[hm,s1]at x;refine (o _ _ _).mpr #[_,_,pre++[hd (de b d)],(de b d).tail,rfl,?_,by rw[cC,F];rfl,by rw[cC,s3,oE];lk,by rw[x,s3,qH];rfl,?_]
   .rw[qH,VV,<-s2]
   .rw[qH,VV,<-s2];let y0:(l+1)*((low+1)*64)=(l+1)*(low*64+64):=by congr 1;lk
    let:=fE (l+1) (by lk:low*64+m<=low*64+64);exact λy hy=>(e y hy).mono ()
 .intro u n M;cases (o _ _ _).mp M,r1,r2,pre,d,rfl,rfl,F,I,x,R;let z0:pre++d=bT b f:=by
   rw[x];by_cases h0:f.9=0
   .let:d.9=0:=()
    rw[b7 this];rfl
   .let h1:d.9=1:=()
    cases qX.mp h1,c,rfl;rw[show [c].9=1 from rfl,Rf]
  rw[z0]
  room;walk
  refine#[_,_,U,Zw ai,by rw[pE];lk,λr n hs hn he=>?_];let s1:=au hL (Y' ((bT b f).map B));calc q r n (s1.trans hs) (s1.free hn) he
theorem K2 {k l:O}(f:Bd l b):∀a:aa,(∀x∈a,Bd k x)->∀y∈de b a,Bd (k+(l+1)*a.9) y
 |[],_,_,h=>nomatch h
 |c::r,hx,y,hy=>by
  let i:=K2 f r λx d=>hx x (eQ _ d);let j:Bd k c:=hx c e9;let e:(l+1)*(c::r).9=(l+1)*r.9+(l+1):=by rw[dO,oV]
  let m:Bd (k+(l+1)*r.9) (hd (de b r)):=by
   cases q:de b r with
   |nil=>calc Bd.zero _
   |cons x s=>exact i x #v[q,e9]
  rcases bV.mp hy with rfl|hy
  .exact ((j.mono (by lk:k<=l+(k+(l+1)*r.9))).add (f.mul m)).mono ()
  .calc (i y hy).mono ()
theorem K3 {l:O}(d:Bd l b):∀(n:O)(k:O)(a:aa),a.9<=64->(∀x∈a,Bd k x)->∀y∈iO b n a,Bd (k+(l+1)*(64*n)) y
 |0,_,_,_,_,_,h=>nomatch h
 |n+1,k,a,hl,hx,y,hy=>by
  let i:=K2 d a hx;let m:=fE (l+1) hl;let f:∀x∈de b a,Bd (k+(l+1)*64) x:=λx c=>(i x c).mono ();let e:(l+1)*(64*(n+1))=(l+1)*(64*n)+(l+1)*64:=by rw[oV,EJ]
  rcases bV.mp hy with rfl|hy
  .let j:Bd (k+(l+1)*64) (hd (de b a)):=by
    cases q:de b a with
    |nil=>calc Bd.zero _
    |cons x s=>exact f x #v[q,e9]
   exact j.mono ()
  .calc (K3 d n (k+(l+1)*64) (de b a).tail (by rw[Nk,mu];lk) (λx c=>f x (List.mem_of_mem_tail c)) y hy).mono ()
def DX {k l:O}{xs:aa}(a:Bd l b)(c:xs.9<=64)(hx:∀x∈xs,Bd k x):∀y∈bT b xs,Bd (k+(l+1)*(64*xs.9)) y:=K3 a xs.9 k xs c hx
def xH (ps:ae):Prop:=ps≠[]/\(∀p,ps.getLast?=W p->p≠[])/\∀p∈ps,S p
def Ub (K:ao):Sp:=λvs H Q _=>∃(R:Zs)(as:ap)(ps:ae),vs=[.ref R]/\SqL K H R (as.map L)/\LL K H as ps/\ps.9<=1000/\
 ((xH ps/\Q (.int ((ps.9:Y)-1)) H)\/(¬xH ps/\False))
def ox:FnOk P w K mg base CX0 1 T.Wi.ax T.Wi.dx ["rule"] (Ub K):=by
 refine T.Wi.Fx.ok Jt (λvs H Q E h=>?_) (λx0 A outer s H vs Q E hr h=>?_)
 .cases h,R,as,y,rfl,_;rfl
 cases h,R,as,y,rfl,l,j,hl,q;refine#[_,s!"̪ˆʲɸ¾ˆ̢̈$ɸĆI̾*ȍˁˉ͇ʳ̥ˆ̼ɸĆʼɻʲ&",?_]
 w_up
 calc#[_,.inl l,?_];rw[af];let I:¬xH y->False:=λh=>(q.resolve_left λz=>h z.1).2;refine cu (λh=>?_) (λh=>?_)
 .exact (I λz=>z.1 (b7 (by rw[<-j.len];lk))).elim
 let m:y≠[]:=by intro z;let:=j.len;rw[z]at this;simp at this;rw[this]at h;simp at h
 cases j.lastAt m,a,p,e1,e2,e3,hp;refine#[_,l,_,e1,?_]
 room;walk
 calc#[_,.inl hp,?_];rw[af];refine cu (λM=>(I λz=>z.2.1 p e3 (b7 ())).elim) (λM=>?_)
 w_up
 calc#[#[_,l],?_];let X:p≠[]:=by intro z;rw[z]at M;simp at M
 obtain⟨C,b⟩:∃C:O->L2.St->Hp->Prop,∀i k d,C i k d↔∃r:Zk V,k=[W (L R),r]/\d=H/\∀x∈y.take i,S x:=#[_,λ_ _ _=>Zj]
 refine kC (xs:=as.map L) C ((b _ _ _).mpr #[_,U,U,by simp]) (λi k d _ z=>by cases (b i k d).mp z,_,_,rfl,_;calc l) ?_ ?_
 .intro i v k d hv f;cases (b _ _ _).mp f,r,rfl,rfl,F;cases j.nth hv,a',n,rfl,ha,o,hA;let u:S n->C (i+1) [W (L R),W (L a')] d:=λh=>(b _ _ _).mpr ⟨_,U,U,λx hx=>by
   rw[dI,o]at hx;rcases b5.mp hx with z|z
   .exact F x z
   .rw[show x=n by simpa using z];calc h⟩
  room;walk
  calc#[_,.inl hA,?_];rw[af];refine cu (λh3=>?_) (λh3=>u (by rw[b7 (show n.9=0 by lk)];calc bH));let c:n≠[]:=by intro z;rw[z]at h3;simp at h3
  refine#[_,hA,_,i3 c,?_]
  room;walk
  calc cu (λh0=>(I λz=>fO.mp (z.2.2 n (cH o)) _ (qL c) h0).elim) (λh0=>u (fO.mpr λx hx=>?_));rw[qL c]at hx;rw[<-Zv hx];exact h0
 .intro k d f;cases (b _ _ _).mp f,r,rfl,rfl,F;rw[af,j.len,fY]at F
  room;walk
  calc#[_,.inl l,?_];rw[af,j.len];calc (q.resolve_right λz=>z.1 #[m,λp2 e=>by rw[e3]at e;cases e;exact X,F]).2
def a8 (n:Y)(xs ys:aa):J n (ah xs ys)=J n xs*J n ys:=by
 rw[<-cG];calc f9 (λk=>?_) n;unfold ah;rw[cX,jl,gI,wS]
 split
 .rfl
 .rw[vV xs ys k ()]
def cQ (xs ys:aa):S (ah xs ys):=cn _
def iX (xs ys:aa):S (cF xs ys):=cn _
def mO (xs ys:aa)(k:O):Z (cF xs ys) k=Z xs k-Z ys k:=by
 unfold cF;rw[cX,jl]
 split
 .rfl
 .rw[aL (xs:=xs) (),aL (xs:=ys) ()];rfl
def fg (xs ys:aa)(k:O):Z (ah xs ys) k=pm (Z xs) (Z ys) k:=by
 rw[<-gI];calc dX (λn=>by rw[a8,cG]) k
def Uc (n:Y)(ys:aa):J n (ys.map λy=>-1*y)=- J n ys:=by rw[aJ];lk
def ga (n:Y)(xs ys:aa):J n (cF xs ys)=J n xs-J n ys:=by
 let e:J n (cF xs ys)=J n (cq xs (ys.map λy=>-1*y)):=f9 (λk=>by
  rw[mO,gu];let:Z (ys.map λy=>-1*y) k=-1*Z ys k:=by
   by_cases h:k<ys.9
   .rw[aO #v[af,h],aO h,cZ]
   .rw[aL (by rw[af];lk),aL (xs:=ys) ()];simp
  rw[this];lk) n
 rw[e,d8,Uc];lk
def pvL (ps:ae)(i:O)(n:Y):Int:=J n (ps.getD i [])
def jZ (ps:ae):Prop:=xH ps/\ps.9<=3/\∀p∈ps,p.9<=3/\∀x∈p,Bd 60 x
def oy (us:ae)(m:O):Prop:=∀u∈us,S u/\u.9<=2*m+1/\∀x∈u,Bd (2400*m+1) x
def LH.cons {a:Zs}{p:aa}(h:LH H as ps)(e:H a=W (Y' (p.map B))):LH H (a::as) (p::ps):=by
 refine#[by simp[h.len],λi b r c d=>?_]
 cases i with
 |zero=>simp at c d;rw[<-c,<-d];calc e
 |succ i=>calc h.get i b r (⇑c) (⇑d)
def LH.init (h:LH H as ps):LH H as.dropLast ps.dropLast:=by
 refine#[by simp[h.len],λi b r a c=>?_];rw[VW]at a c
 split at a
 .rw[Zt (by rw[<-h.len];assumption)]at c;exact h.get i b r a c
 .cases a
def Ud {us:ae}(g:aa->aa){i:O}(h:i<us.9):(us.map g).getD i []=g (us.getD i []):=by
 rw[aD,aD,a7,aq h];rfl
def getD_mem {us:ae}{i:O}(h:i<us.9):us.getD i []∈us:=by
 rw[aD,aq h];calc cD h
def getD_some {us:ae}{i:O}(h:us[i]?=W p):us.getD i []=p:=by rw[aD,h];rfl
def mvL (us:ae):ae:=us.map λu=>aw (bT 1 u)
def ahL (us:ae):ae:=[]::(mvL us).dropLast
def fuL (ps us:ae)(i:O):aa:=cF (ah (ps.getD us.9 []) ((ahL us).getD i [])) (ah ((mvL us).getD (us.9-1) []) (ps.getD i []))
def xI (n:Y)(xs:aa):J n (aw xs)=J n xs:=f9 (λk=>cX xs k) n
def K4 {us:ae}{i:O}(h:i<us.9)(n:Y):J n ((mvL us).getD i [])=pvL us i (n+1):=by
 unfold mvL pvL;rw[Ud _ h,xI,fD]
def Ue {us:ae}{i:O}(h:i<us.9)(n:Y):J n ((ahL us).getD i [])=if i=0 then 0 else pvL us (i-1) (n+1):=by
 unfold ahL
 cases i with
 |zero=>simp[J]
 |succ i=>
  rw[N ()];let e:(([]:aa)::(mvL us).dropLast).getD (i+1) []=(mvL us).getD i []:=by
   rw[List.getD_cons_succ,aD,VW,Zt (by unfold mvL;rw[af];lk),<-aD]
  rw[e,K4 ()];rfl
def Uf {ps us:ae}{i:O}(h:i<us.9)(n:Y):J n (fuL ps us i)=kH us.9 (pvL ps) (pvL us) i n:=by
 unfold fuL kH;rw[ga,a8,a8,Ue h,K4 ()];rfl
theorem DY {m:O}(h:oy us m)(d:m<=4):∀u∈mvL us,S u/\u.9<=2*m+1/\∀x∈u,Bd (2400*m+1+2200) x:=λu a=>by
 cases b8.mp a,y,hy,rfl;cases h y hy,e,b,c;calc#[cn _,aP (i4 _) #v[pE,b],cP λk=>?_];rw[cX];calc cV (P:=λx=>Bd (2400*m+1+2200) x) (λx hx=>(DX (l:=1) (Bd.one ()) () c x hx).mono ?_) (Bd.zero _) k;let:64*y.9<=1024:=()
 lk
def K5 {m:O}(h:oy us m)(b:m<=4):∀u∈ahL us,S u/\u.9<=2*m+1/\∀x∈u,Bd (2400*m+1+2200) x:=λu a=>by
 rcases bV.mp a with rfl|a
 .exact#[bH,by simp,by simp]
 .calc DY h b u (List.dropLast_subset _ a)
def Ug {ps us:ae}{m i:O}(a:jZ ps)(u:us.9+1=ps.9)(h:oy us m)(b:m<=4)(hi:i<us.9):S (fuL ps us i)/\(fuL ps us i).9<=2*m+3/\∀x∈fuL ps us i,Bd (2400*(m+1)+1) x:=by
 obtain⟨f,y,j⟩:=K5 h b ((ahL us).getD i []) (getD_mem (by unfold ahL mvL;simp;lk));obtain⟨b1,b2,b3⟩:=DY h b ((mvL us).getD (us.9-1) []) (getD_mem (by unfold mvL;rw[af];lk));let d:=getD_mem (us:=ps) (i:=us.9) ();let e:=getD_mem (us:=ps) (i:=i) ();let n:=a.2.2 _ d;let o:=a.2.2 _ e;let n1:=a.1.2.2 _ d;let q:=a.1.2.2 _ e;let z:=jo n1 f (cQ _ _) (fg (ps.getD us.9 []) ((ahL us).getD i []));let C:=jo b1 q (cQ _ _) (fg ((mvL us).getD (us.9-1) []) (ps.getD i []));refine#[iX _ _,gO (iX _ _) λk hk=>?_,cP λk=>?_]
 .rw[mO,aL (xs:=ah (ps.getD us.9 []) _) (),aL (xs:=ah _ (ps.getD i [])) ()];rfl
 .unfold fuL;rw[mO,fg,fg];let r:=iD (c:=2) n.2 j () k;let s:=iD (c:=4) b3 o.2 () k;calc ((r.mono (l:=2400*m+1+2200+64) ()).sub (s.mono ())).mono ()
def Uh (xs:ap)(h:0<xs.9):gj (xs.map L) Zy (W (-1))=xs.dropLast.map L:=by
 unfold gj;let e:HT.sIx (xs.map L).9 (xs.map L).9 (W (-1))=xs.9-1:=by
  show (if (-1:Y)<0 then ((-1:Y)+((xs.map L).9:Y)).toNat else min (-1:Y).toNat (xs.map L).9)=_;rw[Zt (),af];lk
 rw[e,HT.sIx_none,oR,Nq,List.dropLast_eq_take,Nf]
def Ui (K:ao):Sp:=λvs H Q _=>∃(R Ta:Zs)(as ts:ap)(ps us:ae)(m:O),vs=[.ref R,.ref Ta]/\SqL K H R (as.map L)/\LL K H as ps/\SqL K H Ta (ts.map L)/\LL K H ts us/\jZ ps/\us.9+1=ps.9/\us≠[]/\oy us m/\m<=4/\
 ∀(D:Zs)(ds:ap) H',Same H H'->H D=Zy->H' D=W (Y' (ds.map L))->LH H' ds ((aT us.9).map (fuL ps us))->D∉ds->Q (.ref D) H'
def Uj:FnOk P w K mg base CX0 4 T.Xb.ax T.Xb.dx ["rule","tops"] (Ui K):=by
 refine T.Xb.Fx.ok wF (λvs H Q E h=>?_) (λg4 A outer s H vs Q E hr h=>?_)
 .cases h,R,Ta,as,ts,ps,d,m,rfl,_;rfl
 cases h,R,Ta,as,ts,ps,d,m,rfl,hR,hL,hT,hU,rk,hl,u0,tk,m7,q;let l3:=rk.2.1;refine#[_,s!"̚,ʂʹɧʩĕɣĖėĘ͡ŒʀʜŒ̑ɹ>ɰðñɪòóɺ&ʰŒʓʐʣɨœ͒ʈʕÒ(ȎʊÒ:ȏʊ͓˃ʧʩȐɣȑȒȓʺ˙ɭ̲ɪʣʧʏ˙˹˱ɰ",?_]
 w_up
 calc#[#[_,hT],λM hM=>?_];obtain⟨Pc,n⟩:∃Pc:dG,∀j f,Pc j f↔∃b:ap,f M=Zz (Y' (b.map L))/\LH f b (mvL (d.take j))/\M∉b/\Same H f:=#[_,λ_ _=>Zj]
 refine fZ (xs:=ts.map L) Pc ((n _ _).mpr #[[],ai,LH.nil _,by simp,au hM _]) (λi f _ z=>by cases (n i f).mp z,_,_,_,_,z4;calc z4.seq hT) ?_ ?_
 .intro j v f hv F;cases (n _ _).mp F,b,k1,u,k3,k4;cases hU.nth hv,a',p',rfl,ha,I,hA;let hj:j<d.9:=(a_.mp I).1;let lk:=u.len;unfold mvL at lk;rw[af,cB]at lk;obtain⟨t1,t2,t3⟩:=tk p' (cH I)
  room;simp![bst]
  calc#[a',p',1,2400*m+1,1,U,k4.seq hA,(),t3,Bd.one (),(),λl Hy X nl el=>?_];let j1:l≠M:=λz=>by rw[z,k1]at nl;cases nl
  let m1:M∉b++[l]:=λz=>by
   rcases b5.mp z with z|z
   .exact k3 z
   .exact j1 (bZ.mp z).symm
  refine#[_,X _ _ k1,#v[af,cy ()],(n _ _).mpr #[b++[l],by rw[ai];simp,?_,m1,(k4.trans X).more hM]];let e:mvL (d.take (j+1))=mvL (d.take j)++[aw (bT 1 p')]:=by unfold mvL;rw[dI,I];simp
  rw[e];exact ((u.same X).snoc el).upd m1
 intro G1 F;cases (n _ _).mp F,b,eM,lm,m4,s1;rw[af,hU.len,fY]at lm;let g1:b.9=d.9:=by rw[lm.len];unfold mvL;rw[af]
 let lu:0<d.9:=cE.mpr u0
 w_up
 calc#[bh _,λz nz=>#[(),λp1 n1=>?_]];let w1:=au nz (Y' []);let w2:=au n1 (Y' [L z]);let ez:=w2 _ _ (ai (H:=G1) (a:=z) (o:=.lst []));let C:gj (b.map L) Zy (Zz (-1))=b.dropLast.map L:=Uh _ #v[g1,lu];calc#[_,Zw (w2 _ _ (w1 _ _ eM)),λp2 n2=>?_];rw[C];let w3:=au n2 (Y' (b.dropLast.map L));refine#[_,w3 _ _ ai,_,ai,dj (cy (by simp;lk)),λAa n3=>?_];let ea:[L z]++b.dropLast.map L=(z::b.dropLast).map L:=rfl;rw[ea];let w4:=au n3 (Y' ((z::b.dropLast).map L));let wA:=w1.trans (w2.trans (w3.trans w4));let gA:upd (upd (upd (upd G1 z (Y' [])) p1 (Y' [L z])) p2 (Y' (b.dropLast.map L))) Aa (Y' ((z::b.dropLast).map L)) Aa=_:=ai;let gz:=w4 _ _ (w3 _ _ ez);generalize upd (upd (upd (upd G1 z (Y' [])) p1 (Y' [L z])) p2 (Y' (b.dropLast.map L))) Aa (Y' ((z::b.dropLast).map L))=G2 at wA gA gz ⊢;let k0:=lm.same wA;let x2:=wA _ _ eM;let s2:=s1.trans wA;let y2:LH G2 (z::b.dropLast) (ahL d):=k0.init.cons (p:=[]) gz;let z2:mvL d≠[]:=λe=>by let:=ZL ka e;unfold mvL at this;rw[af]at this;simp at this;exact u0 this
 cases (k0.ll (K:=K)).lastAt z2,W,wg,j2,_,gW,hW;let g2:wg=(mvL d).getD (d.9-1) []:=by
  let e:(mvL d).9=d.9:=by unfold mvL;rw[af]
  rw[gC,e]at gW;exact (getD_some gW).symm
 cases hL.lastAt rk.1.1,La,lst,m2,_,gL,x3;let y3:lst=ps.getD d.9 []:=by
  rw[gC,show ps.9-1=d.9 by lk]at gL;exact (getD_some gL).symm
 clear w1 w2 w3 w4 ez C ea nz n1 n2 n3
 w_up
 refine#[_,Zw x2,_,j2,?_]
 room;walk
 calc#[_,Zw gA,_,s2.seq hR,λD nD=>?_];let x0:=DY tk m7 wg (ni gW);let n0:=rk.2.2 lst (ni gL);obtain⟨Pz,r⟩:∃Pz:dG,∀j f,Pz j f↔∃ds:ap,f D=Zz (Y' (ds.map L))/\LH f ds ((aT j).map (fuL ps d))/\D∉ds/\Same G2 f:=#[_,λ_ _=>Zj]
 refine CJ (xs:=(z::b.dropLast).map L) (ys:=as.map L) Pz ((r _ _).mpr #[[],ai,LH.nil _,by simp,au nD _]) (λi f _ _ y=>by cases (r i f).mp y,_,_,_,_,z4;calc#[Zw (z4 _ _ gA),(s2.trans z4).seq hR]) ?_ ?_
 .intro j v1 v2 pt f z3 v3 hc j3;cases (r _ _).mp hc,ds,k1,u,k3,k4;cases (y2.ll (K:=K)).nth z3,b1,q1,rfl,n4,y0,g3;cases hL.nth v3,b2,q2,rfl,x5,z0,m3;let lk:=u.len;rw[af,im]at lk;let hj:j<d.9:=by
   let:=(a_.mp y0).1;unfold ahL mvL at this;simp at this;lk
  let u1:=au j3 (.tup [L b1,L b2]);let u2:=k4.trans u1;let j0:=K5 tk m7 q1 (cH y0);let x1:=rk.2.2 q2 (cH z0)
  room;simp![f7,fF]
  calc#[_,(s2.trans u2).seq hR,_,m2,?_];calc#[La,b1,lst,q1,U,(s2.trans u2).seq x3,u2.seq g3,(),(),λx hx=>(n0.2 x hx).mono (),λx hx=>(j0.2.2 x hx).mono (),λX1 y5 X z5 x4=>?_];let u3:=u2.trans X;calc#[W,b2,wg,q2,U,u3.seq hW,(s2.trans u3).seq m3,(),(),λx hx=>(x0.2.2 x hx).mono (),λx hx=>(x1.2 x hx).mono (),λX2 u5 s6 v5 y4=>?_];let l1:(ah lst q1).9<=100:=aP (jo (rk.1.2.2 lst (ni gL)) j0.1 (cQ _ _) (fg _ _)) ();let l2:(ah wg q2).9<=100:=aP (jo x0.1 (rk.1.2.2 q2 (cH z0)) (cQ _ _) (fg _ _)) ();let c1:∀x∈ah lst q1,Bd 60000 x:=cP λk=>by rw[fg];exact (iD (c:=2) n0.2 j0.2.2 () k).mono ()
  let c2:∀x∈ah wg q2,Bd 60000 x:=cP λk=>by rw[fg];exact (iD (c:=4) x0.2.2 x1.2 () k).mono ()
  calc#[X1,X2,_,_,U,Zw (s6 _ _ x4),Zw y4,l1,l2,c1,c2,λX3 j5 s7 y1 v4=>?_];let u4:=u3.trans (s6.trans s7);let j4:X3≠D:=λy=>by rw[y,s6 _ _ (X _ _ (u1 _ _ k1))]at y1;cases y1
  let m1:D∉ds++[X3]:=λy=>by
   rcases b5.mp y with y|y
   .exact k3 y
   .exact j4 (bZ.mp y).symm
  let z1:=u1.trans (X.trans (s6.trans s7));refine#[_,z1 _ _ k1,#v[af,cy ()],(r _ _).mpr #[ds++[X3],by rw[ai];simp,?_,m1,u4.more nD]];let e:(aT (j+1)).map (fuL ps d)=(aT j).map (fuL ps d)++[cF (ah lst q1) (ah wg q2)]:=by
   rw[gM,aY,y3,g2,<-getD_some y0,<-getD_some z0];rfl
  rw[e];exact ((u.same z1).snoc v4).upd m1
 .intro f hc;cases (r _ _).mp hc,ds,k1,u,k3,k4;let em:min ((z::b.dropLast).map L).9 (as.map L).9=d.9:=by
   rw[af,af,hL.len,dO,Nc];lk
  rw[em]at u;calc q D ds _ (s2.trans k4) (s2.free nD) k1 u k3
noncomputable def cT (f:Y->Y) (n:Y):b_
 |0=>1
 |m+1=>cT f n m*f (n+m)
def Crd (ps:ae)(far:O)(us:ae)(bot:aa):Prop:=
 (far<us.9/\us=(aT us.9).map (λi=>if i=far then [1] else [])/\bot=[1])\/
 (us.9<=far/\(∀i n,i<us.9->J n (us.getD i [])=uIt us.9 (pvL ps) (far+1-us.9) i n)/\∀n,J n bot=cT (pvL ps us.9) n (far+1-us.9))
def Uk (K:ao):Sp:=λvs H Q _=>∃(R:Zs)(as:ap)(ps:ae)(far:O),vs=[.ref R,.int far]/\SqL K H R (as.map L)/\LL K H as ps/\jZ ps/\far<=4/\
 ∀(us:ae)(bot:aa),us.9+1=ps.9->(∀u∈us,S u/\u.9<=2*(far+1-us.9)+1/\∀x∈u,Bd 20000 x)->S bot->bot.9<=11->(∀x∈bot,Bd 20000 x)->Crd ps far us bot->
  ∀(tp D B:Zs)(ts:ap) H',Same H H'->H' tp=W (.tup [.ref D,.ref B])->H' D=W (Y' (ts.map L))->LH H' ts us->H' B=W (Y' (bot.map V'))->H D=Zy->H B=Zy->D∉ts->Q (.ref tp) H'
noncomputable def unL (st:Y) (r:O):ae:=(aT r).map λi:O=>if (i:Y)=st then [1] else []
def Ul {st:Y}{r j:O}(h:j<r):(unL st r).getD j []=if (j:Y)=st then [1] else []:=by
 unfold unL;rw[aD,a7,oU h];rfl
def DZ:FnOk P w K mg base CX0 5 T.WC.ax T.WC.dx ["rule","far"] (Uk K):=by
 refine T.WC.Fx.ok kJ (λvs H Q E h=>?_) (λm2 A outer s H vs Q E hr h=>?_)
 .cases h,R,as,f,a,rfl,_;rfl
 cases h,R,as,f,a,rfl,hR,hL,rk,f6,q;let l3:=rk.2.1;let n2:0<f.9:=cE.mpr rk.1.1;obtain⟨r,x3⟩:∃r:O,f.9=r+1:=#[f.9-1,()]
 refine#[_,s!"ʍÐʄØɣ̈́ʽʜÐʓ<Ľ̴˱͗ɪɼ̚:̮7Ư̏gʙʤJāˆ˳ɩˇʎÐʀˊÐɚˇ˷ʅɻɧɪ˨FÐɚˠwɪɸʑ:ÐʄȕɣȖȗȘʇ̘IʑDÐʄ˙ɤDʏĕɣĖėĘʡɡʣ̸ɰɨã̆˪",?_]
 w_up
 calc#[R,as,f,U,hR,hL,(),.inl #[rk.1,?_]];let er:(f.9:Y)-1=(r:Y):=()
 rw[er]
 w_up
 w_up
 calc#[(),(),λX0 nX=>?_];rw[gB];obtain⟨st,x0⟩:∃st:Y,(if (r:Y)-1<(a:Y) then (r:Y)-1 else (a:Y))=st:=#[_,rfl]
 rw[x0];obtain⟨Pc,y0⟩:∃Pc:dG,∀j C,Pc j C↔∃d:ap,C X0=W (Y' (d.map L))/\LH C d (unL st j)/\X0∉d/\Same H C:=#[_,λ_ _=>Zj]
 refine uT Pc ((y0 _ _).mpr #[[],ai,LH.nil _,by simp,au nX _]) ?_ ?_
 .intro j C hj j0;cases (y0 _ _).mp j0,d,k1,k2,k3,k4;let lk:=k2.len;unfold unL at lk;rw[af,im]at lk;let e0:(0:Y)+(j:Y)=(j:Y):=ij _;let n0:∀(zs:aa)(pz:Zs),(if (j:Y)=st then [1] else [])=zs->C pz=Zy->∃ys,upd C pz (Y' (zs.map V')) X0=W (Y' ys)/\ys.9<Zg/\Pc (j+1) (upd (upd C pz (Y' (zs.map V'))) X0 (Y' (ys++[L pz]))):=λzs pz hz F=>by
   let u1:=au F (Y' (zs.map V'));let y1:pz≠X0:=λy=>by rw[y,k1]at F;cases F
   let m1:X0∉d++[pz]:=λy=>by
    rcases b5.mp y with y|y
    .exact k3 y
    .exact y1 (bZ.mp y).symm
   refine#[_,u1 _ _ k1,#v[af,cy ()],(y0 _ _).mpr #[d++[pz],by rw[ai];simp,?_,m1,(k4.trans u1).more nX]];let e:unL st (j+1)=unL st j++[zs]:=by unfold unL;rw[gM,aY,<-hz];rfl
   rw[e];exact ((k2.same u1).snoc ai).upd m1
  room;simp![bst,fF,e0]
  exact cu (λh=>#[(),λpz F=>n0 [1] pz (Zt h) F]) (λh=>#[bh _,λpz F=>n0 [] pz (if_neg h) F])
 intro G1 j0;obtain⟨d,eX,lt,I,s1⟩:=(y0 _ _).mp j0
 w_up
 refine#[(),λB0 nB=>?_]
 w_up
 calc#[(),(),?_];let w1:=au nB (Y' [V' 1]);obtain⟨N,hN⟩:∃N:O,((a:Y)-(r:Y)+1).toNat=N:=#[_,rfl]
 let z1:N=a+1-r:=()
 rw[hN];cases hL.lastAt rk.1.1,La,lst,j1,_,gL,g1;let x2:lst=f.getD r []:=by
  rw[gC,show f.9-1=r by lk]at gL;exact (getD_some gL).symm
 let k0:=rk.2.2 lst (ni gL);let y3:=rk.1.2.2 lst (ni gL);obtain⟨Pv,z0⟩:∃Pv:O->L2.St->Hp->Prop,∀i σ C,Pv i σ C↔∃(X B:Zs)(d:ap)(b:ae)(o:aa)(r6:Zk V),σ=[W (L R),W (V' a),W (V' r),W (V' st),W (L X),W (L B),r6]/\C X=W (Y' (d.map L))/\LH C d b/\X∉d/\H X=Zy/\b.9=r/\oy b i/\(a<r->b=unL st r)/\
  (r<=a->∀j n,j<r->J n (b.getD j [])=uIt r (pvL f) i j n)/\C B=W (Y' (o.map V'))/\H B=Zy/\Nml o/\o.9<=1+2*i/\(∀x∈o,Bd (1000*i+1) x)/\(∀n,J n o=cT (pvL f r) n i)/\Same H C:=#[_,λ_ _ _=>Zj]
 refine ie Pv ((z0 _ _ _).mpr #[X0,B0,d,unL st r,[1],Zy,rfl,w1 _ _ eX,lt.same w1,I,nX,by unfold unL;simp,λu hu=>?_,λ_=>U,λhf j n hj=>?_,ai,s1.free nB,jU [],by simp,by simp[Bd.one],λn=>by simp[J,cT],s1.trans w1]) ?_ ?_
 .obtain⟨i,_,rfl⟩:=b8.mp hu
  split
  .exact#[jU [],by simp,by simp[Bd.one]]
  .exact#[bH,by simp,by simp]
 .rw[Ul hj];let u0:st=(r:Y)-1:=by rw[<-x0,Zt ()]
  show _=if j+1=r then (1:Y) else 0
  by_cases z:j+1=r
  .rw[Zt (),Zt z];simp[J]
  .rw[if_neg (),if_neg z];simp[J]
 .intro i σ C hi hp;cases (z0 _ _ _).mp hp,X,B,d,b,o,r6,rfl,eX,lt,I,nX,lu,tk,un,vl,eB,nB,nb,lb,bb,vb,sP;let x1:r<=a:=()
  clear x0 hN er un;obtain⟨M,hM⟩:∃M:L2.St->Hp->Prop,∀σ Hy,M σ Hy↔∃(X:Zs)(d:ap)(b:ae),σ=[W (L R),W (V' a),W (V' r),W (V' st),W (L X),W (L B),W (V' (0+(i:Y)))]/\Hy X=W (Y' (d.map L))/\LH Hy d b/\X∉d/\H X=Zy/\b.9=r/\oy b (i+1)/\
   (∀j n,j<r->J n (b.getD j [])=uIt r (pvL f) (i+1) j n)/\Same C Hy:=#[_,λ_ _=>Zj]
  room;refine gl M ?_ ?_
  .room;walk
   refine cu (λh=>?_) (λh=>?_)
   .refine#[R,X,as,d,f,b,i,U,sP.seq hR,hL.same sP,Zw eX,lt.ll,rk,(),λz=>by rw[z]at lu;simp at lu;lk,tk,(),λD ds Hy sy nD eD lD y2=>(hM _ _).mpr #[D,ds,_,U,eD,lD,y2,sP.free nD,by simp[lu],λu hu=>?_,λj n hj=>?_,sy]]
    .cases b8.mp hu,j,hj,rfl;exact Ug rk () tk () (eN.mp hj)
    .let e:((aT b.9).map (fuL f b)).getD j []=fuL f b j:=by
      rw[aD,a7,oU ()];rfl
     rw[e,Uf (),lu];show kH r (pvL f) (pvL b) j n=kH r (pvL f) (uIt r (pvL f) i) j n;unfold kH;let v1:pvL b (r-1) (n+1)=uIt r (pvL f) i (r-1) (n+1):=vl x1 (r-1) (n+1) ();rw[v1];by_cases z:j=0
     .rw[Zt z,Zt z]
     .rw[if_neg z,if_neg z,show pvL b (j-1) (n+1)=uIt r (pvL f) i (j-1) (n+1) from vl x1 (j-1) (n+1) ()]
   .let r0:r=0:=()
    let z2:b=[]:=b7 ();exact (hM _ _).mpr #[X,d,b,U,eX,lt,I,nX,lu,by rw[z2];intro u hu;simp at hu,λj n hj=>(),Same.refl _]
  intro σ Hy hm;cases (hM _ _).mp hm,X,d,b,rfl,eX,lt,I,nX,lu,tk,vl,sy;let s2:=sP.trans sy;let e0:(0:Y)+(i:Y)=(i:Y):=ij _
  room;simp![e0]
  calc#[_,s2.seq hR,_,j1,?_];calc#[La,lst,(i:Y),60,3,U,s2.seq g1,(),k0.2,Bd.of_lt (m:=8) () (),(),λS Hz sz nS eS=>?_];let bs:∀x∈aw (bT (i:Y) lst),Bd 900 x:=cP λk=>by
   rw[cX];exact cV (P:=λx=>Bd 900 x) (λx hx=>(DX (l:=3) (Bd.of_lt (m:=8) () ()) () k0.2 x hx).mono ()) (Bd.zero _) k
  let ls:(aw (bT (i:Y) lst)).9<=3:=aP (i4 _) #v[pE,k0.1];calc#[B,S,o,_,U,Zw (sz _ _ (sy _ _ eB)),Zw eS,(),(),λx hx=>(bb x hx).mono (),λx hx=>(bs x hx).mono (),λB2 Hw sw u2 v2=>?_];let s3:=sz.trans sw;let l1:=jo nb (cn (bT (i:Y) lst)) (cQ _ _) (fg _ _);refine (z0 _ _ _).mpr #[X,B2,d,b,_,_,U,s3 _ _ eX,lt.same s3,I,nX,lu,tk,λz=>(),λ_=>vl,v2,(s2.trans sz).free u2,cQ _ _,(),cP λk=>?_,λn=>?_,s2.trans s3]
  .rw[fg];exact (iD (c:=4) bb bs () k).mono ()
  .rw[a8,xI,fD,vb n,x2];rfl
 .intro σ C hp;cases (z0 _ _ _).mp hp,X,B,d,b,o,r6,rfl,eX,lt,I,nX,lu,tk,un,vl,eB,nB,nb,lb,bb,vb,sP;clear hN er
  room;walk
  calc#[(),λtp j2=>?_];let u1:=au j2 (.tup [L X,L B]);refine q b o () (λu hu=>?_) nb () (λx hx=>(bb x hx).mono ()) ?_ tp X B d _ (sP.trans u1) ai (u1 _ _ eX) (lt.same u1) (u1 _ _ eB) nX nB I
  .cases tk u hu,t1,t2,t3;let N7:b≠[]:=λz=>by rw[z]at hu;simp at hu
   let:0<b.9:=cE.mpr N7;exact#[t1,(),λx hx=>(t3 x hx).mono ()]
  .by_cases z:a<r
   .calc .inl ?_;refine#[(),?_,?_]
    .let g2:(unL st r).9=r:=by unfold unL;simp
     rw[un z,g2];let u0:st=(a:Y):=by rw[<-x0,if_neg ()]
     unfold unL;rw[u0];calc gf λi _=>?_;by_cases y:i=a
     .rw[Zt (),Zt y]
     .rw[if_neg (),if_neg y]
    .let N0:N=0:=()
     calc gq nb (jU []) λk=>dX (λn=>?_) k;rw[vb n,N0];simp[cT,J]
   .calc .inr ?_;rw[lu,<-z1];calc#[(),λi n hi=>vl () i n hi,vb]
def clr (m:Y)(xs:aa):Bool:=decide (hd (bT m xs)≠0/\∀y∈bT m xs,0<=y*hd (bT m xs))
def xJ (m:Y)(xs:aa):clr m xs=K'↔pL (bT m xs):=by unfold clr pL;calc zdt
def K6 (ys:aa):hd ys=Z ys 0:=by cases ys <;> rfl
def K7 {ys:aa}{y:Y}(h:y∈ys):y∈aw ys\/y=0:=by
 cases di.mp h,k,hk,rfl;rw[<-aO hk,<-cX];by_cases z:k<(aw ys).9
 .rw[aO z];exact .inl (cD z)
 .calc .inr (aL ())
def K8 {y:Y}(h:y∈aw ys):y∈ys:=by
 unfold aw at h;calc mX.mp ((List.dropWhile_sublist _).subset (mX.mp h))
def Um (a:Z (aw (bT m xs)) 0≠0):clr m xs=K'↔(∀y∈aw (bT m xs),0<=y)\/(∀y∈aw (bT m xs),y<=0):=by
 rw[cX,<-K6]at a;rw[xJ,Rn a];constructor
 .rintro (h|h)
  .exact .inl λy hy=>h y (K8 hy)
  .exact .inr λy hy=>h y (K8 hy)
 .rintro (h|h)
  .refine .inl λy hy=>(K7 hy).elim (h y) λz=>by lk
  .calc .inr λy hy=>(K7 hy).elim (h y) λz=>by lk
def K9 (h:Z (bT m xs) 0=0):clr m xs=O':=by
 rw[<-K6]at h;calc Bool.eq_false_iff.mpr λz=>((xJ m xs).mp z).1 h
def Uo (K:ao):Sp:=λvs H Q _=>∃(a:Zs)(xs:aa)(m:Y)(k l:O),vs=[.ref a,.int m]/\SqL K H a (xs.map B)/\xs.9<=64/\(∀x∈xs,Bd k x)/\Bd l m/\k+l*5000<=60000000/\∀H',Same H H'->Q (.bl (clr m xs)) H'
def Up:FnOk P w K mg base CX0 3 T.Xa.ax T.Xa.dx ["poly","m"] (Uo K):=by
 refine T.Xa.Fx.ok Js (λI H Q E h=>?_) (λX A outer s H I Q E hr h=>?_)
 .cases h,a,xs,m,k,l,rfl,_;rfl
 cases h,a,xs,m,k,l,rfl,hS,hl,hk,hb,hf,q;refine#[_,s!"ʍșʄĕɣĖėĘ̜̪ˆ̄ɸ¾ˆ˄̓¹ʼȚŔą<ľ̴ʤɸțŔȜ<Ĉ̇ʤɸ",?_]
 w_up
 refine#[a,xs,m,k,l,U,hS,hl,hk,hb,hf,λR H1 s1 nR f=>?_]
 w_up
 calc#[_,.inl (Zw f),?_];let q:=q _ s1;obtain⟨d,b⟩:∃d,aw (bT m xs)=d:=#[_,rfl]
 rw[b]at f ⊢;rw[af];refine cu (λh=>?_) (λh=>?_)
 .let tz:d=[]:=b7 ();let z:clr m xs=O':=K9 (by rw[<-cX,b,tz];rfl);rw[z]at q;exact q
 let c:0<d.9:=()
 let j:d≠[]:=cE.mp c;refine#[_,Zw f,_,(show atI (d.map B) 0=W (B d[0]) from fe c),?_]
 room;walk
 refine cu (λo=>?_) (λo=>?_)
 .let z:clr m xs=O':=K9 #v[<-cX,b,aO c,o];rw[z]at q;exact q
 let ct:=Um (m:=m) (xs:=xs) #v[b,aO c,o];rw[b]at ct
 w_up
 refine#[_,Zw f,j,λM r u=>cu (λx=>?_) (λx=>#[_,Zw f,j,λM2 C F=>?_])]
 .rw[ct.mpr (.inl λy hy=>zep x (u y hy))]at q;exact q
 .let e:decide (M2<=0)=clr m xs:=by
   rw[Ye,ct,zdt];constructor
   .intro n;exact .inr λy hy=>zep (F y hy) n
   .rintro (n|n)
    .exact Zq (n M r) x
    .exact n M2 C
  rw[e];calc q
def Uq {K:ao}{as:ap}{ns:aa}{m:TE}{d:Hp}{D:Zs}(f:d D=Zy)(y:SqL K d a (as.map L))(hd:ns.9=as.9)(E:ns.9<=900)(hs:∀(i:O)(q:Zs)(v:Y)(b:Hp)(R:VK),as[i]?=W q->ns[i]?=W v->Same d b->(∀o,Same b o->R (.int v) o)->m (bst l n (W (L q))) b R)(C:eE d Q (ns.map B)):mo (Itl K a) l m Q n d D:=by
 obtain⟨h,c⟩:∃h:dG,∀j b,h j b↔b D=W (Y' ((ns.take j).map B))/\Same d b:=#[_,λ_ _=>Zj]
 refine fZ (xs:=as.map L) h ((c _ _).mpr #[ai,au f _]) (λi b _ z=>by cases (c i b).mp z,_,z;calc z.seq y) ?_ ?_
 .intro j v b r k;cases (c _ _).mp k,k1,e;rw[a7]at r;cases e_.mp r,q,s,rfl;let u:j<ns.9:=by let:=(a_.mp s).1;lk
  calc hs j q _ b _ s (aq u) e λF x=>?_;calc#[_,x _ _ k1,#v[af,cB,cy ()],(c _ _).mpr #[?_,(e.trans x).more f]];rw[ai,<-List.take_append_getElem u,aY];rfl
 intro b k;cases (c _ _).mp k,k1,e;rw[af,<-hd,fY]at k1;calc C D b e f k1
def Ur (K:ao):Sp:=λvs H Q _=>∃(R:Zs)(as:ap)(ps:ae)(m:O),vs=[.int (m:Y),.ref R]/\SqL K H R (as.map L)/\LL K H as ps/\ps≠[]/\ps.9<=900/\(∀p∈ps,p.9<=1000)/\m<=5/\(∀p∈ps,m*m*p.9<=32)/\∀H',Same H H'->Q .non H'
def K_:FnOk P w K mg base CX0 2 T.WM.ax T.WM.dx ["width","polys"] (Ur K):=by
 refine T.WM.Fx.ok RQ (λu H Q E h=>?_) (λx A outer s H u Q E hr h=>?_)
 .cases h,R,as,f,m,rfl,_;rfl
 cases h,R,as,f,m,rfl,j,l,y,z,C,m5,I,q;refine#[_,s!"1ʋwʢʢɡɡ<Ĉ̯̩<ŭʻɬ̗ɰ͕ȝ ȞʃɩĆI",?_]
 w_up
 let a:Bd 3 (m:Y):=Bd.of_lt (m:=8) () ();calc#[a.fits a (),#[_,j],λD X=>?_];refine Uq (as:=as) (ns:=f.map λp=>(p.9:Y)) X j (by rw[af,l.len]) #v[af,z] (λi r v Hx R' c n sx d=>?_) (λF H1 s1 nF eF=>?_)
 .rw[a7]at n;obtain⟨p,b,rfl⟩:=e_.mp n
  room;simp![bst]
  calc#[_,.inl (sx.seq (l.get i r p c b)),?_];rw[af];exact d _ (Same.refl _)
 refine#[F,U,_,Zw eF,by simp[y],λM hM o=>?_];cases b8.mp hM,p,b,rfl;let x0:=I p b;let e:(m:Y)*(m:Y)*(p.9:Y)<=32:=by
  let:((m*m*p.9:O):Y)<=32:=()
  rw[fX,fX]at this;exact this
 refine#[(a.mul a).fits (Bd.of_lt (k:=10) (m:=1001) (by let:=C p b;lk) ()) (),?_];rw[N ()];calc q _ s1
def D5 {K:ao}{xs:aa}{g:Y->Y}{n:TE}{d:Hp}{D:Zs}(h:d D=Zy)(q:SqL K d a (xs.map B))(u:xs.9<=900)(hs:∀x∈xs,∀c R,Same d c->R (.int (g x)) c->n (bst m o (W (B x))) c R)(r:eE d Q ((xs.map g).map B)):mo (Itl K a) m n Q o d D:=by
 obtain⟨j,b⟩:∃j:dG,∀i e,j i e↔e D=W (Y' (((xs.take i).map g).map B))/\Same d e:=#[_,λ_ _=>Zj]
 refine fZ (xs:=xs.map B) j ((b _ _).mpr #[by rw[ai];rfl,au h _]) (λi c _ z=>((b i c).mp z).2.seq q) ?_ ?_
 .intro i v c k l;cases (b _ _).mp l,k1,f;let hi:i<xs.9:=by let:=(a_.mp k).1;rw[af]at this;exact this
  rw[a7,aq hi]at k;obtain rfl:B xs[i]=v:=Zv k;let s:xs.take (i+1)=xs.take i++[xs[i]]:=by rw[dI,aq hi];rfl
  refine hs _ (cD hi) c _ f #[_,k1,cy (by simp;lk),(b _ _).mpr #[?_,f.more h]];rw[ai,s,aY,aY];rfl
 intro e l;cases (b _ _).mp l,k1,f;rw[af,fY]at k1;calc r D e f h k1
def fK (R l:aa):aa:=
 let s:=if clr 0 R=K' then R else [((ag R:O):Y)]
 if l≠[]/\Z l (l.9-1)<0 then s.map (λx=>-x) else s
def Us (K:ao):Sp:=λvs H Q _=>∃(a:Zs)(as:ap)(rows ds:ae)(l R:aa)(f:O->aa),vs=[.ref a]/\SqL K H a (as.map L)/\LL K H as rows/\rows.getLast?=W l/\rows.9<=60/\(∀r∈rows,S r/\r.9<=20/\∀x∈r,Bd 5000 x)/\
 f 0=[]/\(∀i r,rows[i]?=W r->fJ (f i) r (f (i+1)))/\(∀i,(f i).9<=1000)/\f rows.9=R/\R≠[]/\S R/\R.9<=20/\(∀x∈R,Bd 5000 x)/\
 ds.9=rows.9/\(∀(i:O) r d,rows[i]?=W r->ds[i]?=W d->S d/\Div r (fK R l) d)/\gQ H Q ds
def Ut:FnOk P w K mg base CX0 7 T.Xg.ax T.Xg.dx ["polys"] (Us K):=by
 refine T.Xg.Fx.ok wH (λvs H Q E h=>?_) (λv1 A outer s H vs Q E hr h=>?_)
 .cases h,a,as,rows,ds,l,R,f,rfl,_;rfl
 cases h,a,as,rows,ds,l,R,f,rfl,I,hL,hl,lr,br,f0,fs,fl,fR,R0,nR,lR,bR,ld,hd,q;refine#[_,s!"ʭŕ˼ƓɣƔƕƖʽhH͢ȟɣȠȡȢʦ#ɼ˓ŕʓˤċɣČčĎʦɰIhˉ̢͇̈$̥@¨ɥ̢ʣ͟ŕʓ̩͊ʼ̿Ō̰ʩďɣĐđĒ̜",?_]
 w_up
 refine#[a,as,rows,f,U,I,hL,(),λr n0=>by let:=(br r n0).2.1;lk,fl,f0,fs,λX H1 s1 nX eX=>?_];rw[fR]at eX;let cb:Bd 5000 ((ag R:O):Int):=by show ((ag R:O):Int).8<2^5000;rw[d_];exact mH (eV 5000) R bR
 let cp:=fU nR R0;obtain⟨j,c⟩:∃j,j=if clr 0 R=K' then R else [((ag R:O):Int)]:=#[_,rfl]
 let n:j≠[]:=by rw[c];split;calc R0;simp
 let x0:Nml j:=by rw[c];split;calc nR;exact e7 ()
 let y0:j.9<=20:=by rw[c];split;calc lR;simp
 let z0:∀x∈j,Bd 5000 x:=by
  rw[c];split
  .exact bR
  .intro x hx;rw[bZ.mp hx];exact cb
 obtain⟨M,k⟩:∃M:L2.St->Hp->Prop,∀o m,M o m↔∃Y:Zs,o=[W (L a),W (L Y)]/\m Y=W (Y' (j.map B))/\Same H m:=#[_,λ_ _=>Zj]
 room;refine gl M ?_ ?_
 .room;walk
  calc#[X,R,0,5000,1,U,Zw eX,(),bR,Bd.zero _,(),λH2 s2=>?_];refine#[_,U,cu (λh=>?_) (λh=>?_)]
  .calc#[X,R,U,Zw (s2 _ _ eX),λx hx=>dE (bR x hx) (fQ () ()),λHc sc=>#[(),λp np=>(k _ _).mpr #[p,U,?_,s1.trans (s2.trans (sc.trans (au np _)))]]];rw[ai,c,N (by rw[h];decide)];rfl
  .let hc:clr 0 R=K':=by simpa using h
   exact (k _ _).mpr #[X,U,#v[c,Zt hc,s2 _ _ eX],s1.trans s2]
 intro o H3 hm;cases (k _ _).mp hm,Y,rfl,eY,s3;clear hm k M;let x1:rows≠[]:=λz=>by rw[z]at hl;simp at hl
 obtain⟨S,hS⟩:∃S,fK R l=S:=#[_,rfl]
 let e:S=if l≠[]/\co l (l.9-1)<0 then j.map (λx=>-x) else j:=by rw[<-hS,c];rfl
 let en:j.map (λx:Int=>-x)=j.map λx=>(-1)*x:=by congr 1;funext x;lk
 let lS:S.9<=20:=by rw[e];split;rw[af];calc y0;exact y0
 let S1:S≠[]:=by rw[e];split;simpa using n;exact n
 let nS:Nml S:=by
  rw[e];split
  .rw[en];exact og (.inr #v[af,dg,fL () (dU x0 n)])
  .exact x0
 let bS:∀x∈S,Bd 5000 x:=by
  rw[e];split
  .intro x hx;cases b8.mp hx,y,hy,rfl;exact (z0 y hy).neg
  .exact z0
 rw[hS]at hd;obtain⟨M,k⟩:∃M:L2.St->Hp->Prop,∀o m,M o m↔∃Y:Zs,o=[W (L a),W (L Y)]/\m Y=W (Y' (S.map B))/\Same H m:=#[_,λ_ _=>Zj]
 room;refine gl M ?_ ?_
 .room;walk
  cases (hL.same s3).lastAt x1,b,p,u0,_,j0,k0;obtain rfl:p=l:=by rw[hl]at j0;exact (Zv j0).symm
  let no:¬(p≠[]/\co p (p.9-1)<0)->M [W (L a),W (L Y)] H3:=λh=>(k _ _).mpr #[Y,U,#v[e,N h,eY],s3];calc#[_,s3.seq I,_,u0,b,U,_,.inl k0,?_];rw[af];refine cu (λh=>?_) (λh=>no λz=>by let:=cE.mpr z.1;lk);let u:p≠[]:=by intro z;rw[z]at h;simp at h
  let ec:co p (p.9-1)=p.getLast u:=by rw[aO (),lE]
  calc#[_,s3.seq I,_,u0,b,U,_,k0,_,i3 u,_,U,cu (λh0=>#[#[_,Zw eY],λD nD=>?_]) (λh0=>no λz=>h0 #v[<-ec,z.2])];refine D5 (g:=λx=>-x) nD (Zw eY) () (λx hx m R' sx hR=>?_) λF H5 s5 nF eF=>(k _ _).mpr #[F,U,?_,s3.trans s5]
  .room;simp![bst,fF];exact hR
  .rw[eF,e,Zt #[u,#v[ec,h0]]]
 intro o H4 hm;cases (k _ _).mp hm,Z,rfl,eZ,C;clear hm k M
 room;walk
 refine#[#[_,C.seq I],λD nD=>iT nD (C.seq I) (hL.same C) ld () (λi b p d m R' hp y1 sx hB hR=>?_) λD' bs H' s' z1 eD lh fr u1 nd=>q D' bs H' (C.trans s') (C.free z1) eD lh (λx hx=>C.free (fr x hx)) u1 nd]
 room;simp![bst,fF]
 cases hd i p d hp y1,d1,d2;let bp:=br p (cH hp);calc#[b,Z,p,S,5000,5000,U,hB,Zw (sx _ _ eZ),(),(),bp.1,nS,bp.2.2,bS,(),(),.inr #[S1,.inl #[d,d1,d2,hR]]]
theorem D6 {K:ao}{as bs:ap}{ps rs ds:ae}{te:TE}{k:Hp}{D:Zs}(q:k D=Zy)(hA:SqL K k a (as.map L))(hL:LL K k as ps)(hB:SqL K k b (bs.map L))(hM:LL K k bs rs)(hd:ds.9=ps.9)(hr:ps.9<=rs.9)(hl:ps.9<=900)(hs:∀(i:O)(x y:Zs)(p r d:aa)(c:Hp)(R:VK),ps[i]?=W p->rs[i]?=W r->ds[i]?=W d->Same k c->SqL K c x (p.map B)->SqL K c y (r.map B)->eE c R (d.map B)->te (f7 fv σ (W (L x)) (W (L y))) c R)(he:gQ k Q ds):vn K (Itz K a b) fv te Q σ k D:=by
 obtain⟨s,f⟩:∃s:dG,∀j c,s j c↔∃h:ap,c D=W (Y' (h.map L))/\LH c h (ds.take j)/\D∉h/\h.Nodup/\(∀b∈h,k b=Zy)/\Same k c:=#[_,λ_ _=>Zj]
 refine CJ (xs:=as.map L) (ys:=bs.map L) s ((f _ _).mpr #[[],ai,LH.nil _,by simp,ln,by simp,au q _]) (λi c _ _ z=>by cases (f i c).mp z,_,_,_,_,_,_,z;calc#[z.seq hA,z.seq hB]) ?_ ?_
 .intro j v1 v2 pt c h1 h2 C E;cases (f _ _).mp C,h,k1,m,H,I,M,n;cases hL.nth h1,x,p,rfl,_,hp,hX;cases hM.nth h2,y,r,rfl,_,P,hY;let hj:j<ps.9:=(a_.mp hp).1;let o:ds[j]?=W ds[j]:=aq ();let u:=au E (.tup [L x,L y]);let X:=n.trans u;calc hs j x y p r _ _ _ hp P o X (X.seq hX) (X.seq hY) λF H2 s2 nF eF=>?_;let t2:=u.trans s2;let lk:=m.len;rw[cB]at lk;let l:=u.free nF;let x0:F≠D:=λz=>by rw[z,k1]at l;cases l
  let y0:F∉h:=m.notin l;let m1:D∉h++[F]:=λz=>by
   rcases b5.mp z with z|z
   .exact H z
   .exact x0 (bZ.mp z).symm
  refine#[_,t2 _ _ k1,#v[af,cy ()],(f _ _).mpr #[h++[F],by rw[ai];simp,?_,m1,?_,?_,(n.trans t2).more q]]
  .let e:ds.take (j+1)=ds.take j++[ds[j]]:=by rw[dI,o];rfl
   rw[e];exact ((m.same t2).snoc eF).upd m1
  .exact kh.mpr #[I,by simp,λx hx y hy z=>y0 (by rw[bZ.mp hy]at z;rw[<-z];calc hx)]
  .intro x hx;rcases b5.mp hx with z|z
   .exact M x z
   .rw[bZ.mp z];exact n.free l
 .intro H' C;cases (f _ _).mp C,h,k1,m,H,I,M,n;let e1:=hL.len;let e2:=hM.len;rw[af,af,ii ()]at m;calc he D h H' n q k1 m M H I
def Uu {K:ao}(w B KM:O)(St:aB->aE->Y->Prop)(Vq:aB->ae->Prop)(Rl:aB->ae->ae->Prop):Sp:=λvs H Q _=>∃(A Wa:Zs)(us wa:ap)(qs:aB)(wts:ae),vs=[.ref A,.ref Wa]/\SqL K H A (us.map L)/\VL K H us qs/\(∀q,qs[0]?=W q->q.9=w)/\qs≠[]/\(∀(i:O)(q:ae)(cs:aE)(pl:Y),qs[i]?=W q->St (qs.take i) cs pl->Vq (qs.take i) q)/\
 SqL K H Wa (wa.map L)/\LL K H wa wts/\wts.9=qs.9/\qs.9<=6/\(∀p∈wts,p.9<=12/\S p/\∀x∈p,Bd 3000 x)/\(∀cs pl,¬St qs cs pl)/\
 ∀(i:O)(q:ae)(ws:ae)(cs:aE)(pl:Y),qs[i]?=W q->St (qs.take i) cs pl->Rl (qs.take i) q ws->ws.9=i+1/\(∀p∈ws,p.9<=20/\S p/\∀x∈p,Bd 4480 x)/\∃(ds:ae)(l R:aa)(f:O->aa),(dw ah ws wts).getLast?=W l/\(∀r∈dw ah ws wts,S r/\r.9<=20/\∀x∈r,Bd 5000 x)/\
  f 0=[]/\(∀i r,(dw ah ws wts)[i]?=W r->fJ (f i) r (f (i+1)))/\(∀i,(f i).9<=1000)/\f (dw ah ws wts).9=R/\R≠[]/\S R/\R.9<=20/\(∀x∈R,Bd 5000 x)/\ds.9=(dw ah ws wts).9/\(∀(i:O) r d,(dw ah ws wts)[i]?=W r->ds[i]?=W d->S d/\Div r (fK R l) d)/\gQ H Q ds
def Lb {P:Zb}{K:ao}{mg:ck}{base:ZN}(T:Tx K mg){w B o:O}{St:aB->aE->Y->Prop}(Z:SpTh w B o St Vq Rl):FnOk P wd K mg base CX0 (2*(o+2)+12) T.WN.ax T.WN.dx ["vectors","weights"] (Uu (K:=K) w B o St Vq Rl):=by
 let F:=T_ (P:=P) (wd:=wd) (base:=base) T Z;refine T.WN.Fx.ok Ju (λvs H Q E h=>?_) (λm1 A outer s H vs Q E u h=>?_)
 .cases h,A,Wa,us,wa,qs,a,rfl,_;rfl
 cases h,A,Wa,us,wa,qs,a,rfl,hA,hL,hw,ne,C,hW,lW,lw,l6,bw,c,q;refine#[_,s!"ʍȣʄ˽Ŗ ȤȥȦʽʨȧɜŖ ȨȩȪɭœ͒ɷ̵͓ʛʩyɜŖ ˌʇ˱ɰ",?_]
 w_up
 calc#[A,us,qs,U,hA,hL,hw,ne,C,λH1 i qv D bs k I pl hq M hR n nD eD lD nb Db=>?_,λH1 I pl M _=>Zq M (c I pl)];cases q i qv k I pl hq M hR,x2,X,ds,l,R,f,t1,t2,t3,t4,t5,t6,t7,t8,t9,x0,y0,z0,u0;let hi:=(a_.mp hq).1;calc#[D,U,_,Zw eD,_,n.seq hW,λD2 j0=>?_];let lz:(dw ah k a).9=k.9:=by rw[km];lk
 refine D6 (ps:=k) (rs:=a) (ds:=dw ah k a) j0 (Zw eD) lD.ll (n.seq hW) (lW.same n) lz () () (λj x y p r d Hx R' hp m hd sx hX hY hN=>?_) (λD3 k0 H3 s3 y2 n0 x1 f3 n3 z2=>?_)
 .room;simp![f7]
  let pb:=X p (cH hp);let rb:=bw r (cH m);rw[qT,hp,m]at hd
  cases hd
  exact#[x,y,p,r,U,hX,hY,(),(),λz hz=>(pb.2.2 z hz).mono (),λz hz=>(rb.2.2 z hz).mono (),hN]
 let e:=n.trans s3;calc#[D3,k0,_,ds,l,R,f,U,Zw n0,x1.ll,t1,(),t2,t3,t4,t5,t6,t7,t8,t9,x0,y0,z0,λD4 y1 H4 s4 z1 u1 v1 j1 n4 g1=>u0 D4 y1 H4 (e.trans s4) (e.free z1) u1 v1 (λb hb=>e.free (j1 b hb)) n4 g1]
def Uv {xs:aa}(h:xs≠[]):∃a,xs=a++[Z xs (xs.9-1)]:=by
 let e:=NE h;let b:xs.9≠0:=λz=>h (b7 z);calc#[xs.dropLast,?_];rw[aO (),<-lE h];calc e.symm
def j_ (a:S c)(nd:S d)(b:c≠[])(h:∀n,0=J n c*J n d):d=[]:=by
 by_cases z:d=[]
 .exact z
 .calc Zq (aZ (bJ _ _) bH λn=>?_) (d9 a nd b z);rw[aG,<-h];rfl
def ThinOk (gs:ae)(l:aa)(ds:ae)(R:aa)(f:O->aa):Prop:=f 0=[]/\(∀i r,gs[i]?=W r->fJ (f i) r (f (i+1)))/\(∀i,(f i).9<=1000)/\f gs.9=R/\R≠[]/\S R/\R.9<=20/\(∀x∈R,Bd 5000 x)/\ds.9=gs.9/\
  (∀(i:O) r d,gs[i]?=W r->ds[i]?=W d->S d/\Div r (fK R l) d/\(∀n,J n r=J n (fK R l)*J n d)/\d.9<=20/\∀x∈d,Bd 600 x)/\(∃p0 t0,ds.getLast?=W (p0++[t0])/\0<t0)/\(∀s:O,Prm s->(∀u∈ds,∀j,(s:Y)∣Z u j)->False)/\∀n:O,J (n:Y) (fK R l)≠0
theorem Lc {gs Ms:ae}{D b k:O}(nF:S F)(E:F≠[])(hD:D<=19)(hk:gs.9<=k)(x2:Ms.9=gs.9)(hg:∀(i:O)(r M:aa),gs[i]?=W r->Ms[i]?=W M->S r/\S M/\(∀n,J n M=J n F*J n r)/\M.9<=D+1/\∀z∈M,Bd b z)(big:6*(2*D+1)+(b+6*k)*D+b*D+(b+6*k)+b+(b+14*D+8)+1<=4480)(b6:b+14*D+8<=600)(hl:gs.getLast?=W l)(l0:l≠[]):
  ∃(ds:ae)(R:aa)(f:O->aa),ThinOk gs l ds R f:=by
 unfold ThinOk;cases xE nF E () hk x2 hg big gs.9 (aC _),f,f0,fl,fs,Q,fz,fn;let g0:gs≠[]:=λz=>by rw[z]at hl;simp at hl
 let lg:0<gs.9:=cE.mpr g0;let er:gs[gs.9-1]?=W l:=by rw[<-gC];exact hl
 let F0:f gs.9≠[]:=λz=>l0 (fz z _ l () er);cases fn F0,tF,bF,us,u1,u2,u3,u4,u5;clear fn u5;let lR:=fl gs.9;let eM:∀i r,gs[i]?=W r->∃M,Ms[i]?=W M/\S r/\S M/\(∀n,J n M=J n F*J n r)/\M.9<=D+1/\(∀z∈M,Bd b z):=λi r h=>by
  let hi:=(a_.mp h).1;let H:Ms[i]?=W (Ms[i]'()):=aq _;exact#[_,H,hg i r _ h H]
 cases eM _ l er,_,_,x0,_;obtain⟨R,hR⟩:∃R,f gs.9=R:=#[_,rfl]
 rw[hR]at Q F0 tF bF u3 lR;let cp:=fU Q F0;obtain⟨R1,n0,y0,x1⟩:=DN cp Q λx hx=>gw R x hx;let c0:((ag R:O):Y)≠0:=()
 let y1:R1≠[]:=λz=>F0 (aZ Q bH λn=>by rw[y0,z];simp[J]);let vc:∀(c n:Y),J n [c]=c:=λc n=>by simp[J]
 obtain⟨q,o⟩:∃q,q=if clr 0 R=K' then R else [((ag R:O):Y)]:=#[_,rfl]
 obtain⟨C,y2,nC,C0,z1,z2⟩:∃C,(∀n,J n R=J n q*J n C)/\S C/\C≠[]/\0<Z C (C.9-1)/\∀s:O,Prm s->(∀j,(s:Y)∣Z C j)->False:=by
  by_cases z:clr 0 R=K'
  .refine#[[1],λn=>by rw[o,Zt z,vc,ya],e7 (),by simp,(),λs hs h=>?_];let I:(s:Y)∣1:=h 0;let H:s∣1:=by let:=oJ.mpr I;simpa using this
   let:=Nat.dvd_one.mp H;let:=hs.1;lk
  .let v2:R1.9=R.9:=by
    let h:=(dr (e7 c0) n0 ⋯ y1).1;let e:pdL [((ag R:O):Y)] R1=R:=aZ (bJ _ _) Q λn=>by rw[aG,vc,y0]
    rw[e]at h;simp at h;lk
   refine#[R1,λn=>by rw[o,N z,vc,y0],n0,y1,?_,λs hs h=>?_]
   .let I:=x1 (R.9-1);rw[I]at tF;rw[v2];exact EL tF ()
   .let h3:s*ag R∣ag R:=iS _ _ λx hx=>by
     cases di.mp hx,j,hj,rfl;cases h j,y,hy;rw[<-aO hj,x1,hy,fX];exact#[y,by grind]
    let h4:=mT cp h3;let:=hs.1;let:=fj (ag R) (show 2<=s by lk);lk
 let j2:q≠[]:=by rw[o];split;calc F0;simp
 let k2:S q:=by rw[o];split;calc Q;exact e7 c0
 obtain⟨m,v1,z0,sg⟩:∃m:Y,(m=1\/m=-1)/\fK R l=q.map (λz=>m*z)/\0<m*Z l (l.9-1):=by
  let nl:=x0;let m2:=dU nl l0;let eT:fK R l=if l≠[]/\Z l (l.9-1)<0 then q.map (λx=>-x) else q:=by rw[o];rfl
  rw[eT];by_cases z:Z l (l.9-1)<0
  .calc#[-1,.inr U,?_,()];rw[Zt #[l0,z]];exact gf λx _=>by lk
  .calc#[1,.inl U,?_,()];rw[N λh=>z h.2]
   conv=>lhs;rw[<-Nr q]
   exact gf λx _=>by show x=1*x;lk
 let j0:m≠0:=by rcases v1 with rfl|rfl <;> decide
 let X:m*m=1:=by rcases v1 with rfl|rfl <;> rfl
 let nT:S (fK R l):=by rw[z0];exact gx j0 k2
 let T0:fK R l≠[]:=by rw[z0];intro z;exact j2 (kf.mp z)
 let vT:∀n,J n (fK R l)=m*J n q:=λn=>by rw[z0,aJ]
 obtain⟨ds,k0⟩:∃ds,ds=us.map λu=>(pdL C u).map λz=>m*z:=#[_,rfl]
 let j1:ds.9=gs.9:=by rw[k0,af,u1]
 let g1:∀(i:O) r d,gs[i]?=W r->ds[i]?=W d->∃u,us[i]?=W u/\d=(pdL C u).map (λz=>m*z)/\S u/\S d/\∀n,J n r=J n (fK R l)*J n d:=λi r d hr hd=>by
  rw[k0,a7]at hd;cases e_.mp hd,u,P,rfl;calc#[u,P,U,u2 u (cH P),gx j0 (bJ _ _),λn=>?_];rw[vT,aJ,aG,u3 i r u hr P n,y2];generalize J n q=a;generalize J n C=b;generalize J n u=c;let:m*a*(m*(b*c))=(m*m)*(a*b*c):=by grind
  rw[this,X,cL]
 refine#[ds,R,f,f0,λi r hr=>fs i r (a_.mp hr).1 hr,λi=>by let:=fl i;lk,hR,F0,Q,(),λx hx=>(bF x hx).mono (),j1,λi r d hr hd=>?_,?_,λs hs h=>?_,λn=>?_]
 .cases g1 i r d hr hd,u,P,ed,nu,nd,vr;cases eM i r hr,M,_,nr,nM,vM,lM,bM;refine#[nd,λk=>?_,vr,?_]
  .rw[<-mL];exact dX (λn=>by rw[aG,vr]) k
  .by_cases z:r=[]
   .rw[j_ nT nd T0 λn=>by rw[<-vr,z];rfl];simp
   .by_cases d0:d=[]
    .rw[d0];simp
    let e:pdL (fK R l) d=r:=aZ (bJ _ _) nr λn=>by rw[aG,vr]
    let I:=(dr nT nd T0 d0).1;rw[e]at I;let t0:(fK R l).9≠0:=λz=>T0 (b7 z);let g2:=(dr nF nr E z).1;let m1:pdL F r=M:=aZ (bJ _ _) nM λn=>by rw[aG,vM]
    rw[m1]at g2;let M0:M≠[]:=by rw[<-m1];exact d9 nF nr E z
    let n2:F.9≠0:=λz=>E (b7 z);let ld:d.9<=D+1:=()
    exact#[(),λx hx=>(iW (e:=d) (t:=pdL F (fK R l)) nd nM M0 () lM ld bM (λn=>by rw[vM,vr,aG];grind) x hx).mono ()]
 .let hd:ds[gs.9-1]?=W (ds[gs.9-1]'()):=aq _;generalize ds[gs.9-1]'()=d at hd;cases g1 _ l d er hd,u,P,ed,nu,nd,vr;let u0:u≠[]:=λz=>l0 (aZ x0 bH λn=>by rw[u3 _ l u er P n,z];simp[J]);let p0:pdL C u≠[]:=d9 nC nu C0 u0;let d0:d≠[]:=by rw[ed];intro z;exact p0 (kf.mp z)
  cases Uv d0,q0,hq;refine#[q0,_,by rw[gC,j1,hd,<-hq],?_];let e1:Z d (d.9-1)=m*(Z C (C.9-1)*Z u (u.9-1)):=by
   rw[ed,dg,af,(dr nC nu C0 u0).2]
  let e2:Z l (l.9-1)=Z R (R.9-1)*Z u (u.9-1):=by
   let e:pdL R u=l:=aZ (bJ _ _) x0 λn=>by rw[aG,u3 _ l u er P n]
   rw[<-(dr Q nu F0 u0).2,e]
  rw[e2]at sg;rw[e1];let I:m*(Z R (R.9-1)*Z u (u.9-1))=Z R (R.9-1)*(m*Z u (u.9-1)):=by grind
  rw[I]at sg;let H:=EL sg tF;let h3:m*(Z C (C.9-1)*Z u (u.9-1))=Z C (C.9-1)*(m*Z u (u.9-1)):=by grind
  rw[h3];exact yq z1 H
 .calc u4 s hs λu P=>?_;let I:∀k,(s:Y)∣pm (Z C) (Z u) k:=λk=>by
   let H:=h _ #v[k0,b8.mpr #[u,P,U]] k;rw[dg,mL]at H;cases H,y,hy;calc#[m*y,?_];let:pm (Z C) (Z u) k=m*(m*pm (Z C) (Z u) k):=by rw[<-cI,X,cL]
   rw[this,hy];grind
  rcases pO hs I with z|z
  .exact (z2 s hs z).elim
  .exact z
 .rw[vT];calc fL j0 ?_;rw[o];by_cases z:clr 0 R=K'
  .rw[Zt z];exact Rm () ((xJ _ _).mp z)
  .rw[N z,vc];calc c0
def xK (us:ae)(d1:aa)(ws:ae)(d2:aa):ae:=us.map (λu=>ah u d2)++ws.map λv=>ah v d1
def jq (us:ae)(_:aa)(ws:ae)(_:aa):ae:=us.flatMap λu=>ws.map λv=>ah u v
def LH.app (h:LH H as ps)(g:LH H bs d):LH H (as++bs) (ps++d):=by
 refine#[by simp[h.len,g.len],λi b r a c=>?_];by_cases z:i<as.9
 .rw[dH z]at a;rw[dH #v[<-h.len,z]]at c;exact h.get i b r a c
 .rw[dQ ()]at a;rw[dQ (by rw[<-h.len];lk),<-h.len]at c;calc g.get _ b r a c
structure CdH (H:Hp)(t:Zs)(us:ae)(d:aa)(D B:Zs)(as:ap):Prop where
 t:H t=W (.tup [.ref D,.ref B])
 D:H D=W (Y' (as.map Z'))
 L:LH H as us
 B:H B=W (Y' (d.map V'))
 lu:us.9<=4
 bu:∀u∈us,u.9<=20/\∀x∈u,Bd 20000 x
 ld:d.9<=20
 bd:∀x∈d,Bd 20000 x
def CdH.same {t:Zs}{D B:Zs}(h:CdH H t us d D B as)(s:Same H a):CdH a t us d D B as:=#[s _ _ h.t,s _ _ h.D,h.L.same s,s _ _ h.B,h.lu,h.bu,h.ld,h.bd]
def D7 (g:ae->aa->ae->aa->ae):Sp:=λvs H Q _=>∃(tl tr D1 B1 D2 B2:Zs)(as bs:ap)(us ws:ae)(d1 d2:aa),vs=[.ref tl,.ref tr]/\CdH H tl us d1 D1 B1 as/\CdH H tr ws d2 D2 B2 bs/\gQ H Q (g us d1 ws d2)
def Uw:FnOk P w K mg base CX0 3 T.WZ.ax T.WZ.dx ["left","right"] (D7 xK):=by
 refine T.WZ.Fx.ok Da (λvs H Q E h=>?_) (λy0 A outer s H vs Q E hr h=>?_)
 .cases h,tl,tr,D1,B1,D2,B2,as,bs,us,ws,d1,d2,rfl,_;rfl
 cases h,tl,tr,D1,B1,D2,B2,as,bs,us,ws,d1,d2,rfl,a,j,q;refine#[_,s!"̚,̮*ȫʷʱɡɦʩ˙ˈ5Ƣʻʯ$ƣʀ̚7̮(Ȭʷʱʯʩ˙ˈ5Ƣʻʯ$ƣʀɨ̨͖",?_]
 w_up
 let lu:=a.lu;let lw:=j.lu;refine#[_,SqT.of a.t,_,U,_,U,#[_,Zw a.D],λX nX=>iT nX (Zw a.D) a.L.ll (ds:=us.map (λu=>ah u d2)) ⋯ () (λi b p d Hx R' n hd o hB hR=>?_) λY yb H1 C nY eY k ny Yn nd=>?_]
 .rw[a7,n]at hd
  cases hd
  let F:=a.bu p (cH n)
  room;simp![bst,fF]
  exact#[_,SqT.of (o _ _ j.t),_,U,b,B2,p,d2,U,hB,Zw (o _ _ j.B),by let:=F.1;lk,by let:=j.ld;lk,λz l=>(F.2 z l).mono (),λz l=>(j.bd z l).mono (),hR]
 let I:=a.same C;let c:=j.same C
 w_up
 refine#[_,SqT.of c.t,_,U,_,U,#[_,Zw c.D],λX nX=>iT nX (Zw c.D) c.L.ll (ds:=ws.map (λv=>ah v d1)) ⋯ () (λi b p d Hx R' n hd o hB hR=>?_) λZ zb H2 M nZ eZ m nz Zn x0=>?_]
 .rw[a7,n]at hd
  cases hd
  let F:=j.bu p (cH n)
  room;simp![bst,fF]
  exact#[_,SqT.of (o _ _ I.t),_,U,b,B1,p,d1,U,hB,Zw (o _ _ I.B),by let:=F.1;lk,by let:=a.ld;lk,λz l=>(F.2 z l).mono (),λz l=>(a.bd z l).mono (),hR]
 w_up
 let ly:=k.len;let lz:=m.len;rw[af]at ly lz;refine#[_,M _ _ eY,_,eZ,by rw[af,af,zaa];lk,λp R=>?_];let up:=au R (Y' (yb.map L++zb.map L));let f:=k.same M;refine q p (yb++zb) _ (C.trans (M.trans up)) ((C.trans M).free R) (by rw[ai,aY]) ((f.app m).same up) (λb hb=>?_) (λz=>?_) (kh.mpr #[nd,x0,λx hx y hy z=>?_])
 .rcases b5.mp hb with z|z
  .exact ny b z
  .exact C.free (nz b z)
 .rcases b5.mp z with z|z
  .exact f.notin R z
  .exact m.notin R z
 .cases k.mem hx,r,e;let:=nz y hy;rw[<-z,e]at this;cases this
def Ux:FnOk P w K mg base CX0 3 T.W1.ax T.W1.dx ["left","right"] (D7 jq):=by
 refine T.W1.Fx.ok Dd (λvs H Q E h=>?_) (λn0 A outer s H vs Q E hr h=>?_)
 .cases h,tl,tr,D1,B1,D2,B2,as,bs,j,n,R,d2,rfl,_;rfl
 cases h,tl,tr,D1,B1,D2,B2,as,bs,j,n,R,d2,rfl,C,c2,q;refine#[_,s!"ʍƤ˩̉ʱɡɦɶ7Ƥʓ1ːȭȮȯɪ#ˍ7Ȱʷʱʯʩ˙ʦ̗ɰ͔",?_]
 let lu:=C.lu;let lw:=c2.lu
 w_up
 calc#[(),λX nX=>?_];let uX:=au nX (Y' []);let eX:upd H X (Y' []) X=W (Y' (([]:ap).map L)):=ai;generalize upd H X (Y' [])=H0 at uX eX ⊢
 w_up
 calc#[_,SqT.of (uX _ _ C.t),_,U,_,U,#[_,Zw (uX _ _ C.D)],?_];obtain⟨Pv,f⟩:∃Pv:O->L2.St->Hp->Prop,∀i I o,Pv i I o↔∃(r3:Zk V)(l:ap),I=[W (L tl),W (L tr),W (L X),r3]/\o X=W (Y' (l.map L))/\LH o l (jq (j.take i) R n d2)/\l.Nodup/\X∉l/\(∀b∈l,H b=Zy)/\Same H o:=#[_,λ_ _ _=>Zj]
 refine kC (xs:=as.map L) Pv ((f _ _ _).mpr #[Zy,[],rfl,eX,LH.nil _,ln,by simp,by simp,uX]) (λi I o _ z=>by cases (f i I o).mp z,_,_,_,_,_,_,_,_,z;calc z.seq (Zw C.D)) ?_ ?_
 .intro i v I o hv hp;cases (f _ _ _).mp hp,r3,l,rfl,a,lx,F,Xn,fx,M;cases (C.L.same M).ll.nth (K:=K) hv,b,p,rfl,hb,x0,hB;let m:=c2.same M;let hu:=C.bu p (cH x0);let et:j.take (i+1)=j.take i++[p]:=by rw[dI,x0];rfl
  room;walk
  refine#[iz (Zw a),_,SqT.of m.t,_,U,_,U,#[_,Zw m.D],λY0 u0=>iT u0 (Zw m.D) m.L.ll (ds:=n.map λv=>ah p v) ⋯ () (λk b' p' d Hx R' y0 hd sx j0 hR=>?_) λY yb H1 s1 nY eY z0 ny Yn k0=>?_]
  .rw[a7,y0]at hd
   cases hd
   let hw:=c2.bu p' (cH y0)
   room;simp![bst,fF]
   exact#[b,b',p,p',U,sx.seq hB,j0,by let:=hu.1;lk,by let:=hw.1;lk,λz hz=>(hu.2 z hz).mono (),λz hz=>(hw.2 z hz).mono (),hR]
  let x1:=lx.len;let ly:=z0.len;rw[af]at ly;let lT:(jq (j.take i) R n d2).9<=16:=by
   unfold jq;rw[List.length_flatMap];let:∀xs:ae,xs.9<=4->(xs.map λu=>(n.map λv=>ah u v).9).sum<=xs.9*4:=λxs=>by
    induction xs with
    |nil=>intro _;simp
    |cons x xs ih=>
     intro h;let:=ih (by simp at h;lk);simp only[fo,i2,dO,af]at this ⊢;lk
   let h1:=this (j.take i) (by rw[cB];lk);let h2:(j.take i).9<=4:=by rw[cB];lk
   lk
  let y1:Y≠X:=λz=>by rw[z,a]at nY;cases nY
  let Xy:X∉yb:=λz=>by let:=ny X z;rw[a]at this;cases this
  refine#[Y,U,_,s1 _ _ a,_,eY,by rw[af,af,zaa];lk,(f _ _ _).mpr #[_,l++yb,U,by rw[ai,aY],?_,kh.mpr #[F,k0,λx hx y hy z=>?_],λz=>?_,λc hc=>?_,(M.trans s1).more nX]]
  .let e:jq (j.take (i+1)) R n d2=jq (j.take i) R n d2++n.map λv=>ah p v:=by unfold jq;rw[et,List.flatMap_append];simp
   rw[e];calc LH.upd ((lx.same s1).app z0) λz=>?_;rcases b5.mp z with z|z
   .exact Xn z
   .exact Xy z
  .cases lx.mem hx,r,e;let:=ny y hy;rw[<-z,e]at this;cases this
  .rcases b5.mp z with z|z
   .exact Xn z
   .exact Xy z
  .rcases b5.mp hc with z|z
   .exact fx c z
   .exact M.free (ny c z)
 .intro I o hp;cases (f _ _ _).mp hp,r3,l,rfl,a,lx,F,Xn,fx,M;rw[af,C.L.len,fY]at lx
  room;walk
  calc q X l _ M nX a lx fx Xn F
def Uy {n:O}{ds:ae}{P:TE}{f:Hp}{D:Zs}(o:f D=Zy)(hd:ds.9=n)(hl:n<=900)(hs:∀(i:O)(d:aa)(a:Hp)(R:VK),i<n->ds[i]?=W d->Same f a->eE a R (d.map B)->P (bst M X (W (B (0+(i:Y))))) a R)(he:gQ f Q ds):mo (Itr 0 n) M P Q X f D:=by
 obtain⟨q,c⟩:∃q:dG,∀j a,q j a↔∃bs:ap,a D=W (Y' (bs.map L))/\LH a bs (ds.take j)/\D∉bs/\bs.Nodup/\(∀b∈bs,f b=Zy)/\Same f a:=#[_,λ_ _=>Zj]
 refine uT q ((c _ _).mpr #[[],ai,LH.nil _,by simp,ln,by simp,au o _]) ?_ ?_
 .intro j a hj r;cases (c _ _).mp r,bs,k1,h,s,u,C,k;let l:ds[j]?=W ds[j]:=aq ();calc hs j _ a _ hj l k λF H2 E m eF=>?_;let lk:=h.len;rw[cB]at lk;let H:F≠D:=λz=>by rw[z,k1]at m;cases m
  let I:F∉bs:=h.notin m;let m1:D∉bs++[F]:=λz=>by
   rcases b5.mp z with z|z
   .exact s z
   .exact H (bZ.mp z).symm
  refine#[_,E _ _ k1,#v[af,cy ()],(c _ _).mpr #[bs++[F],by rw[ai];simp,?_,m1,?_,?_,(k.trans E).more o]]
  .let e:ds.take (j+1)=ds.take j++[ds[j]]:=by rw[dI,l];rfl
   rw[e];exact ((h.same E).snoc eF).upd m1
  .exact kh.mpr #[u,by simp,λx hx y hy z=>I (by rw[bZ.mp hy]at z;rw[<-z];calc hx)]
  .intro x hx;rcases b5.mp hx with z|z
   .exact C x z
   .rw[bZ.mp z];exact k.free m
 .intro H' r;cases (c _ _).mp r,bs,k1,h,s,u,C,k;rw[<-hd,fY]at h;calc he D bs H' k o k1 h C s u
structure VH (H:Hp)(us:ap)(qs:aB):Prop where
 len:us.9=qs.9
 get:∀(i:O)(u:Zs)(q:ae),us[i]?=W u->qs[i]?=W q->∃as,H u=W (Y' (as.map L))/\LH H as q
def VH.same (h:VH H us b)(s:Same H a):VH a us b:=⟨h.len,λi u q c d=>by
 cases h.get i u q c d,as,e,f;calc#[as,s _ _ e,f.same s]⟩
def VH.nil (H:Hp):VH H [] []:=#[U,λi u q e=>by simp at e]
def VH.snoc {u:Zs}{as:ap}(h:VH H us c)(e:H u=W (Y' (as.map L)))(l:LH H as q):VH H (us++[u]) (c++[q]):=by
 refine#[by simp[h.len],λi v r a b=>?_];by_cases z:i<us.9
 .rw[dH z]at a;rw[dH #v[<-h.len,z]]at b;exact h.get i v r a b
 .rw[dQ ()]at a;rw[dQ (by rw[<-h.len];lk),<-h.len]at b;let d:i-us.9=0:=by
   rcases zcq (i-us.9) with y|y
   .exact y
   .rw[yj (by simp;lk)]at a;cases a
  rw[d]at a b;simp at a b;rw[<-a,<-b];calc#[as,e,l]
def VH.vl {K:ao}(h:VH H us a):VL K H us a:=⟨h.len,λi u q b c=>by
 cases h.get i u q b c,as,d,e;calc#[as,Zw d,e.ll]⟩
def xL (w:O)(St:aB->aE->Y->Prop)(Vq:aB->ae->Prop)(Rl:aB->ae->ae->Prop)(qs:aB)(wts:ae)(G:ae->Prop):Prop:=
 (∀q,qs[0]?=W q->q.9=w)/\(∀(i:O)(q:ae)(cs:aE)(pl:Y),qs[i]?=W q->St (qs.take i) cs pl->Vq (qs.take i) q)/\(∀cs pl,¬St qs cs pl)/\(∀p∈wts,p.9<=12/\S p/\∀x∈p,Bd 3000 x)/\
 ∀(i:O)(q:ae)(ws:ae)(cs:aE)(pl:Y),qs[i]?=W q->St (qs.take i) cs pl->Rl (qs.take i) q ws->ws.9=i+1/\(∀p∈ws,p.9<=20/\S p/\∀x∈p,Bd 4480 x)/\∃(ds:ae)(l R:aa)(f:O->aa),(dw ah ws wts).getLast?=W l/\(∀r∈dw ah ws wts,S r/\r.9<=20/\∀x∈r,Bd 5000 x)/\
  f 0=[]/\(∀i r,(dw ah ws wts)[i]?=W r->fJ (f i) r (f (i+1)))/\(∀i,(f i).9<=1000)/\f (dw ah ws wts).9=R/\R≠[]/\S R/\R.9<=20/\(∀x∈R,Bd 5000 x)/\ds.9=(dw ah ws wts).9/\(∀(i:O) r d,(dw ah ws wts)[i]?=W r->ds[i]?=W d->S d/\Div r (fK R l) d)/\G ds
abbrev VF:=ae->aa->ae->aa->ae
structure TwoV (ps1 ps2:ae)(g:VF)(j:O)(qs:aB)(wts:ae):Prop where
 lq:qs.9=j
 lw:wts.9=j
 st:∀t,t<j->∃us1 b1 us2 b2,us1.9+1=ps1.9/\us2.9+1=ps2.9/\Crd ps1 t us1 b1/\Crd ps2 t us2 b2/\(∀u∈us1,S u)/\(∀u∈us2,S u)/\S b1/\S b2/\qs[t]?=W (g us1 b1 us2 b2)/\wts[t]?=W (ah b1 b2)
theorem TwoV.snoc {j:O}(h:TwoV c d g j i e){a b:ae}(l1:a.9+1=c.9)(k:b.9+1=d.9)(l:Crd c j a b1)(m:Crd d j b b2)(n1:∀u∈a,S u)(n:∀u∈b,S u)(o:S b1)(q:S b2):TwoV c d g (j+1) (i++[g a b1 b b2]) (e++[ah b1 b2]):=by
 refine#[by rw[cC,h.lq];rfl,by rw[cC,h.lw];rfl,λt X=>?_];by_cases z:t<j
 .cases h.st t z,r,s,x,y,C,E,F,H,I,M,P,Q,R,f;exact#[r,s,x,y,C,E,F,H,I,M,P,Q,by rw[dH #v[h.lq,z]];exact R,by rw[dH #v[h.lw,z]];calc f]
 .obtain rfl:t=j:=()
  calc#[a,b1,b,b2,l1,k,l,m,n1,n,o,q,by rw[dQ #v[h.lq,aC _],h.lq,gE];rfl,by rw[dQ #v[h.lw,aC _],h.lw,gE];rfl]
def Uz (fv:Zs)(g:VF)(w:O)(St:aB->aE->Y->Prop)(Vq:aB->ae->Prop)(Rl:aB->ae->ae->Prop):Sp:=λvs H Q _=>∃(R1 R2:Zs)(as1 as2:ap)(ps1 ps2:ae)(wd:O),vs=[.ref R1,.ref R2,.int (wd:Y),.ref fv]/\H R1=W (Y' (as1.map L))/\LH H as1 ps1/\H R2=W (Y' (as2.map L))/\LH H as2 ps2/\jZ ps1/\jZ ps2/\wd<=4/\(∀p∈ps1++ps2,wd*wd*p.9<=32)/\
 ∀qs wts,TwoV ps1 ps2 g (wd+1) qs wts->xL w St Vq Rl qs wts λds=>gQ H Q ds
def Ld {P:Zb}{K:ao}{mg:ck}{base:ZN}(T:Tx K mg){w B KM:O}{St:aB->aE->Int->Prop}(Z:SpTh w B KM St Vq Rl)(Fd:FnOk P wd K mg base CX0 3 fv x4 ["left","right"] (D7 g))(kd:Z6 K (.ref fv)=K')(bd:Binds K x4 ["left","right"] []):FnOk P wd K mg base CX0 (2*(KM+2)+14) T.WO.ax T.WO.dx ["one","other","width","vector_of"] (Uz fv g w St Vq Rl):=by
 let F:=Lb (P:=P) (wd:=wd) (base:=base) T Z;refine T.WO.Fx.ok nV (λvs H Q E h=>?_) (λj9 A outer s H vs Q E hr h=>?_)
 .cases h,R1,R2,n,x,I,M,wi,rfl,_;rfl
 cases h,R1,R2,n,x,I,M,wi,rfl,y4,v2,z4,k2,j0,g2,w4,hw,q;refine#[_,s!"'bɞƥɣƦƧƨ˻#͖˳$ʰå˩ˊå˩˷ʅɪ˨Fåɚ̭åʄŗɣŘřŚʇ̸$ɠvåʄŗɣŘřŚʦ̸$̹ɲ#ȱ-Ȳ+8ȳȴɛ7ɘWɘvɰ͙ʞʏ˙ɭ͜#ʱ͚ɦɰʨ͂ Ʃƪƫɤ:˪",?_]
 let l1:=j0.2.1;let l2:=g2.2.1
 w_up
 let k9:=v2.len;let g9:=k2.len;refine#[_,y4,_,z4,by rw[af,af,zaa];lk,λp0 u4=>?_];let u0:=au u4 (Y' (n.map L++x.map L));let e0:Zx H p0 (Y' (n.map L++x.map L)) p0=W (Y' ((n++x).map L)):=by rw[ai,aY]
 let v4:∀p∈I++M,p.9<=3:=λp hp=>by
  rcases b5.mp hp with z|z
  .exact (j0.2.2 p z).1
  .exact (g2.2.2 p z).1
 refine#[p0,n++x,I++M,wi,U,Zw e0,((v2.app k2).same u0).ll,λz=>j0.1.1 (List.append_eq_nil_iff.mp z).1,by rw[cC];lk,λp hp=>by let:=v4 p hp;lk,(),hw,λH1 s1=>?_];let g7:=u0.trans s1;clear u0 e0 s1 u4
 w_up
 refine#[(),λc k4=>?_]
 w_up
 calc#[(),λd C=>?_];let m2:d≠c:=λz=>by rw[z,ai]at C;cases C
 let m7:H1 d=Zy:=by rw[aK m2]at C;exact C
 let w2:=au k4 (Y' []);let w3:=au C (Y' []);let m1:=w3 _ _ (ai (H:=H1) (a:=c) (o:=.lst []));let x2:=ai (H:=Zx H1 c (Y' [])) (a:=d) (o:=.lst []);let g4:=w2.trans w3;generalize Zx (Zx H1 c (Y' [])) d (Y' [])=H3 at m1 x2 g4 ⊢;clear w2 w3 C;obtain⟨Pv,k0⟩:∃Pv:O->L2.St->Hp->Prop,∀i σ Hx,Pv i σ Hx↔∃(G:Hp)(us e:ap)(qs:aB)(k:ae)(r6 r7 r8:Zk V),σ=[W (L R1),W (L R2),W (V' (wi:Int)),W (L fv),W (L c),W (L d),r6,r7,r8]/\Same H G/\G c=Zy/\G d=Zy/\Same G Hx/\Hx c=W (Y' (us.map L))/\Hx d=W (Y' (e.map L))/\VH G us qs/\LH G e k/\TwoV I M g i qs k:=#[_,λ_ _ _=>Zj]
 let P0:Pv 0 [W (L R1),W (L R2),W (V' (wi:Int)),W (L fv),W (L c),W (L d),Zy,Zy,Zy] H3:=
  (k0 _ _ _).mpr #[H1,[],[],[],[],Zy,Zy,Zy,rfl,g7,k4,m7,g4,m1,x2,VH.nil _,LH.nil _,#[U,U,λt ht=>()]]
 w_up
 calc#[(),(),?_];rw[show ((wi:Int)+1).toNat=wi+1 by lk];refine ie Pv P0 ?_ ?_
 .intro i σ Hx hi hp;cases (k0 _ _ _).mp hp,G,us,e,qs,k,r6,r7,r8,rfl,sG,m4,n4,sX,X,n2,n0,x1,TV;let sH:=sG.trans sX;let ei:(0:Int)+(i:Int)=((i:O):Int):=()
  w_up
  rw[ei];calc#[R1,n,I,i,U,Zw (sH _ _ y4),(v2.same sH).ll,j0,(),λy1 b1 n7 x3 x8 m9 x5 y5 z5 D1 B1 u5 H4 s4 y2 v5 j5 k5 y8 y3 g5=>?_];let m5:=sH.trans s4
  w_up
  calc#[R2,x,M,i,U,Zw (m5 _ _ z4),(k2.same m5).ll,g2,(),λz1 b2 z8 z3 u8 n9 n5 x6 y6 D2 B2 z6 H5 s5 z2 u6 v6 j6 v8 u3 g6=>?_];let v3:=s4.trans s5;let m6:CdH H5 z5 y1 b1 D1 B1 u5:=#[s5 _ _ y2,s5 _ _ v5,j5.same s5,s5 _ _ k5,(),λu hu=>#[by let:=(x3 u hu).2.1;lk,(x3 u hu).2.2],(),x5]
  let n6:CdH H5 y6 z1 b2 D2 B2 z6:=#[z2,u6,v6,j6,(),λu hu=>#[by let:=(z3 u hu).2.1;lk,(z3 u hu).2.2],(),n5]
  let j8:B1≠c:=λz=>by rw[z,X]at y3;cases y3
  let k8:B2≠c:=λz=>by rw[z,s4 _ _ X]at u3;cases u3
  clear y2 v5 j5 k5 y8 y3 g5 z2 u6 v6 j6 v8 u3 g6;let x0:=v3 _ _ X;let u2:=v3 _ _ n2;let lq:=TV.lq;let lw:=TV.lw;let luq:=n0.len;let lwq:=x1.len
  w_up
  calc#[iz (Zw x0),z5,y6,D1,B1,D2,B2,u5,z6,y1,z1,b1,b2,U,m6,n6,λY yb H6 s6 nY eY x7 ny Yn ndy=>?_];let y0:=s6 _ _ x0;let y7:=s6 _ _ u2;let k3:∀a,H5 a=Zy->a≠c/\a≠d:=λa ha=>#[λz=>(by rw[z,x0]at ha;cases ha),λz=>by rw[z,u2]at ha;cases ha]
  calc#[_,y0,#v[af,cy ()],?_];let g3:=m6.same s6;let m3:=n6.same s6;let k6:∀a o,a≠c->H6 a=W o->Zx H6 c (Y' (us.map L++[L Y])) a=W o:=λa o ha h=>by rw[aK ha];exact h
  let z0:Zx H6 c (Y' (us.map L++[L Y])) c=W (Y' ((us++[Y]).map L)):=by rw[ai,aY];rfl
  let m:=k6 _ _ m2 y7;let z7:=k6 _ _ (B4 g3.t y0 λz=>nomatch z) g3.t;let u7:=k6 _ _ (B4 m3.t y0 λz=>nomatch z) m3.t;let v7:=k6 _ _ j8 g3.B;let j7:=k6 _ _ k8 m3.B;generalize Zx H6 c (Y' (us.map L++[L Y]))=H6' at k6 z0 m z7 u7 v7 j7 ⊢;calc#[iz (Zw m),_,SqT.of z7,_,U,_,SqT.of u7,_,U,B1,B2,b1,b2,U,Zw v7,Zw j7,(),(),λz hz=>(x5 z hz).mono (),λz hz=>(n5 z hz).mono (),λWn H7 s7 u1 g8=>#[_,s7 _ _ m,#v[af,cy ()],?_]];let k7:Wn≠c/\Wn≠d:=#[λz=>(by rw[z,z0]at u1;cases u1),λz=>by rw[z,m]at u1;cases u1]
  obtain⟨G2,v1⟩:∃G2:Hp,∀a,G2 a=if a=c\/a=d then Zy else H7 a:=#[_,λ_=>rfl]
  let g1:∀a o,H7 a=W o->a≠c/\a≠d->G2 a=W o:=λa o h z=>by rw[v1,N λy=>y.elim z.1 z.2];exact h
  let n3:Same G G2:=λa o h=>by
   let aV:a≠c:=λz=>by rw[z,m4]at h;cases h
   let aW:a≠d:=λz=>by rw[z,n4]at h;cases h
   exact g1 a o (s7 _ _ (k6 _ _ aV (s6 _ _ (v3 _ _ (sX _ _ h))))) #[aV,aW]
  let m8:Same G2 (Zx H7 d (Y' (e.map L++[L Wn]))):=λa o h=>by
   rw[v1]at h
   split at h
   .cases h
   .rename_i z;rw[aK λy=>z (.inr y)];exact h
  let n8:LH G2 yb (g y1 b1 z1 b2):=⟨x7.len,λj b r h1 h2=>by
   let ob:=k3 b (ny b (cH h1));calc g1 _ _ (s7 _ _ (k6 _ _ ob.1 (x7.get j b r h1 h2))) ob⟩
  refine (k0 _ _ _).mpr #[G2,us++[Y],e++[Wn],qs++[g y1 b1 z1 b2],k++[ah b1 b2],_,_,_,rfl,sG.trans n3,by rw[v1,Zt (.inl U)],by rw[v1,Zt (.inr U)],m8,#v[aK (ZQ m2),s7 _ _ z0],by rw[ai,aY];rfl,(n0.same n3).snoc (g1 _ _ (s7 _ _ (k6 _ _ (k3 Y nY).1 eY)) (k3 Y nY)) n8,(x1.same n3).snoc (g1 _ _ g8 k7),TV.snoc n7 z8 y5 x6 (λu hu=>(x3 u hu).1) (λu hu=>(z3 u hu).1) x8 u8]
 .intro σ Hx hp;obtain⟨G,us,e,qs,k,r6,r7,r8,rfl,sG,m4,n4,sX,X,n2,n0,x1,TV⟩:=(k0 _ _ _).mp hp
  w_up
  cases q qs k TV,j1,j2,j3,jw,j4;let lq:=TV.lq;let lw:=TV.lw;let sH:=sG.trans sX;refine#[c,d,us,e,qs,k,U,Zw X,(n0.same sX).vl,j1,λz=>by rw[z]at lq;simp at lq,j2,Zw n2,(x1.same sX).ll,(),(),jw,j3,λi qv ws cs pl a1 a2 a3=>?_];cases j4 i qv ws cs pl a1 a2 a3,t0,t1,ds,l,R,f,t2,t3,t4,t5,t6,t7,t8,t9,x9,y9,z9,u9,v9;calc#[t0,t1,ds,l,R,f,t2,t3,t4,t5,t6,t7,t8,t9,x9,y9,z9,u9,λD bs H' s' nD eD lD nb Db nd=>v9 D bs H' (sH.trans s') (sH.free nD) eD lD (λb hb=>sH.free (nb b hb)) Db nd]
def Le (g:VF)(wf:O->O->O)(w:O)(St:aB->aE->Y->Prop)(Vq:aB->ae->Prop)(Rl:aB->ae->ae->Prop):Sp:=λvs H Q _=>∃(R1 R2:Zs)(as1 as2:ap)(ps1 ps2:ae)(r1 r2:O),vs=[.ref R1,.ref R2]/\H R1=W (Y' (as1.map L))/\LH H as1 ps1/\H R2=W (Y' (as2.map L))/\LH H as2 ps2/\jZ ps1/\jZ ps2/\ps1.9=r1+1/\ps2.9=r2+1/\(∀p∈ps1++ps2,wf r1 r2*wf r1 r2*p.9<=32)/\
 ∀qs wts,TwoV ps1 ps2 g (wf r1 r2+1) qs wts->xL w St Vq Rl qs wts λds=>gQ H Q ds
section
variable {P:Zb}{wd:ZW}{K:ao}{mg:ck}{base:ZN}{w B KM:O}{St:aB->aE->Y->Prop}{Vq:aB->ae->Prop}{Rl:aB->ae->ae->Prop}
def UA (T:Tx K mg)(Z:SpTh w B KM St Vq Rl):FnOk P wd K mg base CX0 (2*(KM+2)+15) T.WF.ax T.WF.dx ["one","other"] (Le xK (λa b=>a+b) w St Vq Rl):=by
 let F:=Ld (P:=P) (wd:=wd) (base:=base) T Z (Uw T) T.WZ.Fx.kp T.WZ.bx;refine T.WF.Fx.ok RS (λy H Q E h=>?_) (λz A outer s H y Q E o h=>?_)
 .cases h,r,R2,e,f,c,d,u,x,rfl,_;rfl
 cases h,r,R2,e,f,c,d,u,x,rfl,k,l,m,n,i,j,I,M,C,q;calc#[_,s!"ʨ˽ć ƬƭƮʇ˱#ʅɞØɜć ̈́ʽɞØɜć ̈́́#̙Ưȵ ȶͅ",?_];let R:=i.2.1;let X:=j.2.1
 walk
 calc#[r,e,c,U,Zw k,l.ll,(),.inl #[i.1,R2,f,d,U,Zw m,n.ll,(),.inl #[j.1,_,U,_,U,?_]]];rw[show (c.9:Y)-1+((d.9:Y)-1)=((u+x:O):Y) by lk];calc#[r,R2,e,f,c,d,u+x,U,k,l,m,n,i,j,(),C,q]
def UB (T:Tx K mg)(Z:SpTh w B KM St Vq Rl):FnOk P wd K mg base CX0 (2*(KM+2)+15) T.WW.ax T.WW.dx ["one","other"] (Le jq (λa b=>a*b) w St Vq Rl):=by
 let F:=Ld (P:=P) (wd:=wd) (base:=base) T Z (Ux T) T.W1.Fx.kp T.W1.bx;refine T.WW.Fx.ok RT (λC H Q E h=>?_) (λI A outer s H C Q E y h=>?_)
 .cases h,z,R2,f,i,c,d,l,n,rfl,_;rfl
 cases h,z,R2,f,i,c,d,l,n,rfl,o,r,u,x,j,k,l1,l2,M,q;calc#[_,s!"ʨ˽ę ƬƭƮʇ˱#ʢɞØɜę ̈́ʽɞØɜę ̈́́#̙Ưȷ ȸͅ",?_];let m1:=j.2.1;let m2:=k.2.1
 walk
 calc#[z,f,c,U,Zw o,r.ll,(),.inl #[j.1,R2,i,d,U,Zw u,x.ll,(),.inl #[k.1,?_]]];let R:Bd 3 ((c.9:Y)-1):=Bd.of_lt (m:=8) () ();let X:Bd 3 ((d.9:Y)-1):=Bd.of_lt (m:=8) () ();calc#[_,U,_,U,R.fits X (),?_];let e:((c.9:Y)-1)*((d.9:Y)-1)=((l*n:O):Y):=by
  rw[fX,show (c.9:Y)-1=(l:Y) by lk,show (d.9:Y)-1=(n:Y) by lk]
 rw[e];let x0:l*n<=2*2:=fq () ();calc#[z,R2,f,i,c,d,l*n,U,o,r,u,x,j,k,(),M,q]
end
def fV (ps:ae)(r t:O)(n:Y):Int:=if r<=t+1 then pvL ps r (n+((t+1-r:O):Y)) else 1
structure SumV (ps:ae)(r:O)(qs:aB)(wts:ae):Prop where
 lq:qs.9=r+2
 lw:wts.9=r+2
 v0:∀c n,J n ((qs.getD 0 []).getD c [])=if c=0 then 1 else 0
 w0:∀n,J n (wts.getD 0 [])=1
 st:∀t,t<r+1->∃us bot,us.9=r/\Crd ps (t+1) us bot/\∀n c,c<r+1->J n ((qs.getD (t+1) []).getD c [])=J n ((qs.getD t []).getD c [])*fV ps r t n+(if c=0 then 0 else J n (us.getD (c-1) []))
 sw:∀t,t<r+1->∀n,J n (wts.getD (t+1) [])=J n (wts.getD t [])*fV ps r t n
structure SumP (ps:ae)(r j:O)(qs:aB)(wts:ae):Prop where
 lq:qs.9=j+1
 lw:wts.9=j+1
 v0:∀c n,J n ((qs.getD 0 []).getD c [])=if c=0 then 1 else 0
 w0:∀n,J n (wts.getD 0 [])=1
 st:∀t,t<j->∃us bot,us.9=r/\Crd ps (t+1) us bot/\∀n c,c<r+1->J n ((qs.getD (t+1) []).getD c [])=J n ((qs.getD t []).getD c [])*fV ps r t n+(if c=0 then 0 else J n (us.getD (c-1) []))
 sw:∀t,t<j->∀n,J n (wts.getD (t+1) [])=J n (wts.getD t [])*fV ps r t n
def SumP.full {r:O}{b:aB}{a:ae}(h:SumP ps r (r+1) b a):SumV ps r b a:=#[h.lq,h.lw,h.v0,h.w0,h.st,h.sw]
def SumP.snoc {r j:O}(h:SumP ps r j b a){q us:ae}{w d:aa}(lu:us.9=r)(k:Crd ps (j+1) us d)(l:∀n c,c<r+1->J n (q.getD c [])=J n ((b.getD j []).getD c [])*fV ps r j n+(if c=0 then 0 else J n (us.getD (c-1) [])))(m:∀n,J n w=J n (a.getD j [])*fV ps r j n):SumP ps r (j+1) (b++[q]) (a++[w]):=by
 let e:∀t,t<=j->(b++[q]).getD t []=b.getD t []:=λt i=>by rw[aD,dH (by rw[h.lq];lk),<-aD]
 let o:(b++[q]).getD (j+1) []=q:=by rw[aD,dQ (by rw[h.lq];lk),h.lq,gE];rfl
 let f:∀t,t<=j->(a++[w]).getD t []=a.getD t []:=λt i=>by rw[aD,dH (by rw[h.lw];lk),<-aD]
 let s:(a++[w]).getD (j+1) []=w:=by rw[aD,dQ (by rw[h.lw];lk),h.lw,gE];rfl
 refine#[by rw[cC,h.lq];rfl,by rw[cC,h.lw];rfl,λc n=>#v[e 0 (),h.v0 c n],λn=>#v[f 0 (),h.w0 n],λt i=>?_,λt i n=>?_]
 .by_cases z:t=j
  .subst z;rw[o,e t (aC _)];exact#[us,d,lu,k,l]
  .rw[e (t+1) (),e t ()];exact h.st t ()
 .by_cases z:t=j
  .subst z;rw[s,f t (aC _)];exact m n
  .rw[f (t+1) (),f t ()];calc h.sw t () n
def kk (r t:O):Nat:=if r=0 then t else t+1-r
structure SumZ (r:O)(qs:aB)(wts:ae):Prop where
 v:∀t v,qs[t]?=W v->v.9=r+1/\∀f∈v,S f/\f.9<=2*kk r t+1/\∀x∈f,Bd (20000+2000*t) x
 w:∀t p,wts[t]?=W p->p.9<=2*kk r t+1/\S p/\∀x∈p,Bd (910*t+1) x
def Lf {α:Type}{xs:G α}{x y:α}{j t:O}(l:xs.9=j)(h:(xs++[x])[t]?=W y):xs[t]?=W y\/(t=j/\y=x):=by
 by_cases z:t<xs.9
 .rw[dH z]at h;exact .inl h
 .rw[dQ ()]at h;let a:=(a_.mp h).1;let e:t-xs.9=0:=by simp at a;lk
  rw[e]at h;calc .inr #[(),by simpa using h.symm]
def SumZ.snoc {r j:O}(h:SumZ r b a)(lq:b.9=j)(lw:a.9=j){q:ae}{w:aa}(c:q.9=r+1/\∀f∈q,S f/\f.9<=2*kk r j+1/\∀x∈f,Bd (20000+2000*j) x)(d:w.9<=2*kk r j+1/\S w/\∀x∈w,Bd (910*j+1) x):SumZ r (b++[q]) (a++[w]):=by
 refine#[λt v e=>?_,λt p i=>?_]
 .rcases Lf lq e with z|⟨rfl,rfl⟩
  .exact h.v t v z
  .exact c
 .rcases Lf lw i with z|⟨rfl,rfl⟩
  .exact h.w t p z
  .calc d
def UC {K:ao}(w:O)(St:aB->aE->Y->Prop)(Vq:aB->ae->Prop)(Rl:aB->ae->ae->Prop):Sp:=λvs H Q _=>∃(R:Zs)(as:ap)(ps:ae)(r:O),vs=[.ref R]/\SqL K H R (as.map L)/\LL K H as ps/\jZ ps/\ps.9=r+1/\(∀p∈ps,(r+1)*(r+1)*p.9<=32)/\
 ∀qs wts,SumV ps r qs wts->SumZ r qs wts->xL w St Vq Rl qs wts λds=>gQ H Q ds
def UD {P:Zb}{K:ao}{mg:ck}{base:ZN}(T:Tx K mg){w B KM:O}{St:aB->aE->Y->Prop}(Z:SpTh w B KM St Vq Rl):FnOk P wd K mg base CX0 (2*(KM+2)+14) T.WX.ax T.WX.dx ["one"] (UC (K:=K) w St Vq Rl):=by
 let F:=Lb (P:=P) (wd:=wd) (base:=base) T Z;refine T.WX.Fx.ok iQ (λvs H Q E h=>?_) (λcdv A outer s H vs Q E hr h=>?_)
 .cases h,R,as,ps,r,rfl,_;rfl
 cases h,R,as,ps,r,rfl,hR,hL,rk,lp,hw,q;refine#[_,s!"ʭ¦ʄØɣ̈́ʽ'bɞƥɣƦƧƨɭʅɧ&ʧʍ¦̑ɹɹ̖ʘɷPgʙʛJʎʜ¦ɚˇʰ¦ɚ>ʤˊ¦ɚ>̀ʆŨʟʥʅɧ˨F¦ɚhɝW¦ʓā@ąʔɧɩɞĕɣĖėĘʡɡʣ͗ʔɧ$ˇ̚v̮WŪʷɪʩ˙̜¦ʀɠÀ¦̑ɹ>ɰʱɞŗɣŘřŚʇ̸$ɦ'ũ),͒ɷ͓ɘvɘÀ$ʩýɣþÿĀ̜¦ʀʜ¦ʄ˙˹ɘW$̹ɲʤ͙ʞ̀ʨ͂ Ʃƪƫɤ:˪",?_]
 w_up
 let r3:r<=2:=by let:=rk.2.1;lk
 calc#[R,as,ps,U,hR,hL,(),.inl #[rk.1,?_]];rw[show (ps.9:Y)-1=(r:Y) by lk];let u9:ps≠[]:=λz=>by rw[z]at lp;simp at lp
 w_up
 rw[show (r:Y)+1=((r+1:O):Y) by lk];refine#[R,as,ps,r+1,U,hR,hL,u9,(),λp hp=>by let:=(rk.2.2 p hp).1;lk,(),hw,λH1 s1=>?_]
 w_up
 calc#[(),λo1 v9=>#[(),λo2 j9=>#[(),(),λD0 m5=>?_]]];rw[gB];let u1:=au v9 (Y' [V' 1]);let u2:=au j9 (Y' [L o1]);let z4:=u2 _ _ (ai (H:=H1) (a:=o1) (o:=.lst [V' 1]));let v4:=ai (H:=Zx H1 o1 (Y' [V' 1])) (a:=o2) (o:=.lst [L o1]);let s2:=s1.trans (u1.trans u2);generalize Zx (Zx H1 o1 (Y' [V' 1])) o2 (Y' [L o1])=H2 at z4 v4 s2 m5 ⊢;refine Uy (ds:=bj r []) m5 ⋯ () (λi d Hx R' hi hd sx k9=>?_) (λX bs H3 s3 nX eX lX nb n5 nd=>?_)
 .rw[ke,Zt hi]at hd
  cases hd
  room;simp![bst]
  exact#[(),λp np=>k9 p _ (au np _) np ai]
 refine#[X,U,_,s3 _ _ v4,_,eX,?_,λVc x6=>?_]
 .rw[af,lX.len,mS];exact dj (cy (by simp;lk))
 rw[show [L o1]++bs.map L=(o1::bs).map L by rfl];let u4:=au x6 (Y' ((o1::bs).map L));let z0:=ai (H:=H3) (a:=Vc) (o:=.lst ((o1::bs).map L));let lV:LH (Zx H3 Vc (Y' ((o1::bs).map L))) (o1::bs) ([1]::bj r []):=(lX.same u4).cons (u4 _ _ (s3 _ _ z4));let s4:=s2.trans (s3.trans u4);generalize Zx H3 Vc (Y' ((o1::bs).map L))=H4 at z0 lV s4 ⊢;clear z4 v4 u4 s3 lX eX nX nb n5 nd x6 u1 u2
 w_up
 calc#[(),λW0 y6=>?_];let w1:=au y6 (Y' [V' 1]);let y1:=ai (H:=H4) (a:=W0) (o:=.lst [V' 1])
 w_up
 calc#[(),λVs z1=>?_];let w2:=au z1 (Y' [L Vc]);let u0:=ai (H:=Zx H4 W0 (Y' [V' 1])) (a:=Vs) (o:=.lst [L Vc])
 w_up
 calc#[(),λWs v1=>?_];let z6:Ws≠Vs:=λz=>by rw[z,ai]at v1;cases v1
 let w3:=au v1 (Y' [L W0]);let s5:=s4.trans w1;let k0:=w2.free v1;let x0:=ai (H:=Zx (Zx H4 W0 (Y' [V' 1])) Vs (Y' [L Vc])) (a:=Ws) (o:=.lst [L W0]);let n0:=w3 _ _ u0;let m1:=w2.trans w3;let x2:=lV.same w1;let j0:=w1 _ _ z0;generalize Zx (Zx (Zx H4 W0 (Y' [V' 1])) Vs (Y' [L Vc])) Ws (Y' [L W0])=H5 at x0 n0 m1 ⊢;generalize Zx H4 W0 (Y' [V' 1])=G0 at s5 y1 m1 z1 k0 x2 j0;clear lV z0 w1 s4 u0 w2 w3;obtain⟨Pv,y2⟩:∃Pv:O->L2.St->Hp->Prop,∀i σ Hx,Pv i σ Hx↔∃(G:Hp)(vc wc:Zs)(us y0 z2:ap)(qs:aB)(u v:ae)(x:aa)(r6 r7 r8 r9:Zk V),σ=[W (L R),W (V' r),W (L vc),W (L wc),W (L Vs),W (L Ws),r6,r7,r8,r9]/\Same H G/\G Vs=Zy/\G Ws=Zy/\Same G Hx/\Hx Vs=W (Y' (us.map L))/\Hx Ws=W (Y' (y0.map L))/\VH G us qs/\LH G y0 u/\G vc=W (Y' (z2.map L))/\LH G z2 v/\G wc=W (Y' (x.map V'))/\qs.getD i []=v/\u.getD i []=x/\SumP ps r i qs u/\SumZ r qs u:=#[_,λ_ _ _=>Zj]
 let P0:Pv 0 [W (L R),W (V' r),W (L Vc),W (L W0),W (L Vs),W (L Ws),Zy,Zy,Zy,Zy] H5:=by
  refine (y2 _ _ _).mpr #[G0,Vc,W0,[Vc],[W0],o1::bs,[[1]::bj r []],[[1]],[1]::bj r [],[1],Zy,Zy,Zy,Zy,rfl,s5,z1,k0,m1,n0,x0,(VH.nil G0).snoc j0 x2,(LH.nil G0).snoc y1,j0,x2,y1,rfl,rfl,#[U,U,λc n=>?_,λn=>by simp[J],λt ht=>(),λt ht=>()],#[λt v hv=>?_,λt p hp=>?_]]
  .cases c with
   |zero=>simp[J]
   |succ c=>
    rw[N ()];show J n ((bj r ([]:aa)).getD c [])=0;rw[aD,ke]
    split <;> rfl
  .let t0:t=0:=by let:=(a_.mp hv).1;simp at this;lk
   subst t0;simp at hv;subst hv;refine#[by simp,λf hf=>?_];rcases bV.mp hf with rfl|hf
   .exact#[jU [],by simp,by simp[Bd.one]]
   .rw[ND hf];exact#[bH,by simp,by simp]
  .let t0:t=0:=by let:=(a_.mp hp).1;simp at this;lk
   subst t0;simp at hp;subst hp;exact#[by simp,jU [],by simp[Bd.one]]
 generalize H5=H5' at P0 ⊢;clear x2 j0 y1 y6 s5 z1 k0 x0 n0 m1
 w_up
 calc#[(),(),(),(),?_];rw[show ((r:Y)+2-1).toNat=r+1 by lk];cases hL.lastAt rk.1.1,La,lst,m9,_,gL,n9;let els:lst=ps.getD r []:=by
  rw[gC,show ps.9-1=r by lk]at gL;exact (getD_some gL).symm
 let k4:=rk.2.2 lst (ni gL);refine ie Pv P0 ?_ ?_
 .intro i σ Hx hi hp;cases (y2 _ _ _).mp hp,G,vc,wc,us,y0,z2,qs,u,v,x,r6,r7,r8,r9,rfl,sG,u6,k0,sX,u0,x0,v2,m2,z0,lV,v6,qi,wi,SP,SZ;let sH:=sG.trans sX;obtain⟨M,hM⟩:∃M:L2.St->Hp->Prop,∀σ Hy,M σ Hy↔∃(F:Zs)(I:aa),σ=[W (L R),W (V' r),W (L vc),W (L wc),W (L Vs),W (L Ws),W (V' (1+(i:Y))),W (L F),r8,r9]/\Hy F=W (Y' (I.map V'))/\Same Hx Hy/\S I/\(r<=i+1->I.9<=3)/\(¬r<=i+1->I.9<=1)/\(∀y∈I,Bd 900 y)/\∀n,J n I=fV ps r i n:=#[_,λ_ _=>Zj]
  w_up
  room;refine gl M ?_ ?_
  .room;walk
   refine cu (λh=>?_) (λh=>?_)
   .let bb:Bd 3 (1+(i:Y)-(r:Y)):=Bd.of_lt (m:=8) () ();refine#[_,sH.seq hR,_,m9,La,lst,1+(i:Y)-(r:Y),60,3,U,sH.seq n9,(),k4.2,bb,(),λF Hy sy nF eF=>(hM _ _).mpr #[F,_,U,eF,sy,cn _,λ_=>aP (i4 _) #v[pE,k4.1],λz=>Zq () z,cP λk=>?_,λn=>?_]]
    .rw[cX];exact cV (P:=λy=>Bd 900 y) (λy hy=>(DX bb () k4.2 y hy).mono ()) (Bd.zero _) k
    .rw[xI,fD];unfold fV;rw[Zt (),els];show _=J (n+((i+1-r:O):Y)) (ps.getD r []);congr 1;lk
   .refine#[(),λp np=>(hM _ _).mpr #[p,[1],rfl,ai,au np _,jU [],λz=>Zq z (),λ_=>aC _,by simp[Bd.one],λn=>?_]];unfold fV;rw[N ()];simp[J]
  .intro σ' Hy hm;obtain⟨F,I,rfl,eF,sy,j6,m4,n4,n2,k6⟩:=(hM _ _).mp hm
   w_up
   let x1:=sX.trans sy;let lqi:qs[i]?=W v:=by
    let h1:i<qs.9:=by rw[SP.lq];lk
    rw[<-qi,aD,aq h1];rfl
   let lwi:u[i]?=W x:=by
    let h1:i<u.9:=by rw[SP.lw];lk
    rw[<-wi,aD,aq h1];rfl
   cases SZ.v i v lqi,lv,m6;cases SZ.w i x lwi,lx,nx,bx;let k1:kk r i<=1:=by unfold kk;split <;> lk
   let hk:(r<=i+1->kk r (i+1)=kk r i+1)/\(¬r<=i+1->kk r (i+1)=kk r i):=by unfold kk;split <;> lk
   let lfl3:I.9<=3:=by
    by_cases z:r<=i+1
    .exact m4 z
    .exact aP (n4 z) ()
   refine#[#[_,Zw (x1 _ _ z0)],λD nD=>iT (ps:=v) (ds:=v.map λp=>ah p I) nD (Zw (x1 _ _ z0)) (lV.same x1).ll ⋯ () (λj b p d Hz R' hp hd sz hB hN=>?_) (λX bs' Hz sz nX eX lX nb n5 nd=>?_)]
   .room;simp![bst]
    rw[a7,hp]at hd
    cases hd
    cases m6 p (cH hp),b1,b2,b3;exact#[_,U,b,F,p,I,U,hB,Zw (sz _ _ eF),(),(),λz hz=>(b3 z hz).mono (),λz hz=>(n2 z hz).mono (),hN]
   w_up
   rw[show (1:Y)+(i:Y)=((i+1:O):Y) by lk];calc#[(),λp1 n6=>#[(),λp2 x7=>?_]];let u1:=au n6 (Y' []);let u2:=au x7 (Y' [L p1]);let e1:=u2 _ _ (ai (H:=Hz) (a:=p1) (o:=.lst []));let e2:=ai (H:=Zx Hz p1 (Y' [])) (a:=p2) (o:=.lst [L p1]);let x3:=u1.trans u2;generalize Zx (Zx Hz p1 (Y' [])) p2 (Y' [L p1])=Hw at e1 e2 x3 ⊢;let tW:=sy.trans (sz.trans x3);let sW:=sH.trans tW;calc#[R,as,ps,i+1,U,sW.seq hR,hL.same sW,rk,(),λC bot lt tb nbot lb bb' crd tp Dt Bt ts H6 s6 y7 z7 x5 eBt nDt nBt v7=>?_];refine#[tp,U,_,SqT.of y7,_,U,Dt,U,_,s6 _ _ e2,_,z7,?_,λp3 j7=>?_]
   .rw[af,x5.len];exact dj (cy (by simp;lk))
   rw[show [L p1]++ts.map L=(p1::ts).map L by rfl];let u7:=au j7 (Y' ((p1::ts).map L));let e3:=ai (H:=H6) (a:=p3) (o:=.lst ((p1::ts).map L));let lT:LH (Zx H6 p3 (Y' ((p1::ts).map L))) (p1::ts) ([]::C):=(x5.same u7).cons (u7 _ _ (s6 _ _ e1));let t7:=x3.trans (s6.trans u7);let y5:=t7 _ _ eX;let k7:=lX.same t7;let y3:=sz.trans t7;generalize Zx H6 p3 (Y' ((p1::ts).map L))=H7 at e3 lT t7 y5 k7 y3 ⊢;clear e1 e2 x3 u1 u2 s6 y7 z7 x5 eBt nDt nBt v7 u7 j7 x7 n6
   w_up
   let bg:∀p∈v,S (ah p I)/\(ah p I).9<=2*kk r (i+1)+1/\∀z∈ah p I,Bd (20000+2000*i+902) z:=λp hp=>by
    cases m6 p hp,b1,b2,b3;let l1:=jo b1 j6 (cQ _ _) (fg _ _);refine#[cQ _ _,?_,cP λk=>?_]
    .by_cases z:r<=i+1
     .let:=m4 z;let:=hk.1 z;lk
     .let:=n4 z;let:=hk.2 z;lk
    .rw[fg];exact iD (c:=2) b3 n2 () k
   let bt:∀q∈([]:aa)::C,S q/\q.9<=2*kk r (i+1)+1/\∀z∈q,Bd 20000 z:=λq hq=>by
    rcases bV.mp hq with rfl|hq
    .exact#[bH,by simp,by simp]
    .cases tb q hq,c1,c2,c3;calc#[c1,?_,c3];let:0<C.9:=List.length_pos_of_mem hq;unfold kk;rw[N ()];lk
   let lr:C.9=r:=()
   refine#[_,Zw y5,_,Zw e3,λD2 nD2=>D6 (ps:=v.map λp=>ah p I) (rs:=[]::C) (ds:=dw gH (v.map λp=>ah p I) ([]::C)) nD2 (Zw y5) k7.ll (Zw e3) lT.ll (by simp;lk) (by simp;lk) (by simp;lk) (λj y z p q d Hv R' hp hq hd sv hY hZ hN=>?_) (λz3 m7 H8 s8 n7 x8 y8 nb2 nvb2 nd2=>?_)]
   .room;simp![f7]
    rw[qT,hp,hq]at hd
    cases hd
    cases b8.mp (cH hp),p',hp',rfl;cases bg p' hp',b1,b2,b3;cases bt q (cH hq),c1,c2,c3;let k2:kk r (i+1)<=2:=by unfold kk;split <;> lk
    exact#[y,z,_,q,U,hY,hZ,(),(),λz hz=>(b3 z hz).mono (),λz hz=>(c3 z hz).mono (),hN]
   let z5:=y3.trans s8
   w_up
   calc#[wc,F,x,I,U,Zw (z5 _ _ (x1 _ _ v6)),Zw (z5 _ _ eF),(),(),λz hz=>(bx z hz).mono (),λz hz=>(n2 z hz).mono (),λW2 H9 s9 u3 eW2=>?_];let u5:=z5.trans s9;let sG9:=x1.trans u5;let e9v:=s9 _ _ x8;let z8:=y8.same s9;let m3:=u5 _ _ (sy _ _ u0);let u8:=u5 _ _ (sy _ _ x0);let x4:=y3 _ _ (sy _ _ u0);let y4:=y3 _ _ (sy _ _ x0);let v8:=s8 _ _ x4;let j8:=s8 _ _ y4;let k8:∀a,H7 a=Zy->a≠Vs/\a≠Ws:=λa ha=>#[λz=>(by rw[z,x4]at ha;cases ha),λz=>by rw[z,y4]at ha;cases ha]
   let m8:W2≠Vs/\W2≠Ws:=#[λz=>(by rw[z,v8]at u3;cases u3),λz=>by rw[z,j8]at u3;cases u3]
   obtain⟨G2,v3⟩:∃G2:Hp,∀a,G2 a=if a=Vs\/a=Ws then Zy else H9 a:=#[_,λ_=>rfl]
   let k3:∀a o,H9 a=W o->a≠Vs/\a≠Ws->G2 a=W o:=λa o h z=>by rw[v3,N λy=>y.elim z.1 z.2];exact h
   let v5:Same G G2:=λa o h=>k3 a o (sG9 a o h) #[λz=>(by rw[z,u6]at h;cases h),λz=>by rw[z,k0]at h;cases h];let j5:LH G2 m7 (dw gH (v.map λp=>ah p I) ([]::C)):=#[z8.len,λj b q h1 h2=>k3 _ _ (z8.get j b q h1 h2) (k8 b (nb2 b (cH h1)))]
   let n8:=k3 _ _ e9v (k8 z3 n7);let x9:=k3 _ _ eW2 m8;obtain⟨q2,k5⟩:∃q2,dw gH (v.map λp=>ah p I) ([]::C)=q2:=#[_,rfl]
   rw[k5]at j5;let lq2:q2.9=r+1:=by rw[<-k5];simp;lk
   let y9:∀c,c<r+1->q2[c]?=W (gH (ah (v.getD c []) I) (([]::C).getD c [])):=λc hc=>by
    rw[<-k5,qT,a7,aq (show c<v.9 by lk),aq (show c<(([]:aa)::C).9 by simp;lk),aD,aq (show c<v.9 by lk),aD,aq (show c<(([]:aa)::C).9 by simp;lk)];rfl
   let SP2:SumP ps r (i+1) (qs++[q2]) (u++[ah x I]):=SP.snoc lr crd (λn c hc=>by
    rw[qi,aD,y9 c hc];show J n (gH _ _)=_;rw[Dk,a8,k6]
    cases c with
    |zero=>simp[J]
    |succ c=>rw[N ()];rfl) λn=>by rw[wi,a8,k6]
   let SZ2:SumZ r (qs++[q2]) (u++[ah x I]):=SZ.snoc SP.lq SP.lw ⟨lq2,λf hf=>by
    cases di.mp hf,c,hc,rfl;let e:=y9 c ();rw[aq hc]at e;rw[Zv e];obtain⟨b1,b2,b3⟩:=bg _ (mem_getD (d:=[]) (show c<v.9 by lk));obtain⟨c1,c2,c3⟩:=bt _ (mem_getD (d:=[]) (show c<(([]:aa)::C).9 by simp;lk));calc#[Dm _ _,aP (Dn _ _) (Nat.max_le.mpr #[b2,c2]),cP λk=>?_];rw[wT];let h1:=cV (P:=λy=>Bd (20000+2000*i+902) y) b3 (Bd.zero _) k;let h2:=cV (P:=λy=>Bd (20000+2000*i+902) y) (λy hy=>(c3 y hy).mono ()) (Bd.zero _) k;calc (h1.add h2).mono ()⟩ (by
    let l1:=jo nx j6 (cQ _ _) (fg _ _);refine#[?_,cQ _ _,cP λk=>?_]
    .by_cases z:r<=i+1
     .let:=m4 z;let:=hk.1 z;lk
     .let:=n4 z;let:=hk.2 z;lk
    .rw[fg];calc (iD (c:=2) bx n2 () k).mono ())
   room;walk
   let z9:Zx H9 Vs (Y' (us.map L++[L z3])) Ws=W (Y' (y0.map L)):=by rw[aK z6];exact u8
   let lus:us.9=i+1:=by rw[v2.len,SP.lq]
   let lws:y0.9=i+1:=by rw[m2.len,SP.lw]
   refine#[iz (Zw m3),_,m3,#v[af,cy ()],iz (Zw z9),_,z9,#v[af,cy ()],(y2 _ _ _).mpr #[G2,z3,W2,us++[z3],y0++[W2],m7,qs++[q2],u++[ah x I],q2,ah x I,_,_,_,_,rfl,sG.trans v5,by rw[v3,Zt (.inl U)],by rw[v3,Zt (.inr U)],λa o h=>?_,?_,by rw[ai,aY];rfl,(v2.same v5).snoc n8 j5,(m2.same v5).snoc x9,n8,j5,x9,?_,?_,SP2,SZ2]]
   .rw[v3]at h
    split at h
    .cases h
    .rename_i z;rw[aK λy=>z (.inr y),aK λy=>z (.inl y)];exact h
   .rw[aK z6.symm,ai,aY];rfl
   .rw[aD,dQ (by rw[SP.lq];lk),SP.lq,gE];rfl
   .rw[aD,dQ (by rw[SP.lw];lk),SP.lw,gE];rfl
 .intro σ Hx hp;obtain⟨G,vc,wc,us,y0,z2,qs,u,v,x,r6,r7,r8,r9,rfl,sG,u6,k0,sX,u0,x0,v2,m2,z0,lV,v6,qi,wi,SP,SZ⟩:=(y2 _ _ _).mp hp
  room;walk
  cases q qs u SP.full SZ,j1,j2,j3,jw,j4;let lq:qs.9=r+2:=SP.lq;refine#[Vs,Ws,us,y0,qs,u,U,Zw u0,(v2.same sX).vl,j1,λz=>by rw[z]at lq;simp at lq,j2,Zw x0,(m2.same sX).ll,by rw[SP.lw,SP.lq],(),jw,j3,λi' q' ws cs pl h1 h2 h3=>?_];cases j4 i' q' ws cs pl h1 h2 h3,g1,g2,ds,l,R',f,g3,g4,g5,g6,g7,g8,g9,g10,g11,g12,g13,g14,g15;let sF:=sG.trans sX;calc#[g1,g2,ds,l,R',f,g3,g4,g5,g6,g7,g8,g9,g10,g11,g12,g13,g14,λD3 cs3 H3 s3 nD3 eD3 lD3 f3 n3 nd3=>g15 D3 cs3 H3 (sF.trans s3) (sF.free nD3) eD3 lD3 (λb hb=>sF.free (f3 b hb)) n3 nd3]
def n1:aa->O
 |[]=>0
 |x::xs=>x.8+n1 xs
theorem D8:∀{a:aa}{x:Y},x∈a->x.8<=n1 a
 |y::ys,x,h=>by
  simp only[n1];rcases bV.mp h with rfl|h
  .lk
  .let:=D8 h;lk
theorem Lg:∀(a b:aa),n1 (cq a b)<=n1 a+n1 b
 |[],b=>by simp[cq,n1]
 |x::a,[]=>by simp[cq,n1]
 |x::a,y::b=>by
  simp only[cq,n1];let:=Lg a b;let:=ju x y;lk
theorem Li (c:Y):∀a:aa,n1 (a.map λz=>c*z)=c.8*n1 a
 |[]=>rfl
 |x::a=>by
  simp only[fo,n1];rw[Li c a,du,EJ]
def FN (M:O)(f:Y->Y):Prop:=∃xs:aa,n1 xs<=M/\∀n,f n=J n xs
def FN.mono {M N:O}(h:FN M f)(l:M<=N):FN N f:=by cases h,a,b,c;calc#[a,aP b l,c]
def FN.congr {M:O}{f g:Y->Y}(h:FN M f)(e:∀n,g n=f n):FN M g:=by cases h,a,b,c;calc#[a,b,λn=>by rw[e,c]]
def FN.add {M N:O}(c:FN M f)(d:FN N g):FN (M+N) λn=>f n+g n:=by
 cases c,a,i,e;cases d,b,j,h;calc#[cq a b,aP (Lg a b) (),λn=>by dsimp only;rw[d8,e,h]]
def FN.scale {M:O}(c:Y)(h:FN M f):FN (c.8*M) λn=>c*f n:=by
 cases h,a,b,d;calc#[a.map λz=>c*z,#v[Li,fE _ b],λn=>by dsimp only;rw[aJ,d]]
def FN.zero {M:O}:FN M λ_=>0:=#[[],bh _,λ_=>U]
def FN.const (c:Y):FN c.8 λ_=>c:=#[[c],by simp[n1],λn=>by simp[J]]
def FN.line (a b:Y):FN (a.8+b.8) λn=>a+b*n:=#[[a,b],by simp[n1],λn=>by simp[J];grind]
def FN.up {M:O}(h:FN M f):FN M λn=>n*f n:=by
 cases h,a,b,c;calc#[0::a,by simp[n1];exact b,λn=>by dsimp only;rw[c];simp[J]]
theorem FN.mul {N:O}(b:FN N g):∀(a:aa),FN (n1 a*N) λn=>J n a*g n
 |[]=>(FN.zero).congr λn=>by simp[J]
 |x::a=>by
  let c:=b.scale x;let d:=(FN.mul b a).up;let e:=c.add d;simp only[n1];rw[il];exact e.congr λn=>by simp only[J];grind
def FN.mul2 {M N:O}(a:FN M f)(b:FN N g):FN (M*N) λn=>f n*g n:=by
 cases a,c,d,e;calc ((FN.mul b c).mono (fj _ d)).congr λn=>by rw[e]
theorem D9 {M:O}(h:FN M f)(e:∀n,J n ys=f n):∀y∈ys,y.8<=M:=by
 cases h,a,b,c;calc cP (P:=λy=>y.8<=M) λj=>?_;rw[dX (ys:=a) (λn=>by rw[e,c]) j];calc cV (P:=λy=>y.8<=M) (λx hx=>aP (D8 hx) b) (bh _) j
noncomputable def pb (c:O->O) (s:O):O->O
 |0=>1
 |m+1=>c s*pb c (s+1) m
theorem Lj (c:O->O):∀(m s:O),pb c s (m+1)=pb c s m*c (s+m)
 |0,s=>by simp[pb]
 |m+1,s=>by
  let:=Lj c m (s+1);show c s*pb c (s+1) (m+1)=c s*pb c (s+1) m*c (s+(m+1));rw[this,iG,show s+1+m=s+(m+1) by lk]
theorem Lk {f:Y->Y}{c:O->O}(h:∀s,FN (c s) λn=>f (n+(s:O))):∀m,FN (pb c 0 m) λn=>cT f n m
 |0=>(FN.const 1).congr λn=>U
 |m+1=>by
  rw[Lj,qW];calc ((Lk h m).mul2 (h m)).congr λn=>U
def FN.neg {M:O}(h:FN M f):FN M λn=>- f n:=by
 let:=(h.scale (-1))
 refine (this.mono ?_).congr λn=>by lk
 simp
def FD (d:O)(f:Y->Y):Prop:=∃xs:aa,(∀k,d<k->Z xs k=0)/\∀n,f n=J n xs
def FD.mono {d e:O}(h:FD d f)(l:d<=e):FD e f:=by cases h,a,b,c;calc#[a,λk hk=>b k (),c]
def FD.congr {d:O}{f g:Y->Y}(h:FD d f)(e:∀n,g n=f n):FD d g:=by cases h,a,b,c;calc#[a,b,λn=>by rw[e,c]]
def FD.zero {d:O}:FD d λ_=>0:=#[[],λk _=>gn k,λ_=>U]
def FD.add {d:O}(a:FD d f)(b:FD d g):FD d λn=>f n+g n:=by
 cases a,c,e,h;cases b,i,j,l;calc#[cq c i,λk hk=>by rw[gu,e k hk,j k hk];rfl,λn=>by dsimp only;rw[d8,h,l]]
def FD.scale {d:O}(c:Y)(h:FD d f):FD d λn=>c*f n:=by
 cases h,a,b,e;calc#[a.map λz=>c*z,λk hk=>by rw[dg,b k hk,dY],λn=>by dsimp only;rw[aJ,e]]
def FD.neg {d:O}(h:FD d f):FD d λn=>- f n:=(h.scale (-1)).congr λn=>by lk
def FD.up {d:O}(h:FD d f):FD (d+1) λn=>n*f n:=by
 cases h,a,b,c;calc#[0::a,λk hk=>#v[gr,N (),b _ ()],λn=>by dsimp only;rw[c];simp[J]]
def FD.line (a b:Y):FD 1 λn=>a+b*n:=#[[a,b],λk hk=>aL (by simp;lk),λn=>by simp[J];grind]
def FD.const (c:Y):FD 0 λ_=>c:=#[[c],λk hk=>aL (by simp;lk),λn=>by simp[J]]
theorem FD.mulx {e:O}(a:FD e g):∀(b:aa),FD (b.9-1+e) λn=>J n b*g n
 |[]=>(FD.zero).congr λn=>by simp[J]
 |[x]=>((a.scale x).mono ⋯).congr λn=>by simp[J]
 |x::y::ys=>by
  let c:=(FD.mulx a (y::ys)).up;let d:=(a.scale x).mono (show e<=(y::ys).9-1+e+1 by lk);refine ((d.add c).mono (by simp;lk)).congr λn=>?_;rw[show J n (x::y::ys)=x+n*J n (y::ys) from rfl];grind
def FD.len {d:O}(h:FD d f):∃a:aa,S a/\a.9<=d+1/\∀n,f n=J n a:=by
 cases h,a,b,c;calc#[aw a,cn a,gO (cn a) λk hk=>#v[cX,b k ()],λn=>by rw[c];exact f9 (λk=>by rw[cX]) n]
def FD.mul2 {d e:O}(a:FD d f)(b:FD e g):FD (d+e) λn=>f n*g n:=by
 cases a.len,c,_,i,h;calc ((FD.mulx b c).mono ()).congr λn=>by rw[h]
def kS {d:O}(h:FD d f)(a:S ys)(e:∀n,J n ys=f n):ys.9<=d+1:=by
 cases h,b,c,i;exact gO a λk hk=>by rw[dX (ys:=b) (λn=>by rw[e,i]) k];calc c k ()
theorem Lm {b:O}:∀(a:aa)(R:G Rw),(∀r∈R,r b=0)->dot a R b=0
 |[],R,_=>by cases R <;> rfl
 |m::a,[],_=>rfl
 |m::a,r::R,h=>by rw[dot,h r e9,Lm a R λx hx=>h x (eQ _ hx)];simp
theorem Ln {rs:G Rw}{e N:O}(j:∀r∈rs,∀X,e+N<=X->r X=0):∀i,i<=rs.9->(∃(l:O)(h:l<rs.9)(cs:aE),l<i/\mi rs cs l≠0/\cs.9=l/\∀X,e<=X->bo rs cs l rs[l] X=0)\/∃cs:aE,cs.9=i/\cs.Nodup/\(∀c∈cs,e<=c/\c<e+N)/\mi rs cs i≠0
 |0,_=>.inr #[[],rfl,ln,by simp,by rw[pR];decide]
 |i+1,hi=>by
  rcases Ln j i () with ⟨l,h,cs,d,k⟩|⟨cs,d,k,q,s⟩
  .exact .inl #[l,h,cs,(),k]
  by_cases f:∃X,e<=X/\bo rs cs i rs[i] X≠0
  .cases f,X,u,m;let x:X∉cs:=λy=>by
    cases di.mp y,l,C,rfl;exact m (kG _ () C)
   let E:X<e+N:=by
    calc mU λh=>m ?_;cases i5 (rs:=rs) (cs:=cs) i rs[i],R,_,F;rw[F,Lm _ _ λr H=>j r (gU H) X h,j _ (cD _) X h];simp
   let n:cr (cs++[X]) i=cr cs i:=by unfold cr;rw[VI ()]
   refine .inr #[cs++[X],by simp[d],?_,λc I=>?_,?_]
   .rw[kh];exact#[k,by simp,λa o b f=>by rw[bZ.mp f];intro z;rw[z]at o;calc x o]
   .rcases b5.mp I with h|h
    .exact q c h
    .rw[bZ.mp h];exact#[u,E]
   .rw[mz () (by simp;lk)];let M:(cs++[X])[i]'(by simp;lk)=X:=by simp[d]
    let P:bo rs (cs++[X]) i rs[i] X=bo rs cs i rs[i] X:=by unfold bo;rw[n]
    rw[M,P];exact m
  .calc .inl #[i,(),cs,(),s,d,λX Q=>Zc λz=>f #[X,Q,z]]
theorem Lo {β:Rw->O}(h:∀r,1<=β r):∀l:G Rw,1<=prb β l
 |[]=>aC _
 |r::l=>jd (h r) (Lo h l)
def UE {R1 R2:G Rw}{a b:O}(e:∀r∈R1,∀j,(r j).8<=a)(f:∀r∈R2,∀j,(r j).8<=b)(h:1<=a)(i:1<=b):∃d:Rw->O,(∀r∈R1++R2,∀j,(r j).8<=d r)/\(∀r,1<=d r)/\prb d (R1++R2)<=a^R1.9*b^R2.9:=by
 classical
 refine#[λr=>if r∈R1 then (if r∈R2 then min a b else a) else b,λr c j=>?_,λr=>?_,?_]
 .dsimp only;by_cases z:r∈R1
  .rw[Zt z]
   split
   .exact Nat.le_min.mpr #[e r z j,f r (by assumption) j]
   .exact e r z j
  .rw[N z];exact f r ((b5.mp c).resolve_left z) j
 .dsimp only
  split
  .split
   .exact Nat.le_min.mpr #[h,i]
   .exact h
  .exact i
 .rw[pT];refine fq (pU (B:=a) _ λr c=>?_) (pU (B:=b) _ λr c=>?_)
  .rw[Zt c]
   split
   .exact Nat.min_le_left _ _
   .exact aC _
  .rw[Zt c]
   split
   .exact Nat.min_le_right _ _
   .calc aC _
theorem UF {a b:aa}{e kA kB N Ba Bb:O}(a1:1<=a.9)(b1:1<=b.9)(la:a.9+kA<=e+N+1)(lb:b.9+kB<=e+N+1)(hN:N<kA+kB)(E:∀z∈a,z.8<=Ba)(F:∀z∈b,z.8<=Bb)(H:1<=Ba)(I:1<=Bb):
  ∃d f S:aa,d.9<=kA/\f.9<=kB/\(∃z∈d++f,z≠0)/\Nml S/\S.9<=e/\(∀n,val n S=val n d*val n a+val n f*val n b)/\∀z∈S,z.8<=(N+1)^(N+1)*(Ba^kA*Bb^kB):=by
 obtain⟨rs,c⟩:∃rs,rs=fB (Z a) kA++fB (Z b) kB:=#[_,rfl]
 let o:rs.9=kA+kB:=by rw[c,cC,ja,ja]
 obtain⟨β,bd,b0,bp⟩:=UE (qf kA _ λJ=>cV (P:=λz=>z.8<=Ba) E (bh _) J) (qf kB _ λJ=>cV (P:=λz=>z.8<=Bb) F (bh _) J) H I;rw[<-c,ja,ja]at bp;rw[<-c]at bd;let q:∀r∈rs,∀J,e+N<=J->r J=0:=λr j J x=>by
  rw[c]at j;rcases b5.mp j with z|z
  .exact qg (L:=a.9-1) kA _ (λJ x=>aL ()) r z J ()
  .exact qg (L:=b.9-1) kB _ (λJ x=>aL ()) r z J ()
 rcases Ln q (N+1) () with ⟨l,M,cs,lN,m0,hc,z⟩|⟨cs,h1,Q,R,_⟩
 .cases i5 (rs:=rs) (cs:=cs) l rs[l],X,s,x2;let m:rs=(rs.take l++[rs[l]])++rs.drop (l+1):=by
   conv=>lhs;rw[<-qN (l+1) rs]
   rw[dI,aq M];rfl
  obtain⟨h,i⟩:∃h,h=(X++[mi rs cs l])++bj (rs.drop (l+1)).9 0:=#[_,rfl]
  let u:∀J,dot h rs J=bo rs cs l rs[l] J:=λJ=>by
   let y:dot h ((rs.take l++[rs[l]])++rs.drop (l+1)) J=bo rs cs l rs[l] J:=by
    rw[i,wp (by rw[cC,cC,s];rfl),nP s,Jo,x2 J];lk
   rw[<-m]at y;exact y
  let x0:h.9=kA+kB:=by
   let:=ZL ka m;rw[cC,cC]at this;rw[i,cC,cC,mS,s,<-o];exact this.symm
  obtain⟨d,f,C,lu,lw⟩:∃d f,h=d++f/\d.9=kA/\f.9=kB:=#[h.take kA,h.drop kA,(qN kA h).symm,by rw[cB];lk,by rw[qG];lk]
  let cS:∀J,Z (aw (cq (bI d a) (bI f b))) J=bo rs cs l rs[l] J:=λJ=>by
   rw[<-u,C,c,wp #v[ja,lu],cX,gu,gI,gI,<-lu,<-lw,qh,qh]
  refine#[d,f,aw (cq (bI d a) (bI f b)),(),(),#[mi rs cs l,by rw[<-C,i];simp,m0],cn _,gO (cn _) λk hk=>#v[cS,z k hk],λn=>by rw[cx,d8,cG,cG],cP λJ=>?_];rw[cS];let pre:prb β (rs.take l++[rs[l]])<=prb β rs:=by
   conv=>rhs;rw[m,pT]
   exact h_ _ (Lo b0 _)
  refine aP (wu (β:=β) (N:=N+1) () _ (rs.take l++[rs[l]]) (by rw[cC,cB];simp;lk) (λr j=>bd r #v[m,iE _ j]) λr _=>b0 r) (fq (fQ () ?_) (aP pre bp));unfold cr;rw[dO,oX,cB];lk
 .let:=oo N e cs Q R;lk
def FD.of {zs:aa}{d:O}(h:zs.9<=d+1):FD d λn=>J n zs:=#[zs,λk hk=>aL (),λ_=>U]
def FD.prod {xs ys:aa}{d:O}(h:xs.9+ys.9<=d+2):FD d λn=>J n xs*J n ys:=by
 by_cases x:xs=[]
 .exact FD.zero.congr λn=>by rw[x];simp[J]
 by_cases y:ys=[]
 .exact FD.zero.congr λn=>by rw[y];simp[J]
 let:=cE.mpr x;let:=cE.mpr y;calc ((FD.of (d:=xs.9-1) ()).mul2 (FD.of (zs:=ys) (d:=ys.9-1) ())).mono ()
def Dv (g x:aa):Prop:=∃t:aa,∀n,J n x=J n g*J n t
def xM {m:Y}(pg:gP (Z g))(m0:m≠0)(h:∀n,m*J n x=J n g*J n t):Dv g x:=by
 let dv:∀z∈t,m∣z:=cP λj=>by
  calc k_.mp (pP pg m.8 () (Z t) (λi=>?_) j);let e:pm (Z g) (Z t) i=m*Z x i:=by
   rw[<-mL,<-dg];exact dX (λn=>by rw[aG,aJ,h]) i
  rw[e];exact ge (k_.mpr (oQ m)) (i0 _ _)
 calc#[t.map λz=>z.fdiv m,λn=>jx m0 ?_];rw[h,<-qe m0 n t dv];grind
theorem UG {a b F A B r u v m f:aa}{c o:Y}{k D Ba Bb:O}(na:Nml a)(nb:Nml b)(H:Nml F)(q:F≠[])(nA:Nml A)(nB:Nml B)(hA:∀n,J n A=J n F*J n a)(hB:∀n,J n B=J n F*J n b)(nr:Nml r)(r0:r≠[])(pr:gP (Z r))(c0:c≠0)(d0:o≠0)(hr:∀n,c*J n r=J n m*J n a+J n f*J n b)(hd:∀n,J n u*J n f-J n m*J n v=o)(lr:r.9<k)(lk:k<=a.9)(mk:k<=b.9)(lv:f.9+k<=a.9+1)(lA:A.9<=D+1)(D20:D<=20)(ha:∀z∈A,z.8<=Ba)(hb:∀z∈B,z.8<=Bb)(o1:1<=Ba)(o2:1<=Bb){β:O}(I:∀i j,i<a.9->j<b.9->(i+j)^(i+j)*(Ba^j*Bb^i)<2^β):∀z∈r,Bd (β+14*D+8) z:=by
 let y0:r.9≠0:=λz=>r0 (b7 z);let a0:a≠[]:=λz=>by rw[z]at lk;simp at lk;lk
 let b0:b≠[]:=λz=>by rw[z]at mk;simp at mk;lk
 let lF:F.9≠0:=λz=>q (b7 z);let eA:=(dr H na q a0).1;let eB:=(dr H nb q b0).1;rw[aZ (bJ F a) nA λn=>by rw[aG,hA]]at eA;rw[aZ (bJ F b) nB λn=>by rw[aG,hB]]at eB;cases UF (a:=A) (b:=B) (e:=k-1+(F.9-1)) (kA:=b.9+1-k) (kB:=a.9+1-k) (N:=a.9+b.9+1-2*k) () () () () () ha hb o1 o2,l,d,S',lu,lw,#[x,xm,x0],s,z0,M,bS;obtain⟨S,hS⟩:∃S,S=aw (cq (bI l a) (bI d b)):=#[_,rfl]
 let nS:Nml S:=by rw[hS];exact cn _
 let P:∀n,J n S=J n l*J n a+J n d*J n b:=λn=>by rw[hS,cx,d8,cG,cG]
 let Q:∀n,J n S'=J n F*J n S:=λn=>by rw[M,P,hA,hB];grind
 let lS:S.9<=k-1:=by
  by_cases z:S=[]
  .rw[z];exact bh _
  let:=(dr H nS q z).1;rw[aZ (bJ F S) s λn=>by rw[aG,Q]]at this;lk
 let W0:∀n,J n l*J n f-J n d*J n m=0:=by
  obtain⟨W,hW⟩:∃W,W=aw (cq (bI l f) ((bI d m).map λz=>-1*z)):=#[_,rfl]
  let vW:∀n,J n W=J n l*J n f-J n d*J n m:=λn=>by rw[hW,cx,d8,aJ,cG,cG];grind
  let wz:W=[]:=by
   by_cases z:W=[]
   .exact z
   let nW:Nml W:=by rw[hW];exact cn _
   let l1:=(dr nW na z a0).1;let lW:W.9≠0:=λy=>z (b7 y);let f1:FD (a.9-2) λn=>J n f*J n S:=FD.prod ();let f2:FD (a.9-2) λn=>J n d*J n r:=FD.prod ();let l2:=kS (f1.add (f2.scale (-c))) (bJ W a) λn=>by
    rw[aG,vW,P];let:=hr n;grind
   lk
  intro n;rw[<-vW,wz];rfl
 obtain⟨L,hL⟩:∃L,L=aw (cq (bI u d) ((bI v l).map λz=>-1*z)):=#[_,rfl]
 let nL:Nml L:=by rw[hL];exact cn _
 let vL:∀n,J n L=J n u*J n d-J n v*J n l:=λn=>by rw[hL,cx,d8,aJ,cG,cG];grind
 let eu:∀n,o*J n l=J n m*J n L:=λn=>by rw[vL,<-hd n];let:=W0 n;grind
 let ew:∀n,o*J n d=J n f*J n L:=λn=>by rw[vL,<-hd n];let:=W0 n;grind
 let C:∀n,o*J n S=J n r*(c*J n L):=λn=>by
  rw[P,jc,<-cI,<-cI,eu,ew];let:=hr n;grind
 let E:∀{R:aa},(∀n,o*J n R=0)->∀z∈R,z=0:=λ{R} h=>cP λj=>by
  rw[dX (ys:=[]) (λn=>(kY.mp (h n)).resolve_left d0) j,gn]
 let L0:L≠[]:=λz=>by
  rcases b5.mp xm with y|y
  .exact x0 (E (λn=>by rw[eu,z];simp[J]) x y)
  .exact x0 (E (λn=>by rw[ew,z];simp[J]) x y)
 let S0:S≠[]:=λz=>L0 (j_ (gx c0 nr) nL (λy=>r0 (kf.mp y)) λn=>by
  let:=C n;rw[z]at this;rw[aJ];let e:J n ([]:aa)=0:=rfl;rw[e]at this;grind)
 obtain⟨t,ht⟩:=xM (x:=S) (t:=L.map λz=>c*z) pr d0 λn=>by rw[aJ];exact C n
 let X:S'≠[]:=λz=>S0 (j_ H nS q λn=>by rw[<-Q,z];rfl);refine iW (e:=r) (t:=pdL t F) nr s X D20 () () (λz hz=>?_) λn=>by rw[Q,ht,aG];grind
 calc dF (bS z hz) ?_;let:=I (a.9+1-k) (b.9+1-k) () ()
 rwa [show a.9+1-k+(b.9+1-k)=a.9+b.9+1-2*k+1 by lk]at this
structure Pri (x:aa):Prop where
 nm:S x
 ne:x≠[]
 pr:gP (Z x)
 tp:0<Z x (x.9-1)
structure Prs (a b x y:aa):Prop where
 hx:Pri x
 hy:y=[]\/Pri y
 lx:x.9<=a.9
 ly:y.9<=x.9
 st:(x=a/\y=b)\/(y.9<x.9/\x.9<=b.9)
 dv:∀g:aa,gP (Z g)->(Dv g x/\Dv g y↔Dv g a/\Dv g b)
 cf:∃(u v u' v':aa)(c c' δ:Y),c≠0/\c'≠0/\δ≠0/\(∀n,c*J n x=J n u*J n a+J n v*J n b)/\(∀n,c'*J n y=J n u'*J n a+J n v'*J n b)/\(∀n,J n u*J n v'-J n u'*J n v=δ)/\v.9+y.9<=a.9+1/\v'.9+x.9<=a.9+1
def Prs.start (c:Pri a)(d:Pri b)(h:b.9<=a.9):Prs a b a b:=
 #[c,.inr d,aC _,h,.inl #[U,U],λ_ _=>Zj,[1],[],[],[1],1,1,1,(),(),(),λn=>by simp[J],λn=>by simp[J],λn=>by simp[J],by simp;lk,by simp;lk]
def Dv.add (a:Dv g x)(b:Dv g y)(h:∀n,J n z=J n p*J n x+J n q*J n y):Dv g z:=by
 cases a,s,hs;cases b,t,c;calc#[cq (bI p s) (bI q t),λn=>by rw[h,hs,c,d8,cG,cG];grind]
theorem Prs.step {a b x y z rest Q:aa}{α κ:Y}(P:Prs a b x y)(hy:Pri y)(j:α≠0)(l:κ≠0)(o:∀n,α * J n x=J n Q*J n y+J n rest)(lQ:Q.9+y.9<=x.9+1)(r:∀n,J n rest=κ * J n z)(pz:z=[]\/Pri z)(X:z.9<y.9):Prs a b y z:=by
 cases P.cf,u,v,s,m,c,f,δ,c0,C,d0,ex,H,ed,lv,x0;let lx:=P.lx;let ly:=P.ly;let I:∀(k:Y) n,J n [k]=k:=λk n=>by simp[J]
 refine#[hy,pz,(),(),.inr #[X,?_],λg pg=>?_,?_]
 .rcases P.st with ⟨_,e⟩|⟨h,i⟩
  .rw[e];exact aC _
  .lk
 .rw[<-P.dv g pg];refine#[λ⟨h,i⟩=>#[?_,h],λ⟨h,i⟩=>#[i,?_]]
  .obtain⟨t,E⟩:=Dv.add (z:=x.map λw=>α * w) (p:=Q) (q:=[κ]) h i λn=>by rw[aJ,o,r,I]
   exact xM pg j λn=>by rw[<-aJ];exact E n
  .obtain⟨t,E⟩:=Dv.add (z:=z.map λw=>κ * w) (p:=[α]) (q:=Q.map λw=>-1*w) h i λn=>by rw[aJ,<-r,I,aJ,o];grind
   exact xM pg l λn=>by rw[<-aJ];exact E n
 .obtain⟨U,M⟩:∃U:aa,∀n,J n U=f * α * J n u-c*(J n Q*J n s):=#[cq (u.map λw=>f * α * w) ((bI Q s).map λw=>-c*w),λn=>by rw[d8,aJ,aJ,cG];grind]
  obtain⟨V,R⟩:∃V:aa,V=aw (cq (v.map λw=>f * α * w) ((bI Q m).map λw=>-c*w)):=#[_,rfl]
  let F:∀n,J n V=f * α * J n v-c*(J n Q*J n m):=λn=>by rw[R,cx,d8,aJ,aJ,cG];grind
  let y1:=cE.mpr hy.ne;let lV:=kS (((FD.of (zs:=v) (d:=a.9-y.9) ()).scale (f * α)).add ((FD.prod (xs:=Q) (ys:=m) (d:=a.9-y.9) ()).scale (-c))) (show S V by rw[R];calc cn _) λn=>by rw[F];grind
  refine#[s,m,U,V,f,c*f * κ,-(f * α * δ),C,fL (fL c0 C) l,by let:=fL (fL C j) d0;lk,H,λn=>?_,λn=>?_,(),()]
  .rw[M,F,cI,<-r];let h:=o n;let i:=ex n;let h3:=H n;grind
  .rw[M,F,<-ed n];grind
def Prs.bd {a b x y F A B:aa}{D Ba Bb β:O}(P:Prs a b x y)(y0:y≠[])(o:Pri a)(d:Pri b)(l:S F)(m:F≠[])(nA:S A)(nB:S B)(q:∀n,J n A=J n F*J n a)(f:∀n,J n B=J n F*J n b)(lA:A.9<=D+1)(lB:B.9<=D+1)(lb:b.9<=D+1)(D20:D<=20)(ba:∀z∈A,z.8<=Ba)(bb:∀z∈B,z.8<=Bb)(r:1<=Ba)(s:1<=Bb)(C:Bb<2^β)(h:∀i j,i<a.9->j<b.9->(i+j)^(i+j)*(Ba^j*Bb^i)<2^β):∀t∈y,Bd (β+14*D+8) t:=by
 rcases P.st with ⟨_,rfl⟩|⟨E,H⟩
 .let B0:B≠[]:=λz=>d.ne (j_ l d.nm m λn=>by rw[<-f,z];rfl);exact iW (e:=y) (t:=F) d.nm nB B0 D20 lB lb (λz I=>dF (bb z I) C) λn=>by rw[f];grind
 .cases P.cf,u,v,u',v',c,c',δ,c0,M,Q,ex,R,X,lv,k;let hy:=P.hy.resolve_left y0;calc UG o.nm d.nm l m nA nB q f hy.nm y0 hy.pr M Q R X E P.lx H k lA D20 ba bb r s h
def Dv.refl (x:aa):Dv x x:=#[[1],λn=>by simp[J]]
def Dv.nil (x:aa):Dv x []:=#[[],λn=>by simp[J]]
structure Gcd (a b x:aa):Prop where
 p:Pri x
 da:Dv x a
 db:Dv x b
 g:∀g:aa,gP (Z g)->Dv g a->Dv g b->Dv g x
def Prs.gcd (P:Prs a b x []):Gcd a b x:=by
 let h:=(P.dv x P.hx.pr).mp #[.refl x,.nil x];calc#[P.hx,h.1,h.2,λg pg c d=>((P.dv g pg).mpr #[c,d]).1]
def Gcd.symm (h:Gcd a b x):Gcd b a x:=#[h.p,h.db,h.da,λg pg c d=>h.g g pg d c]
theorem Gcd.uniq (h:Gcd a b x)(k:Gcd a b y):x=y:=by
 cases h.g y k.p.pr k.da k.db,s,hs;cases k.g x h.p.pr h.da h.db,t,m;let o:=cn t;let ns:=cn s;let c:∀n,J n y=J n x*J n (aw t):=λn=>by rw[cx];exact m n
 let d:∀n,J n x=J n y*J n (aw s):=λn=>by rw[cx];exact hs n
 let f:aw t≠[]:=λz=>k.p.ne (aZ k.p.nm bH λn=>by rw[c,z];simp[J]);let i:aw s≠[]:=λz=>h.p.ne (aZ h.p.nm bH λn=>by rw[d,z];simp[J]);cases dr h.p.nm o h.p.ne f,q,r;cases dr k.p.nm ns k.p.ne i,u,C;rw[aZ (bJ _ _) k.p.nm λn=>by rw[aG,c]]at q r;rw[aZ (bJ _ _) h.p.nm λn=>by rw[aG,d]]at u C;let lt:=cE.mpr f;let H:=cE.mpr i;let lx:=cE.mpr h.p.ne;let ly:=cE.mpr k.p.ne;obtain⟨w,E⟩:=qX.mp (show (aw t).9=1 by lk);let I:=h.p.tp;let l:=k.p.tp;let e:∀n,J n y=w*J n x:=λn=>by rw[c,E];simp[J];exact cW _ _
 let F:∀j,w∣Z y j:=λj=>by rw[dX (ys:=x.map λz=>w*z) (λn=>by rw[e,aJ]) j,dg];exact i0 _ _
 let M:=k.p.pr w.8 λj=>k_.mpr (F j);let P:0<w:=by
  let:Z y (y.9-1)=w*Z x (x.9-1):=by
   rw[dX (ys:=x.map λz=>w*z) (λn=>by rw[e,aJ]),dg,show y.9=x.9 by lk]
  rw[this]at l;exact VX l ()
 calc aZ h.p.nm k.p.nm λn=>by rw[e,show w=1 by lk,cL]
theorem xN {G:O}(T:Two a b g G):Gcd a b g:=by
 let of:∀{p x:aa},Div p g x->Dv g p:=λ{p x} h=>#[x,λn=>by rw[<-cG];calc f9 (λk=>#v[gI,h k]) n]
 cases T.da,x,hx;cases T.db,y,hy;cases T.bz,i,V,m,m0,_,bz;refine#[#[T.ng,λz=>?_,T.pg,T.up],of hx,of hy,λh c d e=>?_]
 .let:=T.up;rw[z]at this;simp[gn]at this
 .obtain⟨t,f⟩:=Dv.add (z:=g.map λw=>m*w) (p:=i) (q:=V) d e λn=>by rw[aJ,bz]
  calc xM c m0 λn=>#v[<-aJ,f n]
def cell (ns:aa)(k:O):Int:=ns.getD k 0
def UH (K:ao):Sp:=λvs H Q _=>∃(a:Zs)(ns:aa)(k:O),vs=[.ref a,.int (k:Y)]/\SqL K H a (ns.map B)/\Q (.int (cell ns k)) H
def xO:FnOk P w K mg base CX0 1 T.Wu.ax T.Wu.dx ["_law_script","_law_k"] (UH K):=by
 refine T.Wu.Fx.ok RU (λd H Q E h=>?_) (λe A outer s H d Q E f h=>?_)
 .cases h,a,ns,k,rfl,_;rfl
 cases h,a,ns,k,rfl,b,q;refine#[_,s!"ʸ¨ɧʲˑʮɧɟʼ&",?_]
 walk
 calc#[_,.inl b,?_];rw[af];unfold cell at q;refine cu (λh=>?_) (λh=>?_)
 .let c:k<ns.9:=()
  rw[aD,aq c]at q;exact#[_,b,_,fe c,q]
 .rw[aD,yj ()]at q;calc q
def UI:Sp:=λvs H Q _=>∃a b:Y,vs=[.int a,.int b]/\Q (.int (cO a.8 b.8:O)) H
def Lp:FnOk P w K mg base CX0 1 T.WP.ax T.WP.dx ["_law_one","_law_other"] UI:=by
 refine T.WP.Fx.ok n_ (λj H Q E h=>?_) (λk A outer s H j Q E n h=>?_)
 .cases h,a,b,rfl,_;rfl
 cases h,a,b,rfl,q;refine#[_,s!"ɠ(æɚ̠ʧʭæɚ̠ʛ˶¸ɡɸʍæʝ©ɧɡʭæɚɡʑ(æɚɪ̡",?_]
 room;simp![oj]
 refine iA (λm e d=>∃(x y:O)(r:Zk V),e=[W (.int x),W (.int y),r]/\d=H/\m=x/\cO x y=cO a.8 b.8) a.8 #[a.8,b.8,Zy,U,U,U,U] ?_
 rintro m e d ⟨x,y,r,rfl,rfl,rfl,hg⟩
 w_up
 refine cu (λh=>?_) (λh=>?_)
 .skip
  w_up
  refine#[λc f=>c=[W (B ((y:Y) % (m:Y))),W (B m),W (B ((y:Y) % (m:Y)))]/\f=d,?_,(),rfl,rfl]
  rintro c f ⟨rfl,rfl⟩
  refine#[y % m,oW _ (),y % m,m,_,by rw[<-zde],rfl,rfl,?_];rw[<-Nv];exact hg
 .let l:m=0:=()
  subst l;rw[EH]at hg;rw[hg];calc q
def UJ {xs:aa}(h:xs≠[])(a:xs.getLast h=0):aw xs.dropLast=aw xs:=by
 let e:=NE h;rw[a]at e
 conv=>rhs;rw[<-e]
 rw[CM]
def qp:FnOk P w K mg base CX0 1 T.Wj.ax T.Wj.dx ["_law_numbers"] (Df K):=by
 refine T.Wj.Fx.ok Jv (λu H Q E h=>?_) (λy A outer s H u Q E F h=>?_)
 .cases h,a,f,rfl,_;rfl
 cases h,a,f,rfl,C,I,q;refine#[_,s!"ʭȹɚ̧˔k͇ʳ̥ˆ̼ɸ1bŁtȺȻȼɧ̡",?_]
 walk
 calc#[_,.inl C,λL l=>?_];refine iA (λm n o=>∃b:aa,b.9=m/\n=[W (.ref a),W (.ref L)]/\o=upd H L (Y' (b.map B))/\aw b=aw f) f.9 #[f,U,U,U,U] ?_
 rintro m n o ⟨b,hm,rfl,rfl,he⟩
 walk
 calc#[_,.inl (Zw ai),?_];rw[af];let d:S b->Q (.ref L) (upd H L (Y' (b.map B))):=λj=>by
  calc q L _ (au l _) l ?_;rw[ai,<-he,Q4 j]
 refine cu (λh=>?_) (λh=>?_)
 .let c:b≠[]:=by intro z;rw[z]at h;simp at h
  refine#[_,Zw ai,_,i3 c,?_]
  walk
  refine cu (λk=>?_) (λk=>?_)
  .refine#[λe r=>e=[W (Z' a),W (Z' L)]/\r=upd H L (Y' (b.dropLast.map B)),?_,iz (Zw ai),_,ai,B (b.getLast c),?_,rfl,?_]
   .rintro e r ⟨rfl,rfl⟩
    exact#[b.9-1,(),b.dropLast,Nc,U,U,#v[UJ c k,he]]
   .rw[a7,af,<-gC,qL c];rfl
   .rw[GF,<-List.map_dropLast]
  .calc d (fO.mpr λx hx=>?_);rw[qL c]at hx;rw[<-Zv hx];exact k
 .let j:b=[]:=b7 ();calc d #v[j,bH]
def Lq (K:ao):Sp:=λvs H Q _=>∃(a b:Zs)(xs ys:aa)(k l:O),vs=[.ref a,.ref b]/\SqL K H a (xs.map B)/\SqL K H b (ys.map B)/\xs.9<=40/\ys.9<=40/\(∀x∈xs,Bd k x)/\(∀y∈ys,Bd l y)/\k+l<=100000/\
 ∀ws:aa,S ws->ws.9<=xs.9+ys.9->(∀j,Z ws j=pm (Z xs) (Z ys) j)->eE H Q (ws.map B)
def gy:FnOk P w K mg base CX0 2 T.Wc.ax T.Wc.dx ["_law_one","_law_other"] (Lq K):=by
 refine T.Wc.Fx.ok wI (λvs H Q E h=>?_) (λy0 A outer s H vs Q E hr h=>?_)
 .cases h,a,b,xs,m,k0,l0,rfl,_;rfl
 cases h,a,b,xs,m,k0,l0,rfl,M,X,la,lb,ba,bb,z0,q;refine#[_,s!"ʍś͋ʅ̫˷ɱ(̔7śˁɾʶɱ*̔:ś͏ʅʐʅɴ˂ʢʮ̅˺˂³ɪʅɴɲ͉çɣͤ̂",?_]
 w_up
 calc#[(),λp hp=>?_];let I:=au hp (Y' [B 0]);calc#[_,.inl (I.seq M),_,.inl (I.seq X),_,ai,?_];rw[af,af,mE];obtain⟨k,hk⟩:∃k:O,(xs.9:Y)+(m.9:Y)=(k:Y):=#[xs.9+m.9,()]
 let u0:k=xs.9+m.9:=()
 rw[hk,gB];refine#[(),(),dj (cy (by simp;lk)),λF hF=>?_];let s4:=I.trans (au hF (Y' ((bj k (0:Y)).map B)));let f0:=I.free hF;let h4:upd (upd H p (Y' [B 0])) F (Y' ((bj k (0:Y)).map B)) F=_:=ai;generalize upd (upd H p (Y' [B 0])) F (Y' ((bj k (0:Y)).map B))=H4 at s4 h4 ⊢
 w_up
 calc#[_,.inl (s4.seq M),?_];rw[af,gB];calc#[(),(),?_];obtain⟨Pv,o⟩:∃Pv:O->L2.St->Hp->Prop,∀l r n,Pv l r n↔∃(c:aa)(r1 z:Zk V),r=[W (L a),W (L b),W (L F),r1,z]/\n F=W (Y' (c.map B))/\c.9=k/\
  (∀j,Z c j=cv xs m l j)/\Same H n:=#[_,λ_ _ _=>Zj]
 refine ie Pv ((o _ _ _).mpr #[_,Zy,Zy,U,h4,by simp,λj=>by rw[Dh];rfl,s4]) ?_ ?_
 .intro l r n hi f;cases (o _ _ _).mp f,c,r1,z,rfl,y,C,d,sz;let e1:(0:Y)+(l:Y)=(l:Y):=ij _
  room;simp![e1]
  calc#[_,.inl (sz.seq X),?_];rw[af,gB];calc#[(),(),?_];obtain⟨Pw,u⟩:∃Pw:O->L2.St->Hp->Prop,∀j r n,Pw j r n↔∃(c:aa)(z:Zk V),r=[W (L a),W (L b),W (L F),W (B l),z]/\n F=W (Y' (c.map B))/\c.9=k/\
   (∀t,Z c t=cv xs m l t+if l<=t/\t<l+j then xs[l]*Z m (t-l) else 0)/\Same H n:=#[_,λ_ _ _=>Zj]
  refine ie Pw ((u _ _ _).mpr #[c,_,U,y,C,λt=>by rw[d t,N (show ¬(l<=t/\t<l+0) by lk)];lk,sz]) ?_ ?_
  .intro j r n hj f;cases (u _ _ _).mp f,c,z,rfl,y,C,d,sz;let e2:(0:Y)+(j:Y)=(j:Y):=ij _;let x0:(l:Y)+(j:Y)=((l+j:O):Y):=rfl
   room;simp![e2,x0]
   let x:l+j<c.9:=()
   refine#[_,Zw y,_,fe x,_,sz.seq M,_,fe hi,_,sz.seq X,_,fe hj,?_]
   room;walk
   refine#[(ba _ (cD hi)).fits (bb _ (cD hj)) (),_,y,l+j,iB #v[af,x],(u _ _ _).mpr #[c.set (l+j) (c[l+j]+xs[l]*m[j]),_,rfl,by rw[ai,map_set],#v[jt,C],λt=>?_,sz.more f0]];rw[kD _ _ _ _ x];by_cases e:t=l+j
   .subst e;let:=d (l+j);rw[N (show ¬(l<=l+j/\l+j<l+j) by lk),aO x]at this;rw[Zt (show l+j=l+j from rfl),Zt (show l<=l+j/\l+j<l+(j+1) by lk),show l+j-l=j by lk,aO hj];lk
   .rw[N e,d t];by_cases h3:l<=t/\t<l+j
    .rw[Zt h3,Zt (show l<=t/\t<l+(j+1) by lk)]
    .rw[N h3,N (show ¬(l<=t/\t<l+(j+1)) by lk)]
  .intro r n f;cases (u _ _ _).mp f,c,z,rfl,y,C,d,sz;calc (o _ _ _).mpr #[c,_,_,U,y,C,λt=>?_,sz];rw[d t];let e:cv xs m (l+1) t=cv xs m l t+Z xs l*cz m t l:=rfl;rw[e,aO hi];unfold cz;by_cases h2:l<=t
   .rw[Zt h2];by_cases h3:t<l+m.9
    .rw[Zt #[h2,h3]]
    .rw[N (),aL (xs:=m) (),dY]
   .rw[N (),N h2,dY]
 .intro r n f;obtain⟨c,r1,z,rfl,y,C,d,sz⟩:=(o _ _ _).mp f
  room;walk
  calc#[F,c,U,Zw y,(),λR H2 s2 nR eR=>q (aw c) (cn _) (aP (i4 _) ()) (λj=>?_) R _ (sz.trans s2) (sz.free nR) eR];rw[cX,d j,wS]
def qq (xs ys:aa):Yg (.list (xs.map Yw)) (.list (ys.map Yw))=decide (xs=ys):=by simp[Yg,Cz]
def jr (xs:aa):Z9 (.list (xs.map Yw))=K':=by simp[Z9,CA]
def qr (xs:aa):Yb (.list (xs.map Yw))<=64:=by simp[Yb,CB]
def Lr (K:ao):Sp:=λvs H Q _=>∃(a b:Zs)(xs ys:aa),vs=[.ref a,.ref b]/\SqL K H a (xs.map B)/\SqL K H b (ys.map B)/\xs.9<=90/\ys.9<=90/\eE H Q ((cF xs ys).map B)
def js:FnOk P w K mg base CX0 2 T.Wg.ax T.Wg.dx ["_law_one","_law_other"] (Lr K):=by
 refine T.Wg.Fx.ok wJ (λvs H Q E h=>?_) (λx0 A outer s H vs Q E hr h=>?_)
 .cases h,a,b,xs,l,rfl,_;rfl
 cases h,a,b,xs,l,rfl,X,hB,la,lb,q;refine#[_,s!"ʍŜ͋<Ă̯ʲ#ɱ*ɰ˷ɱ(̔7Ŝ͏ʮ̅³̨r˷ɱ*̔7Ŝ͏ɻʐ̅˺̅³̨͉çɣͤ̂",?_]
 w_up
 calc#[(),λp m=>?_];let I:=au m (Y' [B 0]);calc#[_,.inl (I.seq X),_,.inl (I.seq hB),_,ai,?_];rw[af,af,mE];obtain⟨k,hk,k1,k2,k9⟩:∃k:O,(if (l.9:Y) > (xs.9:Y) then (l.9:Y) else (xs.9:Y))=(k:Y)/\xs.9<=k/\l.9<=k/\k<=90:=by
  by_cases z:(l.9:Y) > (xs.9:Y)
  .exact#[l.9,Zt z,(),aC _,lb]
  .exact#[xs.9,N z,aC _,(),la]
 rw[hk,gB];refine#[(),(),dj (cy (by simp;lk)),λF hF=>?_];let s4:=I.trans (au hF (Y' ((bj k (0:Y)).map B)));let f0:=I.free hF;let h4:Zx (Zx H p (Y' [B 0])) F (Y' ((bj k (0:Y)).map B)) F=_:=ai;generalize Zx (Zx H p (Y' [B 0])) F (Y' ((bj k (0:Y)).map B))=H4 at s4 h4 ⊢;obtain⟨M,d⟩:∃M:(O->O->Y)->O->L2.St->Hp->Prop,∀g i u o,M g i u o↔∃(c:aa)(r:Zk V),u=[W (L a),W (L b),W (L F),r]/\o F=W (Y' (c.map B))/\c.9=k/\(∀j,Z c j=g i j)/\Same H o:=#[_,λ_ _ _ _=>Zj]
 let put:∀(c:aa)(i:O)(x:Y)(g:O->O->Y),i<c.9->(∀j,Z c j=g i j)->x=g (i+1) i->(∀j,j≠i->g (i+1) j=g i j)->∀j,Z (c.set i x) j=g (i+1) j:=λc i x g hi h1 h2 h3 j=>by
  rw[kD _ _ _ _ hi];by_cases e:j=i
  .rw[Zt e,e];exact h2
  .rw[N e,h1,h3 j e]
 w_up
 calc#[_,.inl (s4.seq X),?_];rw[af,gB];refine#[(),(),ie (M λi j=>if j<i then Z xs j else 0) ((d _ _ _ _).mpr #[_,Zy,U,h4,by simp,λj=>by rw[Dh,N ()],s4]) ?_ ?_]
 .intro i u o hi m;cases (d _ _ _ _).mp m,c,r,rfl,n,C,cz,sz;let e1:(0:Y)+(i:Y)=(i:Y):=ij _;let f:i<c.9:=()
  room;simp![e1]
  refine#[_,sz.seq X,_,fe hi,_,n,i,iB #v[af,f],(d _ _ _ _).mpr #[c.set i xs[i],_,rfl,by rw[ai,map_set],#v[jt,C],put c i _ (λi j=>if j<i then Z xs j else 0) f cz (by rw[Zt (),aO hi]) λj hj=>?_,sz.more f0]];by_cases y:j<i
  .rw[Zt y,Zt ()]
  .rw[N y,N ()]
 intro u o m;obtain⟨c,r,rfl,n,C,cz,sz⟩:=(d _ _ _ _).mp m
 w_up
 calc#[_,.inl (sz.seq hB),?_];rw[af,gB];refine#[(),(),ie (M λi j=>Z xs j-if j<i then Z l j else 0) ((d _ _ _ _).mpr #[c,_,U,n,C,λj=>?_,sz]) ?_ ?_]
 .rw[cz];by_cases y:j<xs.9
  .rw[Zt y,N ()];lk
  .rw[N y,N (),aL ()];lk
 .intro i u o hi m;cases (d _ _ _ _).mp m,c,r,rfl,n,C,cz,sz;let e1:(0:Y)+(i:Y)=(i:Y):=ij _;let f:i<c.9:=()
  room;simp![e1]
  refine#[_,Zw n,_,fe f,_,sz.seq hB,_,fe hi,?_]
  room;walk
  refine#[_,n,i,iB #v[af,f],(d _ _ _ _).mpr #[c.set i (c[i]-l[i]),_,rfl,by rw[ai,map_set],#v[jt,C],put c i _ (λi j=>Z xs j-if j<i then Z l j else 0) f cz ?_ λj hj=>?_,sz.more f0]]
  .let:=cz i;rw[aO f,N ()]at this;rw[Zt (),aO hi,this];lk
  .by_cases y:j<i
   .rw[Zt y,Zt ()]
   .rw[N y,N ()]
 intro u o m;obtain⟨c,r,rfl,n,C,cz,sz⟩:=(d _ _ _ _).mp m
 w_up
 calc#[F,c,U,Zw n,(),λR H2 s2 nR eR=>q R _ (sz.trans s2) (sz.free nR) ?_];rw[eR,gq (cn c) (iX xs l) λj=>?_];rw[cX,mO,cz];by_cases y:j<l.9
 .rw[Zt y]
 .rw[N y,aL (xs:=l) ()]
def xP:FnOk P w K mg base CX0 3 T.Wv.ax T.Wv.dx ["_law_poly"] (Dy K):=by
 refine T.Wv.Fx.ok wL (λl H Q E h=>?_) (λm A outer s H l Q E n h=>?_)
 .cases h,a,xs,rfl,_;rfl
 cases h,a,xs,rfl,k,u,q;refine#[_,s!"ʭș̂͝ŝ͞ŝʄưˢƱƲƳʦʤ̡",?_]
 w_up
 w_up
 obtain⟨e,b⟩:∃e:O->L2.St->Hp->Prop,∀i c d,e i c d↔∃r:Zk V,c=[W (L a),W (B (ag (xs.take i):O)),r]/\d=H:=#[_,λ_ _ _=>Zj]
 refine#[#[_,k],kC (xs:=xs.map B) e ((b _ _ _).mpr #[_,U,U]) (λi c d _ z=>by cases (b i c d).mp z,_,_,z;rw[z];calc k) ?_ ?_]
 .intro i v c d f j;cases (b _ _ _).mp j,r,rfl,rfl;let hi:i<xs.9:=by let:=(a_.mp f).1;rw[af]at this;exact this
  rw[a7,aq hi]at f;obtain rfl:B xs[i]=v:=Zv f;let o:xs.take (i+1)=xs.take i++[xs[i]]:=by rw[dI,aq hi];rfl
  room;walk
  exact#[_,_,U,(b _ _ _).mpr #[_,by rw[o,p6,d_,yw],rfl]]
 .intro c d j;cases (b _ _ _).mp j,r,rfl,rfl;rw[af,fY]
  room;walk
  calc q _ (Same.refl _)
def dh (xs:aa):aa:=df (dvL xs (ag xs))
def kT (nx:S xs)(c:xs≠[]):Pri (dh xs)/\(dh xs).9=xs.9/\∃a:Y,a≠0/\a.8=ag xs/\∀n,J n xs=a*J n (dh xs):=by
 cases xf nx c,n1,f,k,_;let cp:=fU nx c;cases p7 (dvL xs (ag xs)),e,b,h;let i:e*e=1:=by rcases b with rfl|rfl <;> rfl
 refine#[#[mJ n1,DC f,λd hd=>k d λj=>?_,kO n1 f],?_,e*((ag xs:O):Y),fL (by rcases b with rfl|rfl <;> decide) (),?_,λn=>?_]
 .cases hd j,y,hy;unfold dh at hy;rw[h]at hy;calc#[e*y,?_];let:Z (dvL xs (ag xs)) j=e*(e*Z (dvL xs (ag xs)) j):=by rw[<-cI,i,cL]
  rw[this,hy];grind
 .unfold dh;rw[mI,jW]
 .rw[du,d_];rcases b with rfl|rfl <;> simp
 .let l:=i9 cp n;let m:J n (dh xs)=e*J n (dvL xs (ag xs)):=by rw[<-aJ];exact f9 (λj=>by unfold dh;rw[h j,dg]) n
  rw[m,<-l];generalize J n (dvL xs (ag xs))=v;let:e*((ag xs:O):Y)*(e*v)=(e*e)*(((ag xs:O):Y)*v):=by grind
  rw[this,i,cL]
def UK {c:Y}(nx:S xs)(f:xs≠[])(k:c=if Z xs (xs.9-1)<0 then -((ag xs:O):Y) else ((ag xs:O):Y)):xs.map (λz=>z.fdiv c)=dh xs:=by
 let cp:=fU nx f;let lt:=dU nx f;obtain⟨e,a,b,h⟩:∃e:Y,(e=1\/e=-1)/\c=e*((ag xs:O):Y)/\0<e*Z xs (xs.9-1):=by
  by_cases z:Z xs (xs.9-1)<0
  .exact#[-1,.inr U,by rw[k,Zt z];lk,()]
  .exact#[1,.inl U,by rw[k,N z];lk,()]
 let d:c≠0:=by rw[b];exact fL (by rcases a with rfl|rfl <;> decide) ()
 let i:∀z∈xs,c∣z:=λz m=>by
  cases gw xs z m,y,hy;rw[b];rcases a with rfl|rfl
  .exact#[y,by rw[hy];grind]
  .exact#[-y,by rw[hy];grind]
 cases xf nx f,n1,r,s,_;refine DB n1 (Ke d nx i) a (λn=>?_) λ_=>?_
 .let o:=i9 cp n;let q:=qe d n xs i;calc jx d ?_;rw[cW c,q,<-o,b];let j:e*e=1:=by rcases a with rfl|rfl <;> rfl
  generalize J n (dvL xs (ag xs))=v;let:e*((ag xs:O):Y)*(e*v)=(e*e)*(((ag xs:O):Y)*v):=by grind
  rw[this,j,cL]
 .let l:Z (xs.map λz=>z.fdiv c) ((xs.map λz=>z.fdiv c).9-1)*c=Z xs (xs.9-1):=by
   let:=dX (xs:=(xs.map λz=>z.fdiv c).map λz=>c*z) (ys:=xs) (λn=>#v[aJ,cW,qe d n xs i]) (xs.9-1);rw[dg]at this;rw[af,cW];exact this
  generalize Z (xs.map λz=>z.fdiv c) ((xs.map λz=>z.fdiv c).9-1)=y at l;rw[<-l,b]at h;let j:e*e=1:=by rcases a with rfl|rfl <;> rfl
  let:e*(y*(e*((ag xs:O):Y)))=(e*e)*(y*((ag xs:O):Y)):=by grind
  rw[this,j,cL]at h;calc VX h ()
def UL (K:ao):Sp:=λvs H Q _=>∃(a:Zs)(xs:aa),vs=[.ref a]/\SqL K H a (xs.map B)/\S xs/\xs.9<=90/\(∀x∈xs,Bd 900000 x)/\(∀x∈xs,x.8<2^4000*ag xs)/\eE H Q ((dh xs).map B)
def D_:FnOk P w K mg base CX0 4 T.WD.ax T.WD.dx ["_law_poly"] (UL K):=by
 refine T.WD.Fx.ok De (λC H Q E h=>?_) (λF A outer s H C Q E y h=>?_)
 .cases h,a,b,rfl,_;rfl
 cases h,a,b,rfl,d,nx,lx,bx,I,q;refine#[_,s!"ʸĚȽɡʎˑʎIʭƴ˼ěɜę ĜĝĞʽˠ¨̢͟ƴʓɺɧʼ̿Ş̰J4Ⱦ˳",?_]
 w_up
 calc#[(),λp X=>?_];let u:=au X (Y' []);calc#[_,DV.ints (u.seq d),_,DV.ints (ns:=[]) (Zw ai),jr _,jr _,qr _,?_];rw[qq];generalize Zx H p (Y' [])=H1 at u ⊢;refine cu (λh=>#[(),λp1 f=>?_]) (λh=>?_)
 .let e:b=[]:=of_decide_eq_true h;exact q p1 _ (u.trans (au f _)) (u.free f) (by rw[ai,e];rfl)
 let j:b≠[]:=λe=>h (ze0 e)
 w_up
 calc#[a,b,U,u.seq d,bx,λH2 s2=>?_];let k:=u.trans s2
 w_up
 obtain⟨M,l⟩:∃M:L2.St->Hp->Prop,∀m n,M m n↔m=[W (L a),W (B (if Z b (b.9-1)<0 then -((ag b:O):Y) else ((ag b:O):Y)))]/\n=H2:=#[_,λ_ _=>Zj]
 let y0:=cE.mpr j
 room;refine gl M ?_ ?_
 .room;walk
  refine#[_,k.seq d,_,i3 j,?_]
  room;walk
  rw[show b.getLast j=Z b (b.9-1) by rw[aO (),lE]];exact cu (λz=>(l _ _).mpr #[by rw[Zt z],rfl]) (λz=>(l _ _).mpr #[by rw[N z],rfl])
 intro m n hm;cases (l _ _).mp hm,rfl,rfl;obtain⟨c,o⟩:∃c:Y,c=if Z b (b.9-1)<0 then -((ag b:O):Y) else ((ag b:O):Y):=#[_,rfl]
 rw[<-o];let cp:=fU nx j;let ca:c.8=ag b:=by rw[o];split <;> simp
 w_up
 refine#[#[_,k.seq d],λD nD=>D5 (g:=λx=>x.fdiv c) nD (k.seq d) () (λx hx Hx R sx hR=>?_) λr H' s' nr er=>q r _ (k.trans s') (k.free nr) (by rw[er,UK nx j o])]
 room;simp![bst]
 calc#[_,U,_,U,#[(),#v[ca,I x hx]],hR]
theorem Ls (n:Y)(ys:aa):∀d:O,J n (bj d 0++ys)=J n (xp d)*J n ys
 |0=>by simp[xp,J]
 |d+1=>by
  let a:=Ls n ys d;unfold xp at a ⊢;simp only[jb,je,J];rw[a];grind
def Lt {d:O}(nx:S x)(e:S y)(y0:y≠[])(hd:x.9=d+y.9):(∀n,J n (cF (ah x [Z y (y.9-1)]) (bj d 0++ah y [Z x (x.9-1)]))=Z y (y.9-1)*J n x-Z x (x.9-1)*(J n (xp d)*J n y))/\(cF (ah x [Z y (y.9-1)]) (bj d 0++ah y [Z x (x.9-1)])).9<x.9:=by
 let ly:=cE.mpr y0;let c:∀(k:Y) n,J n [k]=k:=λk n=>by simp[J]
 let a:∀n,J n (cF (ah x [Z y (y.9-1)]) (bj d 0++ah y [Z x (x.9-1)]))=Z y (y.9-1)*J n x-Z x (x.9-1)*(J n (xp d)*J n y):=λn=>by
  rw[ga,a8,Ls,a8,c,c];grind
 calc#[a,?_];cases dr (Kf d) e (Kg d) y0,f,b;rw[xb]at f;rw[Kh,cL]at b;let:=gO (n:=x.9-1) (iX (ah x [Z y (y.9-1)]) (bj d 0++ah y [Z x (x.9-1)])) λk hk=>by
  rw[dX (ys:=cq (x.map λz=>Z y (y.9-1)*z) ((pdL (xp d) y).map λz=>-Z x (x.9-1)*z)) (λn=>by rw[a,d8,aJ,aJ,aG];grind) k,gu,dg,dg];by_cases z:k=x.9-1
  .rw[show (pdL (xp d) y).9-1=k by lk]at b;rw[b,z];grind
  .rw[aL (xs:=x) (),aL (xs:=pdL (xp d) y) ()];simp
 lk
structure Elm (x y rest:aa)(b:O):Prop where
 nm:S rest
 le:rest.9<=x.9
 bd:∀z∈rest,Bd (b+(x.9-rest.9)*(b+10)) z
 eq:∃(α:Y)(Q:aa),α≠0/\Q.9+y.9<=x.9+1/\∀n,α * J n x=J n Q*J n y+J n rest
def Elm.start {x y:aa}{b:O}(nx:S x)(h:y.9<=x.9+1)(bx:∀z∈x,Bd b z):Elm x y x b:=#[nx,aC _,λz a=>(bx z a).mono (),1,[],(),by simpa using h,λn=>by simp[J]]
theorem Elm.step {x y rest:aa}{b d:O}(h:Elm x y rest b)(m:S y)(y0:y≠[])(a:∀z∈y,Bd b z)(hd:rest.9=d+y.9)(q:x.9<=40):Elm x y (cF (ah rest [Z y (y.9-1)]) (bj d 0++ah y [Z rest (rest.9-1)])) b:=by
 cases Lt h.nm m y0 hd,f,lr;cases h.eq,r,Q,i,E,eq;let le:=h.le;let ly:=cE.mpr y0;obtain⟨e,o⟩:∃e,e=x.9-rest.9:=#[_,rfl]
 refine#[iX _ _,(),?_,Z y (y.9-1)*r,aw (cq (Q.map λz=>Z y (y.9-1)*z) ((xp d).map λz=>Z rest (rest.9-1)*z)),fL (dU m y0) i,?_,λn=>?_]
 .let b1:Bd (b+e*(b+10)) (Z rest (rest.9-1)):=cV (P:=Bd (b+e*(b+10))) #v[o,h.bd] (Bd.zero _) _;let b2:Bd b (Z y (y.9-1)):=cV (P:=Bd b) a (Bd.zero _) _;let mul:(e+1)*(b+10)<=(x.9-(cF (ah rest [Z y (y.9-1)]) (bj d 0++ah y [Z rest (rest.9-1)])).9)*(b+10):=fj _ ();let mul2:(e+1)*(b+10)=e*(b+10)+(b+10):=Nd _ _;calc cP λk=>?_;rw[mO];let s:Bd (b+e*(b+10)+b+6) (Z (ah rest [Z y (y.9-1)]) k):=by rw[fg];exact iD (c:=6) #v[o,h.bd] (⇑b2) (by simp;lk) k
  let u:Bd (b+e*(b+10)+b+6) (Z (bj d 0++ah y [Z rest (rest.9-1)]) k):=cV (P:=Bd (b+e*(b+10)+b+6)) (λz C=>by
   rcases b5.mp C with w|w
   .rw[ND w];exact Bd.zero _
   .calc cP (xs:=ah y [Z rest (rest.9-1)]) (P:=Bd (b+e*(b+10)+b+6)) (λj=>?_) z w;rw[fg];exact (iD (c:=6) a (l:=b+e*(b+10)) (⇑b1) (by simp;lk) j).mono ()) (Bd.zero _) k
  exact (s.sub u).mono ()
 .let:=kS (((FD.of (zs:=Q) (d:=x.9-y.9) ()).scale (Z y (y.9-1))).add ((FD.of (zs:=xp d) (d:=x.9-y.9) (by rw[xb];lk)).scale (Z rest (rest.9-1)))) (cn (cq (Q.map λz=>Z y (y.9-1)*z) ((xp d).map λz=>Z rest (rest.9-1)*z))) λn=>by rw[cx,d8,aJ,aJ]
  lk
 .rw[f,cx,d8,aJ,aJ];let:=eq n;grind
def Rst (X Y rest:aa)(b:O):Prop:=(X.9<Y.9/\rest=X)\/(Y.9<=X.9/\Elm X Y rest b)
def LI (fin:aa->Prop)(b:O):O->aa->aa->Prop
 |0,X,Y=>Y=[]/\fin X
 |m+1,X,Y=>(Y=[]/\fin X)\/(S X/\S Y/\Y≠[]/\X.9<=13/\Y.9<=13/\(∀z∈X++Y,Bd b z)/\∀rest,Rst X Y rest b->rest.9<Y.9->(∀z∈rest,z.8<2^4000*ag rest)/\LI fin b m Y (dh rest))
def UM (K:ao):Sp:=λvs H Q _=>∃(pa pb:Zs)(A B R:aa)(m:O),vs=[.ref pa,.ref pb]/\SqL K H pa (A.map V')/\SqL K H pb (B.map V')/\S A/\S B/\A.9<=13/\B.9<=13/\(∀z∈A++B,Bd 3000 z)/\LI (λX=>X.9<=13/\(∀z∈X,Bd 3990 z)/\ah X (aw [((cO (ag A) (ag B):O):Y)])=R) 3990 m (dh A) (dh B)/\eE H Q (R.map V')
def UN:FnOk P w K mg base CX0 5 T.Xh.ax T.Xh.dx ["_law_one","_law_other"] (UM K):=by
 refine T.Xh.Fx.ok jS (λvs H Q E h=>?_) (λj3 A outer s H vs Q E l h=>?_)
 .cases h,pa,pb,A,B,R,m,rfl,_;rfl
 cases h,pa,pb,A,B,R,m,rfl,hA,hB,nA,nB,la,lb,y1,x,q;let z1:∀{X:aa},(∀z∈X,Bd 3000 z)->S X->∀z∈X,z.8<2^4000*ag X:=λ{X} h nX z c=>by
  let cp:=fU nX (λe=>by rw[e]at c;simp at c);exact dE ((h z c).mono (show 3000<=4000 by decide)) (h_ _ cp)
 let bA:∀z∈A,Bd 3000 z:=λz c=>y1 z (iE _ c);let bB:∀z∈B,Bd 3000 z:=λz c=>y1 z (hE _ c);refine#[_,s!"ʍͥư˦ƱƲƳʺě˦ĜĝĞʽʏě˦ĜĝĞʦɰɠ(ͥş˦ŠšŢʽʭͥş˦ŠšŢ́˶ƵȿɧʎɩʜÅɚɡ˶ą͠$ʳɩʰÅ̑4̒ɻ͠$ʳɞc˦ʬʦ̬ɥɴʣɰʑ7ͥ«˦ˬʺc˦ʬ˹̬̼ɰ̘ɠ(Åɚɧ˓ͥş˦ŠšŢ˹$ʨc˦ʬʇʏç˦ͤɭ>̵͆",?_]
 w_up
 calc#[pa,A,U,hA,λz c=>(bA z c).mono (),λH1 s1=>#[pb,B,U,s1.seq hB,λz c=>(bB z c).mono (),λH2 s2=>#[_,_,U,?_]]];rw[d_,d_];obtain⟨sc,u1⟩:∃sc:Int,sc=((cO (ag A) (ag B):O):Int):=#[_,rfl]
 rw[<-u1]at x ⊢;let z2:Bd 3000 sc:=by
  let c1:=mH (b:=2^3000) (eV _) A bA;let c2:=mH (b:=2^3000) (eV _) B bB;show sc.8<2^3000;rw[u1,d_];by_cases z:ag A=0
  .rw[z,EH];exact c2
  .exact dF (Nx _ ()) c1
 let t2:=s1.trans s2
 w_up
 calc#[pa,A,U,t2.seq hA,nA,(),λz c=>(bA z c).mono (),z1 bA nA,λX HX sX nX I=>?_];let t3:=t2.trans sX
 w_up
 calc#[pb,B,U,t3.seq hB,nB,(),λz c=>(bB z c).mono (),z1 bB nB,λY HY sY nY k=>?_];let t4:=t3.trans sY;let M:=sY _ _ I;clear I nX nY sX sY s1 s2 t2 t3;generalize dh A=f at x M;generalize dh B=a at x k
 w_up
 obtain⟨Pu,x0⟩:∃Pu:O->L2.St->Hp->Prop,∀m σ n,Pu m σ n↔∃(X Y:Zs)(f a:aa)(r4 r5:Zk V),σ=[Zz (L X),Zz (L Y),Zz (V' sc),r4,r5]/\n X=Zz (Y' (f.map V'))/\n Y=Zz (Y' (a.map V'))/\LI (λX=>X.9<=13/\(∀z∈X,Bd 3990 z)/\ah X (aw [sc])=R) 3990 m f a/\Same H n:=#[_,λ_ _ _=>Zj]
 calc iA Pu m ((x0 _ _ _).mpr #[X,Y,f,a,Zy,Zy,U,M,k,x,t4]) ?_;clear x M k t4;intro m σ n hu;obtain⟨X,Y,f,a,r4,r5,rfl,I,k,x,sP⟩:=(x0 _ _ _).mp hu
 room;walk
 calc#[(),λp np=>?_];let u:=au np (Y' []);calc#[_,DV.ints (u.seq (Zw k)),_,DV.ints (ns:=[]) (Zw ai),jr _,jr _,qr _,?_];rw[qq];let o:=u _ _ I;let u0:=u _ _ k;let y:=sP.trans u;generalize Zx n p (Y' [])=H1 at o u0 y ⊢;clear u np I k sP;by_cases y0:a=[]
 .rw[N (by simp[y0])];let j1:f.9<=13/\(∀z∈f,Bd 3990 z)/\ah f (aw [sc])=R:=by
   cases m with
   |zero=>calc x.2
   |succ m=>exact x.elim And.right λz=>Zq y0 z.2.2.1
  refine#[(),λp np=>#[p,[sc],rfl,Zw ai,by simp,λt H2 s2 nt et=>?_]];let u2:=(au np (Y' [V' sc])).trans s2;refine#[X,t,f,aw [sc],3990,3000,rfl,Zw (u2 _ _ o),Zw et,(),aP (i4 _) ⋯,j1.2.1,?_,(),λws nw _ cw r H' s' nr er=>?_]
  .calc cP λj=>?_;rw[cX];exact cV (P:=Bd 3000) (⇑z2) (Bd.zero _) j
  .let e:ws=R:=by rw[<-j1.2.2];exact gq nw (cQ _ _) λj=>by rw[cw,fg]
   let t5:=y.trans u2;exact q r _ (t5.trans s') (t5.free nr) (by rw[er,e])
 .rw[Zt (by simp[y0])]
  cases m with
  |zero=>calc Zq x.1 y0
  |succ m=>
  rcases x with ⟨z,_⟩|⟨nx,ny,_,lx,ly,g1,j2⟩
  .exact Zq z y0
  let bx:∀z∈f,Bd 3990 z:=λz c=>g1 z (iE _ c);let j0:∀z∈a,Bd 3990 z:=λz c=>g1 z (hE _ c);calc#[Pu m,λk2 H' h=>#[m,(),h],?_];obtain⟨Pw,k0⟩:∃Pw:O->L2.St->Hp->Prop,∀i σ n,Pw i σ n↔∃(Z:Zs)(rest:aa)(r5:Zk V),σ=[Zz (L X),Zz (L Y),Zz (V' sc),Zz (L Z),r5]/\n Z=Zz (Y' (rest.map V'))/\Rst f a rest 3990/\rest.9<=i/\n X=Zz (Y' (f.map V'))/\n Y=Zz (Y' (a.map V'))/\Same H n:=#[_,λ_ _ _=>Zj]
  let r0:Rst f a f 3990:=by
   by_cases z:f.9<a.9
   .exact .inl #[z,U]
   .exact .inr #[(),Elm.start nx () bx]
  calc iA Pw 13 ((k0 _ _ _).mpr #[X,f,_,U,o,r0,lx,o,u0,y]) ?_;clear o u0 y;intro i σ Hz hw;obtain⟨Z,rest,r5,rfl,eZ,rs,k3,I,k,sP⟩:=(k0 _ _ _).mp hw
  room;walk
  calc#[_,.inl (Zw eZ),_,.inl (Zw k),?_];rw[af,af];refine cu (λh=>?_) (λh=>?_)
  .obtain⟨g2,C⟩:=rs.resolve_left λz=>by rw[z.2]at h;lk
   let g3:=cE.mpr y0;let m3:=C.le;obtain⟨d,hd⟩:∃d,rest.9=d+a.9:=#[rest.9-a.9,()]
   let m1:rest≠[]:=λz=>by rw[z]at hd;simp at hd;lk
   calc#[Pw (rest.9-1),λk2 H' h=>#[rest.9-1,(),h],(),λp1 n1=>?_];let v1:=au n1 (Y' [V' 0]);calc#[_,.inl (v1.seq (Zw eZ)),_,.inl (v1.seq (Zw k)),_,ai,?_];rw[af,af,show (rest.9:Int)-(a.9:Int)=(d:Int) by lk,gB,mE];refine#[(),(),dj (cy (by simp;lk)),λp2 n2=>?_];let v2:=v1.trans (au n2 (Y' ((bj d (0:Int)).map V')));let e2:Zx (Zx Hz p1 (Y' [V' 0])) p2 (Y' ((bj d (0:Int)).map V')) p2=_:=ai;generalize Zx (Zx Hz p1 (Y' [V' 0])) p2 (Y' ((bj d (0:Int)).map V'))=H2 at v2 e2 ⊢;let F:∀{zs:aa}(z0:zs≠[]),zs.getLast z0=co zs (zs.9-1):=λ{zs} z0=>by
    let:=cE.mpr z0;rw[aO (),lE]
   let bl:Bd 52000 (co rest (rest.9-1)):=cV (P:=Bd 52000) (λz c=>(C.bd z c).mono (by let:=fj (3990+10) (show f.9-rest.9<=12 by lk);lk)) (Bd.zero _) _;calc#[_,v2.seq (Zw eZ),_,i3 m1,(),λp3 n3=>?_];rw[F m1];let v3:=au n3 (Y' [V' (co rest (rest.9-1))]);let e3:Zx H2 p3 (Y' [V' (co rest (rest.9-1))]) p3=Zz (Y' ([co rest (rest.9-1)].map V')):=ai;let x2:=v3 _ _ e2;let n0:=v2.trans v3;generalize Zx H2 p3 (Y' [V' (co rest (rest.9-1))])=H3 at v3 e3 x2 n0 ⊢;refine#[Y,p3,a,[co rest (rest.9-1)],3990,52000,rfl,n0.seq (Zw k),Zw e3,(),by simp,j0,by simpa using bl,(),λws nw lw cw W H4 s4 nW eW=>?_];let ew:ws=ah a [co rest (rest.9-1)]:=gq nw (cQ _ _) λj=>by rw[cw,fg]
   let v4:=n0.trans s4;rw[oE]at lw;refine#[W,U,_,s4 _ _ x2,_,eW,dj (cy (by simp;lk)),λp4 n4=>?_];rw[<-aY,ew];let v5:=v4.trans (au n4 (Y' ((bj d 0++ah a [co rest (rest.9-1)]).map V')));let e5:Zx H4 p4 (Y' ((bj d 0++ah a [co rest (rest.9-1)]).map V')) p4=_:=ai;generalize Zx H4 p4 (Y' ((bj d 0++ah a [co rest (rest.9-1)]).map V'))=H5 at v5 e5 ⊢;calc#[_,v5.seq (Zw k),_,i3 y0,(),λp5 n5=>?_];rw[F y0];let v6:=au n5 (Y' [V' (co a (a.9-1))]);let e6:Zx H5 p5 (Y' [V' (co a (a.9-1))]) p5=Zz (Y' ([co a (a.9-1)].map V')):=ai;let y2:=v6 _ _ e5;let x1:=v5.trans v6;generalize Zx H5 p5 (Y' [V' (co a (a.9-1))])=H6 at v6 e6 y2 x1 ⊢;let bc:Bd 3990 (co a (a.9-1)):=cV (P:=Bd 3990) j0 (Bd.zero _) _;refine#[Z,p5,rest,[co a (a.9-1)],52000,3990,rfl,x1.seq (Zw eZ),Zw e6,(),by simp,λz c=>(C.bd z c).mono (by let:=fj (3990+10) (show f.9-rest.9<=12 by lk);lk),by simpa using bc,(),λw2 m2 x3 y3 W2 H7 s7 x4 z3=>?_];let u3:w2=ah rest [co a (a.9-1)]:=gq m2 (cQ _ _) λj=>by rw[y3,fg]
   rw[ew]at lw;refine#[W2,p4,w2,_,U,Zw z3,Zw (s7 _ _ y2),by simp at x3;lk,by simp;lk,λr H8 s8 nr er=>?_];let v8:=(x1.trans s7).trans s8;cases Lt C.nm ny y0 hd,_,lr;rw[u3]at er;exact (k0 _ _ _).mpr #[r,_,_,U,er,.inr #[g2,C.step ny y0 j0 hd ()],(),v8 _ _ I,v8 _ _ k,sP.trans v8]
  .cases j2 rest rs (),q1,q2;let nr:S rest/\∀z∈rest,Bd 900000 z:=by
    rcases rs with ⟨_,e⟩|⟨_,C⟩
    .rw[e];exact#[nx,λz c=>(bx z c).mono ()]
    .exact#[C.nm,λz c=>(C.bd z c).mono (by let:=fj (3990+10) (show f.9-rest.9<=13 by lk);lk)]
   calc#[Z,rest,U,Zw eZ,nr.1,(),nr.2,q1,λr H' s' _ er=>(x0 _ _ _).mpr #[Y,r,a,dh rest,_,_,U,s' _ _ k,er,q2,sP.trans s']]
theorem UO (h:Pri a):dh a=a:=by
 let b:ag a=1:=h.pr _ λj=>cV (P:=λz=>((ag a:O):Y)∣z) (gw a) (qQ _) j;let e:dvL a 1=a:=by unfold dvL;simp
 let tp:=h.tp;unfold dh;rw[b,e];unfold df;rw[N λz=>()]
theorem UP {rest z:aa}{κ:Y}{b:O}(hk:κ.8=ag rest)(c:κ≠0)(e:∀n,J n rest=κ * J n z)(bz:∀t∈z,Bd b t)(a:b<=4000):∀t∈rest,t.8<2^4000*ag rest:=by
 calc cP (P:=λt=>t.8<2^4000*ag rest) λj=>?_;rw[dX (ys:=z.map λt=>κ * t) (λn=>by rw[e,aJ]) j,dg,du,hk,hI];calc (Nat.mul_lt_mul_right ()).mpr ((cV (P:=Bd b) bz (Bd.zero _) j).mono a)
def UQ {i j x y:O}(hi:i<13)(d:j<13)(e:x+y<=306):(i+j)^(i+j)*((2^x)^j*(2^y)^i)<2^3790:=by
 let a:(i+j)^(i+j)<=24^24:=aP (m_ () _) (fQ () ());let b:24^24<2^111:=by decide
 let c:(2^x)^j*(2^y)^i<=2^3672:=by
  rw[<-nj,<-nj,<-eH];let f:=fE x (show j<=12 by lk);let h:=fE y (show i<=12 by lk);exact fQ () ()
 calc dF (fq (aP a (dj b)) c) ?_;rw[<-eH];calc mY () ()
theorem xQ {x y:O}{k:aa->Prop}(s:Pri a)(u:Pri b)(C:S F)(E:F≠[])(nA:S q)(nB:S r)(H:∀n,J n q=J n F*J n a)(I:∀n,J n r=J n F*J n b)(lA:q.9<=13)(lB:r.9<=13)(la:a.9<=13)(lb:b.9<=13)(ba:∀z∈q,z.8<=2^x)(bb:∀z∈r,z.8<=2^y)(M:x+y<=306)(c:∀X,Gcd a b X->X.9<=13->(∀z∈X,Bd 3990 z)->k X):∀(m:O)(X Y:aa),Prs a b X Y->Y.9<=m->(∀z∈X,Bd 3990 z)->LI k 3990 m X Y
 |0,X,Y,P,h,bX=>by
  obtain rfl:Y=[]:=b7 ();calc#[U,c X P.gcd (by let:=P.lx;lk) bX]
 |m+1,X,Y,P,h,bX=>by
  let lx:=P.lx;let ly:=P.ly;by_cases d:Y=[]
  .subst d;exact .inl #[U,c X P.gcd () bX]
  let R:=P.hy.resolve_left d;let bd:∀{X Y:aa},Prs a b X Y->Y≠[]->∀z∈Y,Bd 3990 z:=λ{X Y} P d z f=>(P.bd (D:=12) (Ba:=2^x) (Bb:=2^y) (β:=3790) d s u C E nA nB H I lA lB lb () ba bb (eV _) (eV _) (mY () ()) (λi j hi hj=>UQ () () M) z f).mono ();let bY:=bd P d;refine .inr #[P.hx.nm,R.nm,d,(),(),λz f=>?_,λrest rs lr=>?_]
  .rcases b5.mp f with w|w
   .exact bX z w
   .exact bY z w
  obtain⟨_,el⟩:=rs.resolve_left λz=>by lk
  cases el.eq,α,Q,l,lQ,eq;by_cases r0:rest=[]
  .subst r0;refine#[by simp,?_];let:dh []=[]:=rfl;rw[this];exact xQ s u C E nA nB H I lA lB la lb ba bb M c m Y [] (P.step (rest:=[]) (κ:=1) R l () eq lQ (λn=>by simp[J]) (.inl U) (cE.mpr d)) (bh _) bY
  .cases kT el.nm r0,f,lz,κ,o,x0,e;let P':=P.step R l o eq lQ e (.inr f) ();let ih:=xQ s u C E nA nB H I lA lB la lb ba bb M c m Y (dh rest) P' () bY;calc#[UP x0 o e (b:=3990) (bd P' f.ne) (),ih]
def xS:Dv g (dh A)↔Dv g (dvL A (ag A)):=by
 cases p9 (dvL A (ag A)),e,d,c;let f:e*e=1:=by rcases d with rfl|rfl <;> rfl
 refine#[λ⟨t,a⟩=>#[t.map λz=>e*z,λn=>?_],λ⟨t,a⟩=>#[t.map λz=>e*z,λn=>?_]]
 .let b:=a n;unfold dh at b;rw[c]at b;let:J n (dvL A (ag A))=e*(e*J n (dvL A (ag A))):=by rw[<-cI,f,cL]
  rw[this,b,aJ];grind
 .unfold dh;rw[c,a,aJ];grind
def mul_one {c:Y}(a:S X)(h:c≠0):ah X (aw [c])=X.map λz=>c*z:=aZ (cQ _ _) (gx h a) λn=>by rw[a8,cx,aJ];simp[J];calc cW _ _
def Lu (nA:S A)(d:A≠[]):ah (dh A) (aw [((ag A:O):Y)])=df A:=by
 cases kT nA d,b,h,a,f,c,e;let cp:=fU nA d;rw[mul_one b.nm ()];refine DB (e:=if a<0 then -1 else 1) nA (gx () b.nm) (by split;calc .inr U;calc .inl U) (λn=>?_) λ_=>?_
 .rw[aJ,e,<-c];by_cases z:a<0
  .rw[Zt z,show ((a.8:O):Y)=-a by lk];grind
  .rw[N z,show ((a.8:O):Y)=a by lk];grind
 .rw[af,dg];calc yq () b.tp
def LB (A B:aa):Prop:=A≠[]->B≠[]->∃(F MA MB:aa)(x y:O),S F/\F≠[]/\S MA/\S MB/\(∀n,J n MA=J n F*J n A)/\(∀n,J n MB=J n F*J n B)/\MA.9<=13/\MB.9<=13/\(∀z∈MA,z.8<=2^x)/\(∀z∈MB,z.8<=2^y)/\x+y<=306
theorem UR {A B R:aa}(nA:S A)(nB:S B)(la:A.9<=13)(lb:B.9<=13)(bA:∀z∈A,Bd 3000 z)(bB:∀z∈B,Bd 3000 z)(h:LB A B)(C:fJ A B R):∃m,LI (λX=>X.9<=13/\(∀z∈X,Bd 3990 z)/\ah X (aw [((cO (ag A) (ag B):O):Y)])=R) 3990 m (dh A) (dh B):=by
 let pb:∀{A:aa},S A->A≠[]->(∀z∈A,Bd 3000 z)->∀z∈dh A,Bd 3990 z:=λ{A} nA a bA=>by
  cases kT nA a,_,_,s,q,_,e;calc cP λj=>Bd.mono (k:=3000) ?_ ();let u:=cV (P:=Bd 3000) bA (Bd.zero _) j;rw[dX (ys:=(dh A).map λz=>s*z) (λn=>by rw[e,aJ]) j,dg]at u;calc dF ?_ u;rw[du];exact ik _ ()
 let c0:ag []=0:=rfl;by_cases a:A=[]
 .subst a;let f:R=df B:=by
   rcases C with ⟨_,z⟩|⟨z,_⟩|⟨z,_⟩
   .exact z
   .exact Zq U z
   .exact Zq U z
  by_cases B0:B=[]
  .subst B0;exact#[0,U,bh _,by intro z i;simp[dh,dvL,df]at i,by rw[f];rfl]
  .cases kT nB B0,i,lz,_;calc#[1,.inr #[bH,i.nm,i.ne,bh _,(),pb nB B0 bB,λrest E lr=>?_]];let e:rest=[]:=by
    rcases E with ⟨_,e⟩|⟨e,_⟩
    .exact e
    .let:(dh []).9=0:=rfl;lk
   subst e;refine#[by simp,U,(),pb nB B0 bB,?_];rw[c0,EH,Lu nB B0,f]
 by_cases B0:B=[]
 .subst B0;let f:R=df A:=by
   rcases C with ⟨z,_⟩|⟨_,_,z⟩|⟨_,z,_⟩
   .exact Zq z a
   .exact z
   .exact Zq U z
  cases kT nA a,i,lz,_;exact#[0,U,(),pb nA a bA,by rw[c0,zcp,Lu nA a,f]]
 obtain⟨c1,c2,_,_,g,G,tw,f⟩:0<ag A/\0<ag B/\(∀z∈A,Bd 5000 z)/\(∀z∈B,Bd 5000 z)/\∃(g:aa)(G:O),Two (dvL A (ag A)) (dvL B (ag B)) g G/\R=g.map λz=>((cO (ag A) (ag B):O):Y)*z:=by
  rcases C with ⟨z,_⟩|⟨_,z,_⟩|⟨_,_,z⟩
  .exact Zq z a
  .exact Zq z B0
  .exact z
 let gd:=xN tw;let r:∀X,Gcd (dh A) (dh B) X->X.9<=13->(∀z∈X,Bd 3990 z)->X.9<=13/\(∀z∈X,Bd 3990 z)/\ah X (aw [((cO (ag A) (ag B):O):Y)])=R:=λX h l b=>by
  let e:=gd.uniq (#[h.p,xS.mp h.da,xS.mp h.db,λg pg u h2=>h.g g pg (xS.mpr u) (xS.mpr h2)]:Gcd (dvL A (ag A)) (dvL B (ag B)) X);let:=yy (ag B) c1;exact#[l,b,by rw[mul_one h.p.nm (),f,e]]
 cases h a B0,F,MA,MB,x,y,nF,F0,H,I,hA,hB,lA,lB,ba,bb,xy;let c:∀{A M:aa}{x:O},S A->A≠[]->S M->(∀n,J n M=J n F*J n A)->M.9<=13->(∀z∈M,z.8<=2^x)->S (pdL F (dh A))/\(∀n,J n (pdL F (dh A))=J n F*J n (dh A))/\(pdL F (dh A)).9<=13/\∀z∈pdL F (dh A),z.8<=2^x:=λ{A M x} nA a nM hM lM bM=>by
  cases kT nA a,i,lz,s,q,_,e;let eM:M=(pdL F (dh A)).map λz=>s*z:=aZ nM (gx q (bJ _ _)) λn=>by rw[hM,aJ,aG,e];grind
  refine#[bJ _ _,λn=>aG n _ _,by rw[eM,af]at lM;exact lM,λz Q=>?_];let:=bM (s*z) #v[eM,b8.mpr #[z,Q,U]];rw[du]at this;exact aP (ik _ ()) this
 cases c nA a H hA lA ba,p1,p2,p3,p4;cases c nB B0 I hB lB bb,q1,q2,q3,q4;cases kT nA a,d,l1,_;cases kT nB B0,o,l2,_;by_cases z:(dh B).9<=(dh A).9
 .exact#[13,xQ d o nF F0 p1 q1 p2 q2 p3 q3 () () p4 q4 xy r 13 _ _ (Prs.start d o z) () (pb nA a bA)]
 .refine#[14,.inr #[d.nm,o.nm,o.ne,(),(),λt ht=>?_,λrest E lr=>?_]]
  .rcases b5.mp ht with w|w
   .exact pb nA a bA t w
   .exact pb nB B0 bB t w
  .let e:rest=dh A:=by
    rcases E with ⟨_,e⟩|⟨e,_⟩
    .exact e
    .exact Zq e z
   subst e;rw[UO d];calc#[λt ht=>?_,xQ o d nF F0 q1 p1 q2 p2 q3 p3 () () q4 p4 () (λX h=>r X h.symm) 13 _ _ (Prs.start o d ()) () (pb nB B0 bB)];calc dE ((pb nA a bA t ht).mono (show 3990<=4000 by decide)) (h_ _ (fU d.nm d.ne))
def Chn (ps:ae)(f:O->aa):Prop:=f 0=[]/\∀i r,ps[i]?=W r->S (f i)/\S r/\(f i).9<=13/\r.9<=13/\(∀z∈f i,Bd 3000 z)/\(∀z∈r,Bd 3000 z)/\LB (f i) r/\fJ (f i) r (f (i+1))
def US (K:ao):Sp:=λvs H Q _=>∃(A:Zs)(as:ap)(ps:ae)(f:O->aa),vs=[.ref A]/\SqL K H A (as.map L)/\LL K H as ps/\Chn ps f/\eE H Q ((f ps.9).map B)
def Lv:FnOk P w K mg base CX0 6 T.WQ.ax T.WQ.dx ["_law_polys"] (US K):=by
 refine T.WQ.Fx.ok wM (λvs H Q E h=>?_) (λx0 A outer s H vs Q E hr h=>?_)
 .cases h,A,as,ps,f,rfl,_;rfl
 cases h,A,as,ps,f,rfl,F,I,#[f0,ch],q;refine#[_,s!"ʭţ˩͝ţ͞ţʄɀɣɁɂɃʦʤ̡",?_]
 w_up
 calc#[(),λX k=>?_];let u:=au k (Y' []);let e:=ai (H:=H) (a:=X) (o:=.lst []);generalize Zx H X (Y' [])=H1 at u e ⊢
 w_up
 obtain⟨n,c⟩:∃n:O->L2.St->Hp->Prop,∀i j d,n i j d↔∃(X:Zs)(x:Zk V),j=[W (L A),W (L X),x]/\d X=W (Y' ((f i).map B))/\H X=Zy/\Same H d:=#[_,λ_ _ _=>Zj]
 refine#[#[_,u.seq F],kC (xs:=as.map L) n ((c _ _ _).mpr #[X,Zy,U,#v[f0,e],k,u]) (λi j d _ z=>by cases (c i j d).mp z,_,_,_,_,_,z;calc z.seq F) ?_ ?_]
 .intro i v j d hv y;cases (c _ _ _).mp y,X,x,rfl,e,k,l;cases I.nth hv,b,r,rfl,_,C,hB;cases ch i r C,n1,M,R,l2,b1,b2,lb,cm;obtain⟨m,li⟩:=UR n1 M R l2 b1 b2 lb cm
  room;walk
  calc#[X,b,f i,r,f (i+1),m,U,Zw e,l.seq hB,n1,M,R,l2,λz hz=>?_,li,λY H' s' nY eY=>(c _ _ _).mpr #[Y,_,U,eY,l.free nY,l.trans s']];rcases b5.mp hz with w|w
  .exact b1 z w
  .exact b2 z w
 .intro j d y;obtain⟨X,x,rfl,e,k,l⟩:=(c _ _ _).mp y
  room;walk
  rw[af,I.len]at e;calc q X d l k e
def Lw (K:ao):Sp:=λvs H Q _=>∃(a:Zs)(xs:aa)(k:O),vs=[.ref a]/\SqL K H a (xs.map B)/\xs.9<=13/\(∀x∈xs,Bd k x)/\k<=900/\eE H Q ((aw (bT 1 xs)).map B)
def qt:FnOk P w K mg base CX0 3 T.Wk.ax T.Wk.dx ["_law_poly"] (Lw K):=by
 refine T.Wk.Fx.ok wK (λvs H Q E h=>?_) (λx0 A outer s H vs Q E M h=>?_)
 .cases h,a,xs,k,rfl,_;rfl
 cases h,a,xs,k,rfl,hS,hl,hb,k9,q;refine#[_,s!"ʭŤ˩ʆū Ŭʧɶ,Ť͞Ťʄ«ɜē ˬʺcɜē ʬʦ̬ʥ̖ʏçɜē ͤɭɹɺɪ̡͆",?_]
 w_up
 calc#[(),λX m=>?_];let u:=au m (Y' []);let e:=ai (H:=H) (a:=X) (o:=.lst []);generalize Zx H X (Y' [])=H1 at u e ⊢
 w_up
 calc#[_,u.seq hS,?_];obtain⟨R,b⟩:∃R:O->L2.St->Hp->Prop,∀i f d,R i f d↔∃(X:Zs)(fs:aa)(r2:Zk V),f=[Zz (L a),Zz (L X),r2]/\d X=Zz (Y' (fs.map B))/\H X=Zy/\S fs/\fs.9<=i/\(∀z∈fs,Bd (k+8*i) z)/\(∀n,J n fs=J (n+1) (xs.drop (xs.9-i)))/\Same H d:=#[_,λ_ _ _=>Zj]
 refine Iq R ((b _ _ _).mpr #[X,[],Zy,rfl,e,m,bH,by simp,by simp,λn=>by simp[J],u]) (λi f d _ z=>by cases (b i f d).mp z,_,_,_,_,_,_,_,_,_,_,z;calc z.seq hS) ?_ ?_
 .intro i v f d hi hv hp;cases (b _ _ _).mp hp,X,fs,r2,rfl,e,m,nf,lf,bf,C,F;rw[af]at hi hv;rw[a7,aq ()]at hv;obtain rfl:B xs[xs.9-1-i]=v:=Zv hv
  room;walk
  obtain⟨x,hx⟩:∃x,xs[xs.9-1-i]=x:=#[_,rfl]
  let bx:Bd k x:=by rw[<-hx];exact hb _ (cD _)
  let vd:=λn=>Dq n xs i hi;rw[hx]at vd ⊢;calc#[(),λI n1=>?_];let v1:=au n1 (Y' [B 1,B 1]);let e1:Zx d I (Y' [B 1,B 1]) I=Zz (Y' (([1,1]:aa).map B)):=ai;let r:=v1 _ _ e;generalize Zx d I (Y' [B 1,B 1])=H2 at v1 e1 r ⊢;let one:Bd 1 1:=Bd.one ();refine#[X,I,fs,[1,1],k+8*i,1,rfl,Zw r,Zw e1,(),by simp,bf,by simpa using one,(),λy nw lw cw W H3 s3 nW eW=>#[(),λp2 n2=>#[p2,[-x],rfl,Zw ai,by simp,λt H4 s4 nt et=>?_]]];let v4:=(au n2 (Y' [B (-x)])).trans s4;let y0:y.9<=i+1:=by
   let:=jo nf (jU [1]) nw cw;simp at this;lk
  calc#[W,t,y,aw [-x],rfl,Zw (v4 _ _ eW),Zw et,(),aP (i4 _) ⋯,λY H5 s5 nY eY=>?_];let t5:=((v1.trans s3).trans v4)
  let vw:∀n,J n y=J n fs*(1+n):=λn=>by
   let:J n y=J n (ah fs [1,1]):=f9 (λj=>by rw[cw,fg]) n;rw[this,a8];simp[J]
  let vx:∀n,J n (aw [-x])=-x:=λn=>by rw[cx];simp[J]
  refine (b _ _ _).mpr #[Y,_,_,U,eY,(F.trans t5).free nY,iX _ _,?_,cP λj=>?_,λn=>?_,(F.trans t5).trans s5]
  .calc gO (iX _ _) λj hj=>?_;rw[mO,aL (xs:=y) (),cX,aL (by simp;lk)];rfl
  .rw[mO,cw];let c1:=(iD (c:=4) bf (l:=1) (ys:=[1,1]) (⇑one) () j).mono (show _<=k+8*i+7 by lk);let c2:Bd (k+8*i+7) (Z (aw [-x]) j):=by rw[cX];exact cV (P:=Bd (k+8*i+7)) (by simpa using bx.neg.mono (show k<=k+8*i+7 by lk)) (Bd.zero _) j
   exact (c1.sub c2).mono ()
  .rw[ga,vw,vx,C,show xs.9-(i+1)=xs.9-1-i by lk,vd];grind
 .intro f d hp;obtain⟨X,fs,r2,rfl,e,m,nf,lf,bf,C,F⟩:=(b _ _ _).mp hp
  room;walk
  rw[af,gE,oR]at C;calc q X d F m (by rw[e,aZ nf (cn (bT 1 xs)) λn=>by rw[C,cx,fD]])
def UT (K:ao):Sp:=λvs H Q _=>∃(a b:Zs)(one XY d:aa),vs=[.ref a,.ref b]/\SqL K H a (one.map B)/\SqL K H b (XY.map B)/\one.9<=40/\XY.9<=40/\S one/\S XY/\XY≠[]/\(∀x∈one,Bd 5000 x)/\(∀y∈XY,Bd 5000 y)/\S d/\Div one XY d/\eE H Q (d.map B)
def Lx:FnOk P w K mg base CX0 1 T.WR.ax T.WR.dx ["_law_poly","_law_by_here"] (UT K):=by
 refine T.WR.Fx.ok pX (λvs H Q E h=>?_) (λj1 A outer s H vs Q E hr h=>?_)
 .cases h,a,b,one,XY,d,rfl,_;rfl
 cases h,a,b,one,XY,d,rfl,hA,hB,la,lb,no,nt,c,bk,bl,nd,hd,q;refine#[_,s!"ʍğɚ̧ʜğ͋<Ă̯ʥʅɻ̫ɼʆ͍̫#ɺ͎:ğɚ'²4Éʐɻʅɲʳɦ̼³ɴɲr1ɾʶɱ*̔Dğ͏ɻʐʅ͑ɟʢɥɴ˂˺ʞɟ³ɪʅ͑rɨɴ",?_]
 let lo:=cE.mpr c
 w_up
 calc#[_,.inl hA,λR nR=>?_];let s1:=au nR (Y' (one.map B))
 w_up
 calc#[(),λp np=>?_];let s2:=s1.trans (au np (Y' [B 0]));calc#[_,.inl (s2.seq hA),_,.inl (s2.seq hB),?_];rw[af,af];obtain⟨n,hn⟩:∃n:O,(if (one.9:Y)-(XY.9:Y)+1 > 0 then (one.9:Y)-(XY.9:Y)+1 else 0)=(n:Y):=#[one.9+1-XY.9,by split <;> lk]
 let g1:n=one.9+1-XY.9:=by split at hn <;> lk
 rw[hn];clear hn;calc#[_,ai,?_];rw[mE,gB];refine#[(),(),dj (cy (by simp;lk)),λl nA=>?_];let s3:=au nA (Y' ((bj n (0:Y)).map B));let sG:=s2.trans s3;let eR:=au np (Y' [B 0]) _ _ (ai (H:=H) (a:=R) (o:=.lst (one.map B)));let gR:=s3 _ _ eR;let gA:Zx (Zx (Zx H R (Y' (one.map B))) p (Y' [B 0])) l (Y' ((bj n (0:Y)).map B)) l=_:=ai;let z0:R≠l:=fH eR nA;let fA:=s2.free nA;generalize Zx (Zx (Zx H R (Y' (one.map B))) p (Y' [B 0])) l (Y' ((bj n (0:Y)).map B))=G at sG gR gA ⊢;clear s1 s2 s3 nA np eR
 w_up
 calc#[_,.inl (sG.seq hA),_,.inl (sG.seq hB),?_];rw[af,af];calc#[(),(),pi () () () (),n,pj (),?_];by_cases n0:n=0
 .subst n0;let o0:one=[]:=by
   by_cases ho:one=[]
   .exact ho
   .cases vY nt c no nd hd ho,y1,y2;let:=cE.mpr y1;lk
  let d0:d=[]:=CS nt c nd bH hd #v[o0,IT];refine mr (λi y r=>y=[W (L a),W (L b),W (L R),W (L l),Zy,Zy]/\r=G) #[U,U] (λi y r hi=>()) ?_
  rintro y r ⟨rfl,rfl⟩
  room;walk
  exact q l _ sG fA (by rw[gA,d0];rfl)
 let x1:n+XY.9=one.9+1:=()
 let m:Z XY (XY.9-1)=XY.getLast c:=by rw[aO (),lE]
 let l0:XY.getLast c≠0:=by rw[<-m];exact dU nt c
 let z1:Bd 5000 (XY.getLast c):=bl _ (Nw c);obtain⟨Pv,F⟩:∃Pv:O->L2.St->Hp->Prop,∀i y r,Pv i y r↔∃(k rest:aa)(r1 r2:Zk V),y=[W (L a),W (L b),W (L R),W (L l),r1,r2]/\r R=W (Y' (rest.map B))/\r l=W (Y' (k.map B))/\DivAt one XY k rest (n-i)/\(∀x∈rest,Bd (5000+5002*i) x)/\Same H r:=#[_,λ_ _ _=>Zj]
 refine mr Pv ((F _ _ _).mpr #[_,one,Zy,Zy,U,gR,gA,IN c x1,λx hx=>(bk x hx).mono (),sG]) ?_ ?_
 .intro i y r hi hp;cases (F _ _ _).mp hp,k,rest,r1,r2,rfl,hR,X,D,hb,sH;obtain⟨low,u0⟩:∃low,n-i=low+1:=#[n-i-1,()]
  rw[u0]at D;let ei:(one.9:Y)-(XY.9:Y)+(i:Y) * -1=(low:Y):=()
  let ix:(low:Y)+(XY.9:Y)-1=((low+(XY.9-1):O):Y):=()
  let m1:=D.lr;let v1:=D.la;let x0:low+(XY.9-1)<rest.9:=()
  room;simp![ei]
  clear ei;calc#[_,.inl (sH.seq hB),?_];rw[af];simp only[ix];clear ix;let ct:Z rest (low+(XY.9-1))=rest[low+(XY.9-1)]:=aO x0;let hf:=IR nt c D hd;rw[ct,m]at hf;calc#[_,Zw hR,_,fe x0,?_];let bt:=hb _ (cD x0);generalize rest[low+(XY.9-1)]=tp at ct bt hf ⊢;let bf:=Dx bt l0;calc#[_,sH.seq hB,_,i3 c,tp,U,_,U,l0,dE z1 (fQ () ()),?_];generalize tp.fdiv (XY.getLast c)=f at hf bf ⊢;refine#[_,X,low,iB (by rw[af];lk),?_];rw[map_set];let s5:=sH.more fA (o:=.lst ((k.set low f).map B));let R5:=(aK z0:Zx r l (Y' ((k.set low f).map B)) R=r R).trans hR;let A5:Zx r l (Y' ((k.set low f).map B)) l=_:=ai;generalize Zx r l (Y' ((k.set low f).map B))=H5 at s5 R5 A5 ⊢;calc#[_,.inl (s5.seq hB),?_];rw[af,gB];let j0:low<(k.set low f).9:=by rw[jt];lk
  let k0:(k.set low f)[low]=f:=by simp
  obtain⟨Pw,I⟩:∃Pw:O->L2.St->Hp->Prop,∀j y Hx,Pw j y Hx↔∃(C:aa)(r5:Zk V),y=[W (L a),W (L b),W (L R),W (L l),W (B (low:Y)),r5]/\Hx R=W (Y' (C.map B))/\Hx l=W (Y' ((k.set low f).map B))/\C.9=rest.9/\(∀u,Z C u=Z rest u-if low<=u/\u<low+j then f*Z XY (u-low) else 0)/\Same H Hx:=#[_,λ_ _ _=>Zj]
  refine#[(),(),ie Pw ((I _ _ _).mpr #[rest,_,U,R5,A5,U,λu=>by rw[N ()];lk,s5]) ?_ ?_]
  .intro j y Hx hj y0;cases (I _ _ _).mp y0,C,r5,rfl,xR,xA,xl,xc,xs;let e1:(0:Y)+(j:Y)=(j:Y):=ij _;let u1:(low:Y)+(j:Y)=((low+j:O):Y):=rfl
   room;simp![e1,u1]
   let M:low+j<C.9:=()
   calc#[_,Zw xR,_,fe M,_,Zw xA,_,fe j0,_,xs.seq hB,_,fe hj,?_];rw[k0]
   room;walk
   refine#[bf.fits (bl _ (cD hj)) (),_,xR,low+j,iB #v[af,M],(I _ _ _).mpr #[C.set (low+j) (C[low+j]-f*XY[j]),_,rfl,by rw[ai,map_set],#v[aK (ZQ z0),xA],#v[jt,xl],λu=>?_,xs.more nR]];rw[kD _ _ _ _ M];by_cases e:u=low+j
   .subst e;let z:=xc (low+j);rw[N (show ¬(low<=low+j/\low+j<low+j) by lk),aO M]at z;rw[Zt (show low+j=low+j from rfl),Zt (show low<=low+j/\low+j<low+(j+1) by lk),show low+j-low=j by lk,aO hj];lk
   .rw[N e,xc u];by_cases h3:low<=u/\u<low+j
    .rw[Zt h3,Zt (show low<=u/\u<low+(j+1) by lk)]
    .rw[N h3,N (show ¬(low<=u/\u<low+(j+1)) by lk)]
  .intro y Hx y0;cases (I _ _ _).mp y0,C,r5,rfl,xR,xA,xl,xc,xs;let D':DivAt one XY (k.set low f) C low:=IP c D () #v[m,ct,hf] xl λu=>by
    rw[xc u];by_cases h3:low<=u
    .rw[Zt h3];by_cases h4:u<low+XY.9
     .rw[Zt #[h3,h4]]
     .rw[N (),aL (xs:=XY) (),dY]
    .rw[N (),N h3]
   refine (F _ _ _).mpr #[_,C,_,_,U,xR,xA,by rw[show n-(i+1)=low by lk];exact D',cP λu=>?_,xs];rw[xc u];let b1:=cV (P:=Bd (5000+5002*i)) hb (Bd.zero _) u;let b2:Bd (5000+5002*i+1+5000) (if low<=u/\u<low+XY.9 then f*Z XY (u-low) else 0):=by
    split
    .exact bf.mul (cV (P:=Bd 5000) bl (Bd.zero _) _)
    .exact Bd.zero _
   exact ((b1.mono ()).sub b2).mono ()
 .intro y r hp;cases (F _ _ _).mp hp,k,rest,r1,r2,rfl,hR,X,D,hb,sH;rw[gE]at D
  room;walk
  let dv:=CT D (IQ nt c D d hd);let na:S k:=by
   by_cases ho:one=[]
   .let:k.9=0:=by let:=D.la;rw[ho]at this;simp at this;lk
    rw[b7 this];exact bH
   .exact IS c no ho D.la dv
  calc q l _ sH fA (by rw[X,CS nt c na nd dv hd])
def UU (xs:aa):bT 0 xs=xs:=vU (pE 0 xs) λk _=>dX (λn=>by rw[fD];simp) k
def UV (K:ao):Sp:=λvs H Q _=>∃(A:Zs)(as:ap)(gs ds:ae)(l R:aa)(f:O->aa),vs=[.ref A]/\SqL K H A (as.map L)/\LL K H as gs/\gs.getLast?=W l/\l≠[]/\gs.9<=40/\Chn gs f/\ThinOk gs l ds R f/\gQ H Q ds
def xT:FnOk P w K mg base CX0 7 T.Ww.ax T.Ww.dx ["_law_polys"] (UV K):=by
 refine T.Ww.Fx.ok wN (λvs H Q E h=>?_) (λu2 A outer s H vs Q E hr h=>?_)
 .cases h,A,as,gs,ds,l,R,f,rfl,_;rfl
 cases h,A,as,gs,ds,l,R,f,rfl,hA,hL,hl,l0,lg,ch,#[_,_,_,fR,F,nR,lR,bR,ld,hd,_],q;refine#[_,s!"ʭť˼ƶɣƷƸƹʽhˉ±ˆɥʯɸ¾k̐¨<ľ̴ʛ̥@w<Ĉ̇ʛ͟ťʓˤěɣĜĝĞʦɰIˠ¨ɥ̢ʣ͟ťʓ̩͊ʼ̿Ş̰ʩƺɣƻƼƽ̜",?_]
 w_up
 calc#[A,as,gs,f,U,hA,hL,ch,λX H1 s1 nX I=>?_];rw[fR]at I;let cp:=fU nR F;let cb:Bd 5000 ((ag R:O):Int):=by show ((ag R:O):Int).8<2^5000;rw[d_];exact mH (eV 5000) R bR
 obtain⟨e,a⟩:∃e,e=if clr 0 R=K' then R else [((ag R:O):Int)]:=#[_,rfl]
 let u:e≠[]:=by rw[a];split;calc F;simp
 let x0:Nml e:=by rw[a];split;calc nR;exact e7 ()
 let y0:e.9<=20:=by rw[a];split;calc lR;simp
 let z0:∀x∈e,Bd 5000 x:=by
  rw[a];split
  .exact bR
  .intro x hx;rw[bZ.mp hx];exact cb
 let u0:=cE.mpr F;obtain⟨M,k⟩:∃M:L2.St->Hp->Prop,∀C n,M C n↔∃Y:Zs,C=[W (L A),W (L Y)]/\n Y=W (Y' (e.map B))/\Same H n:=#[_,λ_ _=>Zj]
 w_up
 room;refine gl M ?_ ?_
 .room;walk
  let cl:clr 0 R=K'↔Z R 0≠0/\∀y∈R,0<=y*Z R 0:=by
   rw[xJ,UU]
   cases R with
   |nil=>calc Zq U F
   |cons x xs=>exact Zj
  let j0:clr 0 R≠K'->Dy K [L X] H1 (λx H1=>0+1<=Zg/\∀p,H1 p=Zy->M [W (L A),W (L p)] (Zx H1 p (Y' [x]))) E0:=λh=>#[X,R,U,Zw I,λx hx=>(bR x hx).mono (),λHc sc=>#[(),λp np=>(k _ _).mpr #[p,U,by rw[ai,a,N h];rfl,s1.trans (sc.trans (au np _))]]]
  let o:clr 0 R=K'->M [W (L A),W (L X)] H1:=λh=>(k _ _).mpr #[X,U,#v[a,Zt h,I],s1];calc#[_,Zw I,_,fe (i:=0) u0,?_];let e0:R[0]=Z R 0:=(aO u0).symm;rw[e0]
  room;walk
  refine cu (λz=>j0 λh=>(cl.mp h).1 z) (λz=>#[R,Zw I,F,λm1 h1 h2=>cu (λn1=>#[R,Zw I,F,λm2 h3 h4=>cu (λn2=>j0 λh=>?_) (λn2=>o (cl.mpr #[z,λy hy=>?_]))]) (λn1=>o (cl.mpr #[z,λy hy=>?_]))])
  .let a1:=(cl.mp h).2 m1 h1;let a2:=(cl.mp h).2 m2 h3;rcases yp z with w|w
   .let:=Vw n2 w;lk
   .let:=Vx n1 w;lk
  .let m:∀y∈R,y<=0:=λy hy=>by let:=h4 y hy;lk
   exact Vy (m y hy) (m _ #v[<-e0,cD _])
  .let m:∀y∈R,0<=y:=λy hy=>by let:=h2 y hy;lk
   exact yo (m y hy) (m _ #v[<-e0,cD _])
 intro C H3 hm;cases (k _ _).mp hm,Y,rfl,eY,s3;clear hm k M;let x1:gs≠[]:=λz=>by rw[z]at hl;simp at hl
 obtain⟨S,hS⟩:∃S,fK R l=S:=#[_,rfl]
 let c:S=if l≠[]/\Z l (l.9-1)<0 then e.map (λx=>-x) else e:=by rw[<-hS,a];rfl
 let en:e.map (λx:Int=>-x)=e.map λx=>(-1)*x:=by congr 1;funext x;lk
 let lS:S.9<=20:=by rw[c];split;rw[af];calc y0;exact y0
 let S1:S≠[]:=by rw[c];split;simpa using u;exact u
 let nS:Nml S:=by
  rw[c];split
  .rw[en];exact og (.inr #v[af,dg,fL () (dU x0 u)])
  .exact x0
 let bS:∀x∈S,Bd 5000 x:=by
  rw[c];split
  .intro x hx;cases b8.mp hx,y,hy,rfl;exact (z0 y hy).neg
  .exact z0
 rw[hS]at hd;let v2:=cE.mpr l0;obtain⟨M,k⟩:∃M:L2.St->Hp->Prop,∀C n,M C n↔∃Y:Zs,C=[W (L A),W (L Y)]/\n Y=W (Y' (S.map B))/\Same H n:=#[_,λ_ _=>Zj]
 w_up
 room;refine gl M ?_ ?_
 .room;walk
  cases (hL.same s3).lastAt x1,b,p,y1,_,k0,z1;rw[hl]at k0
  cases k0
  refine#[_,s3.seq hA,_,y1,b,U,_,z1,_,i3 l0,?_]
  room;walk
  rw[show l.getLast l0=Z l (l.9-1) by rw[aO (),lE]];refine cu (λh=>?_) (λh=>(k _ _).mpr #[Y,U,by rw[c,N λz=>h z.2];exact eY,s3]);refine#[#[_,Zw eY],λD nD=>D5 (g:=λx=>-x) nD (Zw eY) () (λx hx n R' sx hR=>?_) λr H' s' nr er=>(k _ _).mpr #[r,U,by rw[er,c,Zt #[l0,h]],s3.trans s']]
  room;simp![bst]
  exact hR
 intro C H4 hm;obtain⟨Y,rfl,eY,s4⟩:=(k _ _).mp hm
 w_up
 let j2:=eY;refine#[#[_,s4.seq hA],λD nD=>iT (ps:=gs) (ds:=ds) nD (s4.seq hA) (hL.same s4) ld () (λj b p d Hz R' hp u1 sz hb hN=>?_) λX' v1 Hz sz j1 g1 x2 y2 n0 z2=>q X' v1 Hz (s4.trans sz) (s4.free j1) g1 x2 (λb hb=>s4.free (y2 b hb)) n0 z2]
 room;simp![bst]
 cases ch.2 j p hp,_,n2,_,l2,_,b2,_;cases hd j p d hp u1,d1,d2,_;calc#[_,U,b,Y,p,S,d,U,hb,Zw (sz _ _ eY),(),(),n2,nS,S1,λx hx=>(b2 x hx).mono (),bS,d1,d2,hN]
theorem UW {A B R:aa}(nB:S B)(h:fJ A B R):(A≠[]->Dv R A)/\(A=[]->Dv R B):=by
 let up:∀X:aa,Dv (df X) X:=λX=>by
  cases p9 X,e,a,b;exact#[[e],λn=>by rw[b];rcases a with rfl|rfl <;> simp[J]]
 rcases h with ⟨z,rfl⟩|⟨z,w,rfl⟩|⟨z,w,c,i,_,_,g,j,d,rfl⟩
 .exact#[λy=>Zq z y,λ_=>up B]
 .exact#[λ_=>up A,λy=>Zq y z]
 .calc#[λ_=>?_,λy=>Zq y z];cases (xN d).da,t,f;cases mV (ag A) (ag B),k,hk;calc#[t.map λz=>(k:Y)*z,λn=>?_];rw[<-i9 c n,f,aJ,aJ]
  conv=>lhs;rw[hk]
  rw[fX];grind
def UX {A B R:aa}(nA:S A)(nB:S B)(h:fJ A B R):S R:=by
 rcases h with ⟨_,rfl⟩|⟨_,_,rfl⟩|⟨_,_,a,_,_,_,g,c,b,rfl⟩
 .exact mJ nB
 .exact mJ nA
 .let:=yy (ag B) a;calc gx () b.ng
theorem UY {A B b R F:aa}{a:Y}(d:a=1\/a=-1)(nB:S B)(f:S b)(j:∀n,J n b=a*J n B)(h:fJ A B R)(h':fJ A b F):R=F:=by
 let c:a*a=1:=by rcases d with rfl|rfl <;> rfl
 let k:a≠0:=by rcases d with rfl|rfl <;> decide
 let bb:B=[]↔b=[]:=⟨λz=>aZ f bH λn=>by rw[j,z];simp[J],λz=>aZ nB bH λn=>by
  let:=j n;rw[z]at this;calc ((kY.mp this.symm).resolve_left k)⟩
 rcases h with ⟨z,e⟩|⟨z,w,e⟩|⟨z,w,c1,M,_,_,g,G,P,e⟩ <;> rcases h' with ⟨i,l⟩|⟨i,q,l⟩|⟨i,q,Q,r,_,_,X,G',s,l⟩
 .rw[e,l,SH nB f d j]
 .exact Zq z i
 .exact Zq z i
 .exact Zq i z
 .rw[e,l]
 .exact Zq (bb.mp w) q
 .exact Zq i z
 .exact Zq (bb.mpr q) w
 .let H:b=B.map λz=>a*z:=aZ f (gx k nB) λn=>by rw[j,aJ]
  let I:ag b=ag B:=by
   refine EF (iS _ _ λx hx=>?_) (iS _ _ λx hx=>?_)
   .cases gw b (a*x) #v[H,b8.mpr #[x,hx,rfl]],y,hy;let:x=a*(a*x):=by rw[<-cI,c,cL]
    exact#[a*y,by rw[this,hy];grind]
   .rw[H]at hx;cases b8.mp hx,y,hy,rfl;exact ge (gw B y hy) (qR _ _)
  let dd:∀n,J n (dvL b (ag b))=a*J n (dvL B (ag B)):=λn=>by
   let u:=i9 M n;let C:=i9 r n;refine jx (show ((ag b:O):Y)≠0 by lk) ?_;rw[C,j,<-u,I];grind
  let m:∀g,Dv g (dvL b (ag b))↔Dv g (dvL B (ag B)):=λg=>⟨λ⟨t,E⟩=>⟨t.map λz=>a*z,λn=>by
   let:=E n;rw[dd]at this;let e:J n (dvL B (ag B))=a*(a*J n (dvL B (ag B))):=by rw[<-cI,c,cL]
   rw[e,this,aJ];grind⟩,λ⟨t,E⟩=>#[t.map λz=>a*z,λn=>by rw[dd,E,aJ];grind]⟩
  let o:=xN s;rw[e,l,I,(xN P).uniq (#[o.p,o.da,(m _).mp o.db,λg pg u C=>o.g g pg u ((m g).mpr C)]:Gcd (dvL A (ag A)) (dvL B (ag B)) X)]
theorem UZ {gs d ds j:ae}{m:Y}(o:m=1\/m=-1)(ng:∀g∈gs,S g)(s:∀g∈d,S g)(lg:d.9=gs.9)(M:∀i,i<gs.9->∀n,J n (d.getD i [])=m*J n (gs.getD i []))(H:gs.getLast?=W l)(u:d.getLast?=W k)(l0:l≠[])(h:ThinOk gs l ds R f)(h':ThinOk d k j Q X):ds=j:=by
 cases h,a0,a1,_,aR,R0,nR,_,_,al,ad,_,_,av;cases h',b0,b1,_,bR,_,_,_,_,bl,bd,_,_,_;let x0:m*m=1:=by rcases o with rfl|rfl <;> rfl
 let C:m≠0:=by rcases o with rfl|rfl <;> decide
 let q:∀i,i<gs.9->gs[i]?=W (gs.getD i []):=λi hi=>gv hi;let r:∀i,i<gs.9->d[i]?=W (d.getD i []):=λi hi=>gv ();let ef:∀i,i<=gs.9->f i=X i:=λi=>by
  induction i with
  |zero=>intro _;rw[a0,b0]
  |succ i ih=>
   intro hi;let c1:=a1 i _ (q i ());let c2:=b1 i _ (r i ());rw[ih ()]at c1;exact UY o (ng _ (mem_getD ())) (s _ (mem_getD ())) (M i ()) c1 c2
 let eR:R=Q:=by rw[<-aR,<-bR,lg];exact ef _ (aC _)
 subst eR;let k0:gs≠[]:=λz=>by rw[z]at H;simp at H
 let k1:=cE.mpr k0;let el:l=gs.getD (gs.9-1) []:=by
  rw[gC,q _ ()]at H;exact (Zv H).symm
 let E:k=d.getD (gs.9-1) []:=by
  rw[gC,lg,r _ ()]at u;exact (Zv u).symm
 let nl:S l:=by rw[el];exact ng _ (mem_getD ())
 let P:S k:=by rw[E];exact s _ (mem_getD ())
 let vl:∀n,J n k=m*J n l:=by rw[el,E];exact M _ ()
 let ml:k=l.map λz=>m*z:=aZ P (gx C nl) λn=>by rw[vl,aJ]
 let tt:∀n,J n (fK R k)=m*J n (fK R l):=λn=>by
  let lt:=dU nl l0;let F:k≠[]:=λz=>l0 (kf.mp (ml ▸ z));let c:Z k (k.9-1)=m*Z l (l.9-1):=by rw[ml,af,dg]
  unfold fK;generalize (if clr 0 R=K' then R else [((ag R:O):Y)])=I;let ng:∀n,J n (I.map λx=>-x)=-J n I:=λn=>by
   rw[show I.map (λx:Y=>-x)=I.map λx=>(-1)*x by congr 1;funext x;lk,aJ];lk
  rcases o with rfl|rfl
  .rw[c,cL,cL];by_cases z:Z l (l.9-1)<0
   .rw[Zt #[F,z],Zt #[l0,z]]
   .rw[N λy=>z y.2,N λy=>z y.2]
  .by_cases z:Z l (l.9-1)<0
   .rw[N λy=>(),Zt #[l0,z],ng];lk
   .rw[Zt #[F,()],N λy=>z y.2,ng];lk
 calc h8 () λi h1 h2=>?_;cases ad i _ _ (q i ()) (aq h1),n1,_,v1,_;cases bd i _ _ (r i ()) (aq h2),n2,_,v2,_;let T1:aw (fK R l)≠[]:=λz=>av 0 (by rw[<-cx,z];rfl);let e:pdL (aw (fK R l)) (cF ds[i] j[i])=[]:=aZ (bJ _ _) bH λn=>by
  let a:=v1 n;let b:=v2 n;rw[M i (),tt,cI]at b;let b':=jx C b;rw[aG,cx,ga,oI,<-a,<-b'];simp[J]
 let s0:cF ds[i] j[i]=[]:=Zc λz=>d9 (cn _) (iX _ _) T1 z e;calc aZ n1 n2 λn=>?_;let:=ga n ds[i] j[i];rw[s0]at this;let e0:J n ([]:aa)=0:=rfl;lk
theorem Ly {gs Ms:ae}{f:O->aa}(C:S F)(o:F≠[])(lM:Ms.9=gs.9)(hg:∀(i:O)(r M:aa),gs[i]?=W r->Ms[i]?=W M->S r/\S M/\(∀n,J n M=J n F*J n r)/\M.9<=13/\∀z∈M,Bd 65 z)(Q:f 0=[])(fs:∀i r,gs[i]?=W r->fJ (f i) r (f (i+1))):Chn gs f:=by
 let lF:F.9≠0:=λz=>o (b7 z);let H:∀i r,gs[i]?=W r->∃M,S r/\S M/\(∀n,J n M=J n F*J n r)/\M.9<=13/\∀z∈M,Bd 65 z:=λi r h=>by
  let hi:=(a_.mp h).1;exact#[_,hg i r _ h (aq (show i<Ms.9 by lk))]
 let I:∀i,i<=gs.9->S (f i):=λi=>by
  induction i with
  |zero=>intro _;rw[Q];calc bH
  |succ i ih=>
   intro hi;let a:=aq (show i<gs.9 by lk);cases H i _ a,_,c,_;exact UX (ih ()) c (fs i _ a)
 let dv:∀i,i<=gs.9->f i=[]\/∃j r,gs[j]?=W r/\r≠[]/\Dv (f i) r:=λi=>by
  induction i with
  |zero=>intro _;calc .inl Q
  |succ i ih=>
   intro hi;let a:=aq (show i<gs.9 by lk);generalize gs[i]=r at a;let X:=fs i r a;cases H i r a,M,c,_;cases UW c X,d1,d2;by_cases z:f i=[]
   .by_cases k:r=[]
    .left;rcases X with ⟨_,e⟩|⟨y,_⟩|⟨y,_⟩
     .rw[e,k];rfl
     .exact Zq z y
     .exact Zq z y
    .exact .inr #[i,r,a,k,d2 z]
   .rcases ih () with y|⟨j,s,es,s0,t,q⟩
    .exact Zq y z
    .cases d1 z,t',R;exact .inr #[j,s,es,s0,pdL t' t,λn=>by rw[q,R,aG];grind]
 let small:∀i,i<=gs.9->(f i).9<=13/\(∀z∈f i,Bd 3000 z)/\(pdL F (f i)).9<=13/\∀z∈pdL F (f i),Bd 241 z:=λi hi=>by
  rcases dv i hi with e|⟨j,r,a,k,t,q⟩
  .rw[e,DA];simp
  .cases H j r a,M,c,u,l,d,E;let x:f i≠[]:=λz=>k (aZ c bH λn=>by rw[q,z];simp[J]);let P:M≠[]:=λz=>k (j_ C c o λn=>by rw[<-l,z];rfl);let t0:aw t≠[]:=λz=>k (aZ c bH λn=>by rw[q,<-cx n t,z];simp[J]);let e1:pdL (pdL F (f i)) (aw t)=M:=aZ (bJ _ _) u λn=>by rw[aG,aG,cx,l,q];grind
   let l1:=(dr (bJ F (f i)) (cn t) (d9 C (I i hi) o x) t0).1;let l2:=(dr C (I i hi) o x).1;rw[e1]at l1;let lt:=cE.mpr t0;let lf:=cE.mpr x;refine#[(),λz m=>(iW (D:=12) (b:=65) (e:=f i) (t:=pdL F t) (I i hi) u P () d () E (λn=>by rw[l,q,aG];grind) z m).mono (),(),λz m=>(iW (D:=12) (b:=65) (e:=pdL F (f i)) (t:=t) (bJ _ _) u P () d () E (λn=>by rw[l,q,aG];grind) z m).mono ()]
 calc#[Q,λi r a=>?_];cases H i r a,M,c,u,l,d,E;cases small i (dj (a_.mp a).1),s1,s2,s3,s4;let br:r.9<=13/\∀z∈r,Bd 3000 z:=by
  by_cases k:r=[]
  .rw[k];simp
  .let P:M≠[]:=λz=>k (j_ C c o λn=>by rw[<-l,z];rfl);let l2:=(dr C c o k).1;rw[aZ (bJ F r) u λn=>by rw[aG,l]]at l2;exact#[(),λz m=>(iW (D:=12) (b:=65) (e:=r) (t:=F) c u P () d () E (λn=>by rw[l];grind) z m).mono ()]
 calc#[I i (dj (a_.mp a).1),c,s1,br.1,s2,br.2,λ_ _=>#[F,pdL F (f i),M,241,65,C,o,bJ _ _,u,λn=>aG n _ _,l,s3,d,λz m=>dj (s4 z m),λz m=>dj (E z m),()],fs i r a]
def Ea {xs:aE}{m:O}(h:∀x∈xs,x<=m):mxl xs<=m:=by
 induction xs with
 |nil=>calc bh _
 |cons y ys ih=>
  show max y (mxl ys)<=m;calc Nat.max_le.mpr #[h y ⋯,ih λx hx=>h x (by simp[hx])]
theorem Lz {f g:O->O}:∀m,(∀s,s<m->f s<=g s)->((aT m).map f).sum<=((aT m).map g).sum
 |0,_=>by simp
 |m+1,h=>by
  rw[gM,aY,aY,gX,gX];let a:=Lz m λs hs=>h s ();let b:=h m ();simp only[List.sum_nil,yh,i2,fo];lk
def PB (d M:O)(f:aa):Prop:=S f/\f.9<=d+1/\∀x∈f,x.8<=M
def LA {d M:O}(a:S f)(b:FN M λn=>J n f)(c:FD d λn=>J n f):PB d M f:=#[a,kS c a λ_=>U,D9 b λ_=>U]
def U1 {d e M N:O}(a:FN M λn=>J n f)(b:FD d λn=>J n f)(c:FN N λn=>J n g)(h:FD e λn=>J n g):PB (d+e) (M*N) (ah f g):=LA (cQ _ _) ((a.mul2 c).congr λn=>a8 n f g) ((b.mul2 h).congr λn=>a8 n f g)
def PB.mono {d e M N:O}(h:PB d M f)(l:d<=e)(k:M<=N):PB e N f:=#[h.1,by let:=h.2.1;lk,λx hx=>aP (h.2.2 x hx) k]
def pbv {v:ae}{d M b:O}(h:∀f∈v,PB d M f)(i:M<2^b)(b1:1<=b):dv v<=d/\bv v<=b:=by
 let j:mxl (v.map ka)<=d+1:=Ea λx hx=>by cases b8.mp hx,f,a,rfl;exact (h f a).2.1
 let c:mxl (v.map λf=>mxl (f.map oY))<=M:=Ea λx hx=>by
  cases b8.mp hx,f,a,rfl;exact Ea λy hy=>by cases b8.mp hy,z,e,rfl;exact (h f a).2.2 z e
 refine#[by unfold dv;lk,?_];unfold bv;generalize mxl (v.map λf=>mxl (f.map oY))=X at c;by_cases z:X=0
 .rw[z];simpa using b1
 .let:=(Et z (k:=b)).mpr ();lk
def xU {f g:O->O}{m t:O}(h:∀s,s<m->f s<=g s):dgS f m t<=dgS g m t:=by
 unfold dgS;exact Lz m λs hs=>by split;calc aC _;calc h s hs
theorem Eb (f:O->O){i:O}:∀{k},i<=k->((aT i).map f).sum<=((aT k).map f).sum
 |0,h=>by
  obtain rfl:i=0:=()
  calc aC _
 |k+1,h=>by
  by_cases z:i=k+1
  .rw[z];exact aC _
  .let:=Eb f (i:=i) (k:=k) ();rw[gM,aY,gX];lk
theorem Ec {w L b l D β k:O}{a:aB}{dd bb:O->O}(lq:a.9=k)(V:∀t v,a[t]?=W v->v.9=w/\∃M,M<2^bb t/\∀f∈v,PB (dd t) M f)(z:∀t,t<k->1<=bb t/\bb t<=b/\dd t+1<=L)(I:((aT k).map dd).sum<=D)(r:∀i t,i<k->t<=i->dgS (λs=>l+bb s) (i+1) t+3*i+4<=β){i:O}(d:a[i]?=W q):VqF w L b l D β (a.take i) q:=by
 let hi:=(a_.mp d).1;let lt:(a.take i).9=i:=by rw[cB];lk
 let one:∀t v,a[t]?=W v->v.9=w/\(∀f∈v,S f/\f.9<=L/\∀c∈f,Bd b c)/\dv v<=dd t/\bv v<=bb t:=λt v n=>by
  cases V t v n,u,M,o,h;let j:=(a_.mp n).1;cases z t (),C,E,P;refine#[u,λf x=>#[(h f x).1,by let:=(h f x).2.1;lk,λc F=>?_],pbv h o C];exact dF ((h f x).2.2 c F) (dE o (fQ () E))
 let e:a.take i++[q]=a.take (i+1):=by rw[dI,d];rfl
 let y:∀s,s<i+1->a[s]?=W ((a.take i++[q]).getD s []):=λs hs=>by
  rw[e,aD,List.getElem?_take,Zt hs,aq ()];rfl
 let H:(a.take i++[q]).getD i []=q:=by
  let:=y i ();rw[d]at this;exact (Zv this).symm
 refine#[λv n=>?_,(one i q d).1,(one i q d).2.1,?_,λt j=>?_]
 .cases di.mp n,t,j,rfl;rw[cB]at j;rw[zcs];let:=one t _ (aq ());exact#[this.1,this.2.1]
 .unfold sT sS;rw[lt];let u:=xU (f:=λs=>dv ((a.take i++[q]).getD s [])) (g:=dd) (m:=i+1) (t:=i) λs hs=>(one s _ (y s hs)).2.2.1;let o:=(one i q d).2.2.1;let h:=xq dd (i+1) i ();let Q:=Eb dd (show i+1<=k by lk);lk
 .rw[lt]at j ⊢;unfold sS;rw[lt];let u:=xU (f:=λs=>l+bv ((a.take i++[q]).getD s [])) (g:=λs=>l+bb s) (m:=i+1) (t:=t) λs hs=>EO (one s _ (y s hs)).2.2.2 l;let o:=r i t () j;dsimp only;lk
theorem LC {M:O}{xs:aa}(hx:∀x∈xs,x.8<=M):∀b:aa,∃a:aa,(∀j,(Z a j).8<=n1 b*M)/\∀n,J n a=J n b*J n xs
 |[]=>#[[],λj=>by rw[gn];simp,λn=>by simp[J]]
 |y::b=>by
  cases LC hx b,a,c,d;refine#[cq (xs.map λz=>y*z) (0::a),λj=>?_,λn=>?_]
  .rw[gu,dg,gr];let e:=ju (y*Z xs j) (if j=0 then 0 else Z a (j-1));let f:(Z xs j).8<=M:=cV (P:=λy=>y.8<=M) hx (bh _) j;let h:(if j=0 then (0:Y) else Z a (j-1)).8<=n1 b*M:=by split;calc bh _;exact c _
   let i:=fE y.8 f;rw[du]at e;simp only[n1];rw[il];generalize (y*Z xs j+if j=0 then 0 else Z a (j-1)).8=X at *;generalize (if j=0 then (0:Y) else Z a (j-1)).8=k at *;lk
  .rw[d8,aJ];simp only[J];rw[d];grind
theorem LD {k b:O}{f g:aa}(a:∀x∈f,Bd k x)(c:n1 g<2^b):∀z∈ah f g,Bd (k+b) z:=by
 obtain⟨d,e,h⟩:=LC (M:=2^k) (xs:=f) (λx hx=>dj (a x hx)) g;calc cP (P:=λz=>Bd (k+b) z) λj=>?_;rw[dX (xs:=ah f g) (ys:=d) (λn=>by rw[a8,h,cW]) j];calc dF (e j) ?_;rw[eH,hI];calc (Nat.mul_lt_mul_left (eV k)).mpr c
theorem Ed:∀(a b:aa),(∀k,Z a k=Z b k)->n1 a<=n1 b
 |[],_,_=>bh _
 |y::a,[],h=>by
  let c:=h 0;rw[gr,Zt U,gn]at c;let:=Ed a [] λk=>by
   let:=h (k+1);rw[gr,N (),gn]at this;rw[gn];exact this
  simp only[n1]at this ⊢;lk
 |y::a,x::b,h=>by
  let c:=h 0;rw[gr,Zt U,gr,Zt U]at c;let:=Ed a b λk=>by
   let:=h (k+1);rw[gr,N (),gr,N ()]at this;exact this
  simp only[n1];rw[c];lk
def LF {M:O}(h:FN M f)(e:∀n,J n ys=f n):n1 ys<=M:=by
 cases h,a,b,c;calc aP (Ed ys a λk=>dX (λn=>by rw[e,c]) k) b
def oz (k:O)(W bb:O->O)(l D b:O):Prop:=(∀t,t<k->W t<2^bb t)/\(∀i,i<k->∀t,t<i+1->dgS (λs=>l+bb s) (i+1) t+3*i+4+bb t<=b)/\D<=19/\6*(2*D+1)+(b+6*k)*D+b*D+(b+6*k)+b+(b+14*D+8)+1<=4480/\b+14*D+8<=600
instance {k:O}{W bb:O->O}{l D b:O}:zer (oz k W bb l D b):=by unfold oz;infer_instance
def Ee {w L b l B D β b':O}{E:aB}{a:ae}{dd W bb:O->O}(P:PF w L b l B D β)(lq:E.9=w+1)(lw:a.9=w+1)(V:∀t v,E[t]?=Zz v->v.9=w/\dv v<=dd t/\bv v<=bb t)(Vq:∀i q,E[i]?=Zz q->VqF w L b l D β (E.take i) q)(Wt:∀t p,a[t]?=Zz p->p≠[]/\S p/\p.9<=dd t+1/\n1 p<=W t)(hd:∀t,t<w+1->dd t+1<=12/\bb t<=500)(hD:((aT (w+1)).map dd).sum<=D)(N:oz (w+1) W bb l D b'){G:ae->Prop}(hG:∀(i:O)(o ds:ae)(l R:aa)(f:O->aa)(cs:aE)(pl:Y),i<=w->StG w B (E.take i) cs pl->o.9=i+1->(∀p∈o,S p)->(∃p0 t0,o.getD i []=p0++[t0]/\0<t0)->(∀s:O,Prm s->(∀u∈o,∀j,(s:Y)∣Z u j)->False)->NF o->(∀c,c<w->∀n,aX (i+1) (λt=>J n ((E.getD t []).getD c [])*J n (o.getD t []))=0)->(dw ah o a).getLast?=Zz l->ThinOk (dw ah o a) l ds R f->G ds):xL w (StG w B) (VqF w L b l D β) (RlF w D (β+14*D+8) l) E a G:=by
 cases N,N1,N2,N3,N4,N5;refine#[λq X=>(V 0 q X).1,λi q cs pl X hS=>Vq i q X,λcs pl hS=>?_,λp hp=>?_,λi q o cs pl X hS hR=>?_]
 .let:=hS.few;lk
 .cases di.mp hp,t,y,rfl;cases Wt t _ (aq y),_,a2,a3,a4;cases hd t (),e1,e2;exact#[(),a2,λx hx=>dF (aP (D8 hx) a4) (dE (N1 t ()) (fQ () ()))]
 cases hR,#[R1,R2,#[p0,t0,R3,z0],R4,R5],hN,F,nF,F0,U;let hi:=(a_.mp X).1;let lk:(E.take i).9=i:=by rw[cB];lk
 rw[lk]at R1 R3 R5 U;let eq:E.take i++[q]=E.take (i+1):=by rw[dI,X];rfl
 let I:∀s,s<i+1->(E.take i++[q]).getD s []=E.getD s []:=λs hs=>by rw[eq,aD,qF hs,<-aD]
 let Q:∀t,t<i+1->(dw ah o a)[t]?=Zz (ah (o.getD t []) (a.getD t [])):=λt y=>by rw[qT,gv (d:=[]) (show t<o.9 by lk),gv (d:=[]) (show t<a.9 by lk)]
 let lz:(dw ah o a).9=i+1:=by rw[km,R1,lw];lk
 let x0:∀t,t<i+1->o.getD t []∈o:=λt y=>mem_getD ();let wt:∀t,t<i+1->a.getD t []≠[]/\S (a.getD t [])/\(a.getD t []).9<=dd t+1/\n1 (a.getD t [])<2^bb t:=λt y=>by
  obtain⟨a1,a2,a3,a4⟩:=Wt t _ (gv (d:=[]) (show t<a.9 by lk));exact#[a1,a2,a3,dF a4 (N1 t ())]
 let sk:∀t:O,∃M:aa,t<i+1->S M/\(∀n,J n M=J n F*J n (o.getD t []))/\M.9<=dgS dd (i+1) t+1/\∀z∈M,Bd (dgS (λs=>l+bb s) (i+1) t+3*i+4) z:=λt=>by
  by_cases y:t<i+1
  .cases U t (),M,m1,m2,m3,m4;refine#[M,λ_=>#[m1,m2,?_,λz hz=>(m4 z hz).mono ?_]]
   .unfold sS at m3;rw[lk]at m3;let:=xU (f:=λs=>dv ((E.take i++[q]).getD s [])) (g:=dd) (m:=i+1) (t:=t) λs hs=>by rw[I s hs];exact (V s _ (gv ())).2.1
    lk
   .unfold sS;rw[lk];let:=xU (f:=λs=>l+bv ((E.take i++[q]).getD s [])) (g:=λs=>l+bb s) (m:=i+1) (t:=t) λs hs=>by rw[I s hs];exact EO (V s _ (gv ())).2.2 l
    dsimp only;lk
  .exact#[[],λh=>Zq h y]
 obtain⟨H,u0⟩:∃H:O->aa,∀t,t<i+1->S (H t)/\(∀n,J n (H t)=J n F*J n (o.getD t []))/\(H t).9<=dgS dd (i+1) t+1/\∀z∈H t,Bd (dgS (λs=>l+bb s) (i+1) t+3*i+4) z:=#[λt=>Classical.choose (sk t),λt=>Classical.choose_spec (sk t)]
 let hg:∀t,t<i+1->S (ah (H t) (a.getD t []))/\(∀n,J n (ah (H t) (a.getD t []))=J n F*J n (ah (o.getD t []) (a.getD t [])))/\(ah (H t) (a.getD t [])).9<=D+1/\∀z∈ah (H t) (a.getD t []),Bd b' z:=λt y=>by
  cases u0 t y,m1,m2,m3,m4;cases wt t y,_,w2,w3,w4;refine#[cQ _ _,λn=>by rw[a8,a8,m2,cI],?_,λz hz=>(LD m4 w4 z hz).mono (N2 i () t y)];let lp:=jo m1 w2 (cQ _ _) (fg (H t) (a.getD t []));let h3:=xq dd (i+1) t y;let h4:=Eb dd (show i+1<=w+1 by lk);lk
 let rows:∀r∈dw ah o a,S r/\r.9<=20/\∀x∈r,Bd 5000 x:=λr hr=>by
  cases di.mp hr,t,y,rfl;let e:=aq y;rw[Q t ()]at e;rw[<-Zv e];let h1:=R2 _ (x0 t ());cases hg t (),g1,g2,g3,_;let big:=P.big;refine#[cQ _ _,?_,λx hx=>(LD h1.2.2 (wt t ()).2.2.2 x hx).mono (by let:=(hd t ()).2;lk)];let nr:=cQ (o.getD t []) (a.getD t []);generalize ah (o.getD t []) (a.getD t [])=r at nr g2;generalize ah (H t) (a.getD t [])=M at g1 g2 g3;by_cases z:r=[]
  .rw[z];exact bh _
  let j0:=(dr nF nr F0 z).1;rw[aZ (bJ F r) g1 λn=>by rw[aG,g2]]at j0;let n0:F.9≠0:=λz=>F0 (b7 z);lk
 let C:(dw ah o a).getLast?=Zz (ah (o.getD i []) (a.getD i [])):=by rw[gC,lz,zcr];exact Q i ()
 let l1:ah (o.getD i []) (a.getD i [])≠[]:=λz=>by
  cases wt i (),w1,w2,_;refine w1 (j_ (R2 _ (x0 i ())).1 w2 (by rw[R3];simp) λn=>?_);rw[<-a8,z];rfl
 obtain⟨ds,R,f,th⟩:=Lc (gs:=dw ah o a) (Ms:=(aT (i+1)).map λt=>ah (H t) (a.getD t [])) (D:=D) (b:=b') (k:=w+1) nF F0 N3 () (by rw[af,im,lz]) (λt r M hr hM=>by
  let y:t<i+1:=by rw[<-lz];exact (a_.mp hr).1
  rw[Q t y]at hr;rw[a7,oU y]at hM
  cases hr
  cases hM
  calc#[cQ _ _,hg t y]) N4 N5 C l1
 let big:=P.big;cases id th,t1,t2,t3,t4,t5,t6,t7,t8,t9,y0,x1,y1,z1;refine#[R1,λp k0=>?_,ds,_,R,f,C,rows,t1,t2,t3,t4,t5,t6,t7,t8,t9,λj g d h1 h2=>#[(y0 j g d h1 h2).1,(y0 j g d h1 h2).2.1],hG i o ds _ R f cs pl () hS R1 (λp hp=>(R2 p hp).1) #[p0,t0,R3,z0] R4 hN (λc hc n=>?_) C th]
 .let:=R2 p k0;exact#[(),this.1,λx hx=>(this.2.2 x hx).mono ()]
 .rw[<-R5 c hc n];calc fC λt y=>by rw[I t y]
theorem LG {f:Y->Y}{d:O}(h:∀s:O,FD d λn=>f (n+(s:O))):∀m,FD (d*m) λn=>cT f n m
 |0=>(FD.const 1).congr λn=>U
 |m+1=>by
  rw[oV];calc ((LG h m).mul2 (h m)).congr λn=>U
def LJ {g X Y:aa}(ng:S g)(g0:g≠[])(h:∀n,J n g*J n X=J n g*J n Y)(n:Int):J n X=J n Y:=by
 let e:=j_ ng (oq X (Y.map λz=>-1*z)) g0 λn=>by rw[gS,aJ,jc];let:=h n;grind
 let a:J n (fW X (Y.map λz=>-1*z))=0:=by rw[e];rfl
 rw[gS,aJ]at a;lk
def Ef (nx:S x)(a:x≠[])(h:x.9<=1):∃c:Y,c≠0/\x=[c]:=by
 match x,nx,a,h with
 |[],_,a,_=>calc Zq U a
 |[c],nx,_,_=>calc#[c,fO.mp nx c U,U]
 |_::_::_,_,_,h=>simp at h
theorem U2 {ws a:ae}{k:O}(l1:ws.9=k+1)(l2:a.9=k+1)(n1:∀r∈ws,S r)(n2:∀r∈a,S r)(t1:∃p0 F,ws.getD k []=p0++[F]/\0<F)(t2:∃p0 F,a.getD k []=p0++[F]/\0<F)(q1:∀s:O,Prm s->(∀u∈ws,∀j,(s:Int)∣Z u j)->False)(q2:∀s:O,Prm s->(∀u∈a,∀j,(s:Int)∣Z u j)->False)(f1:NF ws)(f2:NF a)(h:∀t,t<=k->∀n,J n (a.getD k [])*J n (ws.getD t [])=J n (ws.getD k [])*J n (a.getD t [])):ws=a:=by
 cases t1,p1,a1,I,k0;cases t2,p2,a2,M,n0;let m1:ws.getD k []∈ws:=mem_getD ();let m2:a.getD k []∈a:=mem_getD ();let na:=n1 _ m1;let nb:=n2 _ m2;let a0:ws.getD k []≠[]:=by rw[I];simp
 let b0:a.getD k []≠[]:=by rw[M];simp
 generalize hA:ws.getD k []=A at *;generalize hB:a.getD k []=C at *;cases xi _ A C (aC _) na nb (.inl a0),g,x,y,U,Wp,m,G;let x0:x≠[]:=λz=>a0 (by rw[G.pa,z,iU]);let y0:y≠[]:=λz=>b0 (by rw[G.qb,z,iU]);let vA:∀n,J n A=J n x*J n g:=λn=>by rw[G.pa,aG]
 let vC:∀n,J n C=J n y*J n g:=λn=>by rw[G.qb,aG]
 let yx:∀t,t<=k->∀n,J n y*J n (ws.getD t [])=J n x*J n (a.getD t []):=λt f n=>by
  let:=LJ (X:=bI y (ws.getD t [])) (Y:=bI x (a.getD t [])) G.ng G.g0 (λn=>by
   let b:=h t f n;rw[vA,vC]at b;rw[cG,cG];grind) n
  rwa [cG,cG]at this
 let xl:x.9<=1:=Zc λz=>f1 x G.na () m G.m0 λu o=>by
  cases di.mp o,t,f,rfl;let e0:ws[t]=ws.getD t []:=by rw[aD,aq f];rfl
  rw[e0];calc#[cq (bI U (ws.getD t [])) (bI Wp (a.getD t [])),λn=>?_];let b:=yx t () n;rw[<-G.bz n,d8,cG,cG];grind
 let yl:y.9<=1:=Zc λz=>f2 y G.nb () m G.m0 λu o=>by
  cases di.mp o,t,f,rfl;let e0:a[t]=a.getD t []:=by rw[aD,aq f];rfl
  rw[e0];calc#[cq (bI U (ws.getD t [])) (bI Wp (a.getD t [])),λn=>?_];let b:=yx t () n;rw[<-G.bz n,d8,cG,cG];grind
 cases Ef G.na x0 xl,P,x1,rfl;cases Ef G.nb y0 yl,Q,y1,rfl;let R:∀(c n:Int),J n [c]=c:=λc n=>by simp[J]
 let cc:∀t,t<=k->∀j,Q*Z (ws.getD t []) j=P*Z (a.getD t []) j:=λt f j=>by
  rw[<-dg,<-dg];exact dX (λn=>by rw[aJ,aJ];let:=yx t f n;rwa [R,R]at this) j
 obtain⟨d,hd⟩:∃d:O,d=cO P.8 Q.8:=#[_,rfl]
 let d0:0<d:=by rw[hd];exact yy _ ()
 obtain⟨l,ex⟩:(d:Int)∣P:=jf.mpr #v[hd,mV _ _];obtain⟨i,ey⟩:(d:Int)∣Q:=jf.mpr #v[hd,oO _ _];let H:∀s:O,Prm s->(s:Int)∣l->(s:Int)∣i->False:=λs hs b h2=>by
  let h3:s*d∣d:=by
   conv=>rhs;rw[hd]
   refine qU ?_ ?_
   .let:((s*d:O):Int)∣P:=by rw[ex,fX,cW];exact zdp (oQ _) b
    exact jf.mp this
   .let:((s*d:O):Int)∣Q:=by rw[ey,fX,cW];exact zdp (oQ _) h2
    exact jf.mp this
  let h4:=mT d0 h3;let:=hs.1;let:=fj d (show 2<=s by lk);lk
 let q:∀t,t<=k->∀j,i*Z (ws.getD t []) j=l*Z (a.getD t []) j:=λt f j=>by
  let b:=cc t f j;rw[ex,ey,cI,cI]at b;exact jx (show (d:Int)≠0 by lk) b
 let z0:∀u∈ws,∃t,t<=k/\u=ws.getD t []:=λu o=>by
  cases di.mp o,t,f,rfl;exact#[t,(),by rw[aD,aq f];rfl]
 let u0:∀u∈a,∃t,t<=k/\u=a.getD t []:=λu o=>by
  cases di.mp o,t,f,rfl;exact#[t,(),by rw[aD,aq f];rfl]
 let ux:l.8=1:=Zc λz=>by
  obtain⟨s,s1,E⟩:∃s,s∣l.8/\Prm s:=by
   by_cases y:l.8=0
   .exact#[2,#v[y,Ny _],CV]
   .exact pM _ ()
  let sx:=jf.mpr s1;calc q1 s E λu o j=>?_;cases z0 u o,t,f,rfl;rcases CW E (x:=i) (y:=Z (ws.getD t []) j) #v[q t f j,ge sx (i0 _ _)] with b|b
  .exact (H s E sx b).elim
  .exact b
 let uy:i.8=1:=Zc λz=>by
  obtain⟨s,s1,E⟩:∃s,s∣i.8/\Prm s:=by
   by_cases y:i.8=0
   .exact#[2,#v[y,Ny _],CV]
   .exact pM _ ()
  let sy:=jf.mpr s1;calc q2 s E λu o j=>?_;cases u0 u o,t,f,rfl;rcases CW E (x:=l) (y:=Z (a.getD t []) j) #v[<-q t f j,ge sy (i0 _ _)] with b|b
  .exact (H s E b sy).elim
  .exact b
 let sg:l=i:=by
  let lt:=dr (e7 (show i≠0 by lk)) na ⋯ a0;let j0:=dr (e7 (show l≠0 by lk)) nb ⋯ b0;let e:pdL [i] A=pdL [l] C:=aZ (bJ _ _) (bJ _ _) λn=>by
   rw[aG,aG,R,R,<-aJ,<-aJ];exact f9 (λj=>#v[dg,dg,<-hA,<-hB,q k (aC _) j]) n
  let b:=lt.2;rw[e,j0.2]at b;let t1:Z A (A.9-1)=a1:=by rw[I];unfold Z;simp
  let t2:Z C (C.9-1)=a2:=by rw[M];unfold Z;simp
  rw[t1,t2]at b;let h2:l*a2=i*a1:=b;rcases (show l=1\/l=-1 by lk) with rfl|rfl <;> rcases (show i=1\/i=-1 by lk) with rfl|rfl
  .rfl
  .lk
  .lk
  .rfl
 calc h8 () λt b h2=>?_;let I:ws[t]=ws.getD t []:=by rw[aD,aq b];rfl
 let M:a[t]=a.getD t []:=by rw[aD,aq h2];rfl
 rw[I,M];calc gq (n1 _ (mem_getD ())) (n2 _ (mem_getD ())) λj=>?_;let:=q t () j;rw[sg]at this;calc jx (show i≠0 by lk) this
def cS (s:O):Nat:=4*(6+3*s)*(s+6)
def P34 (p:aa):Prop:=S p/\p.9<=3/\∀s:O,FN (cS s) (λn=>J (n+(s:Y)) p)/\FD 2 λn=>J (n+(s:Y)) p
def aU (p:aa):O->Y->Y
 |0,_=>1
 |m+1,n=>-(J n p*aU p m (n+1))
theorem LK {p0 p1:aa}:∀(m:O)(n:Y),uIt 1 (pvL [p0,p1]) m 0 n=aU p0 m n
 |0,n=>rfl
 |m+1,n=>by
  let a:=LK (p0:=p0) (p1:=p1) m (n+1);show kH 1 (pvL [p0,p1]) (uIt 1 (pvL [p0,p1]) m) 0 n=_;unfold kH;rw[Zt U];let e:pvL [p0,p1] 0 n=J n p0:=rfl;simp only[aU,<-a,e];grind
def xV {p0 p1 b:aa}{us:ae}{t:O}(h:us.9=1)(c:Crd [p0,p1] t us b):∃u,us=[u]/\(∀n,J n u=aU p0 t n)/\∀n,J n b=cT (λm=>J m p1) n t:=by
 cases qX.mp h,u,rfl;calc#[u,U,?_];rcases c with ⟨f,a,d⟩|⟨f,a,d⟩
 .let i:t=0:=by simp at f;exact f
  subst i;let e:u=[1]:=by simpa using a
  rw[e,d];exact#[λn=>by simp[J,aU],λn=>by simp[J,cT]]
 .let e:t+1 - [u].9=t:=by simp
  rw[e]at a d;calc#[λn=>by let:=a 0 n ⋯;exact this.trans (LK t n),λn=>by rw[d];rfl]
theorem kU (h:P34 p):∀(m s:O),FN (pb cS s m) (λn=>aU p m (n+(s:Y)))/\FD (2*m) λn=>aU p m (n+(s:Y))
 |0,s=>#[(FN.const 1).congr λn=>U,(FD.const 1).congr λn=>U]
 |m+1,s=>by
  cases kU h m (s+1),b,c;let a:∀n:Y,n+((s+1:O):Y)=n+(s:Y)+1:=λn=>by lk
  calc#[(((h.2.2 s).1.mul2 b).neg).congr λn=>by rw[a];rfl,((((h.2.2 s).2.mul2 c).neg).mono ()).congr λn=>by rw[a];rfl]
def qu (h:P34 p)(m:O):FN (pb cS 0 m) (λn=>cT (λk=>J k p) n m)/\FD (2*m) λn=>cT (λk=>J k p) n m:=#[Lk (λs=>(h.2.2 s).1) m,LG (λs=>(h.2.2 s).2) m]
def Eg {ws:ae}{k:O}(l:ws.9=k+1)(nm:∀p∈ws,S p)(tp:∃m b,ws.getD k []=m++[b]/\0<b)(pr:∀s:O,Prm s->(∀u∈ws,∀j,(s:Y)∣Z u j)->False)(q:NF ws)(h:∀t,t<=k->Dv (ws.getD k []) (ws.getD t [])):ws.getD k []=[1]:=by
 cases tp,m,b,e,E;let all:∀u∈ws,Dv (ws.getD k []) u:=λu a=>by
  cases di.mp a,i,hi,rfl;let:=h i ()
  rwa [show ws.getD i []=ws[i] by rw[aD,aq hi];rfl]at this
 let o:=nm _ (mem_getD (d:=[]) (show k<ws.9 by lk));generalize ws.getD k []=x at *;let r:x.9<=1:=Zc λz=>q x o () 1 () λu a=>by
  cases all u a,t,f;exact#[t,λn=>#v[cL,f n]]
 obtain⟨c,F,rfl⟩:=Ef o (by rw[e];simp) r;let H:c=b:=by
  let:=ZL List.getLast? e
  simpa using this
 let I:c.8=1:=Zc λz=>by
  cases pM c.8 (),s,y,C;calc pr s C λu a j=>?_;cases all u a,t,f;rw[dX (ys:=t.map λz=>c*z) (λn=>by rw[f,aJ];simp[J]) j,dg];exact ge (ge (jv.mpr y) (k_.mpr (oQ c))) (i0 _ _)
 rw[show c=1 by lk]
def qx (k:O)(dd MM bb:O->O)(L b l D β:O):Prop:=(∀t,t<k->MM t<2^bb t/\1<=bb t/\bb t<=b/\dd t+1<=L)/\((aT k).map dd).sum<=D/\∀i,i<k->∀t,t<i+1->dgS (λs=>l+bb s) (i+1) t+3*i+4<=β
instance {k:O}{dd MM bb:O->O}{L b l D β:O}:zer (qx k dd MM bb L b l D β):=by unfold qx;infer_instance
def bOf (xs:aE)(t:O):Nat:=xs.getD t 1
def Eh (b:S p)(p0:p≠[])(s:Y):aw (bT s p)≠[]:=λe=>p0 (aZ b bH λn=>by
 let a:=xI (n-s) (bT s p);rw[e,fD,zct]at a;calc a.symm)
def Ei {t:O}(a:S p)(p0:p≠[])(c:t<=2)(h:∀n,J n b=cT (λm=>J m p) n t):b≠[]:=λz=>by
 rcases (show t=0\/t=1\/t=2 by lk) with rfl|rfl|rfl
 .let:=h 0;rw[z]at this;simp[J,cT]at this
 .calc p0 (aZ a bH λn=>?_);let:=h n;rw[z]at this;simp[cT]at this;rw[<-this]
 .calc d9 a (cn (bT 1 p)) p0 (Eh a p0 1) (aZ (bJ _ _) bH λn=>?_);let:=h n;rw[z]at this;simp[cT]at this;rw[aG,cx,fD];calc this.symm
def LM {p0 p1 q0 q1:aa}{k t:O}(T:TwoV [p0,p1] [q0,q1] g k d a)(e:t<k):∃b c b1 b2,d[t]?=W (g [b] b1 [c] b2)/\a[t]?=W (ah b1 b2)/\(∀n,J n b=aU p0 t n)/\(∀n,J n c=aU q0 t n)/\(∀n,J n b1=cT (λm=>J m p1) n t)/\∀n,J n b2=cT (λm=>J m q1) n t:=by
 cases T.st t e,f,b1,h,b2,i,j,l,o,_,_,_,_,q,r;cases xV (⇑i) l,b,rfl,s,u;cases xV (⇑j) o,c,rfl,x,y;calc#[b,c,b1,b2,q,r,s,x,u,y]
def W34 (t:O):Nat:=pb cS 0 t*pb cS 0 t
section
variable {p0 p1 q0 q1:aa}(h0:P34 p0)(h1:P34 p1)(h2:P34 q0)(h3:P34 q1)
include h0 h1 h2 h3
theorem xW {t:O}(hx:FN (pb cS 0 t) (λn=>J n x)/\FD (2*t) λn=>J n x)(hy:FN (pb cS 0 t) (λn=>J n y)/\FD (2*t) λn=>J n y):PB (4*t) (W34 t) (ah x y):=by
 let:=U1 hx.1 hx.2 hy.1 hy.2;calc this.mono () (aC _)
end
def Ej {t:O}(a:P34 p1)(c:P34 q1)(d:p1≠[])(e:q1≠[])(j:t<=2)(f:∀n,J n b1=cT (λm=>J m p1) n t)(h:∀n,J n b2=cT (λm=>J m q1) n t):ah b1 b2≠[]/\S (ah b1 b2)/\(ah b1 b2).9<=4*t+1/\n1 (ah b1 b2)<=W34 t:=by
 let k:=qu a t;let l:=qu c t;let o:FN (pb cS 0 t) (λn=>J n b1)/\FD (2*t) λn=>J n b1:=#[k.1.congr f,k.2.congr f]
 let q:FN (pb cS 0 t) (λn=>J n b2)/\FD (2*t) λn=>J n b2:=#[l.1.congr h,l.2.congr h]
 let pb:=xW a a c c o q;calc#[λz=>?_,pb.1,pb.2.1,LF (o.1.mul2 q.1) λn=>a8 n b1 b2];let nb:=Ei (b:=aw b1) a.1 d j λn=>by rw[cx,f]
 let i:=Ei (b:=aw b2) c.1 e j λn=>by rw[cx,h]
 calc d9 (cn b1) (cn b2) nb i (aZ (bJ _ _) bH λn=>?_);rw[aG,cx,cx,<-a8,z]
def oA (rows:G (Y->Y))(ds:ae):Prop:=∃(gs:ae)(l R:aa)(f:O->aa),(∀g∈gs,S g)/\gs.9=rows.9/\(∀i,i<gs.9->∀n,J n (gs.getD i [])=rows.getD i (λ_=>0) n)/\gs.getLast?=W l/\l≠[]/\ThinOk gs l ds R f
def qy {ws a:ae}{t:O}(b:t<ws.9)(c:t<a.9):(dw ah ws a).getD t []=ah (ws.getD t []) (a.getD t []):=by
 rw[aD,qT,gv (d:=[]) b,gv (d:=[]) c];rfl
def Ek:∀g∈dw ah ws a,S g:=λg b=>by
 cases di.mp b,i,hi,rfl;rw[VT];calc cQ _ _
def U3:PF 1 5 15 3 9 4 25/\qx 2 (λt=>4*t) W34 (bOf [1,15]) 5 15 3 4 25/\oz 2 W34 (bOf [1,15]) 3 4 65:=#[by constructor <;> decide,(),()]
def U4:PF 2 9 31 4 37 12 64/\qx 3 (λt=>4*t) W34 (bOf [1,15,31]) 9 31 4 12 64/\oz 3 W34 (bOf [1,15,31]) 4 12 65:=#[by constructor <;> decide,(),()]
def El (p0 p1 q0 q1:aa):Prop:=P34 p0/\P34 p1/\P34 q0/\P34 q1/\p1≠[]/\q1≠[]
def LN (out:aa->aa->aa->aa->ae->Prop):Sp:=λvs H Q _=>∃(R1 R2:Zs)(as1 as2:ap)(p0 p1 q0 q1:aa),vs=[.ref R1,.ref R2]/\H R1=W (Y' (as1.map L))/\LH H as1 [p0,p1]/\H R2=W (Y' (as2.map L))/\LH H as2 [q0,q1]/\El p0 p1 q0 q1/\∀ds,out p0 p1 q0 q1 ds->gQ H Q ds
def qz (b:P34 p0)(c:P34 p1)(n:p1≠[]):jZ [p0,p1]:=by
 let bd:∀{p:aa},P34 p->∀x∈p,Bd 60 x:=λ{p} h x hx=>by
  let:=D9 (h.2.2 0).1 (λn=>by simp) x hx;exact Bd.of_lt (m:=145) (by let e:cS 0=144:=rfl;lk) ()
 refine#[#[by simp,λp a=>?_,λp a=>?_],by simp,λp a=>?_]
 .let:p=p1:=by simpa using a.symm
  rw[this];exact n
 .rcases bV.mp a with rfl|a
  .exact b.1
  .rw[bZ.mp a];exact c.1
 .rcases bV.mp a with rfl|a
  .exact#[b.2.1,bd b]
  .rw[bZ.mp a];calc#[c.2.1,bd c]
def LO (h:El p0 p1 q0 q1):∀p∈[p0,p1]++[q0,q1],p.9<=3:=λp a=>by
 simp only[je,gT,bV,iZ,Yi]at a;rcases a with rfl|rfl|rfl|rfl
 .exact h.1.2.1
 .exact h.2.1.2.1
 .exact h.2.2.1.2.1
 .calc h.2.2.2.1.2.1
section
variable {P:Zb}{w:ZW}{K:ao}{mg:ck}{base:ZN}
def U5 (T:Tx K mg):FnOk P w K mg base CX0 23 T.WW.ax T.WW.dx ["one","other"] (LN λk r o u ds=>oA [λn=>-(J n k*J n o),λn=>J n r*J n u] ds):=
 ⟨λvs H Q E h=>by cases h,R1,R2,y0,z0,k,r,o,u,rfl,_;rfl,
  λA outer s H u0 us vs Q E hr I hb x h=>by
  cases h,R1,R2,y0,z0,k,r,o,u,rfl,k0,n0,y1,z1,hp,q;cases id hp,a0,a1,b0,b1,n1,n2;cases U3,Pf,N,NT;refine (FnOk.mono (UB (P:=P) (wd:=w) (base:=base) T (DW Pf)) ()).run A outer s H u0 us _ Q E hr I hb x #[R1,R2,y0,z0,[k,r],[o,u],1,1,rfl,k0,n0,y1,z1,qz a0 a1 n1,qz b0 b1 n2,rfl,rfl,λp e=>by let:=LO hp p e;simp;lk,λqs b c=>?_];let c:TwoV [k,r] [o,u] jq 2 qs b:=c;let j:=λt (a:t<2)=>LM c a;let V:∀t v,qs[t]?=Zz v->v.9=1/\∃M,M<2^bOf [1,15] t/\∀f∈v,PB (4*t) M f:=λt v x=>by
   let a:t<2:=by rw[<-c.lq];exact (a_.mp x).1
   cases j t a,X,u2,c1,c2,e1,_,v1,v2,_;rw[x]at e1
   cases e1
   let f1:=kU a0 t 0;let f2:=kU b0 t 0;calc#[U,_,(N.1 t a).1,λf hf=>?_];let:f=ah X u2:=by simpa [jq] using hf
   rw[this];exact xW a0 a1 b0 b1 #[f1.1.congr λn=>by rw[v1];simp,f1.2.congr λn=>by rw[v1];simp] #[f2.1.congr λn=>by rw[v2];simp,f2.2.congr λn=>by rw[v2];simp]
  refine Ee (dd:=λt=>4*t) (W:=W34) (bb:=bOf [1,15]) Pf c.lq c.lw (λt v x=>?_) (λi q hq=>Ec c.lq V (λt a=>(N.1 t a).2) N.2.1 (λi t hi a=>N.2.2 i hi t ()) hq) (λt p e=>?_) (λt a=>by let:=(N.1 t a).2;lk) N.2.1 NT λi y ds l R f cs pl hi hS lw nm tp pr nf j0 hl th=>q ds ?_
  .cases V t v x,c1,M,c2,c3;let a:t<2:=by rw[<-c.lq];exact (a_.mp x).1
   exact#[c1,pbv c3 c2 (N.1 t a).2.1]
  .let a:t<2:=by rw[<-c.lw];exact (a_.mp e).1
   cases j t a,X,u2,C,F,_,e2,_,_,v3,v4;rw[e]at e2
   cases e2
   exact Ej a1 b1 n1 n2 () v3 v4
  .let qv:∀t,t<2->∀n,J n ((qs.getD t []).getD 0 [])=aU k t n*aU o t n:=λt a n=>by
    cases j t a,X,u2,C,F,e1,_,v1,v2,_;rw[show qs.getD t []=[ah X u2] by rw[aD,e1];rfl];show J n (ah X u2)=_;rw[a8,v1,v2]
   let wv:∀t,t<2->∀n,J n (b.getD t [])=cT (λm=>J m r) n t*cT (λm=>J m u) n t:=λt a n=>by
    cases j t a,X,u2,C,F,_,e2,_,_,v3,v4;rw[show b.getD t []=ah C F by rw[aD,e2];rfl];rw[a8,v3,v4]
   cases id tp,x0,t0,ex,x1;let i1:i=1:=by
    rcases (show i=0\/i=1 by lk) with rfl|rfl
    .refine Zq (aZ (nm _ (mem_getD (d:=[]) (show 0<y.9 by lk))) bH λn=>?_) (show y.getD 0 []≠[] by rw[ex];simp);let:=j0 0 () n;simp only[aX,qv 0 (),aU]at this;rw[show J n []=0 from rfl];lk
    .rfl
   subst i1;let r0:∀n,J n (y.getD 0 [])=J n (y.getD 1 []) * -(J n k*J n o):=λn=>by
    let:=j0 0 () n;simp only[aX,qv 0 (),qv 1 (),aU]at this;grind
   let l1:=Eg lw nm tp pr nf λt a=>by
    rcases (show t=0\/t=1 by lk) with rfl|rfl
    .exact#[(ah k o).map λz=>-1*z,λn=>by rw[r0,aJ,a8];grind]
    .exact .refl _
   let j1:=c.lw;let zv:∀t,t<2->∀n,J n ((dw ah y b).getD t [])=J n (y.getD t [])*(cT (λm=>J m r) n t*cT (λm=>J m u) n t):=λt a n=>by rw[qy () (),a8,wv t a]
   let lz:(dw ah y b).9=2:=by rw[km];lk
   refine#[_,l,R,f,Ek,lz,λt a n=>?_,hl,λz=>?_,th]
   .rcases (show t=0\/t=1 by lk) with rfl|rfl
    .rw[zv 0 (),r0,l1];simp[J,cT]
    .rw[zv 1 (),l1];simp[J,cT]
   .rw[gC,lz,gv (d:=[]) ()]at hl;calc d9 a1.1 b1.1 n1 n2 (aZ (bJ _ _) bH λn=>?_);let:=zv 1 () n;rw[Zv hl,z,l1]at this;simp[J,cT]at this;rw[aG,<-this];rfl⟩
end
section
variable (p0 p1 q0 q1:aa)
def cA (n:Y):Int:=J n p0*J n q1
def hgF (t:O)(n:Y):Int:=match t with
 |0=>cA q0 p1 n*(cA p0 q1 n*cA p0 q1 (n+1))-cA p0 q1 n*(cA q0 p1 n*cA q0 p1 (n+1))
 |1=>cA p0 q1 n*cA p0 q1 (n+1)-cA q0 p1 n*cA q0 p1 (n+1)
 |_=>cA p0 q1 n-cA q0 p1 n
def wgF (t:O)(n:Y):Int:=match t with
 |0=>1
 |1=>cA p1 q1 n
 |_=>cA p1 q1 n*cA p1 q1 (n+1)
def qA (ws:ae):Prop:=ws.9=3/\(∀p∈ws,S p)/\(∃a t0,ws.getD 2 []=a++[t0]/\0<t0)/\(∀s:O,Prm s->(∀u∈ws,∀j,(s:Y)∣Z u j)->False)/\NF ws/\∀t,t<=2->∀n,hgF p0 p1 q0 q1 2 n*J n (ws.getD t [])=J n (ws.getD 2 [])*hgF p0 p1 q0 q1 t n
def qB (ds:ae):Prop:=(∀n,cA p0 q1 n=cA q0 p1 n)/\oA [cA p0 q1,cA p1 q1] ds\/(¬∀n,cA p0 q1 n=cA q0 p1 n)/\∃ws,qA p0 p1 q0 q1 ws/\oA ((aT 3).map λt n=>J n (ws.getD t [])*wgF p1 q1 t n) ds
end
def U6 {x y z a b a' b':Y}(c:1*x+-a*y+a*a'*z=0)(d:1*x+-b*y+b*b'*z=0):(a-b)*x=z*(b*(a*a')-a*(b*b'))/\(a-b)*y=z*(a*a'-b*b'):=by
 refine#[?_,by grind];let e:b*(1*x+-a*y+a*a'*z)=0:=by rw[c,dY]
 let f:a*(1*x+-b*y+b*b'*z)=0:=by rw[d,dY]
 clear c d;grind
section
variable {P:Zb}{w:ZW}{K:ao}{mg:ck}{base:ZN}
def LQ (T:Tx K mg):FnOk P w K mg base CX0 23 T.WF.ax T.WF.dx ["one","other"] (LN λF X q0 o ds=>qB F X q0 o ds):=
 ⟨λvs H Q E h=>by cases h,R1,R2,j1,g1,F,X,q0,o,rfl,_;rfl,
  λA outer s H m1 us vs Q E hr I hb hv h=>by
  cases h,R1,R2,j1,g1,F,X,q0,o,rfl,y2,z2,j2,k2,hp,q;cases id hp,a0,a1,b0,b1,n1,n2;cases U4,Pf,N,NT;refine (FnOk.mono (UA (P:=P) (wd:=w) (base:=base) T (DW Pf)) ()).run A outer s H m1 us _ Q E hr I hb hv #[R1,R2,j1,g1,[F,X],[q0,o],1,1,rfl,y2,z2,j2,k2,qz a0 a1 n1,qz b0 b1 n2,rfl,rfl,λp z1=>by let:=LO hp p z1;simp;lk,λr C TV=>?_];let TV:TwoV [F,X] [q0,o] xK 3 r C:=TV;let n0:=λt (k:t<3)=>LM TV k;let V:∀t v,r[t]?=Zz v->v.9=2/\∃M,M<2^bOf [1,15,31] t/\∀f∈v,PB (4*t) M f:=λt v hv=>by
   let k:t<3:=by rw[<-TV.lq];exact (a_.mp hv).1
   cases n0 t k,u1,u2,c1,c2,e1,_,v1,v2,v3,v4;rw[hv]at e1
   cases e1
   let f1:=kU a0 t 0;let f2:=kU b0 t 0;let f3:=qu a1 t;let f4:=qu b1 t;calc#[U,_,(N.1 t k).1,λf hf=>?_];rcases (show f=ah u1 c2\/f=ah u2 c1 by simpa [xK] using hf) with rfl|rfl
   .exact xW a0 a1 b0 b1 #[f1.1.congr λn=>by rw[v1];simp,f1.2.congr λn=>by rw[v1];simp] #[f4.1.congr v4,f4.2.congr v4]
   .exact xW a0 a1 b0 b1 #[f2.1.congr λn=>by rw[v2];simp,f2.2.congr λn=>by rw[v2];simp] #[f3.1.congr v3,f3.2.congr v3]
  let VQ:∀i q,r[i]?=Zz q->VqF 2 9 31 4 12 64 (r.take i) q:=λi q hq=>Ec TV.lq V (λt k=>(N.1 t k).2) N.2.1 (λi t hi k=>N.2.2 i hi t ()) hq;refine Ee (dd:=λt=>4*t) (W:=W34) (bb:=bOf [1,15,31]) Pf TV.lq TV.lw (λt v hv=>?_) VQ (λt p z1=>?_) (λt k=>by let:=(N.1 t k).2;lk) N.2.1 NT λi ws ds l R f cs pl hi hS lw nm tp pr nf y1 hl th=>q ds ?_
  .cases V t v hv,c1,M,c2,c3;let k:t<3:=by rw[<-TV.lq];exact (a_.mp hv).1
   exact#[c1,pbv c3 c2 (N.1 t k).2.1]
  .let k:t<3:=by rw[<-TV.lw];exact (a_.mp z1).1
   cases n0 t k,u1,u2,y0,u0,_,e2,_,_,v3,v4;rw[z1]at e2
   cases e2
   exact Ej a1 b1 n1 n2 () v3 v4
  .let qv:∀t,t<3->∀n,J n ((r.getD t []).getD 0 [])=aU F t n*cT (λm=>J m o) n t/\J n ((r.getD t []).getD 1 [])=aU q0 t n*cT (λm=>J m X) n t:=λt k n=>by
    cases n0 t k,u1,u2,y0,u0,e1,_,v1,v2,v3,v4;rw[show r.getD t []=[ah u1 u0,ah u2 y0] by rw[aD,e1];rfl];show J n (ah u1 u0)=_/\J n (ah u2 y0)=_;rw[a8,a8,v1,v2,v3,v4];exact#[U,U]
   let j0:∀n,J n ((r.getD 0 []).getD 0 [])=1/\J n ((r.getD 0 []).getD 1 [])=1:=λn=>by
    let:=qv 0 () n
    simpa only [aU,cT,cL] using this
   let k0:∀n,J n ((r.getD 1 []).getD 0 [])=-cA F o n/\J n ((r.getD 1 []).getD 1 [])=-cA q0 X n:=λn=>by
    let:=qv 1 () n;simp only[aU,cT]at this;unfold cA;refine#[this.1.trans ?_,this.2.trans ?_] <;> grind
   let x2:∀n,J n ((r.getD 2 []).getD 0 [])=cA F o n*cA F o (n+1)/\J n ((r.getD 2 []).getD 1 [])=cA q0 X n*cA q0 X (n+1):=λn=>by
    let:=qv 2 () n;simp only[aU,cT]at this;unfold cA;refine#[this.1.trans ?_,this.2.trans ?_] <;> grind
   let wv:∀t,t<3->∀n,J n (C.getD t [])=wgF X o t n:=λt k n=>by
    cases n0 t k,u1,u2,y0,u0,_,e2,_,_,v3,v4;rw[show C.getD t []=ah y0 u0 by rw[aD,e2];rfl];rw[a8,v3,v4];rcases (show t=0\/t=1\/t=2 by lk) with rfl|rfl|rfl
    .simp[cT,wgF]
    .simp[cT,wgF,cA]
    .simp only[cT,wgF,cA];grind
   let g2:=TV.lw;let m2:=TV.lq;let nz:=nm _ (mem_getD (d:=[]) (show i<ws.9 by lk));let z0:ws.getD i []≠[]:=by cases id tp,x0,t0,ex,x1;rw[ex];simp
   let zv:∀t,t<=i->∀n,J n ((dw ah ws C).getD t [])=J n (ws.getD t [])*wgF X o t n:=λt k n=>by rw[qy () (),a8,wv t ()]
   let lz:(dw ah ws C).9=i+1:=by rw[km];lk
   let w0:∀t,t<3->C.getD t []≠[]/\S (C.getD t []):=λt k=>by
    cases n0 t k,u1,u2,y0,u0,_,e2,_,_,v3,v4;let:=Ej a1 b1 n1 n2 () v3 v4;rw[show C.getD t []=ah y0 u0 by rw[aD,e2];rfl];exact#[this.1,this.2.1]
   let l0:l≠[]:=λz=>by
    rw[gC,lz,gv (d:=[]) (),qy () ()]at hl;let e:=(Zv hl).trans z;calc d9 nz (w0 i ()).2 z0 (w0 i ()).1 (aZ (bJ _ _) bH λn=>?_);rw[aG,<-a8];exact ZL (J n) e
   let out:∀rows:G (Y->Y),rows.9=i+1->(∀t,t<=i->∀n,J n (ws.getD t [])*wgF X o t n=rows.getD t (λ_=>0) n)->oA rows ds:=λrows lr h=>#[_,l,R,f,Ek,(),λt k n=>by rw[zv t (),h t ()],hl,l0,th]
   rcases (show i=0\/i=1\/i=2 by lk) with rfl|rfl|rfl
   .calc Zq (aZ nz bH λn=>?_) z0;let:=y1 0 () n;simp only[aX,(j0 n).1]at this;rw[show J n []=0 from rfl];lk
   .let r0:∀n,J n (ws.getD 0 [])=J n (ws.getD 1 [])*cA F o n/\J n (ws.getD 0 [])=J n (ws.getD 1 [])*cA q0 X n:=λn=>by
     let h1:=y1 0 () n;let h2:=y1 1 () n;simp only[aX,(j0 n).1,(j0 n).2,(k0 n).1,(k0 n).2]at h1 h2;constructor <;> grind
    let l1:=Eg lw nm tp pr nf λt k=>by
     rcases (show t=0\/t=1 by lk) with rfl|rfl
     .exact#[ah F o,λn=>by rw[(r0 n).1,a8];rfl]
     .exact .refl _
    let v1:∀n,J n (ws.getD 1 [])=1:=λn=>by rw[l1];simp[J]
    refine .inl #[λn=>?_,out _ U λt k n=>?_]
    .let:=r0 n;rw[v1]at this;lk
    .rcases (show t=0\/t=1 by lk) with rfl|rfl
     .rw[(r0 n).1,v1];simp[wgF]
     .rw[v1];simp[wgF]
   .refine .inr #[λe=>?_,ws,#[lw,nm,tp,pr,nf,λt k n=>?_],out _ U λt k n=>?_]
    .let tk:∀t,t<2->(r.take 2).getD t []=r.getD t []:=λt k=>by rw[aD,qF k,<-aD]
     let lk:(r.take 2).9=2:=by rw[cB];lk
     refine KZ Pf hS (VQ 2 _ (aq (show 2<r.9 by lk))).1 (few:=[0]) (j:=1) ⋯ (by simp;lk) () ⋯ (ws:=[ah F o]) (u:=[1]) (e7 ()) ⋯ λc hc n=>?_
     .let h0:[0].9=1:=rfl;rw[h0];simp only[aX];rw[show ([0]:aE).getD 0 0=0 from rfl,tk 0 (),tk 1 (),show J n [1]=1 by simp[J],show ([ah F o]:ae).getD 0 []=ah F o from rfl,a8];let ec:=e n;rcases (show c=0\/c=1 by lk) with rfl|rfl
      .rw[(j0 n).1,(k0 n).1];unfold cA;grind
      .rw[(j0 n).2,(k0 n).2,<-ec];unfold cA;grind
    .let h1:=y1 0 () n;let h2:=y1 1 () n;simp only[aX,(j0 n).1,(j0 n).2,(k0 n).1,(k0 n).2,(x2 n).1,(x2 n).2]at h1 h2;let:=U6 (x:=J n (ws.getD 0 [])) (y:=J n (ws.getD 1 [])) (z:=J n (ws.getD 2 [])) (a:=cA F o n) (a':=cA F o (n+1)) (b:=cA q0 X n) (b':=cA q0 X (n+1)) () ();rcases (show t=0\/t=1\/t=2 by lk) with rfl|rfl|rfl
     .exact this.1
     .exact this.2
     .exact cW _ _
    .rcases (show t=0\/t=1\/t=2 by lk) with rfl|rfl|rfl <;> rfl⟩
end
def U7 (out:aa->aa->ae->Prop):Sp:=λvs H Q _=>∃(R1:Zs)(as1:ap)(p0 p1:aa),vs=[.ref R1]/\H R1=W (Y' (as1.map L))/\LH H as1 [p0,p1]/\P34 p0/\P34 p1/\p0≠[]/\p1≠[]/\∀ds,out p0 p1 ds->gQ H Q ds
def WS (t:O):Nat:=2*pb cS 0 t
def U8:PF 2 5 17 3 19 6 42/\qx 3 (λt=>2*t) WS (bOf [2,9,17]) 5 17 3 6 42/\oz 3 WS (bOf [2,9,17]) 3 6 65:=#[by constructor <;> decide,(),()]
section
variable {p0 p1:aa}{qs:aB}{wts:ae}
def U9 (V:SumV [p0,p1] 1 qs wts)(n:Y):(∀t,t<=2->J n ((qs.getD t []).getD 0 [])=cT (λm=>J m p1) n t/\J n (wts.getD t [])=cT (λm=>J m p1) n t)/\J n ((qs.getD 0 []).getD 1 [])=0/\J n ((qs.getD 1 []).getD 1 [])=aU p0 1 n/\J n ((qs.getD 2 []).getD 1 [])=aU p0 1 n*J (n+1) p1+aU p0 2 n:=by
 let q:fV [p0,p1] 1 0 n=J n p1:=by unfold fV;simp[pvL]
 let r:fV [p0,p1] 1 1 n=J (n+1) p1:=by unfold fV;simp[pvL]
 cases V.st 0 (),z,b,lu,c,j;cases V.st 1 (),s,C,f,x,a;cases xV lu c,u,rfl,y,_;cases xV f x,k,rfl,h,_;let a0:=V.v0 0 n;let d:=V.v0 1 n;let b0:=j n 0 ();let b1:=j n 1 ();let l:=a n 0 ();let e:=a n 1 ();let w0:=V.w0 n;let i:=V.sw 0 () n;let o:=V.sw 1 () n;simp only[Zt,q,r,qW,Nat.reduceAdd,Nat.reduceSub]at a0 d b0 b1 l e i o;rw[N ()]at d b1 e;rw[show ([u]:ae).getD 0 []=u from rfl,y]at b1;rw[show ([k]:ae).getD 0 []=k from rfl,h]at e;refine#[λt E=>?_,d,?_,?_]
 .rcases (show t=0\/t=1\/t=2 by lk) with rfl|rfl|rfl
  .exact#[a0,w0]
  .rw[b0,a0,i,w0];simp[cT]
  .rw[l,b0,a0,o,i,w0];simp[cT]
 .rw[b1,d];simp
 .rw[e,b1,d];simp
end
section
variable {P:Zb}{w:ZW}{K:ao}{mg:ck}{base:ZN}
def U_ (T:Tx K mg):FnOk P w K mg base CX0 22 T.WX.ax T.WX.dx ["one"] (U7 λk b ds=>oA [λn=>J n b * -J (n+1) k,λn=>J n b*(J (n+1) k-J (n+1) b),λn=>J n b*J (n+1) b] ds):=
 ⟨λvs H Q E h=>by cases h,R1,X,k,b,rfl,_;rfl,
  λA outer s H y0 us vs Q E hr I hb u h=>by
  cases h,R1,X,k,b,rfl,y1,u1,a0,a1,n0,n1,q;cases U8,Pf,N,NT;refine (FnOk.mono (UD (P:=P) (wd:=w) (base:=base) T (DW Pf)) ()).run A outer s H y0 us _ Q E hr I hb u #[R1,X,[k,b],1,rfl,Zw y1,u1.ll,qz a0 a1 n1,rfl,λp o=>?_,λC x F TZ=>?_]
  .rcases bV.mp o with rfl|o
   .let:=a0.2.1;lk
   .let:=a1.2.1;rw[bZ.mp o];lk
  let a:=U9 F;let j1:=F.lw;let g1:=F.lq;let u0:∀t v,C[t]?=Zz v->t<3/\C.getD t []=v:=λt v u=>#[by let:=(a_.mp u).1;lk,by rw[aD,u];rfl]
  let bP:=λt=>qu a1 t;let V:∀t v,C[t]?=Zz v->v.9=2/\∃M,M<2^bOf [2,9,17] t/\∀f∈v,PB (2*t) M f:=λt v u=>by
   cases u0 t v u,r,ev;cases TZ.v t v u,z1,z2;calc#[z1,WS t,(N.1 t r).1,λf hf=>?_];let nf:=(z2 f hf).1;cases di.mp hf,c,hc,rfl;let e:v[c]=(C.getD t []).getD c []:=by rw[ev,aD,aq hc];rfl
   rw[e]at nf ⊢;let ex:FN (WS t) (λn=>J n ((C.getD t []).getD c []))/\FD (2*t) λn=>J n ((C.getD t []).getD c []):=by
    rcases (show c=0\/c=1 by lk) with rfl|rfl
    .exact#[((bP t).1.congr λn=>((a n).1 t ()).1).mono (by unfold WS;lk),(bP t).2.congr λn=>((a n).1 t ()).1]
    .rcases (show t=0\/t=1\/t=2 by lk) with rfl|rfl|rfl
     .exact#[FN.zero.congr λn=>(a n).2.1,FD.zero.congr λn=>(a n).2.1]
     .let h:=kU a0 1 0;exact#[(h.1.congr λn=>by rw[(a n).2.2.1];simp).mono (by unfold WS;lk),h.2.congr λn=>by rw[(a n).2.2.1];simp]
     .let h:=kU a0 1 0;let h2:=kU a0 2 0;let h3:=a1.2.2 1;exact#[(((h.1.mul2 h3.1).add h2.1).congr λn=>by rw[(a n).2.2.2];simp).mono (),((h.2.mul2 h3.2).add h2.2).congr λn=>by rw[(a n).2.2.2];simp]
   exact LA nf ex.1 ex.2
  let y:∀t,t<3->x.getD t []≠[]/\S (x.getD t []):=λt r=>#[Ei a1.1 n1 () λn=>((a n).1 t ()).2,(TZ.w t _ (gv ())).2.1]
  refine Ee (dd:=λt=>2*t) (W:=WS) (bb:=bOf [2,9,17]) Pf F.lq F.lw (λt v u=>?_) (λi q hq=>Ec F.lq V (λt r=>(N.1 t r).2) N.2.1 (λi t hi r=>N.2.2 i hi t ()) hq) (λt p o=>?_) (λt r=>by let:=(N.1 t r).2;lk) N.2.1 NT λi j ds l R f cs pl hi hS lw nm tp pr nf j0 hl th=>q ds ?_
  .cases V t v u,c1,M,c2,c3;exact#[c1,pbv c3 c2 (N.1 t (u0 t v u).1).2.1]
  .let r:t<3:=by let:=(a_.mp o).1;lk
   let ep:p=x.getD t []:=by rw[aD,o];rfl
   let vp:∀n,J n p=cT (λm=>J m b) n t:=λn=>by rw[ep,((a n).1 t ()).2]
   cases y t r,w1,w2;rw[<-ep]at w1 w2;exact#[w1,w2,kS (bP t).2 w2 vp,aP (LF (bP t).1 vp) (by unfold WS;lk)]
  .let nz:=nm _ (mem_getD (d:=[]) (show i<j.9 by lk));let z0:j.getD i []≠[]:=by cases id tp,x0,t0,ex,x1;rw[ex];simp
   let r0:=j0 0 ();let r1:=j0 1 ();rcases (show i=0\/i=1\/i=2 by lk) with rfl|rfl|rfl
   .calc Zq (aZ nz bH λn=>?_) z0;let:=r0 n;simp only[aX,((a n).1 0 ()).1,cT]at this;rw[show J n []=0 from rfl];lk
   .calc Zq (aZ (bJ k _) bH λn=>?_) (d9 a0.1 nz n0 z0);let:=r1 n;simp only[aX,(a n).2.1,(a n).2.2.1,aU]at this;rw[aG,show J n []=0 from rfl];grind
   let e1:j.getD 1 []=ah (j.getD 2 []) (aw (bT 1 (cF k b))):=by
    let k0:pdL k (cF (j.getD 1 []) (ah (j.getD 2 []) (aw (bT 1 (cF k b)))))=[]:=aZ (bJ _ _) bH λn=>by
     let:=r1 n;simp only[aX,(a n).2.1,(a n).2.2.1,(a n).2.2.2,aU]at this;rw[aG,ga,a8,cx,fD,ga,show J n []=0 from rfl];grind
    let k1:cF (j.getD 1 []) (ah (j.getD 2 []) (aw (bT 1 (cF k b))))=[]:=Zc λz=>d9 a0.1 (iX _ _) n0 z k0;calc aZ (nm _ (mem_getD ())) (cQ _ _) λn=>?_;let:=ga n (j.getD 1 []) (ah (j.getD 2 []) (aw (bT 1 (cF k b))));rw[k1,show J n []=0 from rfl]at this;lk
   let v1:∀n,J n (j.getD 1 [])=J n (j.getD 2 [])*(J (n+1) k-J (n+1) b):=λn=>by rw[e1,a8,cx,fD,ga]
   let v0:∀n,J n (j.getD 0 [])=J n (j.getD 2 []) * -(J n b*J (n+1) k):=λn=>by
    let:=r0 n;simp only[aX,((a n).1 0 ()).1,((a n).1 1 ()).1,((a n).1 2 ()).1,cT,v1 n]at this;grind
   let l1:=Eg lw nm tp pr nf λt r=>by
    rcases (show t=0\/t=1\/t=2 by lk) with rfl|rfl|rfl
    .exact#[(ah b (aw (bT 1 k))).map λz=>-1*z,λn=>by rw[v0,aJ,a8,cx,fD];grind]
    .exact#[aw (bT 1 (cF k b)),λn=>by rw[v1,cx,fD,ga]]
    .exact .refl _
   let v2:∀n,J n (j.getD 2 [])=1:=λn=>by rw[l1];simp[J]
   let lz:(dw ah j x).9=3:=by rw[km];lk
   refine#[_,l,R,f,Ek,lz,λt r n=>?_,hl,λz=>?_,th]
   .rw[qy () (),a8,((a n).1 t ()).2];rcases (show t=0\/t=1\/t=2 by lk) with rfl|rfl|rfl
    .rw[v0,v2];simp[cT];grind
    .rw[v1,v2];simp[cT];grind
    .rw[v2];simp[cT]
   .rw[gC,lz,gv (d:=[]) (),qy () ()]at hl;let e:=(Zv hl).trans z;calc d9 nz (y 2 ()).2 z0 (y 2 ()).1 (aZ (bJ _ _) bH λn=>?_);rw[aG,<-a8];calc ZL (J n) e⟩
end
def PQ (p:aa):Prop:=S p/\p.9<=3/\∀s:O,FN ((6+3*s)*(s+6)) (λn=>J (n+(s:Y)) p)/\FD 2 λn=>J (n+(s:Y)) p
def PQ.sc {c:Y}(h:PQ p)(b:1<=c/\c<=4)(a:S q)(e:∀n,J n q=c*J n p):P34 q:=by
 refine#[a,?_,λs=>#[(((h.2.2 s).1.scale c).congr λn=>e _).mono ?_,((h.2.2 s).2.scale c).congr λn=>e _]]
 .exact kS (d:=2) (((h.2.2 0).2.scale c).congr λn=>by rw[e,zdd,oH]) a λn=>U
 .unfold cS;rw[iG];calc fj _ ()
def PQ.up (h:PQ p):P34 p:=h.sc (c:=1) () h.1 λn=>by rw[cL]
def xX {a b:Y}(f:a.8<=3)(c:b.8<=3)(s:O):FN (6+3*s) (λn=>J (n+(s:Y)) (aw [a,b]))/\FD 1 λn=>J (n+(s:Y)) (aw [a,b]):=by
 let e:∀n,J (n+(s:Y)) (aw [a,b])=(a+b*s)+b*n:=λn=>by rw[cx];simp only[J];grind
 calc#[((FN.line (a+b*s) b).congr e).mono ?_,(FD.line (a+b*s) b).congr e];let d:=ju a (b*s);rw[du,d_]at d;let h:=fj s c;lk
def LR {a b:Y}(c:a.8<=3)(d:b.8<=3):PQ (aw [a,b]):=#[cn _,aP (i4 _) ⋯,λs=>#[(xX c d s).1.mono (h_ _ ()),(xX c d s).2.mono ()]]
def LS {a b c:Y}(f:a.8<=3)(h:b.8<=3)(j:c.8<=5)(i:S ws)(e:∀n,J n ws=J n (aw [a,b])*J n [c,1]):PQ ws:=by
 let l:∀(s:O)(n:Y),J (n+(s:Y)) [c,1]=(c+s)+1*n:=λs n=>by simp only[J];grind
 let all:∀s:O,FN ((6+3*s)*(s+6)) (λn=>J (n+(s:Y)) ws)/\FD 2 λn=>J (n+(s:Y)) ws:=λs=>#[((xX f h s).1.mul2 (((FN.line (c+s) 1).congr (l s)).mono (N:=s+6) ())).congr λn=>e _,((xX f h s).2.mul2 ((FD.line (c+s) 1).congr (l s))).congr λn=>e _]
 calc#[i,kS (d:=2) ((all 0).2.congr λn=>by rw[zdd,oH]) i λn=>U,all]
theorem Em {α:Type}:∀{l:G α},l.9=2->∃a b,l=[a,b]
 |[a,b],_=>#[a,b,U]
def iY {H:Hp}{b0 b1:Zs}{y0 a:aa}(g0:H b0=W (Y' (y0.map B)))(b:H b1=W (Y' (a.map B))):LH H [b0,b1] [y0,a]:=((LH.nil H).snoc g0).snoc b
def Va (K:ao):Sp:=λvs H Q _=>∃(a:Zs)(ns:aa)(t:O),vs=[.ref a,.int (t:Y)]/\SqL K H a (ns.map B)/\∀p0 p1,PQ p0->PQ p1->p1≠[]->gQ H Q [p0,p1]
def LU:FnOk P w K mg base CX0 3 T.WT.ax T.WT.dx ["_law_script","_law_start"] (Va K):=by
 refine T.WT.Fx.ok oa (λvs H Q E h=>?_) (λx4 A outer s H vs Q E hr h=>?_)
 .cases h,a,ns,t,rfl,_;rfl
 cases h,a,ns,t,rfl,hS,q;refine#[_,s!"ʍë˩˷˨7ëɚʰë˼ĠɣġĢģˈʅɧɴ$͙ɪʏçɣͤɭɹɻ̻ɲ&ʥɻ̻4Ąɲ&&̖$ˠĚĤ˄ʎɩ1²ɹɺɼ³ɪ&rIʰë˼ĠɣġĢģˈʅɧɼˠ^̻ɲ&ɸ1˴,̮:Ʉʷɪʩʿˈɹɻ̻4Ąɧ&&ʥ̖ëʀʼɪ",?_]
 w_up
 calc#[(),λD nD=>?_];let u0:=au nD (Y' []);let l:=ai (H:=H) (a:=D) (o:=.lst []);generalize Zx H D (Y' [])=H0 at u0 l ⊢
 w_up
 calc#[(),(),?_];obtain⟨Pv,n0⟩:∃Pv:O->L2.St->Hp->Prop,∀i R Hx,Pv i R Hx↔∃(bs:ap)(qs:ae)(r2 r3:Zk V),R=[W (L a),W (B (t:Y)),W (L D),r2,r3]/\Hx D=W (Y' (bs.map L))/\LH Hx bs qs/\D∉bs/\bs.Nodup/\(∀b∈bs,H b=Zy)/\qs.9=i/\(∀p∈qs,∃x y:Y,x.8<=3/\y.8<=3/\p=aw [x,y])/\Same H Hx:=#[_,λ_ _ _=>Zj]
 refine ie Pv ((n0 _ _ _).mpr #[[],[],Zy,Zy,rfl,l,LH.nil _,by simp,ln,by simp,rfl,by simp,u0]) ?_ ?_
 .intro i R Hx hi hp;obtain⟨bs,qs,r2,r3,rfl,l,lB,e,nd,fb,lq,bq,sP⟩:=(n0 _ _ _).mp hp
  w_up
  rw[show (t:Y)+(0+(i:Y))=((t+i:O):Y) by lk];calc#[a,ns,t+i,U,sP.seq hS,?_];generalize cell ns (t+i)=c
  w_up
  calc#[iz (Zw l),(),#[(),()],(),(),λL0 g2=>?_];obtain⟨x0,F,m2⟩:∃x0:Y,c % 7-3=x0/\x0.8<=3:=#[_,rfl,()]
  obtain⟨x1,I,n2⟩:∃x1:Y,c / 7 % 7-3=x1/\x1.8<=3:=#[_,rfl,()]
  rw[F,I];clear F I;let u2:=au g2 (Y' [B x0,B x1]);let j1:=ai (H:=Hx) (a:=L0) (o:=.lst [B x0,B x1]);generalize Zx Hx L0 (Y' [B x0,B x1])=H2 at u2 j1 ⊢;refine#[L0,[x0,x1],rfl,Zw j1,by simp,λPl H3 s3 x3 eP=>?_];let sx:=u2.trans s3;let y3:=sx _ _ l;let u1:=u2.free x3;let z3:Pl≠D:=λz=>by rw[z,l]at u1;cases u1
  let u3:Pl∉bs:=lB.notin u1;let lb:=lB.len;let m1:D∉bs++[Pl]:=λz=>by
   rcases b5.mp z with z|z
   .exact e z
   .exact z3 (bZ.mp z).symm
  refine#[_,y3,#v[af,cy ()],(n0 _ _ _).mpr #[bs++[Pl],qs++[aw [x0,x1]],_,_,rfl,by rw[ai];simp,((lB.same sx).snoc eP).upd m1,m1,?_,λb hb=>?_,by simp[lq],λp hp=>?_,(sP.trans sx).more nD]]
  .exact kh.mpr #[nd,by simp,λx hx y hy z=>u3 (by rw[bZ.mp hy]at z;rw[<-z];calc hx)]
  .rcases b5.mp hb with z|z
   .exact fb b z
   .rw[bZ.mp z];exact sP.free u1
  .rcases b5.mp hp with z|z
   .exact bq p z
   .exact#[x0,x1,m2,n2,bZ.mp z]
 .intro R Hx hp;cases (n0 _ _ _).mp hp,bs,qs,r2,r3,rfl,l,lB,e,nd,fb,lq,bq,sP;obtain⟨y0,C,rfl⟩:∃y0 C,qs=[y0,C]:=Em lq;obtain⟨b0,b1,rfl⟩:∃b0 b1,bs=[b0,b1]:=Em lB.len;obtain⟨x0,x1,F,I,e0⟩:=bq y0 ⋯;obtain⟨z0,z1,j0,k0,e1⟩:=bq C ⋯;let g0:=lB.get 0 b0 y0 U U;let g1:=lB.get 1 b1 C U U
  w_up
  obtain⟨M,hM⟩:∃M:L2.St->Hp->Prop,∀R Hy,M R Hy↔∃(b1:Zs)(C:aa),R=[W (L a),W (B (t:Y)),W (L D),r2,r3]/\Hy D=W (Y' ([b0,b1].map L))/\Hy b0=W (Y' (y0.map B))/\Hy b1=W (Y' (C.map B))/\D∉[b0,b1]/\b0≠b1/\H b0=Zy/\H b1=Zy/\(∃x y:Y,x.8<=3/\y.8<=3/\C=aw [x,y])/\C≠[]/\Same H Hy:=#[_,λ_ _=>Zj]
  room;refine gl M ?_ ?_
  .room;walk
   calc#[_,Zw l,L b1,U,(),λp np=>?_];let u:=au np (Y' []);let ep:=ai (H:=Hx) (a:=p) (o:=.lst []);generalize Zx Hx p (Y' [])=H1 at u ep ⊢;calc#[_,DV.ints (Zw (u _ _ g1)),_,DV.ints (ns:=[]) (Zw ep),jr _,jr [],qr _,?_];rw[qq];let bb:b0≠b1:=by simpa using nd
   refine cu (λh=>?_) (λh=>(hM _ _).mpr #[b1,C,U,u _ _ l,u _ _ g0,u _ _ g1,e,bb,fb b0 ⋯,fb b1 ⋯,#[z0,z1,j0,k0,e1],by simpa using h,sP.trans u]);calc#[(),λp2 x2=>?_];let u2:=au x2 (Y' [B (-2)]);let y2:=ai (H:=H1) (a:=p2) (o:=.lst [B (-2)]);generalize Zx H1 p2 (Y' [B (-2)])=H2 at u2 y2 ⊢;let v1:=u.trans u2;let f:=u.free x2;let z2:p2≠D:=λz=>by rw[z,l]at f;cases f
   let v3:p2≠b0:=λz=>by rw[z,g0]at f;cases f
   simp only[bV,iZ,Yi,not_or]at e;refine#[_,v1 _ _ l,1,iB (i:=1) ⋯,(hM _ _).mpr #[p2,[-2],rfl,ai,?_,?_,?_,v3.symm,fb b0 ⋯,sP.free f,#[-2,0,(),(),()],by simp,(sP.trans v1).more nD]]
   .rw[aK (λz=>e.1 z.symm)];exact v1 _ _ g0
   .rw[aK z2];exact y2
   .simp;exact#[e.1,z2.symm]
  intro R Hy hm;cases (hM _ _).mp hm,b1,C,rfl,l,g0,g1,e,bb,f0,f1,#[z0,z1,j0,k0,e1],v2,sY;clear hm hM M
  w_up
  rw[show (t:Y)+2=((t+2:O):Y) by lk];calc#[a,ns,t+2,U,sY.seq hS,?_];generalize cell ns (t+2)=c;obtain⟨M,hM⟩:∃M:L2.St->Hp->Prop,∀R Hy,M R Hy↔∃(D:Zs),R=[W (L a),W (B (t:Y)),W (L D),r2,W (B c)]/\Q (L D) Hy:=#[_,λ_ _=>Zj]
  w_up
  room;refine gl M ?_ ?_
  .room;walk
   let j3:∀c:Y,Q (L D) Hy:=λ_=>q y0 C #v[e0,LR F I] #v[e1,LR j0 k0] v2 D _ Hy sY nD l (iY g0 g1) (by simp;calc#[f0,f1]) e (⇑bb);calc#[(),cu (λh=>?_) (λh=>(hM _ _).mpr #[D,U,j3 c])];obtain⟨d,hd,bd⟩:∃d:Y,c / 3 % 11-5=d/\d.8<=5:=#[_,rfl,()]
   let j2:∀{x y:Y},x.8<=3->y.8<=3->∀z∈aw [x,y],Bd 2 z:=λ{x y} h1 h2=>cP λk=>by
    rw[cX];exact cV (P:=λz=>Bd 2 z) (λz hz=>by
     rcases bV.mp hz with rfl|hz
     .exact Bd.of_lt (m:=4) () ()
     .rw[bZ.mp hz];calc Bd.of_lt (m:=4) () ()) (Bd.zero _) k
   let LY:=(iY g0 g1).ll (K:=K);refine#[#[_,Zw l],λD3 k3=>iT (K:=K) (ps:=[y0,C]) (ds:=[ah y0 [d,1],ah C [d,1]]) k3 (Zw l) LY U ⋯ (λj b p m Hz R' hp k2 sz hb hN=>?_) (λX cs Hz sz nX eX lX nb g3 m3=>(hM _ _).mpr #[X,U,q _ _ ?_ ?_ ?_ X cs Hz (sY.trans sz) (sY.free nX) eX lX (λb hb=>sY.free (nb b hb)) g3 m3])]
   .room;simp![bst]
    calc#[_,U,_,U,#[(),()],(),(),λp' n3=>?_];rw[hd];let u:=au n3 (Y' [B d,B 1]);let ep:=ai (H:=Hz) (a:=p') (o:=.lst [B d,B 1]);generalize Zx Hz p' (Y' [B d,B 1])=H4 at u ep ⊢;let pb:m=ah p [d,1]/\(∀x∈p,Bd 2 x)/\p.9<=2:=by
     rcases (show j=0\/j=1 by let:=(a_.mp hp).1;simp at this;lk) with rfl|rfl
     .cases hp;cases k2
      exact#[U,#v[e0,j2 F I],#v[e0,i4 _]]
     .cases hp;cases k2
      exact#[U,#v[e1,j2 j0 k0],#v[e1,i4 _]]
    cases pb,em,pb,pl;refine#[b,p',p,[d,1],2,3,rfl,u.seq hb,Zw ep,(),by simp,pb,λy hy=>?_,(),λws n1 _ hc=>?_]
    .rcases bV.mp hy with rfl|hy
     .exact Bd.of_lt (m:=6) () ()
     .rw[bZ.mp hy];exact Bd.of_lt (m:=6) () ()
    .rw[show ws=m by rw[em];exact gq n1 (cQ _ _) λj=>by rw[hc,fg]];exact λr H' s' nr er=>hN r H' (u.trans s') (u.free nr) er
   .exact LS F I bd (cQ _ _) λn=>by rw[a8,e0]
   .exact LS j0 k0 bd (cQ _ _) λn=>by rw[a8,e1]
   .intro z;calc d9 #v[e1,cn _] (jU [d]) v2 ⋯ (aZ (bJ C [d,1]) bH λn=>?_);rw[aG,<-a8];exact ZL (J n) z
  intro R Hy hm;obtain⟨D,rfl,h⟩:=(hM _ _).mp hm
  room;walk
  calc h
def Vb (K:ao):Sp:=λvs H Q _=>∃(a b:Zs)(as bs:ap)(ds:ae),vs=[.ref a,.ref b]/\H a=W (Y' (as.map L))/\LH H as ds/\SqL K H b (bs.map L)/\LL K H bs ds/\ds.9<=900/\(∀d∈ds,d.9<=900)/\∀H',Same H H'->Q (.bl K') H'
def xY:FnOk P w K mg base CX0 1 T.Wx.ax T.Wx.dx ["_law_found","_law_due"] (Vb K):=by
 refine T.Wx.Fx.ok wO (λvs H Q E h=>?_) (λu0 A outer s H vs Q E hr h=>?_)
 .cases h,a,b,as,bs,ds,rfl,_;rfl
 cases h,a,b,as,bs,ds,rfl,o,la,C,lb,l1,l2,q;refine#[_,s!"̪̌<ĥ Ħħ̗#Ĩ¡ĩƾ˕ͅ¾@¸̫ˑ¹Iʆ˰̗ʛ˿,Ŧ̀7Ŧ̪́̌<ĥ Ħħ̵#Ĩ¡ĩƾ˕ͅ¾@¸̄͠$ˑ¹I1ɾʶ̔͠:Ŧˁˉ±̌<ĥ Ħħ#͐#Ĩ¡ĩɅ Ɇɇͅ±ª<ĥ Ħħ#͐#Ĩ¡ĩɈ ɉɊͅ¾@¸͐ɥɴ˂ˑ¹ʼ¹",?_]
 w_up
 calc#[_,.lst o,K',U,?_];rw[N ()];calc#[_,.inl (Zw o),_,.inl C,?_];let e1:=la.len;let e2:=lb.len;rw[af,af,e1,e2,N ⋯]
 w_up
 calc#[_,Zw o,_,C,?_];obtain⟨F,e⟩:∃F:O->L2.St->Hp->Prop,∀i f k,F i f k↔∃I M R:Zk V,f=[W (L a),W (L b),I,M,R]/\Same H k:=#[_,λ_ _ _=>Zj]
 refine vz (xs:=as.map L) (ys:=bs.map L) F ((e _ _ _).mpr #[Zy,Zy,Zy,U,Same.refl _]) (λi f k _ _ z=>by cases (e i f k).mp z,_,_,_,_,z;calc#[Zw (z _ _ o),z.seq C]) ?_ ?_
 .intro i v1 v2 p f k X x0 hp np;cases (e _ _ _).mp hp,I,M,R,rfl,sP;cases (la.ll (K:=K)).nth X,u,d,rfl,y0,m,_;let ea:=la.get i u d y0 m;cases lb.nth x0,b1,d',rfl,j0,n,z0;obtain rfl:d'=d:=by rw[m]at n;exact (Zv n).symm
  let ld:=l2 d' (cH m);let x:=sP.trans (au np (.tup [L u,L b1]))
  k_typeOf
  refine#[_,SqT.of ai,U,?_]
  k_typeOf
  let c:=x _ _ ea;let l:=x.seq z0;generalize upd k p (.tup [L u,L b1])=G at x c l ⊢
  w_up
  calc#[_,.lst c,K',U,?_];rw[N ()];calc#[_,.inl (Zw c),_,.inl l,?_];rw[N ⋯]
  w_up
  refine#[_,.inl l,by rw[af];lk,by rw[af];lk,?_];rw[af,gB];refine ie (λi f k=>(∃r,f=[W (L a),W (L b),W (L u),W (L b1),r])/\k=G) #[#[_,U],rfl] ?_ ?_
  .rintro j f H2 y ⟨⟨r,rfl⟩,rfl⟩
   let e0:(0:Y)+(j:Y)=(j:Y):=ij _
   room;simp![e0]
   calc#[_,Zw c,_,fe y,_,.int _,K',U,?_];rw[N ()];calc#[_,Zw c,_,fe y,_,.int _,O',U,?_];rw[N ()];refine#[_,Zw c,_,fe y,_,l,_,fe y,?_]
   room;walk
   rw[N ⋯];exact#[_,U]
  .rintro f H2 ⟨⟨r,rfl⟩,rfl⟩
   exact (e _ _ _).mpr #[_,_,_,U,x]
 .intro f k hp;obtain⟨I,M,R,rfl,sP⟩:=(e _ _ _).mp hp
  room;walk
  calc q _ sP
def qC (rows:G (Y->Y))(ds:ae):Prop:=∃(σ:Y)(gs:ae)(l R:aa)(f:O->aa),(σ=1\/σ=-1)/\(∀g∈gs,S g)/\gs.9=rows.9/\(∀i,i<gs.9->∀n,J n (gs.getD i [])=σ * rows.getD i (λ_=>0) n)/\gs.getLast?=W l/\l≠[]/\ThinOk gs l ds R f
def xZ {ds b:ae}(h:oA rows ds)(h':qC a b)(lr:a.9=rows.9)(e:∀i n,a.getD i (λ_=>0) n=rows.getD i (λ_=>0) n):ds=b:=by
 cases h,u,l,R,f,d,x,j,k,m,o;cases h',y,q,z,C,E,c,b1,b2,b3,r,F,s;calc UZ c d b1 () (λi hi n=>by rw[b3 i (),e,j i hi]) k r m o s
section
variable {p0 p1 q0 q1:aa}
def LawP (p0 p1 q0 q1:aa)(ds:ae):Prop:=(∀n,cA p0 q1 n=cA q0 p1 n)/\qC [cA p0 q1,cA p1 q1] ds\/(¬∀n,cA p0 q1 n=cA q0 p1 n)/\∃ws,qA p0 p1 q0 q1 ws/\qC ((aT 3).map λt n=>J n (ws.getD t [])*wgF p1 q1 t n) ds
def Vd (ne:¬∀n,cA p0 q1 n=cA q0 p1 n)(h:qA p0 p1 q0 q1 ws)(h':qA p0 p1 q0 q1 a):ws=a:=by
 cases h,d,e,f,i,j,k;cases h',b1,b2,b3,l,m,o;let b:∀n,J n (cF (ah p0 q1) (ah q0 p1))=hgF p0 p1 q0 q1 2 n:=λn=>by rw[ga,a8,a8];rfl
 let g0:cF (ah p0 q1) (ah q0 p1)≠[]:=λz=>ne λn=>by
  let:=b n;rw[z,show hgF p0 p1 q0 q1 2 n=cA p0 q1 n-cA q0 p1 n from rfl]at this;let s:J n ([]:aa)=0:=rfl;lk
 calc U2 d b1 e b2 f b3 i l j m λt c n=>?_;let:=LJ (X:=ah (a.getD 2 []) (ws.getD t [])) (Y:=ah (ws.getD 2 []) (a.getD t [])) (iX _ _) g0 (λn=>by
  let q:=k t c n;let r:=o t c n;rw[b,a8,a8];rw[show hgF p0 p1 q0 q1 2 n*(J n (a.getD 2 [])*J n (ws.getD t []))=J n (a.getD 2 [])*(hgF p0 p1 q0 q1 2 n*J n (ws.getD t [])) by grind,show hgF p0 p1 q0 q1 2 n*(J n (ws.getD 2 [])*J n (a.getD t []))=J n (ws.getD 2 [])*(hgF p0 p1 q0 q1 2 n*J n (a.getD t [])) by grind,q,r];grind) n
 rwa [a8,a8]at this
def LV {ds a:ae}(h:qB p0 p1 q0 q1 ds)(h':LawP p0 p1 q0 q1 a):ds=a:=by
 rcases h with ⟨e,h⟩|⟨e,f,r,h⟩ <;> rcases h' with ⟨b,h'⟩|⟨b,c,d,h'⟩
 .exact xZ h h' U λ_ _=>U
 .exact Zq e b
 .exact Zq b e
 .obtain rfl:=Vd e r d;calc xZ h h' U λ_ _=>U
def Ve {ds:ae}(h:qB q0 q1 p0 p1 ds):qB p0 p1 q0 q1 ds:=by
 let c:∀a b:aa,cA a b=cA b a:=λa b=>by funext n;exact cW _ _
 let d:∀t n,hgF q0 q1 p0 p1 t n=-hgF p0 p1 q0 q1 t n:=λt n=>by
  unfold hgF
  split <;> lk
 let f:wgF q1 p1=wgF p1 q1:=by
  funext t n
  unfold wgF;rw[c q1 p1]
 unfold qB at h ⊢;rw[f,c q1 p1]at h;rcases h with ⟨e,h⟩|⟨e,i,⟨j,k,l,m,o,q⟩,h⟩
 .let r:cA q0 p1=cA p0 q1:=funext e;rw[r]at h;exact .inl ⟨λn=>(e n).symm,h⟩
 .calc .inr #[λz=>e λn=>(z n).symm,i,#[j,k,l,m,o,λt s n=>?_],h];let:=q t s n;rw[d,d,zey,qM]at this;lk
def En {gs Ms:ae}(a:S F)(c:F≠[])(d:Ms.9=gs.9)(hk:gs.9<=3)(e:∀(i:O)(r M:aa),gs[i]?=W r->Ms[i]?=W M->S r/\S M/\(∀n,J n M=J n F*J n r)/\M.9<=13/\∀z∈M,Bd 65 z)(j:gs.getLast?=W l)(l0:l≠[]):∃(ds:ae)(R:aa)(f:O->aa),ThinOk gs l ds R f/\Chn gs f:=by
 cases Lc (D:=12) (b:=65) (k:=3) a c () hk d e () () j l0,ds,R,f,h;calc#[ds,R,f,h,Ly a c d e h.1 h.2.1]
theorem Vf {us:ae}(lu:us.9=3)(r:∀u∈us,S u)(H:∀s:O,Prm s->(∀u∈us,∀j,(s:Y)∣Z u j)->False)(m:NF us)(E:∀t,t<=2->∀n,hgF p0 p1 q0 q1 t n=J n C*J n (us.getD t []))(f:us.getD 2 []≠[]):∃a F,(a=1\/a=-1)/\qA p0 p1 q0 q1 F/\∀t,t<=2->∀n,J n (F.getD t [])=a*J n (us.getD t []):=by
 obtain⟨a,c,tp⟩:∃a:Y,(a=1\/a=-1)/\0<a*Z (us.getD 2 []) ((us.getD 2 []).9-1):=by
  let:=dU (r _ (mem_getD (d:=[]) (show 2<us.9 by lk))) f;by_cases z:0<Z (us.getD 2 []) ((us.getD 2 []).9-1)
  .exact#[1,.inl U,()]
  .exact#[-1,.inr U,()]
 let b:a*a=1:=by rcases c with rfl|rfl <;> rfl
 let o:a≠0:=by rcases c with rfl|rfl <;> decide
 let i:∀t,t<=2->(us.map λu=>u.map λz=>a*z).getD t []=(us.getD t []).map λz=>a*z:=λt k=>by
  rw[aD,a7,gv (d:=[]) (show t<us.9 by lk)];rfl
 let q:∀t,t<=2->∀n,J n ((us.map λu=>u.map λz=>a*z).getD t [])=a*J n (us.getD t []):=λt k n=>by rw[i t k,aJ]
 refine#[a,_,c,#[#v[af,lu],λp I=>?_,?_,λs hs h=>H s hs λu l j=>?_,λh P Q M R X=>m h P Q M R λu l=>?_,λt k n=>?_],q]
 .cases b8.mp I,u,l,rfl;exact gx o (r u l)
 .rw[i 2 (aC _)];generalize us.getD 2 []=x at *;let e:=NE f;let ec:Z x (x.9-1)=x.getLast f:=by
   let:=cE.mpr f;rw[aO (),lE]
  rw[ec]at tp;exact#[x.dropLast.map λz=>a*z,a*x.getLast f,by conv=>{lhs;rw[<-e]};simp,tp]
 .let:=h _ (b8.mpr #[u,l,U]) j;rw[dg]at this;cases this,y,hy;exact#[a*y,by rw[show Z u j=a*(a*Z u j) by rw[<-cI,b,cL],hy];grind]
 .cases X _ (b8.mpr #[u,l,rfl]),v,hv;calc#[v.map λz=>a*z,λn=>?_];let:=hv n;rw[aJ]at this;rw[aJ,show M*J n u=a*(M*(a*J n u)) by rw[show a*(M*(a*J n u))=a*a*(M*J n u) by grind,b,cL],this];grind
 .rw[q t k,q 2 (aC _),E t k,E 2 (aC _)];grind
theorem Vg {α:Type}:∀{l:G α},l.9=3->∃a b c,l=[a,b,c]
 |[a,b,c],_=>#[a,b,c,U]
end
def SzP (d M:O)(f:aa):Prop:=S f/\FN M (λn=>J n f)/\FD d λn=>J n f
def SzP.len {d M:O}(h:SzP d M f):f.9<=d+1:=kS h.2.2 h.1 λ_=>U
def SzP.bd {d M:O}(h:SzP d M f)(k:O)(hk:M<2^k):∀x∈f,Bd k x:=λx hx=>dF (D9 h.2.1 (λ_=>U) x hx) hk
def SzP.mul {d e M N:O}(h:SzP d M f)(k:SzP e N g):SzP (d+e) (M*N) (ah f g):=#[cQ _ _,(h.2.1.mul2 k.2.1).congr λn=>a8 n f g,(h.2.2.mul2 k.2.2).congr λn=>a8 n f g]
def SzP.sub {d M N:O}(h:SzP d M f)(k:SzP d N g):SzP d (M+N) (cF f g):=#[iX _ _,((h.2.1.add ((k.2.1.scale (-1)).mono (N:=N) ⋯)).congr λn=>by rw[ga];lk),((h.2.2.add k.2.2.neg).congr λn=>by rw[ga];lk)]
def SzP.nil (d:O):SzP d 0 []:=#[bH,FN.zero,FD.zero]
def Eo (c:P34 p)(d:P34 q):SzP 4 20736 (ah p q)/\SzP 4 63504 (aw (bT 1 (ah p q))):=by
 let a:=c.2.2 0;let b:=d.2.2 0;let e:=c.2.2 1;let b1:=d.2.2 1;calc#[#[cQ _ _,(a.1.mul2 b.1).congr λn=>by rw[a8];simp,(a.2.mul2 b.2).congr λn=>by rw[a8];simp],#[cn _,(e.1.mul2 b1.1).congr λn=>by rw[cx,fD,a8];rfl,(e.2.mul2 b1.2).congr λn=>by rw[cx,fD,a8];rfl]]
def pr7 {K:ao}{H:Hp}{E:XK}{a b:Zs}{d e M N:O}(k l:O)(hx:SzP d M x)(hy:SzP e N y)(c:H a=W (Y' (x.map B)))(f:H b=W (Y' (y.map B)))(hd:d<=39/\e<=39)(hk:M<2^k)(h:N<2^l)(i:k+l<=100000)(q:eE H Q ((ah x y).map B)):Lq K [.ref a,.ref b] H Q E:=
 ⟨a,b,x,y,k,l,U,Zw c,Zw f,by let:=hx.len;lk,by let:=hy.len;lk,hx.bd k hk,hy.bd l h,i,λm n _ o=>by
  rw[show m=ah x y from gq n (cQ _ _) λj=>by rw[o,fg]];calc q⟩
def on7 {K:ao}{H:Hp}{E:XK}{a:Zs}{d M:O}(k:O)(hx:SzP d M x)(b:H a=W (Y' (x.map B)))(hd:d<=12/\k<=900)(hk:M<2^k)(q:eE H Q ((aw (bT 1 x)).map B)):Lw K [.ref a] H Q E:=#[a,x,k,U,Zw b,by let:=hx.len;lk,hx.bd k hk,hd.2,q]
def ls7 {K:ao}{H:Hp}{E:XK}{a b:Zs}{d e M N:O}(hx:SzP d M x)(hy:SzP e N y)(c:H a=W (Y' (x.map B)))(f:H b=W (Y' (y.map B)))(hd:d<=39/\e<=39)(q:eE H Q ((cF x y).map B)):Lr K [.ref a,.ref b] H Q E:=#[a,b,x,y,U,Zw c,Zw f,by let:=hx.len;lk,by let:=hy.len;lk,q]
def LW {ds:ae}(s:Same H a)(h:gQ H Q ds):gQ a Q ds:=λD bs c d e f i j nb nd=>h D bs c (s.trans d) (s.free e) f i (λb k=>s.free (j b k)) nb nd
def Vh (K:ao):Sp:=λvs H Q _=>∃(A B a0 a1 b0 b1:Zs)(p0 p1 q0 q1:aa),vs=[.ref A,.ref B]/\H A=W (Y' [.ref a0,.ref a1])/\H a0=W (Y' (p0.map V'))/\H a1=W (Y' (p1.map V'))/\H B=W (Y' [.ref b0,.ref b1])/\H b0=W (Y' (q0.map V'))/\H b1=W (Y' (q1.map V'))/\El p0 p1 q0 q1/\∀ds,LawP p0 p1 q0 q1 ds->gQ H Q ds
def Vi:FnOk P w K mg base CX0 8 T.Xi.ax T.Xi.dx ["_law_p","_law_q"] (Vh K):=by
 refine T.Xi.Fx.ok jn (λvs H Q E h=>?_) (λcdv A outer s H vs Q E hr h=>?_)
 .cases h,A,B,a0,a1,b0,b1,p0,p1,q0,q1,rfl,_;rfl
 cases h,A,B,a0,a1,b0,b1,p0,p1,q0,q1,rfl,eA,x8,n4,eB,y8,x5,#[y5,hp1,u5,k3,n1,n2],q;let z5:∀{p:aa},P34 p->SzP 2 144 p:=λ{p} h=>#[h.1,(h.2.2 0).1.congr λn=>by simp,(h.2.2 0).2.congr λn=>by simp]
 let v5:=z5 y5;let n3:=z5 hp1;let j5:=z5 u5;let x4:=z5 k3;cases Eo y5 k3,m1,y4;cases Eo u5 hp1,z2,z4;cases Eo hp1 k3,zL,zM;refine#[_,s!"ʍ»̣̍ɡɦ˅ʯ̤̍ʯ#ʮɦɰʜ»ʄ̍ɡɦ˅ʯ$ʸĚĤ˄˄ɩʨĪɣīĬĭɭɹ˄˃ɰIʰ»ʄʿ˹ʏͩ˹ɰˊ»̣ʿɭ˄ʏͩɭ˄ɰʏʿɭ˄ʏͩɭ˄͆˲»̣̏ɭʎ#˄̤̏ɭʎ#˄ɰ̭»̣̏ʺ̍˒˅ʞɦ̤̍˒˅ʞɦ̭͆»̑˟ˤ̏ʡʞɦ˅ʞɦ̤̏ʡ˒˅˒ɰɠv»˼ƶɣƷƸƹɤW$ɠÀ»ɚɹˇ˃̘ʨĪɣīĬĭɭœ͒ʕÒvŞʊ͓ɘWɘÀ$ʩʿʺƺɣƻƼƽʇʤ˱ɰ",?_]
 w_up
 calc#[_,Zw eA,_,U,_,Zw eB,_,U,pr7 8 8 v5 x4 x8 x5 () () () () λc0 H1 s1 z8 l=>#[_,Zw (s1 _ _ eB),_,U,_,Zw (s1 _ _ eA),_,U,pr7 8 8 j5 n3 (s1 _ _ y8) (s1 _ _ n4) () () () () λc1 H2 s2 u8 m=>#[(),λX nX=>?_]]];let u:=au nX (Y' [Z' c0,Z' c1]);let eX:=ai (H:=H2) (a:=X) (o:=.lst [Z' c0,Z' c1]);replace l:=u _ _ (s2 _ _ l);replace m:=u _ _ m;let sH:=s1.trans (s2.trans u);generalize Zx H2 X (Y' [Z' c0,Z' c1])=H3 at l m eX sH ⊢;clear s1 s2 u nX u8 z8
 w_up
 calc#[_,Zw (sH _ _ eA),_,U,_,Zw (sH _ _ eB),_,U,pr7 8 8 n3 x4 (sH _ _ n4) (sH _ _ x5) () () () () λL H4 s4 nL eL=>?_];replace l:=s4 _ _ l;replace m:=s4 _ _ m;replace eX:=s4 _ _ eX;replace sH:=sH.trans s4;clear s4 nL
 w_up
 calc#[_,Zw eX,_,U,_,Zw eX,_,U,_,DV.ints (Zw l),_,DV.ints (Zw m),jr _,jr _,qr _,?_];rw[qq];let cv:∀n,J n (ah p0 q1)=cA p0 q1 n/\J n (ah q0 p1)=cA q0 p1 n/\J n (ah p1 q1)=cA p1 q1 n:=λn=>#[a8 n _ _,a8 n _ _,a8 n _ _]
 let same:ah p0 q1=ah q0 p1↔∀n,cA p0 q1 n=cA q0 p1 n:=#[λe n=>by rw[<-(cv n).1,<-(cv n).2.1,e],λe=>aZ (cQ _ _) (cQ _ _) λn=>by rw[(cv n).1,(cv n).2.1,e]]
 let L0:ah p1 q1≠[]:=λz=>d9 hp1.1 k3.1 n1 n2 (aZ (bJ _ _) bH λn=>by rw[aG,<-a8,z]);refine cu (λh=>?_) (λh=>?_)
 .calc#[_,Zw eX,_,U,(),λp np=>?_];let u:=au np (Y' [Z' c0,Z' L]);let ep:=ai (H:=H4) (a:=p) (o:=.lst [Z' c0,Z' L]);generalize Zx H4 p (Y' [Z' c0,Z' L])=H5 at u ep ⊢;let zz:∀g∈[ah p0 q1,ah p1 q1],SzP 4 20736 g:=λg hg=>by
   rcases bV.mp hg with rfl|hg
   .exact m1
   .rw[bZ.mp hg];exact zL
  obtain⟨ds,R,f,th,ch⟩:=En (F:=[1]) (gs:=[ah p0 q1,ah p1 q1]) (Ms:=[ah p0 q1,ah p1 q1]) (e7 ()) ⋯ rfl ⋯ (λi r M h1 h2=>by
   rw[h1]at h2;cases h2;let z:=zz r (cH h1);exact#[z.1,z.1,λn=>by simp[J],by let:=z.len;lk,z.bd 65 ()]) U L0
  refine#[p,[c0,L],_,ds,_,R,f,rfl,Zw ep,(iY (u _ _ l) (u _ _ eL)).ll,rfl,L0,by simp,ch,th,LW (sH.trans u) (q ds (.inl #[same.mp (⇑h),1,_,_,R,f,.inl U,λg hg=>(zz g hg).1,U,λi hi n=>?_,U,L0,th]))];rcases (show i=0\/i=1 by simp at hi;lk) with rfl|rfl
  .exact (cv n).1.trans (cL _).symm
  .exact (cv n).2.2.trans (cL _).symm
 let h:¬∀n,cA p0 q1 n=cA q0 p1 n:=λz=>by simpa using h (by simpa using same.mpr z)
 w_up
 calc on7 15 zL eL () () λL' H5 s5 v8 k5=>pr7 15 16 zL zM (s5 _ _ eL) k5 () () () () λF H6 s6 nF eF=>?_;let j2:=s5.trans s6;replace eX:=j2 _ _ eX;replace l:=j2 _ _ l;replace m:=j2 _ _ m;replace eL:=j2 _ _ eL;replace sH:=sH.trans j2;clear s5 s6 j2 nF k5 v8;let zF:=zL.mul zM;let m2:=m1.mul y4;let x3:=z2.mul z4
 w_up
 calc#[_,Zw eX,_,U,_,Zw eX,_,U,on7 15 m1 l () () λd0 H7 s7 j8 g5=>pr7 15 16 m1 y4 (s7 _ _ l) g5 () () () () λt0 H8 s8 k8 j0=>#[_,Zw (s8 _ _ (s7 _ _ eX)),_,U,_,Zw (s8 _ _ (s7 _ _ eX)),_,U,on7 15 z2 (s8 _ _ (s7 _ _ m)) () () λd1 H9 s9 g8 m5=>pr7 15 16 z2 z4 (s9 _ _ (s8 _ _ (s7 _ _ m))) m5 () () () () λt1 n5 u4 m8 k0=>#[(),λY nY=>?_]]];let u:=au nY (Y' [Z' t0,Z' t1]);let eY:=ai (H:=n5) (a:=Y) (o:=.lst [Z' t0,Z' t1]);let sa:=(s7.trans s8).trans ((s9.trans u4).trans u);replace j0:=u _ _ (u4 _ _ (s9 _ _ j0));replace k0:=u _ _ k0;generalize Zx n5 Y (Y' [Z' t0,Z' t1])=x6 at eY sa j0 k0 ⊢;replace eX:=sa _ _ eX;replace l:=sa _ _ l;replace m:=sa _ _ m;replace eL:=sa _ _ eL;replace eF:=sa _ _ eF;replace sH:=sH.trans sa;clear s7 s8 s9 u4 sa u g5 m5 j8 g8 k8 m8 nY;let y3:=(SzP.nil 4).sub m1;let z3:=(SzP.nil 4).sub z2
 w_up
 calc#[(),λv1 y6=>?_];let I:=au y6 (Y' []);let v4:=ai (H:=x6) (a:=v1) (o:=.lst []);generalize Zx x6 v1 (Y' [])=H12 at I v4 ⊢;calc#[_,Zw (I _ _ eX),_,U,ls7 (x:=[]) (SzP.nil 0) m1 v4 (I _ _ l) () λo0 z6 w2 n8 z0=>#[(),λv2 u6=>?_]];let w3:=au u6 (Y' []);let j4:=ai (H:=z6) (a:=v2) (o:=.lst []);let u3:=(I.trans w2).trans w3;replace z0:=w3 _ _ z0;generalize Zx z6 v2 (Y' [])=H14 at u3 j4 z0 ⊢;calc#[_,Zw (u3 _ _ eX),_,U,ls7 (x:=[]) (SzP.nil 0) z2 j4 (u3 _ _ m) () λo1 v6 w4 x9 n0=>#[(),λO nO=>?_]];let u:=au nO (Y' [Z' o0,Z' o1]);let eO:=ai (H:=v6) (a:=O) (o:=.lst [Z' o0,Z' o1]);let sa:=u3.trans (w4.trans u);replace z0:=u _ _ (w4 _ _ z0);replace n0:=u _ _ n0;generalize Zx v6 O (Y' [Z' o0,Z' o1])=H16 at eO sa z0 n0 ⊢;replace eY:=sa _ _ eY;replace j0:=sa _ _ j0;replace k0:=sa _ _ k0;replace eL:=sa _ _ eL;replace eF:=sa _ _ eF;replace sH:=sH.trans sa;clear I w2 w3 w4 u3 sa u v4 j4 eX l m n8 x9 y6 u6 nO;let zU:=y3.mul x3;let zV:=z3.mul m2;let v3:=zU.sub zV;let j3:=m2.sub x3;let y2:=z3.sub y3
 w_up
 calc#[_,Zw eO,_,U,_,Zw eY,_,U,pr7 15 31 y3 x3 z0 k0 () () () () λx1 H17 I j6 g3=>#[_,Zw (I _ _ eO),_,U,_,Zw (I _ _ eY),_,U,pr7 15 31 z3 m2 (I _ _ n0) (I _ _ j0) () () () () λx2 H18 w2 y9 k6=>ls7 zU zV (w2 _ _ g3) k6 () λh0 g6 w3 z9 y1=>#[(),λG0 m6=>?_]]];let u:=au m6 (Y' [Z' h0]);let n6:=ai (H:=g6) (a:=G0) (o:=.lst [Z' h0]);let sa:=(I.trans w2).trans (w3.trans u);replace y1:=u _ _ y1;generalize Zx g6 G0 (Y' [Z' h0])=H20 at n6 sa y1 ⊢;replace eY:=sa _ _ eY;replace eO:=sa _ _ eO;replace j0:=sa _ _ j0;replace k0:=sa _ _ k0;replace z0:=sa _ _ z0;replace n0:=sa _ _ n0;replace eL:=sa _ _ eL;replace eF:=sa _ _ eF;replace sH:=sH.trans sa;clear I w2 w3 sa u g3 k6 j6 y9 z9 m6
 w_up
 calc#[_,Zw eY,_,U,_,Zw eY,_,U,ls7 m2 x3 j0 k0 () λh1 H21 I u9 z1=>#[_,Zw (I _ _ eO),_,U,_,Zw (I _ _ eO),_,U,ls7 z3 y3 (I _ _ n0) (I _ _ z0) () λh2 x7 w2 v9 j1=>#[(),λG1 y7=>?_]]];let u:=au y7 (Y' [Z' h1,Z' h2]);let z7:=ai (H:=x7) (a:=G1) (o:=.lst [Z' h1,Z' h2]);let sa:=(I.trans w2).trans u;replace z1:=u _ _ (w2 _ _ z1);replace j1:=u _ _ j1;generalize Zx x7 G1 (Y' [Z' h1,Z' h2])=u7 at z7 sa z1 j1 ⊢;refine#[_,sa _ _ n6,_,z7,(by show 1+2<=Zg;decide),λG nG=>?_];let u:=au nG (Y' ([Z' h0]++[Z' h1,Z' h2]));let eG:=ai (H:=u7) (a:=G) (o:=.lst ([Z' h0]++[Z' h1,Z' h2]));replace sa:=sa.trans u;replace y1:=sa _ _ y1;replace z1:=u _ _ z1;replace j1:=u _ _ j1;replace eL:=sa _ _ eL;replace eF:=sa _ _ eF;replace sH:=sH.trans sa;generalize Zx u7 G (Y' ([Z' h0]++[Z' h1,Z' h2]))=j9 at eG y1 z1 j1 eL eF sH ⊢;clear I w2 sa u u9 v9 y7 nG eY eO j0 k0 z0 n0;generalize v7:cF (ah (cF [] (ah p0 q1)) (ah (ah q0 p1) (aw (bT 1 (ah q0 p1))))) (ah (cF [] (ah q0 p1)) (ah (ah p0 q1) (aw (bT 1 (ah p0 q1)))))=g0 at y1 v3;generalize j7:cF (ah (ah p0 q1) (aw (bT 1 (ah p0 q1)))) (ah (ah q0 p1) (aw (bT 1 (ah q0 p1))))=g1 at z1 j3;generalize k7:cF (cF [] (ah q0 p1)) (cF [] (ah p0 q1))=g2 at j1 y2;generalize hF:ah (ah p1 q1) (aw (bT 1 (ah p1 q1)))=fr at eF zF;let hv:∀t,t<=2->∀n,hgF p0 p1 q0 q1 t n=J n ([g0,g1,g2].getD t []):=λt ht n=>by
  rcases (show t=0\/t=1\/t=2 by lk) with rfl|rfl|rfl
  .show hgF p0 p1 q0 q1 0 n=J n g0;rw[<-v7];simp only[ga,a8,cx,fD,hgF,cA,show J n ([]:aa)=0 from rfl];grind
  .show hgF p0 p1 q0 q1 1 n=J n g1;rw[<-j7];simp only[ga,a8,cx,fD,hgF,cA]
  .show hgF p0 p1 q0 q1 2 n=J n g2;rw[<-k7];simp only[ga,a8,hgF,cA,show J n ([]:aa)=0 from rfl];lk
 let fv:∀n,J n fr=wgF p1 q1 2 n:=λn=>by rw[<-hF];simp only[a8,cx,fD,wgF,cA]
 let fr0:fr≠[]:=λz=>d9 (cQ p1 q1) (cn (bT 1 (ah p1 q1))) L0 (Eh (cQ p1 q1) L0 1) (aZ (bJ _ _) bH λn=>by rw[aG,<-a8,hF,z]);clear v7 j7 k7 hF zU zV y3 z3 m2 x3 y4 z4 zM v5 n3 j5 x4 m1 z2;let k4:g2≠[]:=λz=>h λn=>by
  let:=hv 2 (aC _) n;rw[show [g0,g1,g2].getD 2 []=g2 from rfl,z,show hgF p0 p1 q0 q1 2 n=cA p0 q1 n-cA q0 p1 n from rfl,show J n ([]:aa)=0 from rfl]at this;lk
 let zz:∀g∈[g0,g1,g2],S g/\g.9<=13/\∀x∈g,Bd 46 x:=λg hg=>by
  simp only[bV,iZ,Yi]at hg;rcases hg with rfl|rfl|rfl
  .exact#[v3.1,v3.len,v3.bd 46 ()]
  .exact#[j3.1,by let:=j3.len;lk,j3.bd 46 ()]
  .exact#[y2.1,by let:=y2.len;lk,y2.bd 46 ()]
 let mk:∀(b:Nat),46<=b->∀(i:Nat)(r M:aa),[g0,g1,g2][i]?=Zz r->[g0,g1,g2][i]?=Zz M->S r/\S M/\(∀n,J n M=J n [1]*J n r)/\M.9<=13/\∀z∈M,Bd b z:=λb hb i r M e1 e2=>by
  rw[e1]at e2;cases e2;let z:=zz r (cH e1);exact#[z.1,z.1,λn=>by simp[J],z.2.1,λx hx=>(z.2.2 x hx).mono hb]
 obtain⟨f,f0,fl,fs,nf,fz,fn⟩:=xE (F:=[1]) (gs:=[g0,g1,g2]) (Ms:=[g0,g1,g2]) (D:=12) (b:=46) (k:=3) (e7 ()) ⋯ () ⋯ rfl (mk 46 ()) () 3 ⋯;let C0:f 3≠[]:=λz=>k4 (fz z 2 g2 () U);let ch:=Ly (F:=[1]) (Ms:=[g0,g1,g2]) (e7 ()) ⋯ U (mk 65 ()) f0 λi r e=>fs i r (by let:=(a_.mp e).1;simpa using this) e;cases fn C0,_,bC,us,lu,nu,vu,pu,k9,_;let lC:=fl 3;clear fn fz fs;cases Vg lu,u0,u1,u2,rfl;let v0:=vu 0 g0 u0 U U;let v1:=vu 1 g1 u1 U U;let v2:=vu 2 g2 u2 U U;obtain⟨σ,ws,g7,rp,wv⟩:=Vf (p0:=p0) (p1:=p1) (q0:=q0) (q1:=q1) (C:=f 3) lu nu pu k9 (λt ht n=>by
  rw[hv t ht];rcases (show t=0\/t=1\/t=2 by lk) with rfl|rfl|rfl
  .exact v0 n
  .exact v1 n
  .calc v2 n) (λz=>k4 (aZ y2.1 bH λn=>by rw[v2,show u2=[] from z];simp[J]))
 let lG:LH j9 [h0,h1,h2] [g0,g1,g2]:=(iY y1 z1).snoc j1
 w_up
 calc#[G,[h0,h1,h2],[g0,g1,g2],f,rfl,Zw eG,lG.ll,ch,λc g4 I nc ec=>?_];let ec:g4 c=Zz (Y' ((f 3).map V')):=ec;replace eG:=I _ _ eG;replace lG:=lG.same I;replace eL:=I _ _ eL;replace eF:=I _ _ eF;replace sH:=sH.trans I;clear I nc;let Z1:SzP 0 1 [1]:=#[e7 (),(FN.const 1).congr λn=>by simp[J],(FD.const 1).congr λn=>by simp[J]]
 let vC:∀t,t<3->∀n,J n ([g0,g1,g2].getD t [])=J n (f 3)*J n ([u0,u1,u2].getD t []):=λt ht n=>by
  rcases (show t=0\/t=1\/t=2 by lk) with rfl|rfl|rfl
  .exact v0 n
  .exact v1 n
  .exact v2 n
 let wz:∀t,t<3->∃e N k,SzP e N ([[1],ah p1 q1,fr].getD t [])/\e<=39/\N<2^k/\k<=31/\(∀n,J n ([[1],ah p1 q1,fr].getD t [])=wgF p1 q1 t n):=λt ht=>by
  rcases (show t=0\/t=1\/t=2 by lk) with rfl|rfl|rfl
  .exact#[0,1,1,Z1,(),(),(),λn=>by simp[J,wgF]]
  .exact#[_,_,15,zL,(),(),(),λn=>(cv n).2.2]
  .exact#[_,_,31,zF,(),(),(),fv]
 let g9:u2≠[]:=λz=>k4 (aZ y2.1 bH λn=>by rw[v2,z];simp[J]);let l0:ah u2 fr≠[]:=λz=>d9 (nu u2 ⋯) zF.1 g9 fr0 (aZ (bJ _ _) bH λn=>by rw[aG,<-a8,z]);obtain⟨ds,R,fR,th,m9⟩:=En (F:=f 3) (gs:=[ah u0 [1],ah u1 (ah p1 q1),ah u2 fr]) (Ms:=[ah g0 [1],ah g1 (ah p1 q1),ah g2 fr]) nf C0 rfl ⋯ (λi r M e1 e2=>by
  let hi:=(a_.mp e1).1;rcases (show i=0\/i=1\/i=2 by simp at hi;lk) with rfl|rfl|rfl
  .cases e1;cases e2
   let z:=v3.mul Z1;exact#[cQ _ _,cQ _ _,λn=>by rw[a8,a8,v0,cI],z.len,z.bd 65 ()]
  .cases e1;cases e2
   let z:=j3.mul zL;exact#[cQ _ _,cQ _ _,λn=>by rw[a8,a8 n u1,v1,cI],z.len,z.bd 65 ()]
  .cases e1;cases e2
   let z:=y2.mul zF;exact#[cQ _ _,cQ _ _,λn=>by rw[a8,a8,v2,cI],z.len,z.bd 65 ()]) U l0
 let m7:σ * σ=1:=by rcases g7 with rfl|rfl <;> rfl
 let n9:LawP p0 p1 q0 q1 ds:=by
  refine .inr #[h,ws,rp,σ,_,_,R,fR,g7,λg hg=>?_,U,λi hi n=>?_,U,l0,th]
  .simp only[bV,iZ,Yi]at hg;rcases hg with rfl|rfl|rfl <;> exact cQ _ _
  .let m4:∀t,t<3->J n ([u0,u1,u2].getD t [])*J n ([[1],ah p1 q1,fr].getD t [])=σ * (J n (ws.getD t [])*wgF p1 q1 t n):=λt ht=>by
    cases wz t ht,_,_,_,_,_,_,_,e;rw[e,wv t (),show σ * (σ * J n ([u0,u1,u2].getD t [])*wgF p1 q1 t n)=σ * σ * (J n ([u0,u1,u2].getD t [])*wgF p1 q1 t n) by rw[cI σ,cI σ σ],m7,cL]
   rcases (show i=0\/i=1\/i=2 by simp at hi;lk) with rfl|rfl|rfl
   .exact (a8 n _ _).trans (m4 0 ())
   .exact (a8 n _ _).trans (m4 1 ())
   .exact (a8 n _ _).trans (m4 2 ())
 let ul:∀t,t<3->S ([u0,u1,u2].getD t [])/\([u0,u1,u2].getD t []).9<=13/\∀x∈[u0,u1,u2].getD t [],Bd 600 x:=λt ht=>by
  let nm:=nu _ (mem_getD (d:=[]) (show t < [u0,u1,u2].9 from ht));let zg:=zz _ (mem_getD (d:=[]) (show t < [g0,g1,g2].9 from ht));let e:=vC t ht;generalize [u0,u1,u2].getD t []=x at *;generalize [g0,g1,g2].getD t []=y at *;by_cases x0:x=[]
  .rw[x0];simp[bH]
  .let y0:y≠[]:=λz=>x0 (j_ nf nm C0 λn=>by rw[<-e,z];rfl);let l2:=(dr nf nm C0 x0).1;rw[aZ (bJ (f 3) x) zg.1 λn=>by rw[aG,e]]at l2;let lc:=cE.mpr C0;exact#[nm,(),λz hz=>(iW (D:=12) (b:=46) (e:=x) (t:=f 3) nm zg.1 y0 () zg.2.1 () zg.2.2 (λn=>by rw[e,cW]) z hz).mono ()]
 w_up
 calc#[(),λe1 ne1=>#[(),λW nW=>?_]];let I:=au ne1 (Y' [V' 1]);let m3:=ai (H:=g4) (a:=e1) (o:=.lst [V' 1]);generalize Zx g4 e1 (Y' [V' 1])=n7 at I m3 nW ⊢;let w2:=au nW (Y' [Z' e1,Z' L,Z' F]);let eW:=ai (H:=n7) (a:=W) (o:=.lst [Z' e1,Z' L,Z' F]);generalize Zx n7 W (Y' [Z' e1,Z' L,Z' F])=H27 at w2 eW ⊢;let k2:=I.trans w2;replace eG:=k2 _ _ eG;replace lG:=lG.same k2;replace ec:=k2 _ _ ec;replace eL:=k2 _ _ eL;replace eF:=k2 _ _ eF;replace m3:=w2 _ _ m3;replace sH:=sH.trans k2;let lW:LH H27 [e1,L,F] [[1],ah p1 q1,fr]:=(iY (y0:=[1]) m3 eL).snoc eF;refine#[_,Zw eG,_,Zw eW,λD2 nD2=>D6 (as:=[h0,h1,h2]) (bs:=[e1,L,F]) (ps:=[g0,g1,g2]) (rs:=[[1],ah p1 q1,fr]) (ds:=[ah u0 [1],ah u1 (ah p1 q1),ah u2 fr]) nD2 (Zw eG) lG.ll (Zw eW) lW.ll U ⋯ ⋯ (λj y z p q' d Hv R' hp hq hd sv hY hZ hN=>?_) (λZ as2 H8 s8 nZ eZ lZ nb2 nvb2 nd2=>?_)]
 .room;simp![f7]
  let hj:j<3:=(a_.mp hp).1;let ep:[g0,g1,g2].getD j []=p:=by rw[aD,hp];rfl
  let eq:[[1],ah p1 q1,fr].getD j []=q':=by rw[aD,hq];rfl
  let ed:d=ah ([u0,u1,u2].getD j []) q':=by
   rcases (show j=0\/j=1\/j=2 by lk) with rfl|rfl|rfl <;> (cases hq;cases hd;rfl)
  cases wz j hj,e',N',k',zW,le',bN,lk,_;cases ul j hj,nU,lU,bU;cases zz p (cH hp),np',lp',bp';rw[eq]at zW;let vj:=vC j hj;rw[ep]at vj;generalize [u0,u1,u2].getD j []=uj at *;refine#[_,U,y,c,p,f 3,uj,U,hY,Zw (sv _ _ ec),(),(),np',nf,C0,λx hx=>(bp' x hx).mono (),λx hx=>(bC x hx).mono (),nU,λk=>?_,λx1 Hw sw j6 g3=>?_]
  .rw[<-fg];exact dX (λn=>#v[a8,vj n]) k
  .refine#[x1,z,uj,q',600,k',U,Zw g3,sw.seq hZ,(),by let:=zW.len;lk,bU,zW.bd k' bN,(),λwq nw _ hc=>?_];rw[show wq=d by rw[ed];exact gq nw (cQ _ _) λj=>by rw[hc,fg]];exact λr H' s' nr er=>hN r H' (sw.trans s') (sw.free nr) er
 .calc#[Z,as2,_,ds,_,R,fR,U,Zw eZ,lZ.ll,U,l0,by simp,m9,th,LW (sH.trans s8) (q ds n9)]
def LX (ps:ae):Yb (.list (ps.map dL))<=2:=by
 let h:∀ps:ae,YR (ps.map dL)<=1:=λps=>by
  induction ps with
  |nil=>calc bh _
  |cons p ps ih=>simp[YR,Yb,CB,dL];lk
 let:=h ps;simp[Yb];lk
def Vj {K:ao}{Q:VK}{H:Hp}{p k R1 R2 l m:Zs}{as1 as2 f h:ap}(n:H p=Zy)(j:H k=W (Y' [L l,L m]))(o:H l=W (Y' (f.map L)))(l1:LH H f a)(r:H m=W (Y' (h.map L)))(s:LH H h b)(y:H R1=W (Y' (as1.map L)))(z:LH H as1 a)(C:H R2=W (Y' (as2.map L)))(E:LH H as2 b)(q:∀F,Q (.bl K') F):
  ∃da,DV K (Zx H p (Y' [L R1,L R2])) (L k) da/\∃x,DV K (Zx H p (Y' [L R1,L R2])) (L p) x/\da.canLay0=K'/\x.canLay0=K'/\da.depth<=64/\Q (V.bl (da.eqv x)) (Zx H p (Y' [L R1,L R2])):=by
 let u:=au n (Y' [L R1,L R2]);let i:Z9 (.list [.list (a.map dL),.list (b.map dL)])=K':=by
  let c:=JF a;let d:=JF b;simp only[Z9,YZ]at c d ⊢;simp[c,d]
 refine#[_,DV.lst (Zw (u _ _ j)) (.cons (wV (Zw (u _ _ o)) (l1.same u).ll) (.cons (wV (Zw (u _ _ r)) (s.same u).ll) .nil)),_,DV.lst (Zw ai) (.cons (wV (Zw (u _ _ y)) (z.same u).ll) (.cons (wV (Zw (u _ _ C)) (E.same u).ll) .nil)),i,i,?_,?_]
 .let c:=LX a;let d:=LX b;simp only[Yb,YR]at c d ⊢;lk
 .let e:Yg (.list [.list (a.map dL),.list (b.map dL)]) (.list [.list (a.map dL),.list (b.map dL)])=K':=by
   let c:=JE a;let d:=JE b;simp only[Yg,Yu]at c d ⊢;simp[c,d]
  rw[e];calc q _
def LZ (K:ao):Sp:=λvs H Q _=>∃(a:Zs)(ns:aa),vs=[.ref a]/\SqL K H a (ns.map B)/\ns.9<=63/\∀H',Q (.bl K') H'
def L2A (H:Hp)(R:Zs)(x y:aa):Prop:=∃a b:Zs,H R=W (Y' [.ref a,.ref b])/\H a=W (Y' (x.map B))/\H b=W (Y' (y.map B))
def L2A.same (h:L2A H R x y)(s:Same H c):L2A c R x y:=by
 cases h,a,b,d,e,f;calc#[a,b,s _ _ d,s _ _ e,s _ _ f]
def L2A.of {H:Hp}{R:Zs}{bs:ap}{x y:aa}(e:H R=W (Y' (bs.map L)))(l:LH H bs [x,y]):L2A H R x y:=by
 cases Em l.len,a,b,rfl;calc#[a,b,e,l.get 0 a x U U,l.get 1 b y U U]
def z34 (h:P34 p):SzP 2 144 p:=#[h.1,(h.2.2 0).1.congr λn=>by simp,(h.2.2 0).2.congr λn=>by simp]
def L3 {gs:ae}(hk:gs.9<=3)(c:∀g∈gs,∃d M,SzP d M g/\d<=12/\M<2^65)(e:gs.getLast?=W l)(l0:l≠[]):∃(ds:ae)(R:aa)(f:O->aa),ThinOk gs l ds R f/\Chn gs f:=
 En (F:=[1]) (Ms:=gs) (e7 ()) ⋯ U hk (λi r M a b=>by
  rw[a]at b;cases b;cases c r (cH a),d,j,z,hd,h;exact#[z.1,z.1,λn=>by simp[J],by let:=z.len;lk,z.bd 65 h]) e l0
def ThinOk.small {gs ds:ae}(h:ThinOk gs l ds R f)(hk:gs.9<=3):ds.9<=900/\∀d∈ds,d.9<=900:=by
 cases h,_,_,_,_,_,_,_,_,ld,hd,_;calc#[(),λd a=>?_];cases di.mp a,i,hi,rfl;let:=(hd i _ _ (aq (show i<gs.9 by lk)) (aq hi)).2.2.2.1;lk
def LawP.small {ds:ae}(h:LawP p0 p1 q0 q1 ds):ds.9<=900/\∀d∈ds,d.9<=900:=by
 rcases h with ⟨_,a,b,l,R,f,_,_,lg,_,_,_,h⟩|⟨_,c,_,a,b,l,R,f,_,_,lg,_,_,_,h⟩
 .exact h.small (by simp at lg;lk)
 .calc h.small (by simp at lg;lk)
def Vk:FnOk P w K mg base CX0 24 T.WY.ax T.WY.dx ["_law_script"] (LZ K):=by
 refine T.WY.Fx.ok i6 (λvs H Q E h=>?_) (λn6 A outer s H vs Q E hr h=>?_)
 .cases h,a,ns,rfl,_;rfl
 cases h,a,ns,rfl,hS,_,q;refine#[_,s!"ʭ¯˼ƿɣǀǁǂ͡ʍ¯ʄƿɣǀǁǂ͡ʜ¯ʝ©ɞĠɣġĢģ͡&ˠ^ɴɸ1˴,ʂʹ˧qĔʪʀʵʧ¯ʀIˠ^ɴɸʑ,¯̣̍ʯ̬ʅ&̻4ĄɞĠɣġĢģ͡&̖#ˮ˅ʯɰIʰ¯ɚɹ̩qĔʪʀʵʧ#˖ɪJqĔʪʀʵ̗ɰˊ¯ʄĪɣīĬĭɭˤ̏ɭʎʏ̍ʯ#˄ɰʏ̍ʯ#˄͆'H͢ĮɣįİıʺɋɣɌɍɎʡ˗˅˗$˪ɨ¹IˠƵĤɥʯʎɩ˲¯̣ͩʡʯ̤ͩʡʯɰˊ¯̣̏ɭʎ˅˒̤̏ʡ˒˅˒$˅˒$1H͢Įɣįİıʺɏɣɐɑɒʡ˗̤ĪɣīĬĭɭ̿ɓʷʞʩʿˈ̲ʯ͆ɨ¹IIˊ¯ʄɔɣɕɖɗʦʤ̪͢ĮɣįİıʺǃɣǄǅǆʡ˗˅˗$˪¾͢ĮɣįİıʺǃɣǄǅǆʡ˗˅˗$˪ɨ¹ʼŔĚĤɲ>˱ʤɩ",?_]
 w_up
 calc#[a,ns,1,U,hS,λp0 m Q0 Q1 n1 R1 as1 H1 s1 _ r m4 _ _ _=>?_];let P1:=L2A.of r m4;clear r m4
 w_up
 calc#[a,ns,4,U,s1.seq hS,λq0 q1 Q2 Q3 n2 R2 as2 H2 s2 _ z1 n4 _ _ _=>?_];let P2:=L2A.of z1 n4;clear z1 n4;replace P1:=P1.same s2;replace s1:=s1.trans s2;clear s2
 w_up
 calc#[a,ns,0,U,s1.seq hS,_,U,(),?_];generalize cell ns 0 % 8=wy;let z2:=Q0.up;let hp1:=Q1.up;let u2:=Q2.up;let x2:=Q3.up;clear Q2 Q3;obtain⟨M,hM⟩:∃M:L2.St->Hp->Prop,∀σ Hy,M σ Hy↔∃(R2:Zs)(q0 q1:aa),σ=[W (L a),W (L R1),W (L R2),W (B wy),Zy,Zy,Zy]/\L2A Hy R1 p0 m/\L2A Hy R2 q0 q1/\P34 q0/\P34 q1/\q1≠[]/\Same H Hy:=#[_,λ_ _=>Zj]
 w_up
 room;refine gl M ?_ ?_
 .room;walk
  calc cu (λh=>?_) (λh=>(hM _ _).mpr #[R2,q0,q1,U,P1,P2,u2,x2,n2,s1]);cases id P1,x0,x1,eR,F,I;refine#[#[_,Zw eR],λD nD=>iT (as:=[x0,x1]) (ps:=[p0,m]) (ds:=[p0,m]) nD (Zw eR) (iY F I).ll U ⋯ (λj b p d Hz R' hp hd sz hb hN=>?_) (λX cs Hz sz nX eX lX _ _ _=>(hM _ _).mpr #[X,p0,m,U,P1.same sz,L2A.of eX lX,z2,hp1,n1,s1.trans sz])]
  room;simp![bst]
  rw[hp]at hd
  cases hd
  exact#[_,.inl hb,λl nl=>hN l _ (au nl _) nl ai]
 intro σ Hy hm;cases (hM _ _).mp hm,R2,q0,q1,rfl,P1,P2,u2,x2,n2,s1;clear hm
 w_up
 room;refine gl M ?_ ?_
 .room;walk
  calc cu (λh=>?_) (λh=>(hM _ _).mpr #[R2,q0,q1,U,P1,P2,u2,x2,n2,s1]);cases id P1,x0,x1,eR,F,I;calc#[_,Zw eR,_,U,a,ns,0,U,s1.seq hS,_,U,#[(),()],(),(),λe ne=>?_];obtain⟨c,hc,c1,c4⟩:∃c:Int,2+cell ns 0 / 8 % 3=c/\1<=c/\c<=4:=#[_,rfl,(),()]
  rw[hc];let k:=au ne (Y' [B c]);let ee:=ai (H:=Hy) (a:=e) (o:=.lst [B c]);generalize Zx Hy e (Y' [B c])=H3 at k ee ⊢;let zc:SzP 0 4 [c]:=#[e7 (),((FN.const c).congr λn=>by simp[J]).mono (),(FD.const c).congr λn=>by simp[J]]
  refine pr7 8 3 (z34 z2) zc (k _ _ F) ee () () () () λy0 H4 w2 _ u1=>#[_,Zw (w2 _ _ (k _ _ eR)),_,U,_,U,_,.inl (Zw (w2 _ _ (k _ _ I))),λy1 z4=>#[(),λX nX=>(hM _ _).mpr #[X,ah p0 [c],m,rfl,?_,?_,?_,hp1,n1,?_]]]
  .exact P1.same ((k.trans w2).trans ((au z4 _).trans (au nX _)))
  .exact#[y0,y1,ai,au nX _ _ _ (au z4 _ _ _ u1),au nX _ _ _ ai]
  .exact Q0.sc #[c1,c4] (cQ _ _) λn=>by rw[a8];simp[J];exact cW _ _
  .exact s1.trans ((k.trans w2).trans ((au z4 _).trans (au nX _)))
 intro σ Hz hm;cases (hM _ _).mp hm,R2,q0,q1,rfl,P1,P2,u2,x2,n2,s1;clear hm hM M;cases id P1,x0,x1,r,F,I;obtain⟨y0,y1,z1,u1,y2⟩:=id P2
 w_up
 refine#[#[_,Zw r],λD nD=>iT (as:=[x0,x1]) (ps:=[p0,m]) (ds:=[p0,m]) nD (Zw r) (iY F I).ll U ⋯ (λj b p d Hv R' hp hd sz hb hN=>?_) (λX1 g3 H3 w3 g5 z0 u0 _ _ _=>#[#[_,Zw (w3 _ _ z1)],λD' m5=>iT (as:=[y0,y1]) (ps:=[q0,q1]) (ds:=[q0,q1]) m5 (Zw (w3 _ _ z1)) (iY (w3 _ _ u1) (w3 _ _ y2)).ll U ⋯ (λj b p d Hv R' hp hd sz hb hN=>?_) (λX2 u4 H4 w4 n5 j0 n0 _ _ _=>#[(),λHd x5=>?_])])]
 .room;simp![bst]
  rw[hp]at hd
  cases hd
  exact#[_,.inl hb,λl nl=>hN l _ (au nl _) nl ai]
 .room;simp![bst]
  rw[hp]at hd
  cases hd
  exact#[_,.inl hb,λl nl=>hN l _ (au nl _) nl ai]
 let u:=au x5 (Y' [L X1,L X2]);let y:=ai (H:=H4) (a:=Hd) (o:=.lst [L X1,L X2]);replace z0:=u _ _ (w4 _ _ z0);replace u0:=(u0.same w4).same u;replace j0:=u _ _ j0;replace n0:=n0.same u;let w5:=w3.trans (w4.trans u);generalize Zx H4 Hd (Y' [L X1,L X2])=H5 at w5 y z0 j0 u0 n0 ⊢;replace P1:=P1.same w5;replace P2:=P2.same w5;replace s1:=s1.trans w5;clear w3 w4 w5 u r z1 F I u1 y2 x0 x1 y0 y1 g5 n5 x5;let m3:=z34 z2;let k2:=z34 hp1;let v4:=z34 u2;let y5:=z34 x2;cases id P1,x0,x1,r,F,I;cases id P2,y0,y1,z1,u1,y2;let L0:ah m q1≠[]:=λz=>d9 hp1.1 x2.1 n1 n2 (aZ (bJ _ _) bH λn=>by rw[aG,<-a8,z])
 w_up
 calc#[(),λv nv=>?_];let k:=au nv (Y' []);let ev:=ai (H:=H5) (a:=v) (o:=.lst []);generalize Zx H5 v (Y' [])=H6 at k ev ⊢;calc#[_,Zw (k _ _ r),_,U,_,Zw (k _ _ z1),_,U,pr7 8 8 m3 v4 (k _ _ F) (k _ _ u1) () () () () λm0 H7 w2 _ z5=>ls7 (x:=[]) (SzP.nil 0) (m3.mul v4) (w2 _ _ ev) z5 () λm1 H8 w3 _ z3=>?_];let g2:=k.trans (w2.trans w3);calc#[_,Zw (g2 _ _ r),_,U,_,Zw (g2 _ _ z1),_,U,pr7 8 8 k2 y5 (g2 _ _ I) (g2 _ _ y2) () () () () λm2 H9 w4 _ u3=>#[(),λG nG=>?_]];let u:=au nG (Y' [L m1,L m2]);let eG:=ai (H:=H9) (a:=G) (o:=.lst [L m1,L m2]);replace z3:=u _ _ (w4 _ _ z3);replace u3:=u _ _ u3;let w5:=g2.trans (w4.trans u);generalize Zx H9 G (Y' [L m1,L m2])=x7 at w5 eG z3 u3 ⊢;obtain⟨ds,R,f,th,ch⟩:=L3 (gs:=[cF [] (ah p0 q0),ah m q1]) ⋯ (λg hg=>by
  rcases bV.mp hg with rfl|hg
  .exact#[_,_,(SzP.nil 4).sub (m3.mul v4),(),()]
  .rw[bZ.mp hg];calc#[_,_,k2.mul y5,(),()]) U L0
 let O1:qC [λn=>-(J n p0*J n q0),λn=>J n m*J n q1] ds:=⟨1,_,_,R,f,.inl U,λg hg=>by
  rcases bV.mp hg with rfl|hg
  .exact iX _ _
  .rw[bZ.mp hg];exact cQ _ _,rfl,λi hi n=>by
  rcases (show i=0\/i=1 by simp at hi;lk) with rfl|rfl
  .show J n (cF [] (ah p0 q0))=1 * -(J n p0*J n q0);rw[ga,a8,show J n ([]:aa)=0 from rfl];lk
  .exact (a8 n m q1).trans (cL _).symm,rfl,L0,th⟩
 refine#[G,[m1,m2],_,ds,_,R,f,rfl,Zw eG,(iY z3 u3).ll,rfl,L0,by simp,ch,th,λD db x6 w6 _ eD lD _ _ _=>?_];let w7:=w5.trans w6;replace P1:=P1.same w7;replace P2:=P2.same w7;replace y:=w7 _ _ y;replace z0:=w7 _ _ z0;replace j0:=w7 _ _ j0;replace u0:=u0.same w7;replace n0:=n0.same w7;replace s1:=s1.trans w7;clear k w2 w3 w4 w5 w6 w7 g2 u r z1 F I u1 y2 nv nG ev z5 z3 u3 eG;let sm:=th.small ⋯
 w_up
 calc#[_,Zw y,_,U,_,Zw y,_,U,X1,X2,g3,u4,p0,m,q0,q1,U,z0,u0,j0,n0,#[z2,hp1,u2,x2,n1,n2],λv3 O D' j3 y6 k _ x3 y3 _ _ _=>?_];obtain rfl:=xZ O O1 rfl λ_ _=>rfl;calc#[D',D,j3,db,v3,U,x3,y3,Zw (k _ _ eD),(lD.same k).ll,sm.1,sm.2,λn3 w2=>?_];calc#[K',U,?_];rw[N ()];let C:=k.trans w2;replace P1:=P1.same C;replace P2:=P2.same C;replace y:=C _ _ y;replace z0:=C _ _ z0;replace j0:=C _ _ j0;replace u0:=u0.same C;replace n0:=n0.same C;replace s1:=s1.trans C;clear k w2 C eD x3 lD y3 O O1 sm th ch;obtain⟨M,hM⟩:∃M:L2.St->Hp->Prop,∀σ Hy,M σ Hy↔∃r5 r6:Zk V,σ=[W (L a),W (L R1),W (L R2),W (B wy),W (L Hd),r5,r6]/\Same n3 Hy:=#[_,λ_ _=>Zj]
 obtain⟨x0,x1,r,F,I⟩:=id P1
 w_up
 room;refine gl M ?_ ?_
 .room;walk
  calc#[_,Zw r,_,U,(),λv nv=>?_];let k:=au nv (Y' []);let ev:=ai (H:=n3) (a:=v) (o:=.lst []);generalize Zx n3 v (Y' [])=z6 at k ev ⊢;calc#[_,DV.ints (Zw (k _ _ F)),_,DV.ints (ns:=[]) (Zw ev),jr _,jr [],qr _,?_];rw[qq];calc cu (λh=>?_) (λh=>(hM _ _).mpr #[_,_,U,k]);let u6:p0≠[]:=of_decide_eq_false h;calc#[_,Zw (k _ _ r),_,U,on7 8 m3 (k _ _ F) () () λk0 v6 w2 _ j2=>#[_,Zw (w2 _ _ (k _ _ r)),_,U,on7 8 k2 (w2 _ _ (k _ _ I)) () () λk1 u5 w3 _ v1=>#[(),λY nY=>?_]]];let u:=au nY (Y' [L k0,L k1]);let eY:=ai (H:=u5) (a:=Y) (o:=.lst [L k0,L k1]);replace j2:=u _ _ (w3 _ _ j2);replace v1:=u _ _ v1;replace k:=k.trans (w2.trans (w3.trans u));generalize Zx u5 Y (Y' [L k0,L k1])=v5 at k eY j2 v1 ⊢;clear w2 w3 u nY;calc#[(),λv2 j5=>?_];let u:=au j5 (Y' []);let j4:=ai (H:=v5) (a:=v2) (o:=.lst []);replace j2:=u _ _ j2;replace v1:=u _ _ v1;replace eY:=u _ _ eY;replace k:=k.trans u;generalize Zx v5 v2 (Y' [])=y7 at k eY j2 v1 j4 ⊢;clear u j5;let zk:∀{p:aa},P34 p->SzP 2 252 (aw (bT 1 p)):=λ{p} h=>#[cn _,(h.2.2 1).1.congr λn=>by rw[cx,fD];rfl,(h.2.2 1).2.congr λn=>by rw[cx,fD];rfl]
  let x4:=zk z2;let k3:=zk hp1;calc#[_,Zw eY,_,U,ls7 (x:=[]) (SzP.nil 0) x4 j4 j2 () λg0 z7 w2 _ y4=>#[_,Zw (w2 _ _ eY),_,U,_,Zw (w2 _ _ eY),_,U,ls7 x4 k3 (w2 _ _ j2) (w2 _ _ v1) () λg1 k4 w3 _ k5=>#[_,Zw (w3 _ _ (w2 _ _ eY)),_,U,?_]]];let g4:=w2.trans w3;replace y4:=w3 _ _ y4;replace v1:=g4 _ _ v1;replace k:=k.trans g4;clear w2 w3 g4 eY j4;calc#[(),λG nG=>?_];let u:=au nG (Y' [L g0,L g1,L k1]);let eG:=ai (H:=k4) (a:=G) (o:=.lst [L g0,L g1,L k1]);let lG:LH (Zx k4 G (Y' [L g0,L g1,L k1])) [g0,g1,k1] [cF [] (aw (bT 1 p0)),cF (aw (bT 1 p0)) (aw (bT 1 m)),aw (bT 1 m)]:=(iY (u _ _ y4) (u _ _ k5)).snoc (u _ _ v1);replace k:=k.trans u;generalize Zx k4 G (Y' [L g0,L g1,L k1])=u7 at k eG lG ⊢;clear u nG y4 k5 v1 j2;let zs:∀g∈[cF [] (aw (bT 1 p0)),cF (aw (bT 1 p0)) (aw (bT 1 m)),aw (bT 1 m)],SzP 2 504 g:=λg hg=>by
   simp only[bV,iZ,Yi]at hg;rcases hg with rfl|rfl|rfl
   .let z:=(SzP.nil 2).sub x4;exact#[z.1,z.2.1.mono (),z.2.2]
   .exact x4.sub k3
   .exact#[k3.1,k3.2.1.mono (),k3.2.2]
  let l0:ah (aw (bT 1 m)) m≠[]:=λz=>d9 (cn _) hp1.1 (Eh hp1.1 n1 1) n1 (aZ (bJ _ _) bH λn=>by rw[aG,<-a8,z]);obtain⟨ds,R,f,th,ch⟩:=L3 (gs:=[ah (cF [] (aw (bT 1 p0))) m,ah (cF (aw (bT 1 p0)) (aw (bT 1 m))) m,ah (aw (bT 1 m)) m]) ⋯ (λg hg=>by
   simp only[bV,iZ,Yi]at hg;rcases hg with rfl|rfl|rfl
   .exact#[_,_,(zs _ ⋯).mul k2,(),()]
   .exact#[_,_,(zs _ ⋯).mul k2,(),()]
   .calc#[_,_,(zs _ ⋯).mul k2,(),()]) U l0
  let O1:qC [λn=>J n m * -J (n+1) p0,λn=>J n m*(J (n+1) p0-J (n+1) m),λn=>J n m*J (n+1) m] ds:=⟨1,_,_,R,f,.inl U,λg hg=>by
   simp only[bV,iZ,Yi]at hg;rcases hg with rfl|rfl|rfl <;> exact cQ _ _,rfl,λi hi n=>by
   rcases (show i=0\/i=1\/i=2 by simp at hi;lk) with rfl|rfl|rfl
   .show J n (ah (cF [] (aw (bT 1 p0))) m)=1*(J n m * -J (n+1) p0);rw[a8,ga,cx,fD,show J n ([]:aa)=0 from rfl,cL,Int.zero_sub,cW]
   .show J n (ah (cF (aw (bT 1 p0)) (aw (bT 1 m))) m)=1*(J n m*(J (n+1) p0-J (n+1) m));rw[a8,ga,cx,fD,cx,fD,cL,cW]
   .show J n (ah (aw (bT 1 m)) m)=1*(J n m*J (n+1) m);rw[a8,cx,fD,cL,cW],rfl,l0,th⟩
  let sm:=th.small ⋯;refine#[_,Zw (k _ _ y),_,U,X1,g3,p0,m,U,k _ _ z0,u0.same k,z2,hp1,u6,n1,λv3 O D' j3 v7 w2 _ x3 y3 _ _ _=>#[#[_,Zw (w2 _ _ eG)],λD2 j6=>iT (as:=[g0,g1,k1]) (ps:=[cF [] (aw (bT 1 p0)),cF (aw (bT 1 p0)) (aw (bT 1 m)),aw (bT 1 m)]) (ds:=[ah (cF [] (aw (bT 1 p0))) m,ah (cF (aw (bT 1 p0)) (aw (bT 1 m))) m,ah (aw (bT 1 m)) m]) j6 (Zw (w2 _ _ eG)) (lG.same w2).ll U ⋯ (λj b p d Hv R' hp hd sz hb hN=>?_) (λZ zb j7 w3 _ eZ lZ _ _ _=>#[Z,zb,_,ds,_,R,f,U,Zw eZ,lZ.ll,U,l0,by simp,ch,th,λD db k7 w4 _ eD lD _ _ _=>?_])]]
  .room;simp![bst]
   let w5:=k.trans (w2.trans sz);let ed:d=ah p m:=by
    let hi:=(a_.mp hp).1;rcases (show j=0\/j=1\/j=2 by simp at hi;lk) with rfl|rfl|rfl <;> (cases hp;cases hd;rfl)
   let z:=zs p (cH hp);refine#[_,U,_,U,_,Zw (w5 _ _ r),_,U,b,x1,p,m,9,8,U,hb,Zw (w5 _ _ I),by let:=z.len;lk,by let:=k2.len;lk,z.bd 9 (),k2.bd 8 (),(),λwq nw _ hc=>?_];rw[show wq=d by rw[ed];exact gq nw (cQ _ _) λj=>by rw[hc,fg]];exact hN
  .obtain rfl:=xZ O O1 rfl λ_ _=>rfl;let j1:=w3.trans w4;calc#[D',D,j3,db,v3,U,j1 _ _ x3,y3.same j1,Zw eD,lD.ll,sm.1,sm.2,λg7 w5=>#[K',U,?_]];rw[N ()];exact (hM _ _).mpr #[_,_,U,k.trans (w2.trans (j1.trans w5))]
 intro σ Hy hm;cases (hM _ _).mp hm,r5,r6,rfl,k;replace P1:=P1.same k;replace P2:=P2.same k;replace y:=k _ _ y;replace z0:=k _ _ z0;replace j0:=k _ _ j0;replace u0:=u0.same k;replace n0:=n0.same k;replace s1:=s1.trans k;clear hm hM M k r F I;cases id P1,x0,x1,r,F,I;obtain⟨y0,y1,z1,u1,y2⟩:=id P2
 w_up
 calc#[R1,R2,x0,x1,y0,y1,p0,m,q0,q1,U,r,F,I,z1,u1,y2,#[z2,hp1,u2,x2,n1,n2],λds LP D db x6 w7 _ eD lD _ _ _=>?_];replace P1:=P1.same w7;replace P2:=P2.same w7;replace y:=w7 _ _ y;replace z0:=w7 _ _ z0;replace j0:=w7 _ _ j0;replace u0:=u0.same w7;replace n0:=n0.same w7;replace s1:=s1.trans w7;let sm:=LP.small;clear w7 r F I z1 u1 y2
 w_up
 calc#[_,Zw y,_,U,_,Zw y,_,U,X1,X2,g3,u4,p0,m,q0,q1,U,z0,u0,j0,n0,#[z2,hp1,u2,x2,n1,n2],λv3 O D' j3 y6 k _ x3 y3 _ _ _=>?_];obtain rfl:=LV O LP;calc#[D',D,j3,db,v3,U,x3,y3,Zw (k _ _ eD),(lD.same k).ll,sm.1,sm.2,λn3 w2=>?_];calc#[K',U,?_];rw[N ()];let C:=k.trans w2;replace P1:=P1.same C;replace P2:=P2.same C;replace y:=C _ _ y;replace z0:=C _ _ z0;replace j0:=C _ _ j0;replace u0:=u0.same C;replace n0:=n0.same C;replace eD:=C _ _ eD;replace lD:=lD.same C;calc#[_,Zw y,_,U,_,Zw y,_,U,X2,X1,u4,g3,q0,q1,p0,m,U,j0,n0,z0,u0,#[u2,x2,z2,hp1,n2,n1],λm7 O2 D2 k6 z6 w3 _ g6 m6 _ _ _=>?_];let e2:=LV (Ve O2) LP;subst e2;calc#[D2,D,k6,db,_,U,g6,m6,Zw (w3 _ _ eD),(lD.same w3).ll,sm.1,sm.2,λv6 w4=>#[K',U,?_]];rw[N ()];let j1:=w3.trans w4;cases P1.same j1,x0,x1,r,F,I;cases P2.same j1,y0,y1,z1,u1,y2;calc#[(),λp np=>Vj (as1:=[x0,x1]) (as2:=[y0,y1]) np (j1 _ _ y) (j1 _ _ z0) (u0.same j1) (j1 _ _ j0) (n0.same j1) r (iY F I) z1 (iY u1 y2) q]
def Vl {P:G Zr->Prop}(p:∀a,P [a])(us:G Zr)(h:us.9=1):P us:=by
 cases ko h,a,b,rfl;rw[b7 (ZX h)];calc p _
def Vm {P:G Zr->Prop}(p:∀a b,P [a,b])(us:G Zr)(h:us.9=2):P us:=by
 cases ko h,a,c,rfl;cases ko (ZX h),b,d,rfl;rw[b7 (ZX (ZX h))];calc p _ _
def Vn {P:G Zr->Prop}(p:∀a b c,P [a,b,c])(us:G Zr)(h:us.9=3):P us:=by
 cases ko h,a,d,rfl;cases ko (ZX h),b,e,rfl;cases ko (ZX (ZX h)),c,f,rfl;rw[b7 (ZX (ZX (ZX h)))];calc p _ _ _
def Vo {P:G Zr->Prop}(p:∀a b c d,P [a,b,c,d])(us:G Zr)(h:us.9=4):P us:=by
 cases ko h,a,e,rfl;cases ko (ZX h),b,f,rfl;cases ko (ZX (ZX h)),c,i,rfl;cases ko (ZX (ZX (ZX h))),d,j,rfl;rw[b7 (ZX (ZX (ZX (ZX h))))];calc p _ _ _ _
local macro_rules | `(tactic| o_law)=>`(tactic| (intro _ _ _ _ _ _;first|(refine Vl ?_;intros;rfl)|(refine Vm ?_;intros;rfl)|(refine Vn ?_;intros;rfl)|(refine Vo ?_;intros;rfl)))
abbrev fdK (x q:Str) (st:YD) (pm:Zr) (c:O):FuncData:=Yc x q (o_ st) (nH st) (bO st) .none .none .none pm Zy (.ref c) .none
abbrev FU (P:ZZ) (x q:Str) (st:YD) (f:Zs) (pm:Zr) (c:O):Prop:=Fun (KK P) x q st f (fdK x q st pm c)
def fuk {P:ZZ}{st:YD}{pm:Zr}{c:O}(l:(KK P).lookup f=W #[.type "function",Zy,.func (fdK x q st pm c),(Zi [])]:=by kernel_rfl)(h:Y3 (KK P) (.ref c) q=K':=by kernel_rfl)(k:Z6 (KK P) (.ref f)=K':=by kernel_rfl):FU P x q st f pm c:=P8 l h k
abbrev pm0:Value:=.str "sumcraft.polys" 255
abbrev pm1:Value:=.str "sumcraft.ratios" 332
abbrev pm2:Value:=.str "sumcraft.reaches" 367
abbrev pm3:Value:=.str "sumcraft.rules" 440
abbrev pm4:Value:=.str "sumcraft.coords" 450
abbrev pm5:Value:=.str "sumcraft.spans" 464
abbrev pm6:Value:=.str "sumcraft.joins" 621
abbrev pm7:Value:=.str "law_sumcraft_k34_rules_of_order_one" 692
def kf0 (P:ZZ):FU P "trimmed" "trimmed" yz 70 pm0 69:=fuk
def kf1 (P:ZZ):FU P "poly_plus" "poly_plus" yB 77 pm0 76:=fuk
def kf2 (P:ZZ):FU P "poly_less" "poly_less" yC 82 pm0 81:=fuk
def kf3 (P:ZZ):FU P "poly_times" "poly_times" yD 89 pm0 88:=fuk
def kf4 (P:ZZ):FU P "shifted" "shifted" yE 96 pm0 95:=fuk
def kf5 (P:ZZ):FU P "poly_value" "poly_value" yF 103 pm0 102:=fuk
def kf6 (P:ZZ):FU P "quotient" "quotient" yG 110 pm0 109:=fuk
def kf7 (P:ZZ):FU P "shortened" "shortened" yH 117 pm1 116:=fuk
def kf8 (P:ZZ):FU P "divisor" "divisor" yI 124 pm1 123:=fuk
def kf9 (P:ZZ):FU P "content" "content" yJ 131 pm2 130:=fuk
def L4 (P:ZZ):FU P "over" "over" yK 136 pm2 135:=fuk
def L5 (P:ZZ):FU P "upright" "upright" yL 141 pm2 140:=fuk
def L6 (P:ZZ):FU P "spread" "spread" yM 148 pm2 147:=fuk
def L7 (P:ZZ):FU P "greatest_size" "greatest_size" yN 153 pm2 152:=fuk
def L8 (P:ZZ):FU P "bare_common" "bare_common" yO 160 pm2 159:=fuk
def L9 (P:ZZ):FU P "common" "common" yP 165 pm2 164:=fuk
def L_ (P:ZZ):FU P "common_of" "common_of" yQ 172 pm2 171:=fuk
def Mc (P:ZZ):FU P "clear" "clear" yS 179 pm2 178:=fuk
def Md (P:ZZ):FU P "order_of" "order_of" yT 186 pm3 185:=fuk
def Me (P:ZZ):FU P "further" "further" yU 191 pm4 190:=fuk
def Mf (P:ZZ):FU P "coords" "coords" yV 196 pm4 195:=fuk
def Mg (P:ZZ):FU P "lowered" "lowered" yW 201 pm5 200:=fuk
def Mh (P:ZZ):FU P "through" "through" yX 208 pm5 207:=fuk
def Mi (P:ZZ):FU P "greatest_degree" "greatest_degree" yY 213 pm5 212:=fuk
def Mj (P:ZZ):FU P "degree_bound" "degree_bound" yZ 218 pm5 217:=fuk
def Ml (P:ZZ):FU P "cleared" "cleared" y_ 223 pm5 222:=fuk
def Mm (P:ZZ):FU P "relation" "relation" za 306 pm5 305:=fuk
def Mn (P:ZZ):FU P "check_work" "check_work" zd 311 pm6 310:=fuk
def Mo (P:ZZ):FU P "thinned" "thinned" ze 316 pm6 315:=fuk
def Mp (P:ZZ):FU P "joined" "joined" zf 321 pm6 320:=fuk
def Mq (P:ZZ):FU P "of_two" "of_two" zh 328 pm6 327:=fuk
def Mr (P:ZZ):FU P "plus_vector" "plus_vector" zi 333 pm6 332:=fuk
def Mt (P:ZZ):FU P "times_vector" "times_vector" zj 338 pm6 337:=fuk
def Mu (P:ZZ):FU P "plus_rule" "plus_rule" zl 345 pm6 344:=fuk
def Mv (P:ZZ):FU P "times_rule" "times_rule" zm 352 pm6 351:=fuk
def Mw (P:ZZ):FU P "summed_rule" "summed_rule" zn 357 pm6 356:=fuk
def Mz (P:ZZ):FU P "_law_cell_at" "_law_cell_at" zo 364 pm7 363:=fuk
def MC (P:ZZ):FU P "_law_cut" "_law_cut" zp 371 pm7 370:=fuk
def MD (P:ZZ):FU P "_law_product" "_law_product" zq 378 pm7 377:=fuk
def ME (P:ZZ):FU P "_law_less" "_law_less" zr 385 pm7 384:=fuk
def MF (P:ZZ):FU P "_law_on" "_law_on" zt 392 pm7 391:=fuk
def MG (P:ZZ):FU P "_law_divisor" "_law_divisor" zu 399 pm7 398:=fuk
def MH (P:ZZ):FU P "_law_content" "_law_content" zw 406 pm7 405:=fuk
def MI (P:ZZ):FU P "_law_primitive" "_law_primitive" zx 411 pm7 410:=fuk
def MJ (P:ZZ):FU P "_law_common" "_law_common" zA 418 pm7 417:=fuk
def MK (P:ZZ):FU P "_law_common_of" "_law_common_of" zB 425 pm7 424:=fuk
def ML (P:ZZ):FU P "_law_by" "_law_by" zC 432 pm7 431:=fuk
def MN (P:ZZ):FU P "_law_thinned" "_law_thinned" zD 437 pm7 436:=fuk
def MO (P:ZZ):FU P "_law_rule" "_law_rule" zE 442 pm7 441:=fuk
def MQ (P:ZZ):FU P "_law_plus" "_law_plus" zG 447 pm7 446:=fuk
def MR (P:ZZ):FU P "_law_is" "_law_is" zH 454 pm7 453:=fuk
def MS (P:ZZ):FU P "law" "law" zI 459 pm7 458:=fuk
def MT (P:ZZ):FU P "__init__" "Span.__init__" zJ 237 pm5 236:=fuk
def MU (P:ZZ):FU P "row_at" "Span.row_at" zK 242 pm5 241:=fuk
def MV (P:ZZ):FU P "table_at" "Span.table_at" zN 249 pm5 248:=fuk
def MW (P:ZZ):FU P "lowered_at" "Span.lowered_at" zO 256 pm5 255:=fuk
def MX (P:ZZ):FU P "only_choice" "Span.only_choice" zP 261 pm5 260:=fuk
def MY (P:ZZ):FU P "failing_column" "Span.failing_column" zQ 268 pm5 267:=fuk
def MZ (P:ZZ):FU P "keep" "Span.keep" zS 275 pm5 274:=fuk
def M4 (P:ZZ):FU P "by_few" "Span.by_few" zT 280 pm5 279:=fuk
def M6 (P:ZZ):FU P "take" "Span.take" zX 285 pm5 284:=fuk
def M9 (P:ZZ):FU P "apart" "Span.apart" ER 292 pm5 291:=fuk
def Vp {l:zcc}{YP:ZW->ZN->Prop}{d:DefRec}{K:ZZ->ao}(j:l.most=W 63)(c:d.params.defaults=[])(m:∀(w:ZW)(h:ZN),YP w h->(K w.params).In h)(F:∀(w:ZW)(mg:ck)(b:Zs)(h:ZN),(K w.params).In h->h.Ns Z0 mg->mg d.name=W (.ref b)->
   ∃C:Tx (K w.params) mg,C.WY.ax=b/\∀(s:Zp)(v:Zr),zbp s C.WY.dx #[[v],[]] [("_law_script",v)]):
  zcz q loose XP YP l.row.toRowW d [] (λf o=>zb5 f o):=
 L2.P6 (n:=63) (k:=30) (x := "_law_script") (CX:=λ_=>CX0) (sp:=λw=>LZ (K w.params)) j () c #[U,(),()] m
  (λw mg b h KX E i=>by
   cases F w mg b h KX E i,C,e,r;subst e;calc#[C.WY.dx,r,λbase _ _=>FnOk.mono (Vk C) ()])
  (λ_ H a ns u _ y=>#[a,ns,U,y,u,λ_=>U]) λ_ _ _ _ _ z=>z
def facts (w:ZW)(mg:ck)(d:Zs)(h:ZN)(KX:(KK w.params).In h)(G:h.Ns Z0 mg)(c:mg "law" = W (.ref d)):
  ∃j:Tx (KK w.params) mg,j.WY.ax=d/\∀(s:Zp)(v:Zr),zbp s j.WY.dx #[[v],[]] [("_law_script",v)]:=by
 let a:∀{x:Str}{f:Zs},za6 (KK w.params) Z0 x=W (W (.ref f))->mg x=W (.ref f):=λe=>zcy KX G e;let mi:∀{x:Str}{i:Y}{t:Tok},za6 (KK w.params) Z0 x=W (W (.int i t))->mg x=W (.int i t):=λe=>zcy KX G e;let b:∀{x:Str},za6 (KK w.params) Z0 x=W Zy->mg x=Zy:=λe=>PySem.W.mg_none_of KX G e;let e:=c.symm.trans (a (f:=459) ∅)
 cases e
 calc#[#[#[_,_,kf0 _,a ∅,(kf0 _).binds (by o_law)],#[_,_,kf1 _,a ∅,(kf1 _).binds (by o_law)],#[_,_,kf2 _,a ∅,(kf2 _).binds (by o_law)],#[_,_,kf3 _,a ∅,(kf3 _).binds (by o_law)],#[_,_,kf4 _,a ∅,(kf4 _).binds (by o_law)],#[_,_,kf5 _,a ∅,(kf5 _).binds (by o_law)],#[_,_,kf6 _,a ∅,(kf6 _).binds (by o_law)],#[_,_,kf7 _,a ∅,(kf7 _).binds (by o_law)],#[_,_,kf8 _,a ∅,(kf8 _).binds (by o_law)],#[_,_,kf9 _,a ∅,(kf9 _).binds (by o_law)],#[_,_,L4 _,a ∅,(L4 _).binds (by o_law)],#[_,_,L5 _,a ∅,(L5 _).binds (by o_law)],#[_,_,L6 _,a ∅,(L6 _).binds (by o_law)],#[_,_,L7 _,a ∅,(L7 _).binds (by o_law)],#[_,_,L8 _,a ∅,(L8 _).binds (by o_law)],#[_,_,L9 _,a ∅,(L9 _).binds (by o_law)],#[_,_,L_ _,a ∅,(L_ _).binds (by o_law)],#[_,_,Mc _,a ∅,(Mc _).binds (by o_law)],#[_,_,Md _,a ∅,(Md _).binds (by o_law)],#[_,_,Me _,a ∅,(Me _).binds (by o_law)],#[_,_,Mf _,a ∅,(Mf _).binds (by o_law)],#[_,_,Mg _,a ∅,(Mg _).binds (by o_law)],#[_,_,Mh _,a ∅,(Mh _).binds (by o_law)],#[_,_,Mi _,a ∅,(Mi _).binds (by o_law)],#[_,_,Mj _,a ∅,(Mj _).binds (by o_law)],#[_,_,Ml _,a ∅,(Ml _).binds (by o_law)],#[_,_,Mm _,a ∅,(Mm _).binds (by o_law)],#[_,_,Mn _,a ∅,(Mn _).binds (by o_law)],#[_,_,Mo _,a ∅,(Mo _).binds (by o_law)],#[_,_,Mp _,a ∅,(Mp _).binds (by o_law)],#[_,_,Mq _,a ∅,(Mq _).binds (by o_law)],#[_,_,Mr _,a ∅,(Mr _).binds (by o_law)],#[_,_,Mt _,a ∅,(Mt _).binds (by o_law)],#[_,_,Mu _,a ∅,(Mu _).binds (by o_law)],#[_,_,Mv _,a ∅,(Mv _).binds (by o_law)],#[_,_,Mw _,a ∅,(Mw _).binds (by o_law)],#[_,_,Mz _,a ∅,(Mz _).binds (by o_law)],#[_,_,MC _,a ∅,(MC _).binds (by o_law)],#[_,_,MD _,a ∅,(MD _).binds (by o_law)],#[_,_,ME _,a ∅,(ME _).binds (by o_law)],#[_,_,MF _,a ∅,(MF _).binds (by o_law)],#[_,_,MG _,a ∅,(MG _).binds (by o_law)],#[_,_,MH _,a ∅,(MH _).binds (by o_law)],#[_,_,MI _,a ∅,(MI _).binds (by o_law)],#[_,_,MJ _,a ∅,(MJ _).binds (by o_law)],#[_,_,MK _,a ∅,(MK _).binds (by o_law)],#[_,_,ML _,a ∅,(ML _).binds (by o_law)],#[_,_,MN _,a ∅,(MN _).binds (by o_law)],#[_,_,MO _,a ∅,(MO _).binds (by o_law)],#[_,_,MQ _,a ∅,(MQ _).binds (by o_law)],#[_,_,MR _,a ∅,(MR _).binds (by o_law)],#[_,_,MS _,a ∅,(MS _).binds (by o_law)],#[_,_,MT _,(MT _).binds (by o_law)],#[_,_,MU _,(MU _).binds (by o_law)],#[_,_,MV _,(MV _).binds (by o_law)],#[_,_,MW _,(MW _).binds (by o_law)],#[_,_,MX _,(MX _).binds (by o_law)],#[_,_,MY _,(MY _).binds (by o_law)],#[_,_,MZ _,(MZ _).binds (by o_law)],#[_,_,M4 _,(M4 _).binds (by o_law)],#[_,_,M6 _,(M6 _).binds (by o_law)],#[_,_,M9 _,(M9 _).binds (by o_law)],295,a ∅,#[∅,∅,∅,∅],#[∅,∅,∅,∅],#[∅,∅,∅],#[∅,∅,∅],#[∅,∅,∅],#[∅,∅,∅],#[∅,∅,∅],#[∅,∅,∅],#[∅,∅,∅],#[∅,∅,∅],#[∅,∅,∅],by show ZT _ _ _=_;kernel_rfl,by show ZT _ _ _=_;kernel_rfl,by show ZT _ _ _=_;kernel_rfl,by show ZT _ _ _=_;kernel_rfl,by show ZT _ _ _=_;kernel_rfl,b ∅,b ∅,b ∅,b ∅,b ∅,b ∅,b ∅,b ∅,b ∅,b ∅,b ∅,b ∅,b ∅,#[336,mi ∅],#[334,mi ∅],#[623,mi ∅],#[466,mi ∅]],rfl,λs v=>.of_eq U]
end My
open PySem PySem.W PyProof.Rows
set_option maxRecDepth 100000 in
theorem PySem.Challenge.cw_sumcraft_k34_rules_of_order_one_holds : PySem.Challenge.rw_sumcraft_k34_rules_of_order_one.Holds := by
 refine holds_law My.Ow λa=>?_;refine holds_open (r:=PySem.Challenge.rw_sumcraft_k34_rules_of_order_one.row)
  (q:=My.qv) (loose:=[]) (Xt:=My.xt)
  (XP:=XL My.qv []) (Yf:=My.hk.obs) (Ya:=My.hk.val)
  (YP:=My.hk.says) (N:=6116)
  My.left My.hk.of My.hk.keeps
  (λs e=>xl_of s (Bool.and_eq_true_iff.mp e).1)
  XL.keeps (by rfl) (by rfl) (by rfl)
  (λs e=>recFacts_of (Bool.and_eq_true_iff.mp e).2)
  (by rfl) a (by decide +kernel)
  My.Ox ?wit ?go
 case wit=>w_witness2
 case go=>exact My.Vp (l:=PySem.Challenge.rw_sumcraft_k34_rules_of_order_one) rfl rfl (λw h b=>kIn_of b) My.facts
