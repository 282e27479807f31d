import PyProof.Rows.All
import Wide.All
import OpenK.AllK
import Wide.FinOn
import Lean
import PyProof.EqAt
import PyProof.EqKinds
import PyProof.TupleCall
import PySem.Challenge.RW_sumcraft_k32_sums_and_products_keep
set_option Elab.async false
set_option linter.all false
set_option maxRecDepth 100000
set_option maxHeartbeats 4000000
local macro_rules | `(∅) => `(by kernel_rfl)
local macro_rules | `(⇑$x) => `(by simpa using $x)
local macro_rules | `(tactic| simp! [$x,*]) => `(tactic| (iterate 3 (k_units; (try simp only [$x,*])); k_units))
local macro_rules | `(#v[$x,*]) => do
  let y := x.getElems.back!
  let r : Array (Lean.TSyntax `Lean.Parser.Tactic.rwRule) ← x.getElems.pop.mapM fun e => if e.raw[0].getAtomVal == "<-" then let z : Lean.Term := ⟨e.raw[1][0]⟩; `(Lean.Parser.Tactic.rwRule| ← $z:term) else `(Lean.Parser.Tactic.rwRule| $e:term)
  `(by rw [$r,*]; exact $y)
namespace Dc
open Lean
def tb : String := "rfl0 pv1 _0 ab2 ae0 ag0 Or.inl1 aj2 #00 :i1 ap3 #20 #10 ()0 av5 aw1 FnOk.mono2 .nil0 aD0 T0 #30 aG4 ^21 _0 aH9 #40 aT5 aS1 aY1 a_4 hr0 bE0 #50 T.T40 bI0 #60 bJ0 PassesOwn.never0 cj3 ce0 cn0 cy1 cm4 ^41 cD0 cF0 cK2 cM0 cL0 #70 cZ5 dc0 cV1 <2 df0 dq3 dF2 :K1 K0 dQ2 _0 eH8 fe0 T.T90 fj0 #90 fH4 fC1 #80 fE0 Z0 PW.pt1 Or.inr1 gm0 gl3 PySem.F.plainAttrs_list0 f72 gI2 gH6 gG9 T.T50 gF1 #100 gr.nd0 gM.nd0 gT1 gO.nd0 ib3 ic0 PySem.F.slot_list_append0 PySem.F.type_list_append0 _0 gY0 _0 ip2 T.Up0 iB0 :v1 iA0 iQ2 iV1 T.T7.mx0 T.T7.Fx.kp0 T.T7.bx0 iS0 n0 iR1 ji2 jh1 jj5 jk0 jl8 jM0 jH1 jN0 jT3 T.UD0 jt.nd0 js.nd0 d0 F0 ju.nd0 #110 jK2 jJ0 jX.nd0 kz4 kH0 T.UI0 kO0 kF0 o0 jv.nd0 jW.nd0 kG4 jY.nd0 kK0 kU.nd0 T.U40 kW.nd0 kX.nd0 mQ1 T.T8.mx0 T.T8.Fx.kp0 T.T8.bx0 nV4 n_0 nN0 nQ1 mu.nd0 ot3 oq7 oo0 nL3 .int1 mn0 oR2 T.U80 oh0 my.nd0 nI0 o91 T.T_.mx0 T.T_.Fx.kp0 T.T_.bx0 mv.nd0 mw.nd0 sU3 T.U_0 qM6 sR0 qN0 uA1 T.Ub.mx0 T.Ub.Fx.kp0 T.Ub.bx0 qY3 qL2 qJ3 u0 qR0 qV5 qH0 oJ.nd0 oM.nd0 uI1 T.Uc.mx0 T.Uc.Fx.kp0 T.Uc.bx0 uF1 T.Ua.mx0 T.Ua.Fx.kp0 T.Ua.bx0 qZ0 T.Va0 sK0 qG5 .ty1 oN.nd0 vk1 T.Ud.mx0 T.Ud.Fx.kp0 T.Ud.bx0 vm1 T.Ue.mx0 T.Ue.Fx.kp0 T.Ue.bx0 #120 Ab6 Ac0 uk.nd0 Aq0 Bj1 T.Uf.mx0 T.Uf.Fx.kp0 T.Uf.bx0 AJ8 um.nd0 'number0 zX3 Bt1 T.Uh.mx0 T.Uh.Fx.kp0 T.Uh.bx0 AI3 Bu3 Af1 uz.nd0 uo.nd0 Bw1 T.Ui.mx0 T.Ui.Fx.kp0 T.Ui.bx0 AE1 Bx1 T.Uj.mx0 T.Uj.Fx.kp0 T.Uj.bx0 uq.nd0 'shared0 ur.nd0 T.Vb0 T.Uq.bx0 Bs2 uv.nd0 ul.nd0 BX1 T.Ug.mx0 T.Ug.Fx.kp0 T.Ug.bx0 uu.nd0 uw.nd0 x0 uy.nd0 ux.nd0 Ax1 B81 T.Uk.mx0 T.Uk.Fx.kp0 T.Uk.bx0 Ba.nd0 FQ3 T.Vk0 EW1 G82 F98 Hq1 T.Uw.mx0 T.Uw.Fx.kp0 T.Uw.bx0 Bb.nd0 F51 T.Vl0 boot_sum0 FX1 Hk1 T.Uv.mx0 T.Uv.Fx.kp0 T.Uv.bx0 T.Vf0 Ho1 T.UZ.bx0 T.Vg0 Hr1 T.U1.bx0 PySem.F.plainAttrs_int0 PySem.F.slot_int_bit_length0 PySem.F.type_int_bit_length0 FL0 #3000 T.Vm.20 EN0 ET0 EM0 HE1 T.Us.mx0 T.Us.Fx.kp0 T.Us.bx0 HD1 T.Ur.mx0 T.Ur.Fx.kp0 T.Ur.bx0 G0 Bc.nd0 HR1 T.Ut.mx0 T.Ut.Fx.kp0 T.Ut.bx0 T.Vh0 Hs1 T.U2.bx0 Fe9 T.Ve0 Hn1 T.Vd0 T.UY.bx0 T.Vi0 Hu1 T.U3.bx0 FZ4 Ew1 Be.nd0 Bf.nd0 I_1 T.Uu.mx0 T.Uu.Fx.kp0 T.Uu.bx0 T.Ux.mx0 T.Ux.Fx.kp0 T.Ux.bx0 .ref1 Bg.nd0 Jm1 T.Uy.mx0 T.Uy.Fx.kp0 T.Uy.bx0 'list0 Jp1 T.Uz.mx0 T.Uz.Fx.kp0 T.Uz.bx0 JB1 T.UA.mx0 T.UA.Fx.kp0 T.UA.bx0 J21 T.Um.mx0 T.Um.Fx.kp0 T.Um.bx0 Jz1 T.UB.mx0 T.UB.Fx.kp0 T.UB.bx0 J31 T.Uo.mx0 T.Uo.Fx.kp0 T.Uo.bx0 M0 MH3 'pivot0 'factor0 'before0 #970 T.Vw.20 NX0 GU.nd0 'place0 Og5 Nc2 Nb0 'columns0 'vector0 'vectors0 'column0 PySem.F.plainAttrs_dict0 PySem.F.slot_dict_setdefault0 PySem.F.type_dict_setdefault0 Os0 GW.nd0 Nm0 !u0 MD0 MZ3 M40 MQ0 #40000 T.Vu.20 Qj1 S0 T.UK.mx0 T.UK.Fx.kp0 T.UK.bx0 Qq1 T.UL.mx0 T.UL.Fx.kp0 T.UL.bx0 Qu1 T.UM.mx0 T.UM.Fx.kp0 T.UM.bx0 Qv1 T.UN.mx0 T.UN.Fx.kp0 T.UN.bx0 P91 T.UR.mx0 T.UR.Fx.kp0 T.UR.bx0 QF1 T.US.mx0 T.US.Fx.kp0 T.US.bx0 Oo4 'places0 'marks0 P31 T.UQ.mx0 T.UQ.Fx.kp0 T.UQ.bx0 Oc9 'row0 'self0 Op4 T.Vr0 T.U7.bx0 T.Vo0 QK1 T.U5.bx0 T.Vp0 Qf1 T.U6.bx0 GS.nd0 'rule0 'weight0 PX1 T.UJ.mx0 T.UJ.Fx.kp0 T.UJ.bx0 'start0 RV1 T.UP.mx0 T.UP.Fx.kp0 T.UP.bx0 GR.nd0 MB2 MR0 #320 T.Vv.20 R61 T.UO.mx0 T.UO.Fx.kp0 T.UO.bx0 GT.nd0 T.UT.mx0 T.UT.Fx.kp0 T.UT.bx0 Sb1 T.UV.mx0 T.UV.Fx.kp0 T.UV.bx0 'right0 'left0 PySem.F.slot_list_extend0 PySem.F.type_list_extend0 Np0 'top0 R91 T.UU.mx0 T.UU.Fx.kp0 T.UU.bx0 Oq8 Fd0 kd0 bd0 T.UW.mx0 T.UW.Fx.kp0 T.UW.bx0 T.UE.ax0 T.UE.mx0 T.UF.ax0 T.UF.mx0 X.units0 PySem.F.slot_list_pop0 PySem.F.type_list_pop0 Nq0 '_law_m0 Su1 T.UX.mx0 T.UX.Fx.kp0 T.UX.bx0 hr.units0 'int0 T.Vt0 NH0 'bool0 T.Vs0 NI0 MA2 '_law_script0 '_law_start0 PySem.F.slot_list_clear0 PySem.F.type_list_clear0 Nr0 Z.units0"
def rl : String := "#! &Ȼ .)12!('Ƚ3-6 80ȾȺ/;<7%ɂ!,!+5?Ɂ> AɌB:DɎɍɋ %Ɇ#*!4ɏȺ($#%J)!9 L,$ȼ*NOREɝ U7ɟ +$  5V WȾ#*MȼɃ'ɞɄ( XȻȼɫɠɖ$YZF=ɀ+!C/Ƚ[ȿɳ STɮ -ɬɪəȺɚI$ _ɜɇbɤ!@ɀ4ɸ]Ɂfʁ *HȺɕɊȿ hʆ ɒPKɃ!QɒH%$ɔɕ$ɅȺɡjɻɀ9GɅ=^lɗFgȺ4'ɯ!aəɵɴ$cnʛkwEȼ%ʜyʟzʠ|#Ƀ5~ʣɶ*e¡¢ɑɅɀCȺ9%%ɷɵ#ʚoȿʭpɄ,!r@$Ɉɇɽʙ'ʕ*PɊɉ§¨ʷ©ɨʐ*ªqɖʻɭɁ«ʽ ¬uʰɂɀ,'ʝɔɚɔɡɗ4ɀ@ȼɺ¦ɐˈʸ±)ɽʀ`ɆȺCˍ$Ʉ+Ʉɕ­= ʦɅɃȼ/µ ˕¶ȿɈ'ˊɷSʖ$˂=ɣʊ˜ɇʅɼɁ¹˟ º-ʥʺ#ʼɣɉˤɇɊʘɑ®½ ˨ʔȼʔȼ¾ɄɡɈKʴ¥#ɜʌɗɥɃɀQɛPÀ£ɩɹ'ʡɛHtȼ:Á˹ ˺Â˻ÃɨTÅ mɯɄɚʿɃȿɇʤʲˑi¯Ê̅˒Iɭ#ʳ%˯ɘɂɓɂ˖Ⱥɲ+ɢÌˌɅɀd!d·ȼɛeɲ,ȺʱɒMÐÑ̗Ò¤GvɧÓÔ˫/ɉɓ Ø˴Üɤʀ˙ʐ̎Ý5Þ̣ɶɢß̥àɏʬʗ^`G/ʡɱɇ$$˽ȿɁ˾ɼɑˡ>ɔʱäå̲æ $̘ɩɱʪʤ̂"
def ix (c : Char) : Nat := if c.toNat < 127 then c.toNat - 32 else c.toNat - 66
def go (r : Array Char) (n : Nat) : Nat → Char → List Nat
  | 0, _ => []
  | k + 1, c => if ix c < n then [ix c] else go r n k (r.getD (2 * (ix c - n)) ' ') ++ go r n k (r.getD (2 * (ix c - n) + 1) ' ')
def nm (s : String) : Name := (s.splitOn ".").foldl (fun n x => .str n x) .anonymous
def mk (s : String) (a : Array Syntax) : MacroM Syntax := do
  let c := s.front
  let r := (s.drop 1).toString
  let x : Term := ⟨a.getD 0 .missing⟩
  if c == '#' then return Syntax.mkNumLit r
  else if c == '\'' then return Syntax.mkStrLit r
  else if c == '_' && r == "" then `(_)
  else if c == '(' then `(())
  else if c == '<' then let ys : Array Term := a.map (⟨·⟩); `(⟨$ys,*⟩)
  else if c == '^' then let hs <- (Array.replicate (r.toNat?.getD 0) ()).mapM fun _ => `(_); `(fun $hs:term* => $x)
  else if c == ':' then let f <- `(x ($(mkIdent (nm r)):ident := $x)); return f.raw[1][0]
  else if c == '!' then (if r == "d" then `(by decide) else if r == "o" then `(by omega) else if r == "u" then `(by with_unfolding_all rfl) else `(by exact $x))
  else
    let h <- if c == '.' then let i := mkIdent (nm r); `(.$i) else if s.endsWith ".2.1" then `($(mkIdent (nm (s.dropEnd 4).toString)).2.1) else if s.endsWith ".2" then `($(mkIdent (nm (s.dropEnd 2).toString)).2) else if s.endsWith ".1" then `($(mkIdent (nm (s.dropEnd 2).toString)).1) else pure ⟨(mkIdent (nm s)).raw⟩
    return if a.isEmpty then h else Syntax.node .none `Lean.Parser.Term.app #[h, mkNullNode a]
def rd (t : Array String) : Nat → List Nat → MacroM (Syntax × List Nat)
  | 0, _ => Macro.throwUnsupported
  | _, [] => Macro.throwUnsupported
  | k + 1, i :: l => do
    let s := t.getD i "_0"
    let mut a : Array Syntax := #[]
    let mut l := l
    for _ in List.range ((s.takeEnd 1).toString.toNat?.getD 0) do
      let (x, m) <- rd t k l
      a := a.push x
      l := m
    return (<- mk (s.dropEnd 1).toString a, l)
def all (s : String) : MacroM Syntax := do
  let t := (tb.splitOn " ").toArray
  let l := s.toList.flatMap (go rl.toList.toArray t.size 99)
  return (<- rd t (l.length + 1) l).1
end Dc
local macro_rules | `(s! $x) => Dc.all ((x.raw[0].isInterpolatedStrLit?).getD "")
namespace Xob
section
variable {A B C D E F H I J K L M N O P G : Prop}
theorem xR_2 (k : A → B → G)(h : A/\B) : G := k h.1 h.2
theorem xR_3 (k : A → B → C → G) : A/\B/\C → G := xR_2 fun a => xR_2 (k a)
theorem xR_4 (k : A → B → C → D → G) : A/\B/\C/\D → G := xR_2 fun a => xR_3 (k a)
theorem xR_5 (k : A → B → C → D → E → G) : A/\B/\C/\D/\E → G := xR_2 fun a => xR_4 (k a)
theorem xR_6 (k : A → B → C → D → E → F → G) : A/\B/\C/\D/\E/\F → G := xR_2 fun a => xR_5 (k a)
theorem xR_7 (k : A → B → C → D → E → F → H → G) : A/\B/\C/\D/\E/\F/\H → G := xR_2 fun a => xR_6 (k a)
theorem xR_8 (k : A → B → C → D → E → F → H → I → G) : A/\B/\C/\D/\E/\F/\H/\I → G := xR_2 fun a => xR_7 (k a)
theorem xR_9 (k : A → B → C → D → E → F → H → I → J → G) : A/\B/\C/\D/\E/\F/\H/\I/\J → G := xR_2 fun a => xR_8 (k a)
theorem xR_10 (k : A → B → C → D → E → F → H → I → J → K → G) : A/\B/\C/\D/\E/\F/\H/\I/\J/\K → G := xR_2 fun a => xR_9 (k a)
theorem xR_11 (k : A → B → C → D → E → F → H → I → J → K → L → G) : A/\B/\C/\D/\E/\F/\H/\I/\J/\K/\L → G := xR_2 fun a => xR_10 (k a)
theorem xR_12 (k : A → B → C → D → E → F → H → I → J → K → L → M → G) : A/\B/\C/\D/\E/\F/\H/\I/\J/\K/\L/\M → G := xR_2 fun a => xR_11 (k a)
theorem xR_13 (k : A → B → C → D → E → F → H → I → J → K → L → M → N → G) : A/\B/\C/\D/\E/\F/\H/\I/\J/\K/\L/\M/\N → G := xR_2 fun a => xR_12 (k a)
theorem xR_14 (k : A → B → C → D → E → F → H → I → J → K → L → M → N → O → G) : A/\B/\C/\D/\E/\F/\H/\I/\J/\K/\L/\M/\N/\O → G := xR_2 fun a => xR_13 (k a)
end
section
variable {A B C D E F H I J : Sort _} {G : Prop}
theorem xX_1 {P : A → Prop}(k : ∀ x, P x → G)(h : ∃ x, P x) : G := h.elim k
theorem xX_2 {P : A → B → Prop}(k : ∀ x0 x1, P x0 x1 → G) : (∃ x0 x1, P x0 x1) → G := xX_1 fun x => xX_1 (k x)
theorem xX_3 {P : A → B → C → Prop}(k : ∀ x0 x1 x2, P x0 x1 x2 → G) : (∃ x0 x1 x2, P x0 x1 x2) → G := xX_1 fun x => xX_2 (k x)
theorem xX_4 {P : A → B → C → D → Prop}(k : ∀ x0 x1 x2 x3, P x0 x1 x2 x3 → G) : (∃ x0 x1 x2 x3, P x0 x1 x2 x3) → G := xX_1 fun x => xX_3 (k x)
theorem xX_5 {P : A → B → C → D → E → Prop}(k : ∀ x0 x1 x2 x3 x4, P x0 x1 x2 x3 x4 → G) : (∃ x0 x1 x2 x3 x4, P x0 x1 x2 x3 x4) → G := xX_1 fun x => xX_4 (k x)
theorem xX_6 {P : A → B → C → D → E → F → Prop}(k : ∀ x0 x1 x2 x3 x4 x5, P x0 x1 x2 x3 x4 x5 → G) : (∃ x0 x1 x2 x3 x4 x5, P x0 x1 x2 x3 x4 x5) → G := xX_1 fun x => xX_5 (k x)
theorem xX_7 {P : A → B → C → D → E → F → H → Prop}(k : ∀ x0 x1 x2 x3 x4 x5 x6, P x0 x1 x2 x3 x4 x5 x6 → G) : (∃ x0 x1 x2 x3 x4 x5 x6, P x0 x1 x2 x3 x4 x5 x6) → G := xX_1 fun x => xX_6 (k x)
theorem xX_8 {P : A → B → C → D → E → F → H → I → Prop}(k : ∀ x0 x1 x2 x3 x4 x5 x6 x7, P x0 x1 x2 x3 x4 x5 x6 x7 → G) : (∃ x0 x1 x2 x3 x4 x5 x6 x7, P x0 x1 x2 x3 x4 x5 x6 x7) → G := xX_1 fun x => xX_7 (k x)
end
end Xob
namespace Xob
open Lean
def oK (q : Syntax) (k : String) : Bool := q[0][0].isOfKind (.str `Lean.Parser.Tactic.rcasesPat k)
def oA : Nat → Syntax → Bool
  | 0, _ => true
  | k + 1, p => p[0].getNumArgs != 1 || !(oK p "one" || oK p "ignore" || oK p "tuple" && !p[0][0][1].getSepArgs.any fun q => q[1].getNumArgs != 0 || oA k q[0])
def oM (p : Syntax) (l : List Syntax) : TSyntax `Lean.Parser.Tactic.rcasesPatMed := ⟨if l.length == 1 then l.head![0] else p.setArg 0 (p[0].setArg 0 (p[0][0].setArg 1 (mkNullNode (mkSepArray l.toArray (mkAtom ",")))))⟩
def oN (p : Syntax) (i : Nat) (l : List Syntax) : MacroM (Term × List (TSyntax `tactic)) := do
  let m := l.head![0]
  let r : Ident := mkIdent (<- MonadQuotation.addMacroScope (.mkSimple ("e" ++ toString i)))
  if l.length == 1 && oK m "one" then
    if m[0][0][0].getId == `rfl then return (⟨r.raw⟩, [<- `(tactic| subst $r)]) else return (⟨m[0][0][0]⟩, [])
  else if l.length == 1 && oK m "ignore" then return (<- `(_), [])
  else let mm := oM p l; return (⟨r.raw⟩, [<- `(tactic| obtain $mm:rcasesPatMed := $r)])
def oO (p : Syntax) (e : Term) : MacroM (TSyntax `tactic) := do
  let ps := (if oK p "tuple" then p[0][0][1].getSepArgs else #[]).toList
  let N := ps.length
  if N < 2 || oA 9 p then Macro.throwUnsupported
  let mut s : Array (TSyntax `tactic) := #[]
  for b in [false, true] do
    for j in List.range (N - 1) do
      let n := N - j - if b then 1 else 0
      if n ≤ if b then 8 else 14 then
        let k := if b then n else n - 1
        let q := (ps.take k).map ([·]) ++ [ps.drop k]
        let zs <- (q.zip (List.range N)).mapM fun (l, i) => oN p i l
        let l := mkIdent (`_root_.Xob ++ .mkSimple ((if b then "xX_" else "xR_") ++ toString n))
        let f <- `(fun $((zs.map (·.1)).toArray):term* => ?_)
        let t := (zs.flatMap (·.2)).toArray
        s := s.push (<- if e.raw.isIdent then `(tactic| (revert $e:term; refine $l $f; $t;*)) else `(tactic| (refine $l $f $e; $t;*)))
  let mm : TSyntax `Lean.Parser.Tactic.rcasesPatLo := ⟨mkNode `Lean.Parser.Tactic.rcasesPatLo #[p, mkNullNode]⟩
  s := s.push (<- `(tactic| rcases $e:term with $mm))
  `(tactic| first $[| $s:tactic]*)
end Xob
local macro_rules | `(tactic| obtain $p:rcasesPatMed := $e:term) => Xob.oO p e
namespace Xob
open Lean
def eP : Nat → Syntax → MacroM (TSyntax `Lean.Parser.Tactic.rcasesPatMed)
  | 0, _ => Macro.throwUnsupported
  | k + 1, t => do
    let q : TSyntax `rcasesPat ← match t with
      | `($x:ident) => `(rcasesPat| $x:ident)
      | `(#[$xs,*]) => do
        let ps ← xs.getElems.mapM fun x => eP k x
        `(rcasesPat| ⟨$[$ps:rcasesPatMed],*⟩)
      | _ => `(rcasesPat| _)
    `(Lean.Parser.Tactic.rcasesPatMed| $q:rcasesPat)
end Xob
local macro_rules | `(tactic| exists $e, $xs,*) => do
  let p ← Xob.eP 9 (← `(#[$xs,*]))
  `(tactic| obtain $p:rcasesPatMed := $e)
set_option compiler.extract_closed false
set_option bootstrap.genMatcherCode false
local macro_rules | `(tactic| omega) => `(tactic| first|lia|omega +splitDisjunctions)
local macro_rules | `(()) => `(by first|omega|decide)
noncomputable section
abbrev aa:=List Int
abbrev ac:=List aa
abbrev au:=List ac
open List renaming length_map→af,getElem?_eq_getElem→aq,getD_eq_getElem?_getD→az,getElem?_map→aI,range→aM,map_append→aR,getElem?_eq_some_iff→aZ,mem_append→a8,mem_singleton→bj,mem_map→bC,eq_nil_of_length_eq_zero→bD,mem_cons→bN,length_take→bV,replicate→bZ,mem_of_getElem?→b4,length_append→b8,getElem_mem→b_,getElem_map→ck,getElem?_append_left→cE,length_cons→cP,getElem?_append_right→cQ,mem_iff_getElem→cU,take_succ→cY,mem_range→dj,length_pos_iff→dw,mem_cons_of_mem→dC,size_toArray→dI,mem_cons_self→dU,zipWith→dX,map_cons→d9,take_length→fy,map_congr_left→fB,range_succ→fZ,getLast?_eq_getElem?→gi,sum_append→gk,length_range→gC,mem_of_mem_take→gD,take_of_length_le→gS,mem_append_right→hH,nil_append→hI,ext_getElem→hZ,map_map→ia,getElem?_range→iy,sum_cons→iz,getElem?_eq_none→iN,mem_append_left→i4,replicate_succ→i6,map_singleton→jb,getElem_range→jc,nodup_append→jE,exists_cons_of_length_eq_add_one→jG,length→kl,sum_singleton→ky,mem_filter→lE,nodup_cons→lG,getElem?_replicate→lH,map_eq_nil_iff→lI,cons_append→lU,mem_reverse→lZ,nodup_nil→l_,mem_of_getLast?→me,lookup→mT,append_nil→mU,length_singleton→mV,getLast?_eq_some_getLast→mW,drop_zero→mZ,length_zipWith→ni,getElem?_set_ne→pi,length_replicate→pk,length_drop→pu,length_set→py,append_assoc→pB,not_mem_nil→pE,getLast?_eq_some_iff→pL,pairwise_iff_getElem→pO,length_reverse→pQ,getElem?_set_self→vD,getElem?_take_of_lt→vF,take_sublist→vG,any_cons→vH,flatten_cons→vI,map_nil→vK,eq_nil_or_concat→vL,concat_eq_append→vN,getLast?_concat→vP,map→vY,getLast?_eq_none_iff→vZ,getLast?_map→wh,lookup_cons→Cn,find?_cons→Cp,length_nil→Cq,take_append_drop→Cr,drop_eq_getElem_cons→Ct,getLast_eq_getElem→CC,length_eq_one_iff→CK,filterMap_cons→K5,of_mem_zip→K7,length_dropLast→K8,map_take→K_,map_drop→Lb,getElem?_cons_zero→Lc,headD_cons→Ld,tail_cons→Le,length_tail→Lf,map_id→Ln,getElem?_zipWith→Lq,filter_append→Lv,getElem_cons_zero→Lw,getElem_cons_succ→Ly,reverse_append→To,take_succ_eq_append_getElem→Tp,set_append_right→Tq,take_succ_cons→Tw,drop_eq_nil_of_le→Tz,getElem?_cons_succ→TB,replicate_zero→TC,drop_of_length_le→TM,mem_or_eq_of_mem_set→TN,countP_eq_length_filter→TR,singleton_append→TU,getElem?_dropLast→TW,take_append_getElem→TX,dropLast_concat_getLast→TY
open Nat renaming le_refl→aA,le_trans→aQ,zero_le→aU,gcd→bT,lt_of_le_of_lt→cx,lt_of_lt_of_le→cI,ne_of_lt→du,le_of_lt→dz,pow_add→dN,mul_le_mul→dY,mul_le_mul_left→d_,mul_le_mul_right→eh,two_pow_pos→eo,mul_comm→fq,pow_le_pow_right→fu,one_mul→fU,mul_assoc→gj,add_mul→gy,sub_self→gB,le_mul_of_pos_left→h_,le_mul_of_pos_right→iu,mul_pos→ja,le_of_dvd→jC,mul_succ→jF,lt_irrefl→ki,le_of_eq→kk,add_comm→km,pow_succ→ko,gcd_dvd_left→kq,gcd_dvd_right→lJ,add_le_add→lP,add_sub_cancel→ma,mul_one→md,lt_of_not_le→mX,pos_of_ne_zero→mY,mod_lt→nn,pow_le_pow_left→nv,zero_add→nw,lt_succ_self→pj,le_of_not_lt→pC,lt_succ_of_lt→pD,pow_lt_pow_right→pM,pow_mul→pP,succ_mul→vJ,dvd_gcd→v_,gcd_comm→wc,le_succ→Cm,eq_of_mul_eq_mul_left→Cu,strongRecOn→Cy,eq_zero_of_zero_dvd→Cz,div_add_mod'→CB,mul_add→CD,add_le_add_left→CI,add_le_add_right→CJ,ne_of_gt→K6,log2_lt→K9,zero_mul→Lg,sub_zero→Lm,mul_lt_mul_of_pos_left→Lp,eq_zero_or_pos→Lr,lt_or_ge→Ls,dvd_antisymm→Lt,gcd_rec→Lu,add_zero→Lx,le_max_left→Lz,le_max_right→LA,sub_le_of_le_add→Tt,mul_lt_mul_of_pos_right→Tu,div_lt_iff_lt_mul→TD,div_le_div_right→TF,eq_one_of_mul_eq_one_right→TK,gcd_pos_of_pos_left→TL,add_sub_cancel_left→TQ
open Int renaming natAbs_mul→cc,mul_assoc→cA,mul_comm→cT,mul_zero→cX,natAbs_natCast→dE,mul_ne_zero→dO,one_mul→eE,dvd_trans→fV,natCast_mul→fW,natCast_dvd_natCast→iw,natAbs_dvd_natAbs→iO,toNat_natCast→i5,natAbs_add_le→i7,zero_add→i8,mul_eq_zero→i9,zero_mul→i_,mul_add→jB,natAbs_pos→jD,dvd_mul_right→kr,mul_left_comm→ku,mul_fdiv_cancel_left→lN,natAbs_sub_le→lQ,eq_of_mul_eq_mul_left→lV,pow_succ→lY,mul_le_mul_of_nonneg_left→m_,ofNat_dvd_left→nj,natAbs→nE,add_zero→pF,mul_sub→pG,le_of_lt→pH,dvd_zero→pI,dvd_mul_left→pJ,mul_one→vE,mul_neg→vO,add_mul→vQ,mul_pos→vU,mul_ediv_cancel'→vV,natAbs_dvd→vW,dvd_refl→vX,dvd_natAbs→we,fdiv_eq_ediv_of_nonneg→Ck,natAbs_neg→Co,mul_nonneg→Cv,lt_or_gt_of_ne→Cw,mul_le_mul_of_nonneg_right→CA,natCast_pow→CF,pos_of_mul_pos_right→CG,lt_of_not_ge→CH,dvd_add→Li,zero_dvd→Lj,mul_dvd_mul_left→Lk,natAbs_pow→Lo,mul_nonneg_of_nonpos_of_nonpos→Ts,dvd_of_mul_dvd_mul_left→Tv,fmod_nonneg_of_pos→TJ
open Option renaming map_eq_some_iff→de,getD_some→eG,isSome_iff_exists→Tn
namespace My
open PySem PySem.Spec PyProof.Rows PySem.W
noncomputable def top (i:Nat):Stmt:=PySem.Challenge.pw_sumcraft_k32_sums_and_products_keep.main.body.getD i (.Pass ⟨0,0,0,0⟩)
noncomputable def dh (s:Stmt) (j:Nat):Stmt:=match s with
 | .ClassDef _ _ _ b _ _ _ _ _ _ _=>b.getD j (.Pass ⟨0,0,0,0⟩)
 | _=>.Pass ⟨0,0,0,0⟩
abbrev wl:Stmt:=top 6
abbrev wm:Stmt:=top 7
abbrev wn:Stmt:=top 8
abbrev wo:Stmt:=top 9
abbrev wq:Stmt:=top 10
abbrev wu:Stmt:=top 11
abbrev wv:Stmt:=top 12
abbrev ww:Stmt:=top 16
abbrev wx:Stmt:=top 17
abbrev wy:Stmt:=top 19
abbrev wz:Stmt:=top 20
abbrev wB:Stmt:=top 21
abbrev wC:Stmt:=top 22
abbrev wD:Stmt:=top 23
abbrev wE:Stmt:=top 24
abbrev wF:Stmt:=top 25
abbrev wG:Stmt:=top 26
abbrev wH:Stmt:=top 27
abbrev wI:Stmt:=top 29
abbrev wJ:Stmt:=top 31
abbrev wK:Stmt:=top 32
abbrev wL:Stmt:=top 35
abbrev wM:Stmt:=top 36
abbrev wN:Stmt:=top 37
abbrev wO:Stmt:=top 38
abbrev wQ:Stmt:=top 39
abbrev wR:Stmt:=top 41
abbrev wU:Stmt:=top 44
abbrev wV:Stmt:=top 45
abbrev wW:Stmt:=top 46
abbrev wX:Stmt:=top 47
abbrev wY:Stmt:=top 48
abbrev wZ:Stmt:=top 49
abbrev w6:Stmt:=top 50
abbrev w8:Stmt:=top 51
abbrev w_:Stmt:=top 53
abbrev xf:Stmt:=top 54
abbrev xi:Stmt:=top 55
abbrev xk:Stmt:=top 56
abbrev xm:Stmt:=top 57
abbrev xn:Stmt:=top 58
abbrev xo:Stmt:=top 59
abbrev xq:Stmt:=top 60
abbrev xr:Stmt:=top 61
abbrev xu:Stmt:=top 62
abbrev xv:Stmt:=dh (top 40) 0
abbrev xw:Stmt:=dh (top 40) 1
abbrev xx:Stmt:=dh (top 40) 2
abbrev xy:Stmt:=dh (top 40) 3
abbrev xz:Stmt:=dh (top 40) 4
abbrev xC:Stmt:=dh (top 40) 5
abbrev xD:Stmt:=dh (top 40) 6
abbrev xE:Stmt:=dh (top 40) 7
abbrev xF:Stmt:=dh (top 40) 8
abbrev CL:Stmt:=dh (top 40) 9
noncomputable def kE (P:Params) (x:String) (n:Nat) (v:Value):DictEntry:=⟨PyData.keyHash P (Str.ofString x),.str (Str.ofString x) n,v⟩
noncomputable def kM (x q:Str) (s:Stmt) (m:Str) (k c:Nat):Obj:=match s with
 | .FunctionDef _ a b _ _ _ sc _ _ _=>⟨.type "function",none,.func (fnOf x q a b sc .none .none .none (.str m k) none (.ref c) .none),#[]⟩
 | _=>⟨.none,none,.plain,#[]⟩
noncomputable def kN (x q:Str) (s:Stmt):Obj:=match s with
 | .FunctionDef _ a b _ _ _ sc _ _ _=>⟨.none,none,.func { name:=x,qualname:=q,params:=a,body:=.stmts b,scope:=sc,globals:=0,closure:=[],defaults:=.none,kwdefaults:=.none },#[]⟩
 | _=>⟨.none,none,.plain,#[]⟩
noncomputable def oT (x:Array Value):Obj:={ cls:=.type "tuple",data:=Data.seq x }
noncomputable def oF (x:Array Value):Obj:={ cls:=.none,data:=Data.fields x }
noncomputable def oK (x:Array Value):Obj:={ cls:=.type "code",data:=Data.fields x }
noncomputable def oB (x:Array Value):Obj:={ cls:=.type "builtin_function_or_method",data:=Data.fields x }
def cp (n:Nat):Value:=.str "/claim/cut.py" n
noncomputable def frC (x q:Str) (n L a f r:Nat) (b:Bool) (c k:Nat):Obj:=oK #[.str x n,.str q (n+1),cp (n+2),.int L 0,.int a 0,.int 0 0,.int 0 0,.int f 0,.ref r,.bool b,.int c 0,.ref (r+1),.none,.ref (r+2),.ref (r+3),.ref (r+4),.int k 0,.int L 0,cp (k+1)]
noncomputable def frT:Nat->List String->List Value
 | _,[]=>[]
 | n,x :: r=>.str (Str.ofString x) n :: frT (n+1) r
noncomputable def frS (n:Nat) (l:List String):Obj:=oT ⟨frT n l⟩
noncomputable def frL (l:List (Nat×Nat)):Obj:=oF ⟨l.flatMap λp=>[.int p.1 0,.int 0 0,.ref p.2]⟩
noncomputable def frD (e:DictEntry) (l:List DictEntry) (n:Nat):Obj:={ cls:=.type "dict",data:=Data.dict ⟨e :: l⟩ n }
def ah:Obj:=oT #[]
def aC:Obj:=oF #[]
def pR:Obj:=oK #[.str "<module>" 182,.str "<module>" 183,cp 184,.int 1 0,.int 0 0,.int 0 0,.int 0 0,.int 0 0,.ref 11,.bool false,.int 181 0,.ref 12,.none,.none,.none,.none,.int 185 0,.int 1 0,cp 186]
noncomputable def pT:Obj:={ cls:=.type "frame",slots:=#[some (.ref 13),some (.ref 3),some (.ref 3),none,some (.str "__main__" 164),none,some (.ref 0)] }
noncomputable def CM (P:Params):List DictEntry:=[kE P "__doc__" 166 (.none),kE P "__package__" 167 (.none),kE P "__loader__" 168 (.builtin "__main__.__loader__#opaque"),kE P "__spec__" 169 (.none),kE P "__annotations__" 170 (.ref 6),kE P "__builtins__" 171 (.ref 4),kE P "__file__" 173 (cp 172),kE P "__cached__" 174 (.none),kE P "SumError" 206 (.ref 24),kE P "NoNumber" 222 (.ref 37),kE P "NoRule" 238 (.ref 49),kE P "TooGreat" 254 (.ref 61),kE P "trimmed" 264 (.ref 70),kE P "poly_plus" 275 (.ref 77),kE P "poly_less" 281 (.ref 82),kE P "poly_times" 294 (.ref 89),kE P "shifted" 305 (.ref 96),kE P "poly_value" 315 (.ref 103),kE P "quotient" 331 (.ref 110),kE P "LONG" 335 (.int 4000 334),kE P "WINDOW" 337 (.int 300 336),kE P "shortened" 354 (.ref 117),kE P "divisor" 366 (.ref 124),kE P "content" 377 (.ref 131)]
noncomputable def ob3 (P:Params):Obj:=frD (kE P "__name__" 165 (.str "sumcraft.reaches" 367)) (CM P) 25
def LB:Obj:=frL [(2,20),(4,33),(6,45),(8,57),(11,69),(16,76),(21,81),(23,88),(31,95),(37,102),(42,109),(62,116),(78,123),(91,130)]
def xG:Obj:=oT #[.type "ValueError"]
def gE:Obj:=oB #[.builtin "type.__prepare__",.type "type"]
def pU (P:Params):Obj:={ cls:=.type "dict",data:=Data.dict #[kE P "__module__" 196 (.str "sumcraft.errors" 187),kE P "__qualname__" 198 (.str "SumError" 197),kE P "__firstlineno__" 200 (.int 2 199),kE P "__static_attributes__" 201 (.ref 22)] 4 }
def xH:Obj:=oK #[.str "SumError" 191,.str "SumError" 192,cp 193,.int 2 0,.int 0 0,.int 0 0,.int 0 0,.int 0 0,.ref 18,.bool false,.int 181 0,.ref 19,.none,.none,.none,.none,.int 194 0,.int 2 0,cp 195]
noncomputable def xI:Obj:={ cls:=.type "frame",slots:=#[some (.ref 20),some (.ref 3),some (.ref 17),none,some (.str "sumcraft.errors" 187),none,some (.ref 0)] }
def pV (P:Params):Obj:={ cls:=.type "dict",data:=Data.dict #[kE P "__module__" 196 (.str "sumcraft.errors" 187),kE P "__firstlineno__" 200 (.int 2 199),kE P "__static_attributes__" 201 (.ref 22),kE P "__weakref__" 203 (.ref 25),kE P "__doc__" 204 (.none)] 3 }
noncomputable def pW:Obj:={ cls:=.type "type",data:=Data.cls { name := "SumError",bases:=[.type "ValueError"],mro:=[.ref 24,.type "ValueError",.type "Exception",.type "BaseException",.type "object"],ns:=23,qualname := "SumError",subclasses:=[.ref 37,.ref 49,.ref 61] },slots:=#[some (.ref 15),none,some (.str "SumError" 189),some (.str "SumError" 197),some (.builtin "ValueError.__new__"),some (.bool true)] }
noncomputable def xJ:Obj:={ cls:=.type "getset_descriptor",data:=Data.fields #[.str "__weakref__" 202,.ref 24,.builtin "ExceptionGroup.__weakref__",.none] }
noncomputable def xK:Obj:={ cls:=.type "super",data:=Data.fields #[.ref 24,.ref 24,.ref 24] }
def xL:Obj:=oB #[.builtin "object.__init_subclass__",.ref 24]
def jd:Obj:=oT #[.ref 24]
def pX (P:Params):Obj:={ cls:=.type "dict",data:=Data.dict #[kE P "__module__" 214 (.str "sumcraft.errors" 187),kE P "__qualname__" 216 (.str "NoNumber" 215),kE P "__firstlineno__" 218 (.int 4 217),kE P "__static_attributes__" 219 (.ref 35)] 4 }
def xM:Obj:=oK #[.str "NoNumber" 209,.str "NoNumber" 210,cp 211,.int 4 0,.int 0 0,.int 0 0,.int 0 0,.int 0 0,.ref 31,.bool false,.int 181 0,.ref 32,.none,.none,.none,.none,.int 212 0,.int 4 0,cp 213]
noncomputable def xN:Obj:={ cls:=.type "frame",slots:=#[some (.ref 33),some (.ref 3),some (.ref 30),none,some (.str "sumcraft.errors" 187),none,some (.ref 0)] }
def pY (P:Params):Obj:={ cls:=.type "dict",data:=Data.dict #[kE P "__module__" 214 (.str "sumcraft.errors" 187),kE P "__firstlineno__" 218 (.int 4 217),kE P "__static_attributes__" 219 (.ref 35),kE P "__doc__" 220 (.none)] 2 }
noncomputable def pZ:Obj:={ cls:=.type "type",data:=Data.cls { name := "NoNumber",bases:=[.ref 24],mro:=[.ref 37,.ref 24,.type "ValueError",.type "Exception",.type "BaseException",.type "object"],ns:=36,qualname := "NoNumber" },slots:=#[some (.ref 28),none,some (.str "NoNumber" 207),some (.str "NoNumber" 215),some (.builtin "ValueError.__new__"),some (.bool true)] }
noncomputable def xO:Obj:={ cls:=.type "super",data:=Data.fields #[.ref 37,.ref 37,.ref 37] }
def xP:Obj:=oB #[.builtin "object.__init_subclass__",.ref 37]
def p_ (P:Params):Obj:={ cls:=.type "dict",data:=Data.dict #[kE P "__module__" 230 (.str "sumcraft.errors" 187),kE P "__qualname__" 232 (.str "NoRule" 231),kE P "__firstlineno__" 234 (.int 6 233),kE P "__static_attributes__" 235 (.ref 47)] 4 }
def xQ:Obj:=oK #[.str "NoRule" 225,.str "NoRule" 226,cp 227,.int 6 0,.int 0 0,.int 0 0,.int 0 0,.int 0 0,.ref 43,.bool false,.int 181 0,.ref 44,.none,.none,.none,.none,.int 228 0,.int 6 0,cp 229]
noncomputable def xS:Obj:={ cls:=.type "frame",slots:=#[some (.ref 45),some (.ref 3),some (.ref 42),none,some (.str "sumcraft.errors" 187),none,some (.ref 0)] }
def qc (P:Params):Obj:={ cls:=.type "dict",data:=Data.dict #[kE P "__module__" 230 (.str "sumcraft.errors" 187),kE P "__firstlineno__" 234 (.int 6 233),kE P "__static_attributes__" 235 (.ref 47),kE P "__doc__" 236 (.none)] 2 }
noncomputable def qd:Obj:={ cls:=.type "type",data:=Data.cls { name := "NoRule",bases:=[.ref 24],mro:=[.ref 49,.ref 24,.type "ValueError",.type "Exception",.type "BaseException",.type "object"],ns:=48,qualname := "NoRule" },slots:=#[some (.ref 40),none,some (.str "NoRule" 223),some (.str "NoRule" 231),some (.builtin "ValueError.__new__"),some (.bool true)] }
noncomputable def xT:Obj:={ cls:=.type "super",data:=Data.fields #[.ref 49,.ref 49,.ref 49] }
def xU:Obj:=oB #[.builtin "object.__init_subclass__",.ref 49]
def qe (P:Params):Obj:={ cls:=.type "dict",data:=Data.dict #[kE P "__module__" 246 (.str "sumcraft.errors" 187),kE P "__qualname__" 248 (.str "TooGreat" 247),kE P "__firstlineno__" 250 (.int 8 249),kE P "__static_attributes__" 251 (.ref 59)] 4 }
def xV:Obj:=oK #[.str "TooGreat" 241,.str "TooGreat" 242,cp 243,.int 8 0,.int 0 0,.int 0 0,.int 0 0,.int 0 0,.ref 55,.bool false,.int 181 0,.ref 56,.none,.none,.none,.none,.int 244 0,.int 8 0,cp 245]
noncomputable def xW:Obj:={ cls:=.type "frame",slots:=#[some (.ref 57),some (.ref 3),some (.ref 54),none,some (.str "sumcraft.errors" 187),none,some (.ref 0)] }
def qf (P:Params):Obj:={ cls:=.type "dict",data:=Data.dict #[kE P "__module__" 246 (.str "sumcraft.errors" 187),kE P "__firstlineno__" 250 (.int 8 249),kE P "__static_attributes__" 251 (.ref 59),kE P "__doc__" 252 (.none)] 2 }
noncomputable def qg:Obj:={ cls:=.type "type",data:=Data.cls { name := "TooGreat",bases:=[.ref 24],mro:=[.ref 61,.ref 24,.type "ValueError",.type "Exception",.type "BaseException",.type "object"],ns:=60,qualname := "TooGreat" },slots:=#[some (.ref 52),none,some (.str "TooGreat" 239),some (.str "TooGreat" 247),some (.builtin "ValueError.__new__"),some (.bool true)] }
noncomputable def xX:Obj:={ cls:=.type "super",data:=Data.fields #[.ref 61,.ref 61,.ref 61] }
def xY:Obj:=oB #[.builtin "object.__init_subclass__",.ref 61]
def xZ:Obj:=frS 260 ["numbers","size"]
def x_:Obj:=kN "trimmed" "trimmed" (top 6)
def qh:Obj:=frC "trimmed" "trimmed" 257 11 1 3 64 true 181 262
def qi:Obj:=kM "trimmed" "trimmed" (top 6) "sumcraft.polys" 255 69
def ya:Obj:=frS 268 ["one","other","answer","place","number"]
def yc:Obj:=kN "poly_plus" "poly_plus" (top 7)
def qj:Obj:=frC "poly_plus" "poly_plus" 265 16 2 3 71 true 181 273
def qk:Obj:=kM "poly_plus" "poly_plus" (top 7) "sumcraft.polys" 255 76
def yd:Obj:=kN "poly_less" "poly_less" (top 8)
def ql:Obj:=oK #[.str "poly_less" 276,.str "poly_less" 277,cp 278,.int 21 0,.int 2 0,.int 0 0,.int 0 0,.int 3 0,.ref 78,.bool true,.int 181 0,.ref 79,.none,.none,.none,.ref 80,.int 279 0,.int 21 0,cp 280]
def qm:Obj:=kM "poly_less" "poly_less" (top 8) "sumcraft.polys" 255 81
def ye:Obj:=frS 285 ["one","other","answer","low","number","place","factor"]
def yf:Obj:=kN "poly_times" "poly_times" (top 9)
def qo:Obj:=frC "poly_times" "poly_times" 282 23 2 3 83 true 181 292
def qp:Obj:=kM "poly_times" "poly_times" (top 9) "sumcraft.polys" 255 88
def yh:Obj:=frS 298 ["poly","by","answer","low","place"]
def yi:Obj:=kN "shifted" "shifted" (top 10)
def qq:Obj:=frC "shifted" "shifted" 295 31 2 3 90 true 181 303
def qr:Obj:=kM "shifted" "shifted" (top 10) "sumcraft.polys" 255 95
def yj:Obj:=frS 309 ["poly","n","answer","number"]
def yk:Obj:=kN "poly_value" "poly_value" (top 11)
def qt:Obj:=frC "poly_value" "poly_value" 306 37 2 3 97 true 181 313
def qu:Obj:=kM "poly_value" "poly_value" (top 11) "sumcraft.polys" 255 102
def yl:Obj:=frS 319 ["one","other","rest","steps","answer","low","top","factor","place","number"]
def ym:Obj:=kN "quotient" "quotient" (top 12)
def qx:Obj:=frC "quotient" "quotient" 316 42 2 3 104 true 181 329
def qy:Obj:=kM "quotient" "quotient" (top 12) "sumcraft.polys" 255 109
def yn:Obj:=frS 341 ["big","small","cut","ahead","behind","half","upper","lower","times","rest","further"]
def yo:Obj:=kN "shortened" "shortened" (top 16)
def qz:Obj:=frC "shortened" "shortened" 338 62 2 3 111 true 181 352
def qA:Obj:=kM "shortened" "shortened" (top 16) "sumcraft.ratios" 332 116
def yp:Obj:=frS 358 ["one","other","big","small","pair","rest"]
def yq:Obj:=kN "divisor" "divisor" (top 17)
def qB:Obj:=frC "divisor" "divisor" 355 78 2 3 118 true 181 364
def qC:Obj:=kM "divisor" "divisor" (top 17) "sumcraft.ratios" 332 123
def yr:Obj:=frS 372 ["poly","answer","number"]
def yt:Obj:=kN "content" "content" (top 19)
def qD:Obj:=frC "content" "content" 369 91 1 3 125 true 181 375
def qE:Obj:=kM "content" "content" (top 19) "sumcraft.reaches" 367 130
noncomputable def CN (P:Params):List DictEntry:=CM P++[kE P "over" 383 (.ref 136),kE P "upright" 389 (.ref 141),kE P "spread" 399 (.ref 148),kE P "greatest_size" 405 (.ref 153),kE P "bare_common" 415 (.ref 160),kE P "common" 421 (.ref 165),kE P "common_of" 430 (.ref 172),kE P "clear" 439 (.ref 179),kE P "order_of" 449 (.ref 186),kE P "further" 457 (.ref 191),kE P "coords" 463 (.ref 196),kE P "START" 467 (.int 97 466),kE P "lowered" 473 (.ref 201),kE P "through" 485 (.ref 208),kE P "greatest_degree" 491 (.ref 213),kE P "degree_bound" 497 (.ref 218),kE P "cleared" 503 (.ref 223),kE P "Span" 610 (.ref 295),kE P "relation" 620 (.ref 306),kE P "GREATEST_WORK" 624 (.int 32 623),kE P "check_work" 630 (.ref 311),kE P "thinned" 636 (.ref 316),kE P "joined" 642 (.ref 321),kE P "of_two" 657 (.ref 328),kE P "plus_vector" 663 (.ref 333),kE P "times_vector" 669 (.ref 338)]
noncomputable def LC (P:Params):Obj:=frD (kE P "__name__" 165 (.str "sumcraft.joins" 621)) (CN P) 51
def LD:Obj:=frL [(2,20),(4,33),(6,45),(8,57),(11,69),(16,76),(21,81),(23,88),(31,95),(37,102),(42,109),(62,116),(78,123),(91,130),(96,135),(98,140),(102,147),(111,152),(113,159),(121,164),(130,171),(135,178),(141,185),(149,190),(154,195),(166,200),(174,207),(183,212),(185,217),(189,222),(194,229),(285,305),(296,310),(299,315),(306,320),(309,327),(319,332),(323,337)]
def CO:Obj:=kN "over" "over" (top 20)
def yu:Obj:=oK #[.str "over" 378,.str "over" 379,cp 380,.int 96 0,.int 2 0,.int 0 0,.int 0 0,.int 3 0,.ref 132,.bool true,.int 181 0,.ref 133,.none,.none,.none,.ref 134,.int 381 0,.int 96 0,cp 382]
def yw:Obj:=kM "over" "over" (top 20) "sumcraft.reaches" 367 135
def CP:Obj:=kN "upright" "upright" (top 21)
def yy:Obj:=oK #[.str "upright" 384,.str "upright" 385,cp 386,.int 98 0,.int 1 0,.int 0 0,.int 0 0,.int 3 0,.ref 137,.bool true,.int 181 0,.ref 138,.none,.none,.none,.ref 139,.int 387 0,.int 98 0,cp 388]
def yz:Obj:=kM "upright" "upright" (top 21) "sumcraft.reaches" 367 140
def CQ:Obj:=frS 393 ["number","base","answer","low"]
def CS:Obj:=kN "spread" "spread" (top 22)
def yB:Obj:=frC "spread" "spread" 390 102 2 3 142 true 181 397
def yC:Obj:=kM "spread" "spread" (top 22) "sumcraft.reaches" 367 147
def CT:Obj:=kN "greatest_size" "greatest_size" (top 23)
def yD:Obj:=oK #[.str "greatest_size" 400,.str "greatest_size" 401,cp 402,.int 111 0,.int 1 0,.int 0 0,.int 0 0,.int 3 0,.ref 149,.bool true,.int 181 0,.ref 150,.none,.none,.none,.ref 151,.int 403 0,.int 111 0,cp 404]
def yE:Obj:=kM "greatest_size" "greatest_size" (top 23) "sumcraft.reaches" 367 152
def CU:Obj:=frS 409 ["one","other","place","found"]
def CV:Obj:=kN "bare_common" "bare_common" (top 24)
def yF:Obj:=frC "bare_common" "bare_common" 406 113 2 3 154 true 181 413
def yG:Obj:=kM "bare_common" "bare_common" (top 24) "sumcraft.reaches" 367 159
def CW:Obj:=kN "common" "common" (top 25)
def yH:Obj:=oK #[.str "common" 416,.str "common" 417,cp 418,.int 121 0,.int 2 0,.int 0 0,.int 0 0,.int 3 0,.ref 161,.bool true,.int 181 0,.ref 162,.none,.none,.none,.ref 163,.int 419 0,.int 121 0,cp 420]
def yI:Obj:=kM "common" "common" (top 25) "sumcraft.reaches" 367 164
def CY:Obj:=frS 425 ["polys","answer","poly"]
def CZ:Obj:=kN "common_of" "common_of" (top 26)
def yJ:Obj:=frC "common_of" "common_of" 422 130 1 3 166 true 181 428
def yK:Obj:=kM "common_of" "common_of" (top 26) "sumcraft.reaches" 367 171
def C7:Obj:=frS 434 ["poly","m","moved"]
def C8:Obj:=kN "clear" "clear" (top 27)
def yL:Obj:=frC "clear" "clear" 431 135 2 3 173 true 181 437
def yM:Obj:=kM "clear" "clear" (top 27) "sumcraft.reaches" 367 178
def C9:Obj:=frS 445 ["rule","poly"]
def C_:Obj:=kN "order_of" "order_of" (top 29)
def yN:Obj:=frC "order_of" "order_of" 442 141 1 3 180 true 181 447
def yO:Obj:=kM "order_of" "order_of" (top 29) "sumcraft.rules" 440 185
def Da:Obj:=kN "further" "further" (top 31)
def yP:Obj:=oK #[.str "further" 452,.str "further" 453,cp 454,.int 149 0,.int 2 0,.int 0 0,.int 0 0,.int 3 0,.ref 187,.bool true,.int 181 0,.ref 188,.none,.none,.none,.ref 189,.int 455 0,.int 149 0,cp 456]
def yQ:Obj:=kM "further" "further" (top 31) "sumcraft.coords" 450 190
def Dd:Obj:=kN "coords" "coords" (top 32)
def yS:Obj:=oK #[.str "coords" 458,.str "coords" 459,cp 460,.int 154 0,.int 2 0,.int 0 0,.int 0 0,.int 3 0,.ref 192,.bool true,.int 181 0,.ref 193,.none,.none,.none,.ref 194,.int 461 0,.int 154 0,cp 462]
def yT:Obj:=kM "coords" "coords" (top 32) "sumcraft.coords" 450 195
def De:Obj:=kN "lowered" "lowered" (top 35)
def yU:Obj:=oK #[.str "lowered" 468,.str "lowered" 469,cp 470,.int 166 0,.int 3 0,.int 0 0,.int 0 0,.int 3 0,.ref 197,.bool true,.int 181 0,.ref 198,.none,.none,.none,.ref 199,.int 471 0,.int 166 0,cp 472]
def yV:Obj:=kM "lowered" "lowered" (top 35) "sumcraft.spans" 464 200
def Df:Obj:=frS 477 ["places","values","steps","gap","place","answer"]
def Dg:Obj:=kN "through" "through" (top 36)
def yW:Obj:=frC "through" "through" 474 174 2 3 202 true 181 483
def yX:Obj:=kM "through" "through" (top 36) "sumcraft.spans" 464 207
def Dh:Obj:=kN "greatest_degree" "greatest_degree" (top 37)
def yY:Obj:=oK #[.str "greatest_degree" 486,.str "greatest_degree" 487,cp 488,.int 183 0,.int 1 0,.int 0 0,.int 0 0,.int 3 0,.ref 209,.bool true,.int 181 0,.ref 210,.none,.none,.none,.ref 211,.int 489 0,.int 183 0,cp 490]
def yZ:Obj:=kM "greatest_degree" "greatest_degree" (top 37) "sumcraft.spans" 464 212
def Di:Obj:=kN "degree_bound" "degree_bound" (top 38)
def y_:Obj:=oK #[.str "degree_bound" 492,.str "degree_bound" 493,cp 494,.int 185 0,.int 2 0,.int 0 0,.int 0 0,.int 3 0,.ref 214,.bool true,.int 181 0,.ref 215,.none,.none,.none,.ref 216,.int 495 0,.int 185 0,cp 496]
def za:Obj:=kM "degree_bound" "degree_bound" (top 38) "sumcraft.spans" 464 217
def Dj:Obj:=kN "cleared" "cleared" (top 39)
def zc:Obj:=oK #[.str "cleared" 498,.str "cleared" 499,cp 500,.int 189 0,.int 1 0,.int 0 0,.int 0 0,.int 3 0,.ref 219,.bool true,.int 181 0,.ref 220,.none,.none,.none,.ref 221,.int 501 0,.int 189 0,cp 502]
def zd:Obj:=kM "cleared" "cleared" (top 39) "sumcraft.spans" 464 222
def ze (P:Params):Obj:={ cls:=.type "dict",data:=Data.dict #[kE P "__module__" 511 (.str "sumcraft.spans" 464),kE P "__qualname__" 513 (.str "Span" 512),kE P "__firstlineno__" 515 (.int 194 514),kE P "__init__" 523 (.ref 237),kE P "row_at" 529 (.ref 242),kE P "table_at" 540 (.ref 249),kE P "lowered_at" 550 (.ref 256),kE P "only_choice" 556 (.ref 261),kE P "failing_column" 569 (.ref 268),kE P "keep" 578 (.ref 275),kE P "by_few" 584 (.ref 280),kE P "take" 590 (.ref 285),kE P "apart" 597 (.ref 292),kE P "__static_attributes__" 603 (.ref 293)] 14 }
def Dk:Obj:=oF #[.int 196 0,.int 4 0,.ref 236,.int 203 0,.int 4 0,.ref 241,.int 207 0,.int 4 0,.ref 248,.int 217 0,.int 4 0,.ref 255,.int 223 0,.int 4 0,.ref 260,.int 236 0,.int 4 0,.ref 267,.int 247 0,.int 4 0,.ref 274,.int 253 0,.int 4 0,.ref 279,.int 265 0,.int 4 0,.ref 284,.int 283 0,.int 4 0,.ref 291]
def Dm:Obj:=oK #[.str "Span" 506,.str "Span" 507,cp 508,.int 194 0,.int 0 0,.int 0 0,.int 0 0,.int 0 0,.ref 227,.bool false,.int 181 0,.ref 228,.none,.none,.none,.none,.int 509 0,.int 194 0,cp 510]
noncomputable def Dn:Obj:={ cls:=.type "frame",slots:=#[some (.ref 229),some (.ref 3),some (.ref 226),none,some (.str "sumcraft.spans" 464),none,some (.ref 0)] }
def Do:Obj:=frS 519 ["self","width"]
def Dp:Obj:=kN "__init__" "Span.__init__" (dh (top 40) 0)
def zf:Obj:=frC "__init__" "Span.__init__" 516 196 2 3 231 true 181 521
def zg:Obj:=kM "__init__" "Span.__init__" (dh (top 40) 0) "sumcraft.spans" 464 236
def Dq:Obj:=kN "row_at" "Span.row_at" (dh (top 40) 1)
def zh:Obj:=oK #[.str "row_at" 524,.str "Span.row_at" 525,cp 526,.int 203 0,.int 4 0,.int 0 0,.int 0 0,.int 3 0,.ref 238,.bool true,.int 181 0,.ref 239,.none,.none,.none,.ref 240,.int 527 0,.int 203 0,cp 528]
def zi:Obj:=kM "row_at" "Span.row_at" (dh (top 40) 1) "sumcraft.spans" 464 241
def Dr:Obj:=frS 533 ["self","place","table","number","row"]
def Ds:Obj:=kN "table_at" "Span.table_at" (dh (top 40) 2)
def zj:Obj:=frC "table_at" "Span.table_at" 530 207 2 3 243 true 181 538
def zk:Obj:=kM "table_at" "Span.table_at" (dh (top 40) 2) "sumcraft.spans" 464 248
def Dt:Obj:=frS 544 ["self","vector","place","table"]
def Du:Obj:=kN "lowered_at" "Span.lowered_at" (dh (top 40) 3)
def zm:Obj:=frC "lowered_at" "Span.lowered_at" 541 217 3 3 250 true 181 548
def zn:Obj:=kM "lowered_at" "Span.lowered_at" (dh (top 40) 3) "sumcraft.spans" 464 255
def Dv:Obj:=kN "only_choice" "Span.only_choice" (dh (top 40) 4)
def zo:Obj:=oK #[.str "only_choice" 551,.str "Span.only_choice" 552,cp 553,.int 223 0,.int 2 0,.int 0 0,.int 0 0,.int 3 0,.ref 257,.bool true,.int 181 0,.ref 258,.none,.none,.none,.ref 259,.int 554 0,.int 223 0,cp 555]
def zp:Obj:=kM "only_choice" "Span.only_choice" (dh (top 40) 4) "sumcraft.spans" 464 260
def Dw:Obj:=frS 560 ["self","vector","weights","column","answer","other","weight"]
def Dx:Obj:=kN "failing_column" "Span.failing_column" (dh (top 40) 5)
def zq:Obj:=frC "failing_column" "Span.failing_column" 557 236 3 3 262 true 181 567
def zr:Obj:=kM "failing_column" "Span.failing_column" (dh (top 40) 5) "sumcraft.spans" 464 267
def Dy:Obj:=frS 573 ["self","vector","column"]
def Dz:Obj:=kN "keep" "Span.keep" (dh (top 40) 6)
def zt:Obj:=frC "keep" "Span.keep" 570 247 3 3 269 true 181 576
def zu:Obj:=kM "keep" "Span.keep" (dh (top 40) 6) "sumcraft.spans" 464 274
def DA:Obj:=kN "by_few" "Span.by_few" (dh (top 40) 7)
def zw:Obj:=oK #[.str "by_few" 579,.str "Span.by_few" 580,cp 581,.int 253 0,.int 3 0,.int 0 0,.int 0 0,.int 3 0,.ref 276,.bool true,.int 181 0,.ref 277,.none,.none,.none,.ref 278,.int 582 0,.int 253 0,cp 583]
def zx:Obj:=kM "by_few" "Span.by_few" (dh (top 40) 7) "sumcraft.spans" 464 279
def DB:Obj:=kN "take" "Span.take" (dh (top 40) 8)
def zz:Obj:=oK #[.str "take" 585,.str "Span.take" 586,cp 587,.int 265 0,.int 2 0,.int 0 0,.int 0 0,.int 3 0,.ref 281,.bool true,.int 181 0,.ref 282,.none,.none,.none,.ref 283,.int 588 0,.int 265 0,cp 589]
def zA:Obj:=kM "take" "Span.take" (dh (top 40) 8) "sumcraft.spans" 464 284
def DC:Obj:=oT #[.str "self" 594]
def DD:Obj:=kN "apart" "Span.apart" (dh (top 40) 9)
def zB:Obj:=frC "apart" "Span.apart" 591 283 1 3 286 true 181 595
def zC:Obj:=kM "apart" "Span.apart" (dh (top 40) 9) "sumcraft.spans" 464 291
def DE:Obj:=frS 598 ["columns","kept","place","tables","width"]
def zD (P:Params):Obj:={ cls:=.type "dict",data:=Data.dict #[kE P "__module__" 511 (.str "sumcraft.spans" 464),kE P "__firstlineno__" 515 (.int 194 514),kE P "__init__" 523 (.ref 237),kE P "row_at" 529 (.ref 242),kE P "table_at" 540 (.ref 249),kE P "lowered_at" 550 (.ref 256),kE P "only_choice" 556 (.ref 261),kE P "failing_column" 569 (.ref 268),kE P "keep" 578 (.ref 275),kE P "by_few" 584 (.ref 280),kE P "take" 590 (.ref 285),kE P "apart" 597 (.ref 292),kE P "__static_attributes__" 603 (.ref 293),kE P "__dict__" 605 (.ref 296),kE P "__weakref__" 607 (.ref 297),kE P "__doc__" 608 (.none)] 4 }
noncomputable def zE:Obj:={ cls:=.type "type",data:=Data.cls { name := "Span",bases:=[.type "object"],mro:=[.ref 295,.type "object"],ns:=294,qualname := "Span" },slots:=#[none,none,some (.str "Span" 504),some (.str "Span" 512),some (.builtin "object.__new__"),some (.bool true)] }
noncomputable def DF:Obj:={ cls:=.type "getset_descriptor",data:=Data.fields #[.str "__dict__" 604,.ref 295,.builtin "function.__dict__",.builtin "function.__dict__#set"] }
noncomputable def DG:Obj:={ cls:=.type "getset_descriptor",data:=Data.fields #[.str "__weakref__" 606,.ref 295,.builtin "ExceptionGroup.__weakref__",.none] }
noncomputable def DH:Obj:={ cls:=.type "super",data:=Data.fields #[.ref 295,.ref 295,.ref 295] }
def DI:Obj:=oB #[.builtin "object.__init_subclass__",.ref 295]
def DJ:Obj:=frS 614 ["vectors","span","vector","found"]
def DK:Obj:=kN "relation" "relation" (top 41)
def zF:Obj:=frC "relation" "relation" 611 285 1 3 300 true 181 618
def zG:Obj:=kM "relation" "relation" (top 41) "sumcraft.spans" 464 305
def DL:Obj:=kN "check_work" "check_work" (top 44)
def zH:Obj:=oK #[.str "check_work" 625,.str "check_work" 626,cp 627,.int 296 0,.int 2 0,.int 0 0,.int 0 0,.int 3 0,.ref 307,.bool true,.int 181 0,.ref 308,.none,.none,.none,.ref 309,.int 628 0,.int 296 0,cp 629]
def zI:Obj:=kM "check_work" "check_work" (top 44) "sumcraft.joins" 621 310
def DM:Obj:=kN "thinned" "thinned" (top 45)
def zJ:Obj:=oK #[.str "thinned" 631,.str "thinned" 632,cp 633,.int 299 0,.int 1 0,.int 0 0,.int 0 0,.int 3 0,.ref 312,.bool true,.int 181 0,.ref 313,.none,.none,.none,.ref 314,.int 634 0,.int 299 0,cp 635]
def zK:Obj:=kM "thinned" "thinned" (top 45) "sumcraft.joins" 621 315
def DN:Obj:=kN "joined" "joined" (top 46)
def zL:Obj:=oK #[.str "joined" 637,.str "joined" 638,cp 639,.int 306 0,.int 2 0,.int 0 0,.int 0 0,.int 3 0,.ref 317,.bool true,.int 181 0,.ref 318,.none,.none,.none,.ref 319,.int 640 0,.int 306 0,cp 641]
def zM:Obj:=kM "joined" "joined" (top 46) "sumcraft.joins" 621 320
def DO:Obj:=frS 646 ["one","other","width","vector_of","vectors","weights","number","left","right"]
def DP:Obj:=kN "of_two" "of_two" (top 47)
def zN:Obj:=frC "of_two" "of_two" 643 309 4 3 322 true 181 655
def zO:Obj:=kM "of_two" "of_two" (top 47) "sumcraft.joins" 621 327
def DQ:Obj:=kN "plus_vector" "plus_vector" (top 48)
def zP:Obj:=oK #[.str "plus_vector" 658,.str "plus_vector" 659,cp 660,.int 319 0,.int 2 0,.int 0 0,.int 0 0,.int 3 0,.ref 329,.bool true,.int 181 0,.ref 330,.none,.none,.none,.ref 331,.int 661 0,.int 319 0,cp 662]
def zQ:Obj:=kM "plus_vector" "plus_vector" (top 48) "sumcraft.joins" 621 332
def DR:Obj:=kN "times_vector" "times_vector" (top 49)
def zS:Obj:=oK #[.str "times_vector" 664,.str "times_vector" 665,cp 666,.int 323 0,.int 2 0,.int 0 0,.int 0 0,.int 3 0,.ref 334,.bool true,.int 181 0,.ref 335,.none,.none,.none,.ref 336,.int 667 0,.int 323 0,cp 668]
def zT:Obj:=kM "times_vector" "times_vector" (top 49) "sumcraft.joins" 621 337
noncomputable def LF (P:Params):List DictEntry:=CN P++[kE P "plus_rule" 677 (.ref 345),kE P "times_rule" 685 (.ref 352),kE P "_law_cell_at" 695 (.ref 359),kE P "_law_divisor" 704 (.ref 366),kE P "_law_rule" 710 (.ref 371),kE P "_law_times" 720 (.ref 378),kE P "_law_value" 730 (.ref 385),kE P "_law_lowest" 739 (.ref 392),kE P "_law_values" 745 (.ref 397),kE P "_law_is_rule" 756 (.ref 404),kE P "_law_keeps" 770 (.ref 411),kE P "law" 776 (.ref 416)]
noncomputable def DS (P:Params):Obj:=frD (kE P "__name__" 165 (.str "law_sumcraft_k32_sums_and_products_keep" 686)) (LF P) 63
def LG:Obj:=frL [(2,20),(4,33),(6,45),(8,57),(11,69),(16,76),(21,81),(23,88),(31,95),(37,102),(42,109),(62,116),(78,123),(91,130),(96,135),(98,140),(102,147),(111,152),(113,159),(121,164),(130,171),(135,178),(141,185),(149,190),(154,195),(166,200),(174,207),(183,212),(185,217),(189,222),(194,229),(285,305),(296,310),(299,315),(306,320),(309,327),(319,332),(323,337),(328,344),(330,351),(333,358),(337,365),(345,370),(359,377),(366,384),(371,391),(376,396),(395,403),(407,410),(419,415)]
def LI:Obj:=frS 673 ["one","other"]
def LJ:Obj:=kN "plus_rule" "plus_rule" (top 50)
def DT:Obj:=frC "plus_rule" "plus_rule" 670 328 2 3 339 true 181 675
def DU:Obj:=kM "plus_rule" "plus_rule" (top 50) "sumcraft.joins" 621 344
def LK:Obj:=frS 681 ["one","other"]
def LM:Obj:=kN "times_rule" "times_rule" (top 51)
def DW:Obj:=frC "times_rule" "times_rule" 678 330 2 3 346 true 181 683
def DX:Obj:=kM "times_rule" "times_rule" (top 51) "sumcraft.joins" 621 351
def LN:Obj:=frS 691 ["_law_script","_law_k"]
def LO:Obj:=kN "_law_cell_at" "_law_cell_at" (top 53)
def DY:Obj:=frC "_law_cell_at" "_law_cell_at" 688 333 2 3 353 true 181 693
def DZ:Obj:=kM "_law_cell_at" "_law_cell_at" (top 53) "law_sumcraft_k32_sums_and_products_keep" 686 358
def LP:Obj:=frS 699 ["_law_one","_law_other","_law_rest"]
def LQ:Obj:=kN "_law_divisor" "_law_divisor" (top 54)
def D5:Obj:=frC "_law_divisor" "_law_divisor" 696 337 2 3 360 true 181 702
def D6:Obj:=kM "_law_divisor" "_law_divisor" (top 54) "law_sumcraft_k32_sums_and_products_keep" 686 365
def LR:Obj:=kN "_law_rule" "_law_rule" (top 55)
def D7:Obj:=oK #[.str "_law_rule" 705,.str "_law_rule" 706,cp 707,.int 345 0,.int 4 0,.int 0 0,.int 0 0,.int 3 0,.ref 367,.bool true,.int 181 0,.ref 368,.none,.none,.none,.ref 369,.int 708 0,.int 345 0,cp 709]
def D8:Obj:=kM "_law_rule" "_law_rule" (top 55) "law_sumcraft_k32_sums_and_products_keep" 686 370
def LS:Obj:=frS 714 ["_law_poly","_law_m","_law_found","_law_k"]
def LU:Obj:=kN "_law_times" "_law_times" (top 56)
def D9:Obj:=frC "_law_times" "_law_times" 711 359 2 3 372 true 181 718
def D_:Obj:=kM "_law_times" "_law_times" (top 56) "law_sumcraft_k32_sums_and_products_keep" 686 377
def LV:Obj:=frS 724 ["_law_poly","_law_n","_law_found","_law_number"]
def LW:Obj:=kN "_law_value" "_law_value" (top 57)
def Ea:Obj:=frC "_law_value" "_law_value" 721 366 2 3 379 true 181 728
def Ec:Obj:=kM "_law_value" "_law_value" (top 57) "law_sumcraft_k32_sums_and_products_keep" 686 384
def LX:Obj:=frS 734 ["_law_top","_law_bottom","_law_by"]
def LY:Obj:=kN "_law_lowest" "_law_lowest" (top 58)
def Ef:Obj:=frC "_law_lowest" "_law_lowest" 731 371 2 3 386 true 181 737
def Eg:Obj:=kM "_law_lowest" "_law_lowest" (top 58) "law_sumcraft_k32_sums_and_products_keep" 686 391
def LZ:Obj:=kN "_law_values" "_law_values" (top 59)
def Eh:Obj:=oK #[.str "_law_values" 740,.str "_law_values" 741,cp 742,.int 376 0,.int 3 0,.int 0 0,.int 0 0,.int 3 0,.ref 393,.bool true,.int 181 0,.ref 394,.none,.none,.none,.ref 395,.int 743 0,.int 376 0,cp 744]
def Ei:Obj:=kM "_law_values" "_law_values" (top 59) "law_sumcraft_k32_sums_and_products_keep" 686 396
def L3:Obj:=frS 749 ["_law_found","_law_order","_law_every","_law_poly","_law_number"]
def L4:Obj:=kN "_law_is_rule" "_law_is_rule" (top 60)
def Ej:Obj:=frC "_law_is_rule" "_law_is_rule" 746 395 2 3 398 true 181 754
def Ek:Obj:=kM "_law_is_rule" "_law_is_rule" (top 60) "law_sumcraft_k32_sums_and_products_keep" 686 403
def L5:Obj:=frS 760 ["_law_rule_here","_law_values_here","_law_size","_law_n","_law_top","_law_bottom","_law_i","_law_one"]
def L6:Obj:=kN "_law_keeps" "_law_keeps" (top 61)
def El:Obj:=frC "_law_keeps" "_law_keeps" 757 407 2 3 405 true 181 768
def Em:Obj:=kM "_law_keeps" "_law_keeps" (top 61) "law_sumcraft_k32_sums_and_products_keep" 686 410
def L7:Obj:=kN "law" "law" (top 62)
def En:Obj:=oK #[.str "law" 771,.str "law" 772,cp 773,.int 419 0,.int 1 0,.int 0 0,.int 0 0,.int 3 0,.ref 412,.bool true,.int 181 0,.ref 413,.none,.none,.none,.ref 414,.int 774 0,.int 419 0,cp 775]
def Eo:Obj:=kM "law" "law" (top 62) "law_sumcraft_k32_sums_and_products_keep" 686 415
noncomputable def env0:Env:={ scope:=PySem.Challenge.pw_sumcraft_k32_sums_and_products_keep.main.scope,locals:=mainNs,globals:=mainNs,cells:=[],code:=.ref 13,frame:=some 14 }
def cd0:Code:=.body (behindTheImports PySem.Challenge.pw_sumcraft_k32_sums_and_products_keep) env0
noncomputable def fr0:List Frame:=[topFrame { line:=0,col:=0,endLine:=0,endCol:=0 }]
noncomputable def hp1 (P:Params):Heap:=⟨⟨[boot_o_0 P,boot_o_1 P,boot_o_2 P,boot_o_3 P,boot_o_4 P,boot_o_5 P,boot_o_6 P,boot_o_7 P,boot_o_8 P,boot_o_9 P,boot_o_10 P,ah,aC,pR,pT]⟩,{}⟩
noncomputable def hp3 (P:Params):Heap:=⟨⟨[boot_o_0 P,boot_o_1 P,boot_o_2 P,ob3 P,boot_o_4 P,boot_o_5 P,boot_o_6 P,boot_o_7 P,boot_o_8 P,boot_o_9 P,boot_o_10 P,ah,LB,pR,pT,xG,gE,pU P,ah,aC,xH,xI,ah,pV P,pW,xJ,xK,xL,jd,gE,pX P,ah,aC,xM,xN,ah,pY P,pZ,xO,xP,jd,gE,p_ P,ah,aC,xQ,xS,ah,qc P,qd,xT,xU,jd,gE,qe P,ah,aC,xV,xW,ah,qf P,qg,xX,xY,ah,aC,xZ,ah,x_,qh,qi,ah,aC,ya,ah,yc,qj,qk,ah,aC,yd,ql,qm,ah,aC,ye,ah,yf,qo,qp,ah,aC,yh,ah,yi,qq,qr,ah,aC,yj,ah,yk,qt,qu,ah,aC,yl,ah,ym,qx,qy,ah,aC,yn,ah,yo,qz,qA,ah,aC,yp,ah,yq,qB,qC,ah,aC,yr,ah,yt,qD,qE]⟩,{}⟩
noncomputable def hp4 (P:Params):Heap:=⟨⟨[boot_o_0 P,boot_o_1 P,boot_o_2 P,LC P,boot_o_4 P,boot_o_5 P,boot_o_6 P,boot_o_7 P,boot_o_8 P,boot_o_9 P,boot_o_10 P,ah,LD,pR,pT,xG,gE,pU P,ah,aC,xH,xI,ah,pV P,pW,xJ,xK,xL,jd,gE,pX P,ah,aC,xM,xN,ah,pY P,pZ,xO,xP,jd,gE,p_ P,ah,aC,xQ,xS,ah,qc P,qd,xT,xU,jd,gE,qe P,ah,aC,xV,xW,ah,qf P,qg,xX,xY,ah,aC,xZ,ah,x_,qh,qi,ah,aC,ya,ah,yc,qj,qk,ah,aC,yd,ql,qm,ah,aC,ye,ah,yf,qo,qp,ah,aC,yh,ah,yi,qq,qr,ah,aC,yj,ah,yk,qt,qu,ah,aC,yl,ah,ym,qx,qy,ah,aC,yn,ah,yo,qz,qA,ah,aC,yp,ah,yq,qB,qC,ah,aC,yr,ah,yt,qD,qE,ah,aC,CO,yu,yw,ah,aC,CP,yy,yz,ah,aC,CQ,ah,CS,yB,yC,ah,aC,CT,yD,yE,ah,aC,CU,ah,CV,yF,yG,ah,aC,CW,yH,yI,ah,aC,CY,ah,CZ,yJ,yK,ah,aC,C7,ah,C8,yL,yM,ah,aC,C9,ah,C_,yN,yO,ah,aC,Da,yP,yQ,ah,aC,Dd,yS,yT,ah,aC,De,yU,yV,ah,aC,Df,ah,Dg,yW,yX,ah,aC,Dh,yY,yZ,ah,aC,Di,y_,za,ah,aC,Dj,zc,zd,ah,gE,ze P,ah,Dk,Dm,Dn,ah,aC,Do,ah,Dp,zf,zg,ah,aC,Dq,zh,zi,ah,aC,Dr,ah,Ds,zj,zk,ah,aC,Dt,ah,Du,zm,zn,ah,aC,Dv,zo,zp,ah,aC,Dw,ah,Dx,zq,zr,ah,aC,Dy,ah,Dz,zt,zu,ah,aC,DA,zw,zx,ah,aC,DB,zz,zA,ah,aC,DC,ah,DD,zB,zC,DE,zD P,zE,DF,DG,DH,DI,ah,aC,DJ,ah,DK,zF,zG,ah,aC,DL,zH,zI,ah,aC,DM,zJ,zK,ah,aC,DN,zL,zM,ah,aC,DO,ah,DP,zN,zO,ah,aC,DQ,zP,zQ,ah,aC,DR,zS,zT]⟩,{}⟩
noncomputable def hp5 (P:Params):Heap:=⟨⟨[boot_o_0 P,boot_o_1 P,boot_o_2 P,DS P,boot_o_4 P,boot_o_5 P,boot_o_6 P,boot_o_7 P,boot_o_8 P,boot_o_9 P,boot_o_10 P,ah,LG,pR,pT,xG,gE,pU P,ah,aC,xH,xI,ah,pV P,pW,xJ,xK,xL,jd,gE,pX P,ah,aC,xM,xN,ah,pY P,pZ,xO,xP,jd,gE,p_ P,ah,aC,xQ,xS,ah,qc P,qd,xT,xU,jd,gE,qe P,ah,aC,xV,xW,ah,qf P,qg,xX,xY,ah,aC,xZ,ah,x_,qh,qi,ah,aC,ya,ah,yc,qj,qk,ah,aC,yd,ql,qm,ah,aC,ye,ah,yf,qo,qp,ah,aC,yh,ah,yi,qq,qr,ah,aC,yj,ah,yk,qt,qu,ah,aC,yl,ah,ym,qx,qy,ah,aC,yn,ah,yo,qz,qA,ah,aC,yp,ah,yq,qB,qC,ah,aC,yr,ah,yt,qD,qE,ah,aC,CO,yu,yw,ah,aC,CP,yy,yz,ah,aC,CQ,ah,CS,yB,yC,ah,aC,CT,yD,yE,ah,aC,CU,ah,CV,yF,yG,ah,aC,CW,yH,yI,ah,aC,CY,ah,CZ,yJ,yK,ah,aC,C7,ah,C8,yL,yM,ah,aC,C9,ah,C_,yN,yO,ah,aC,Da,yP,yQ,ah,aC,Dd,yS,yT,ah,aC,De,yU,yV,ah,aC,Df,ah,Dg,yW,yX,ah,aC,Dh,yY,yZ,ah,aC,Di,y_,za,ah,aC,Dj,zc,zd,ah,gE,ze P,ah,Dk,Dm,Dn,ah,aC,Do,ah,Dp,zf,zg,ah,aC,Dq,zh,zi,ah,aC,Dr,ah,Ds,zj,zk,ah,aC,Dt,ah,Du,zm,zn,ah,aC,Dv,zo,zp,ah,aC,Dw,ah,Dx,zq,zr,ah,aC,Dy,ah,Dz,zt,zu,ah,aC,DA,zw,zx,ah,aC,DB,zz,zA,ah,aC,DC,ah,DD,zB,zC,DE,zD P,zE,DF,DG,DH,DI,ah,aC,DJ,ah,DK,zF,zG,ah,aC,DL,zH,zI,ah,aC,DM,zJ,zK,ah,aC,DN,zL,zM,ah,aC,DO,ah,DP,zN,zO,ah,aC,DQ,zP,zQ,ah,aC,DR,zS,zT,ah,aC,LI,ah,LJ,DT,DU,ah,aC,LK,ah,LM,DW,DX,ah,aC,LN,ah,LO,DY,DZ,ah,aC,LP,ah,LQ,D5,D6,ah,aC,LR,D7,D8,ah,aC,LS,ah,LU,D9,D_,ah,aC,LV,ah,LW,Ea,Ec,ah,aC,LX,ah,LY,Ef,Eg,ah,aC,LZ,Eh,Ei,ah,aC,L3,ah,L4,Ej,Ek,ah,aC,L5,ah,L6,El,Em,ah,aC,L7,En,Eo]⟩,{}⟩
set_option maxHeartbeats 0 in
theorem L8 (w:World)(os:OsState):topGo treeTable PySem.Challenge.pw_sumcraft_k32_sums_and_products_keep w 11 (some (.ref 6)) 12 (⟨boot_heap w.params,Array.mk [],boot_drawn,boot_toks,os⟩:Shared) (topStub PySem.Challenge.pw_sumcraft_k32_sums_and_products_keep)=some ((⟨hp1 w.params,#[],{},187,os⟩:Shared),⟨denote treeTable cd0,cd0,{ line:=0,col:=0,endLine:=0,endCol:=0 },fr0⟩):=∅
set_option maxHeartbeats 0 in
theorem L9 (w:World)(os:OsState):segRun treeTable PySem.Challenge.pw_sumcraft_k32_sums_and_products_keep w 11 (some (.ref 6)) 1 1 (⟨hp1 w.params,#[],{},187,os⟩:Shared) (blockOf (behindTheImports PySem.Challenge.pw_sumcraft_k32_sums_and_products_keep) env0 cd0 { line:=0,col:=0,endLine:=0,endCol:=0 } fr0)=some (.next,(⟨hp1 w.params,#[],{},187,os⟩:Shared),cd0,{ line:=0,col:=0,endLine:=0,endCol:=0 }):=∅
noncomputable def gl3:List Stmt:=[top 0,top 1,top 2,top 3,top 4,top 5,top 6,top 7,top 8,top 9,top 10,top 11,top 12,top 13,top 14,top 15,top 16,top 17,top 18,top 19]
set_option maxHeartbeats 0 in
theorem pc3 (w:World)(os:OsState):segRun treeTable PySem.Challenge.pw_sumcraft_k32_sums_and_products_keep w 11 (some (.ref 6)) 1 1211 (⟨hp1 w.params,#[],{},187,os⟩:Shared) (piecesOf gl3 env0 cd0 { line:=0,col:=0,endLine:=0,endCol:=0 } fr0)=some (.next,(⟨hp3 w.params,#[],{},378,os⟩:Shared),cd0,{ line:=91,col:=0,endLine:=95,endCol:=17 }):=∅
noncomputable def gl4:List Stmt:=[top 20,top 21,top 22,top 23,top 24,top 25,top 26,top 27,top 28,top 29,top 30,top 31,top 32,top 33,top 34,top 35,top 36,top 37,top 38,top 39,top 40,top 41,top 42,top 43,top 44,top 45,top 46,top 47,top 48,top 49]
set_option maxHeartbeats 0 in
theorem pc4 (w:World)(os:OsState):segRun treeTable PySem.Challenge.pw_sumcraft_k32_sums_and_products_keep w 11 (some (.ref 6)) 1 1212 (⟨hp3 w.params,#[],{},378,os⟩:Shared) (piecesOf gl4 env0 cd0 { line:=91,col:=0,endLine:=95,endCol:=17 } fr0)=some (.next,(⟨hp4 w.params,#[],{},670,os⟩:Shared),cd0,{ line:=323,col:=0,endLine:=327,endCol:=17 }):=∅
noncomputable def gl5:List Stmt:=[top 50,top 51,top 52,top 53,top 54,top 55,top 56,top 57,top 58,top 59,top 60,top 61,top 62]
set_option maxHeartbeats 0 in
theorem pc5 (w:World)(os:OsState):segRun treeTable PySem.Challenge.pw_sumcraft_k32_sums_and_products_keep w 11 (some (.ref 6)) 1 373 (⟨hp4 w.params,#[],{},670,os⟩:Shared) (piecesOf gl5 env0 cd0 { line:=323,col:=0,endLine:=327,endCol:=17 } fr0)=some (.next,(⟨hp5 w.params,#[],{},777,os⟩:Shared),cd0,{ line:=419,col:=0,endLine:=444,endCol:=48 }):=∅
set_option maxHeartbeats 0 in
theorem L_ (w:World)(os:OsState):topRun treeTable PySem.Challenge.pw_sumcraft_k32_sums_and_products_keep w 11 (some (.ref 6)) 2 (⟨hp5 w.params,#[],{},777,os⟩:Shared) ⟨doneF .next,cd0,{ line:=419,col:=0,endLine:=444,endCol:=48 },fr0⟩=some (⟨hp5 w.params,#[],{},777,os⟩:Shared):=∅
theorem Mc:behindTheImports PySem.Challenge.pw_sumcraft_k32_sums_and_products_keep=gl3++(gl4++(gl5++[])):=∅
theorem Md (w:World)(os:OsState):topRun treeTable PySem.Challenge.pw_sumcraft_k32_sums_and_products_keep w 11 (some (.ref 6)) (12+(1+(1211+(1212+(373+2))))) (⟨boot_heap w.params,Array.mk [],boot_drawn,boot_toks,os⟩:Shared) (topStub PySem.Challenge.pw_sumcraft_k32_sums_and_products_keep)=some (⟨hp5 w.params,#[],{},777,os⟩:Shared):=
 go_top (L8 w os) (piece_block (L9 w os) (by
  rw[Mc];exact piece_app (pc3 w os) (piece_app (pc4 w os) (piece_app (pc5 w os) (piece_nil (L_ w os))))))
noncomputable def KK (P:Params):Frag:=[(3,DS P),(17,pU P),(23,pV P),(24,pW),(30,pX P),(36,pY P),(37,pZ),(42,p_ P),(48,qc P),(49,qd),(54,qe P),(60,qf P),(61,qg),(69,qh),(70,qi),(76,qj),(77,qk),(81,ql),(82,qm),(88,qo),(89,qp),(95,qq),(96,qr),(102,qt),(103,qu),(109,qx),(110,qy),(116,qz),(117,qA),(123,qB),(124,qC),(130,qD),(131,qE),(135,yu),(136,yw),(140,yy),(141,yz),(147,yB),(148,yC),(152,yD),(153,yE),(159,yF),(160,yG),(164,yH),(165,yI),(171,yJ),(172,yK),(178,yL),(179,yM),(185,yN),(186,yO),(190,yP),(191,yQ),(195,yS),(196,yT),(200,yU),(201,yV),(207,yW),(208,yX),(212,yY),(213,yZ),(217,y_),(218,za),(222,zc),(223,zd),(226,ze P),(236,zf),(237,zg),(241,zh),(242,zi),(248,zj),(249,zk),(255,zm),(256,zn),(260,zo),(261,zp),(267,zq),(268,zr),(274,zt),(275,zu),(279,zw),(280,zx),(284,zz),(285,zA),(291,zB),(292,zC),(294,zD P),(295,zE),(305,zF),(306,zG),(310,zH),(311,zI),(315,zJ),(316,zK),(320,zL),(321,zM),(327,zN),(328,zO),(332,zP),(333,zQ),(337,zS),(338,zT),(344,DT),(345,DU),(351,DW),(352,DX),(358,DY),(359,DZ),(365,D5),(366,D6),(370,D7),(371,D8),(377,D9),(378,D_),(384,Ea),(385,Ec),(391,Ef),(392,Eg),(396,Eh),(397,Ei),(403,Ej),(404,Ek),(410,El),(411,Em),(415,En),(416,Eo)]
noncomputable def KA:List Addr:=[3,17,23,24,30,36,37,42,48,49,54,60,61,69,70,76,77,81,82,88,89,95,96,102,103,109,110,116,117,123,124,130,131,135,136,140,141,147,148,152,153,159,160,164,165,171,172,178,179,185,186,190,191,195,196,200,201,207,208,212,213,217,218,222,223,226,236,237,241,242,248,249,255,256,260,261,267,268,274,275,279,280,284,285,291,292,294,295,305,306,310,311,315,316,320,321,327,328,332,333,337,338,344,345,351,352,358,359,365,366,370,371,377,378,384,385,391,392,396,397,403,404,410,411,415,416]
noncomputable def qv:Program:=view PySem.Challenge.pw_sumcraft_k32_sums_and_products_keep [1,2,3,4,6,7,8,9,10,11,12,14,15,16,17,19,20,21,22,23,24,25,26,27,29,31,32,34,35,36,37,38,39,40,41,43,44,45,46,47,48,49,50,51,53,54,55,56,57,58,59,60,61,62]
def xt (s:Shared):Bool:=xlAt qv [] s && recOk (PySem.Challenge.rw_sumcraft_k32_sums_and_products_keep.row.toRowW).records s
def hk:Hook:=kHook KK KA λ_=>rfl
set_option maxHeartbeats 0 in
theorem left:LeftO PySem.Challenge.pw_sumcraft_k32_sums_and_products_keep qv [] xt hk.obs hk.val 5712:=
 LeftO.of_pieces (H₀:=boot_heap) (H₁:=hp5) (gs₁:=#[]) (d₁:={}) (k₁:=777)
  (boot_open ∅ rfl λs=>∅)
  (λw=>∅) Md ∅
  λw=>∅
set_option maxHeartbeats 0 in
theorem Me:PySem.Challenge.rw_sumcraft_k32_sums_and_products_keep.wellSaid=true:=∅
set_option maxHeartbeats 0 in
theorem Mf:PySem.Challenge.rw_sumcraft_k32_sums_and_products_keep.row.prog.bare:=⟨rfl,rfl,rfl,rfl,rfl,by decide +kernel⟩
end My
local macro_rules | `(#[$x,*]) => `(⟨$x,*⟩)
local macro_rules | `($x.$i:fieldIdx) => match i.raw.isFieldIdx? with
  | some 9 => `(($x).length)
  | some 8 => `(($x).natAbs)
  | some 7 => `(($x).heap.objs.size)
  | _ => Lean.Macro.throwUnsupported
open Option renaming some→Zz,none→Zy
abbrev am:=List PySem.Addr
abbrev aJ:=List (PySem.Addr×PySem.Obj)
abbrev ay:=List Nat
abbrev bH:=PySem.Str->Option PySem.Value
abbrev aX:=PySem.Value->PySem.Shared->Prop
abbrev aL:=Nat->Int
abbrev ao:=PySem.W.Frag
namespace L2
open PySem PySem.Spec PyProof.Rows
abbrev Key:=Sum Int Str
def mh:Key->Value->Bool
 | .inl k,v=>Value.isInt k v
 | .inr x,v=>Value.isStrOf x v
def Mg (w:World):Key->Int
 | .inl k=>hashInt k
 | .inr x=>hashStr w x
theorem je:∀{k:Key}{v:Value},mh k v=true->(∃i t,k=Sum.inl i/\v=Value.int i t)\/(∃x t,k=Sum.inr x/\v=Value.str x t)
 | .inl i,v,h=>by
  exists Value.isInt_shape (k:=i) (v:=v) h,t,e;exact .inl #[i,t,rfl,e]
 | .inr x,v,h=>by
  exists Value.isStrOf_shape (x:=x) (v:=v) h,t,e;exact .inr #[x,t,rfl,e]
theorem Mh (i:Int)(t:Tok):mh (.inl i) (.int i t)=true:=by simp[mh,Value.isInt]
theorem Mi (x:Str)(t:Tok):mh (.inr x) (.str x t)=true:=by simp[mh,Value.isStrOf]
theorem Mj (a b:Int):decide ((Sum.inl a:Key)=Sum.inl b)=(a == b):=by
 by_cases e:a=b
 ·subst e;simp
 ·have h:¬(Sum.inl a:Key)=Sum.inl b:=λq=>e (Sum.inl.inj q);rw[decide_eq_false h];exact (beq_eq_false_iff_ne.mpr e).symm
theorem Ml (a b:Str):decide ((Sum.inr a:Key)=Sum.inr b)=decide (a=b):=by
 by_cases e:a=b
 ·subst e;simp
 ·have h:¬(Sum.inr a:Key)=Sum.inr b:=λq=>e (Sum.inr.inj q);rw[decide_eq_false h,decide_eq_false e]
theorem Mm (a:Int)(b:Str):decide ((Sum.inl a:Key)=Sum.inr b)=false:=decide_eq_false (λq=>nomatch q)
theorem Mn (a:Str)(b:Int):decide ((Sum.inr a:Key)=Sum.inl b)=false:=decide_eq_false (λq=>nomatch q)
def jf (prog:Program)(w:World):PySem.KeyKind prog w Key where
 is:=mh
 hash:=Mg w
 inj:=λv a b ha hb=>by
  rcases je ha with ⟨i,t,rfl,rfl⟩|⟨x,t,rfl,rfl⟩
  ·rcases je hb with ⟨j,u,rfl,e⟩|⟨y,u,rfl,e⟩
   ·injection e with e1 _;rw[e1]
   ·exact nomatch e
  ·rcases je hb with ⟨j,u,rfl,e⟩|⟨y,u,rfl,e⟩
   ·exact nomatch e
   ·injection e with e1 _;rw[e1]
 byValue:=λk v h=>by
  rcases je h with ⟨i,t,rfl,rfl⟩|⟨x,t,rfl,rfl⟩ <;> rfl
 pyHash:=λhv h=>by
  rcases je hv with ⟨i,t,rfl,rfl⟩|⟨x,t,rfl,rfl⟩
  ·exact wpAny_pyHash_int h
  ·exact wpAny_pyHash_str h
 eqBool:=λhu hv h=>by
  rcases je hu with ⟨i,t,rfl,rfl⟩|⟨x,t,rfl,rfl⟩
  ·rcases je hv with ⟨j,u,rfl,rfl⟩|⟨y,u,rfl,rfl⟩
   ·rw[Mj]at h;exact wpAny_eqBool_int h
   ·rw[Mm]at h;exact SeqAt.EqAt.int_str i t y u _ _ _ _ h
  ·rcases je hv with ⟨j,u,rfl,rfl⟩|⟨y,u,rfl,rfl⟩
   ·rw[Mn]at h;exact SeqAt.EqAt.str_int x t j u _ _ _ _ h
   ·rw[Ml]at h;exact wpAny_eqBool_str h
 «strs»:=λk x t v h=>by
  rcases je h with ⟨i,u,rfl,e⟩|⟨y,u,rfl,e⟩
  ·exact nomatch e
  ·injection e with e1 _;subst e1
   cases v <;> rfl
theorem Mo (prog:Program)(w:World)(i:Int)(t:Tok):(jf prog w).is (.inl i) (.int i t)=true:=Mh i t
theorem Mp (prog:Program)(w:World)(x:Str)(t:Tok):(jf prog w).is (.inr x) (.str x t)=true:=Mi x t
inductive V where
 | non|bl (b:Bool)|int (i:Int)|str (x:Str)|byt (b:Array UInt8)|flt (b:UInt64)|ref (a:Addr)|ty (n:String)
 deriving DecidableEq
def RelV:V->Value->Prop
 | .non,u=>u=Value.none
 | .bl b,u=>u=Value.bool b
 | .int i,u=>∃t,u=Value.int i t
 | .str x,u=>∃t,u=Value.str x t
 | .byt b,u=>∃t,u=Value.bytes b t
 | .flt b,u=>∃t,u=Value.float b t
 | .ref a,u=>u=Value.ref a
 | .ty n,u=>u=Value.type n
abbrev Vals:List V->List Value->Prop:=Paired RelV
theorem Vals.length {xs:List V}{us:List Value}(r:Vals xs us):xs.9=us.9:=Paired.length r
theorem Vals.get:∀{a:List V}{c:List Value}{i:Nat}{x:V},Vals a c->a[i]?=Zz x->∃u,c[i]?=Zz u/\RelV x u
 | _,_,_,_,.nil,e=>by simp at e
 | _,_,0,_,.cons r _,e=>by simp at e;subst e;exact#[_,rfl,r]
 | _,_,i+1,x,.cons _ t,e=>by
  exists Vals.get (i:=i) (x:=x) t (⇑e),u,d,f;exact#[u,by simpa using d,f]
theorem Vals.set {x:V}{u:Value}(r:RelV x u):∀{a:List V}{c:List Value}(i:Nat),Vals a c->Vals (a.set i x) (c.set i u)
 | _,_,_,.nil=>.nil
 | _,_,0,.cons _ t=>.cons r t
 | _,_,i+1,.cons q t=>.cons q (Vals.set r i t)
theorem Vals.append:∀{a c:List V}{d e:List Value},Vals a d->Vals c e->Vals (a++c) (d++e)
 | _,_,_,_,.nil,s=>s
 | _,_,_,_,.cons r t,s=>.cons r (Vals.append t s)
theorem Vals.take:∀{a:List V}{c:List Value}(n:Nat),Vals a c->Vals (a.take n) (c.take n)
 | _,_,0,_=>.nil
 | _,_,_+1,.nil=>.nil
 | _,_,n+1,.cons r t=>.cons r (Vals.take n t)
theorem Vals.drop:∀{a:List V}{c:List Value}(n:Nat),Vals a c->Vals (a.drop n) (c.drop n)
 | _,_,0,r=>r
 | _,_,_+1,.nil=>.nil
 | _,_,n+1,.cons _ t=>Vals.drop n t
def RelO:Option V->Option Value->Prop
 | some v,Zz u=>RelV v u
 | none,Zy=>True
 | _,_=>False
def KV {κ:Type}:List (κ×V)->List (κ×Value)->Prop:=Paired λ(p:κ×V)(q:κ×Value)=>p.1=q.1/\RelV p.2 q.2
def kV:Key->V
 | .inl i=>.int i
 | .inr x=>.str x
inductive HO where
  | lst (xs:List V)
  | tup (xs:List V)
  | dK (kvs:List (Key×V))|dT (kvs:List (List Key×V))
  | set (S:Int->Bool) (n:Nat)
  | ins (C dx:Addr) (fs:List (Str×V))
  | own (x:Addr)
  | xd (fs:List (Str×V))
  | met (f x:Addr)
  | rng (lo hi:Int)
  | frz (o:Obj) (u:HO)
  | tbl (ps:Array Value)
  | ext (φ:Heap->Prop)
abbrev Hp:=Addr->Option HO
def upd (H:Hp)(a:Addr)(o:HO):Hp:=λb=>if b=a then Zz o else H b
theorem ak {H:Hp}{a:Addr}{o:HO}:upd H a o a=Zz o:=by unfold upd;rw[if_pos rfl]
theorem aE {H:Hp}{a b:Addr}{o:HO}(h:b≠a):upd H a o b=H b:=by unfold upd;rw[if_neg h]
theorem Mq {H:Hp}{a:Addr}{o u:HO}:upd (upd H a o) a u=upd H a u:=by
 funext b;unfold upd;split <;> rfl
theorem zU {H:Hp}{a b:Addr}{o u:HO}(h:H a=Zz o)(h':H b=Zz u)(d:o≠u):a≠b:=by
 intro e;subst e;rw[h]at h';exact d (Option.some.inj h')
theorem e_ {H:Hp}{a b:Addr}{o:HO}(h:H a=Zz o)(h':H b=Zy):a≠b:=by
 intro e;subst e;rw[h]at h';cases h'
section
variable (P:Program)(w:World)
def ObjOk (H:Hp)(h:Heap)(a:Addr):HO->Prop
 | .lst xs=>xs.9<=sizeLine/\∃(its:List Value)(n:Nat),Vals xs its/\h.get? a=Zz { cls:=.type "list",data:=.seq its.toArray n }
 | .tup xs=>xs.9<=sizeLine/\∃its:List Value,Vals xs its/\IsTup h a its.toArray
 | .dK kvs=>kvs.9<=sizeLine/\(a == sysModules)=false/\∃vs,KV kvs vs/\h.DictOf (jf P w) a vs
 | .dT kvs=>kvs.9<=sizeLine/\(a == sysModules)=false/\∃xs:List (List Key×Addr×Value),
   Paired (λ(p:List Key×V)(q:List Key×Addr×Value)=>p.1=q.1/\H q.2.1=Zz (.tup (p.1.map kV))/\RelV p.2 q.2.2) kvs xs/\
   ∃o es ep,h.get? a=Zz o/\o.ExactDict/\o.data=.dict es ep/\es.toList=xs.map (entryOfKey (tupleKind (jf P w)))/\(xs.map (·.1)).Nodup
 | .set S n=>h.SetOf (intKind P w) a S n
 | .ins C dx fs=>H dx=Zz (.own a)/\fs.9<=1000/\dx≠a/\h.get? a=Zz (PySem.W.instObj C dx)/\
   ∃mA,h.Ns1 dx mA/\(∀f,RelO (fs.lookup f) (mA f))/\PySem.Within mA (fs.map (·.1))
 | .own _=>∃o,h.get? a=Zz o
 | .xd fs=>∃mA,h.Ns1 a mA/\∀f,RelO (fs.lookup f) (mA f)
 | .rng lo hi=>∃t u v,h.get? a=Zz { cls:=.type "range",data:=.fields (List.toArray [.int lo t,.int hi u,.int 1 v]) }
 | .frz o u=>h.get? a=Zz o/\ObjOk H h a u
 | .tbl ps=>h.get? a=Zz { cls:=.none,data:=.fields ps }
 | .met f x=>h.get? a=Zz (PySem.W.methodObj (.ref f) (.ref x))
 | .ext φ=>φ h/\(∃o,h.get? a=Zz o)/\∀h1 h2:Heap,φ h1->(∀o,h1.get? a=Zz o->h2.get? a=Zz o)->φ h2
def HOk (H:Hp)(h:Heap):Prop:=∀a o,H a=Zz o->ObjOk P w H h a o
end
section
variable {P:Program}{w:World}{H H':Hp}{h h':Heap}{a:Addr}{o:HO}
theorem ObjOk.lt (x:ObjOk P w H h a o):a<h.objs.size:=by
 cases o with
 | lst xs=>exists x,_,_,_,_,e;exact Heap.lt_size e
 | tup xs=>exists x,_,_,_,p;exact p.lt
 | dK kvs=>exists x,_,_,_,_,o,_,_,e,_;exact Heap.lt_size e
 | dT kvs=>exists x,_,_,_,_,o,_,_,e,_;exact Heap.lt_size e
 | set S n=>exists x,o,_,_,_,e,_;exact Heap.lt_size e
 | ins C dx fs=>exists x,_,_,_,e,_;exact Heap.lt_size e
 | own y=>exists x,_,e;exact Heap.lt_size e
 | xd fs=>exists x,_,#[_,_,_,e,_],_;exact Heap.lt_size e
 | rng lo hi=>exists x,_,_,_,e;exact Heap.lt_size e
 | frz ob u=>exists x,e,_;exact Heap.lt_size e
 | tbl ps=>exact Heap.lt_size (show h.get? a=Zz _ from x)
 | met f y=>exact Heap.lt_size (show h.get? a=Zz _ from x)
 | ext φ=>exists x,_,#[_,e],_;exact Heap.lt_size e
theorem Paired.mapP {α β:Type}{F G:α->β->Prop}:∀{c:List α}{d:List β},Paired F c d->(∀a b,F a b->G a b)->Paired G c d
 | _,_,.nil,_=>.nil
 | _,_,.cons r t,f=>.cons (f _ _ r) (Paired.mapP t f)
theorem ObjOk.stay (x:ObjOk P w H h a o)(k:∀b u,(b=a\/H b=Zz (.own a))->h.get? b=Zz u->h'.get? b=Zz u)(I:∀b,H b=Zz (.own a)->H' b=Zz (.own a))(J:∀b s,H b=Zz (.tup s)->H' b=Zz (.tup s)):ObjOk P w H' h' a o:=by
 induction o with
 | lst s=>exists x,z,m,n,r,e;exact#[z,m,n,r,k _ _ (.inl rfl) e]
 | tup s=>exists x,z,m,r,g,e,c;exact#[z,m,r,g,k _ _ (.inl rfl) e,c]
 | dK kvs=>exists x,z,y,M,r,g,i,j,e,c;exact#[z,y,M,r,g,i,j,k _ _ (.inl rfl) e,c]
 | dT kvs=>
  exists x,z,y,s,r,g,i,j,e,c;exact#[z,y,s,Paired.mapP r λp q z=>#[z.1,J _ _ z.2.1,z.2.2],g,i,j,k _ _ (.inl rfl) e,c]
 | set S n=>exists x,g,i,j,t,e,c;exact#[g,i,j,t,k _ _ (.inl rfl) e,c]
 | ins C dx fs=>
  exists x,d,z,ne,e,F,#[G,i,j,O,c],r;exact#[I _ d,z,ne,k _ _ (.inl rfl) e,F,#[G,i,j,k _ _ (.inr d) O,c],r]
 | own y=>exists x,g,e;exact#[g,k _ _ (.inl rfl) e]
 | xd fs=>exists x,F,#[G,i,j,e,c],r;exact#[F,#[G,i,j,k _ _ (.inl rfl) e,c],r]
 | rng lo hi=>exists x,t,u,v,e;exact#[t,u,v,k _ _ (.inl rfl) e]
 | frz g u ih=>exists x,e,q;exact#[k _ _ (.inl rfl) e,ih q]
 | tbl ps=>
  have e:h.get? a=Zz { cls:=.none,data:=.fields ps }:=x;show h'.get? a=Zz { cls:=.none,data:=.fields ps };exact k a _ (.inl rfl) e
 | met f y=>
  have e:h.get? a=Zz (PySem.W.methodObj (.ref f) (.ref y)):=x;show h'.get? a=Zz (PySem.W.methodObj (.ref f) (.ref y));exact k a _ (.inl rfl) e
 | ext φ=>exists x,p,#[o,e],st;exact#[st _ _ p λo q=>k _ _ (.inl rfl) q,#[o,k _ _ (.inl rfl) e],st]
theorem HOk.lt (x:HOk P w H h)(e:H a=Zz o):a<h.objs.size:=(x a o e).lt
theorem HOk.fresh (x:HOk P w H h)(e:h.objs.size<=a):H a=Zy:=by
 cases q:H a with
 | none=>rfl
 | some u=>exact absurd (cI (x.lt q) e) (ki _)
theorem HOk.kept (x:HOk P w H h)(k:∀b u,h.get? b=Zz u->h'.get? b=Zz u):HOk P w H h':=λa o e=>
 (x a o e).stay (λb u _ q=>k b u q) (λ_ q=>q) λ_ _ q=>q
theorem HOk.laid (x:HOk P w H h)(k:∀b u,h.get? b=Zz u->h'.get? b=Zz u)(g:h.objs.size<=a)(d:ObjOk P w (upd H a o) h' a o):HOk P w (upd H a o) h':=λb u e=>by
 have f:=x.fresh g;by_cases hb:b=a
 ·subst hb;rw[ak]at e;cases e;exact d
 ·rw[aE hb]at e;exact (x b u e).stay (λc v _ q=>k c v q) (λc q=>#v[aE (e_ q f),q]) λc i q=>#v[aE (e_ q f),q]
end
def Rd (H:Hp)(a:Addr)(u:HO):Prop:=H a=Zz u\/∃o,H a=Zz (.frz o u)
theorem Rd.ok {P:Program}{w:World}{H:Hp}{h:Heap}{a:Addr}{u:HO}(r:Rd H a u)(x:HOk P w H h):ObjOk P w H h a u:=by
 rcases r with r|⟨o,r⟩
 ·exact x a u r
 ·exists x a _ r,_,q;exact q
def Mut:Option HO->Prop
 | some (.lst _)=>True
 | some (.dK _)=>True
 | some (.dT _)=>True
 | some (.set _ _)=>True
 | some (.ins _ _ _)=>True
 | some (.ext _)=>True
 | _=>False
section
variable {P:Program}{w:World}{H:Hp}{h h':Heap}{x e:Addr}{o':HO}
theorem HOk.write (ok:HOk P w H h)(f:Mut (H x))(n:e=x\/H e=Zz (.own x))(k:∀b u,b≠e->h.get? b=Zz u->h'.get? b=Zz u)(j:∃u,h'.get? e=Zz u)(m:ObjOk P w (upd H x o') h' x o'):HOk P w (upd H x o') h':=λb u q=>by
 have a:∀c y,H c=Zz (.own y)->c≠x:=λc y r z=>by subst z;rw[r]at f;exact f
 have d:∀c g,H c=Zz (.tup g)->c≠x:=λc g r z=>by subst z;rw[r]at f;exact f
 by_cases hb:b=x
 ·subst hb;rw[ak]at q;cases q;exact m
 ·rw[aE hb]at q;by_cases hbe:b=e
  ·have o:H b=Zz (.own x):=by
    rcases n with z|z
    ·exact absurd (hbe.trans z) hb
    ·rw[hbe];exact z
   rw[q]at o;cases o;exists j,v,p;exact#[v,#v[hbe,p]]
  ·refine (ok b u q).stay (λc v i r=>k c v ?_ r) (λc r=>#v[aE (a c b r),r]) λc g r=>by rw[aE (d c g r)];exact r
   rcases i with rfl|i
   ·exact hbe
   ·rintro rfl
    rcases n with z|z
    ·exact a c b i z
    ·rw[i]at z;cases z;exact hb rfl
end
structure Un (fs ex:am)(H H':Hp)(h h':Heap):Prop where
 keep:∀b o,h.get? b=Zz o->H b=Zy->b∉fs->b∉ex->h'.get? b=Zz o
 slot:∀b o,h.get? b=Zz o->H b=Zy->b∈fs->b∉ex->∃sl,h'.get? b=Zz { o with slots:=sl }
 free:∀b o,h.get? b=Zz o->H b=Zy->b∉ex->H' b=Zy
 there:∀b o,h.get? b=Zz o->b∉ex->∃o',h'.get? b=Zz o'
 tups:∀b xs,H b=Zz (.tup xs)->H' b=Zz (.tup xs)
 frzs:∀b o u,H b=Zz (.frz o u)->H' b=Zz (.frz o u)
 tbls:∀b ps,H b=Zz (.tbl ps)->∃more,H' b=Zz (.tbl (ps++more))
section
variable {fs fs' ex ex':am}{H H1 H2:Hp}{h h1 h2 h':Heap}{a x e:Addr}{o:HO}
theorem Un.any (u:Un fs ex H H1 h h1){b:Addr}{a:Obj}(q:h.get? b=Zz a)(n:H b=Zy)(hx:b∉ex):∃c,h1.get? b=Zz { a with slots:=c }:=by
 by_cases hb:b∈fs
 ·exact u.slot b a q n hb hx
 ·exact#[a.slots,u.keep b a q n hb hx]
theorem Un.trans (a:Un fs ex H H1 h h1)(b:Un fs ex H1 H2 h1 h2):Un fs ex H H2 h h2 where
 keep:=λc d q n f hx=>b.keep c d (a.keep c d q n f hx) (a.free c d q n hx) f hx
 slot:=λc d q n f hx=>by
  exists a.slot c d q n f hx,r,e;exists b.slot c _ e (a.free c d q n hx) f hx,i,j;exact#[i,j]
 free:=λc d q n hx=>by
  exists a.there c d q hx,k,e;exact b.free c k e (a.free c d q n hx) hx
 there:=λc d q hx=>by
  exists a.there c d q hx,k,e;exact b.there c k e hx
 tups:=λc g q=>b.tups c g (a.tups c g q)
 frzs:=λc d g q=>b.frzs c d g (a.frzs c d g q)
 tbls:=λc m q=>by
  exists a.tbls c m q,o,e;exists b.tbls c _ e,p,j;exact#[o++p,by rw[j,Array.append_assoc]]
theorem Un.kept (k:∀b u,h.get? b=Zz u->h'.get? b=Zz u):Un fs ex H H h h':=
 #[λb a q _ _ _=>k b a q,λb a q _ _ _=>#[a.slots,k b a q],λ_ _ _ n _=>n,λb a q _=>#[a,k b a q],λ_ _ q=>q,λ_ _ _ q=>q,λ_ c q=>#[(List.toArray []),by rw[q];simp]]
theorem Un.refl:Un fs ex H H h h:=Un.kept λ_ _ q=>q
theorem Un.laid (k:∀b u,h.get? b=Zz u->h'.get? b=Zz u)(d:h.objs.size<=a)(c:H a=Zy):Un fs ex H (upd H a o) h h' where
 keep:=λb u q _ _ _=>k b u q
 slot:=λb u q _ _ _=>#[u.slots,k b u q]
 free:=λb u q n _=>by rw[aE (du (cI (Heap.lt_size q) d))];exact n
 there:=λb u q _=>#[u,k b u q]
 tups:=λb e q=>by rw[aE (e_ q c)];exact q
 frzs:=λb u e q=>by rw[aE (e_ q c)];exact q
 tbls:=λb f q=>#[(List.toArray []),by rw[aE (e_ q c),q];simp]
theorem Un.write (a:Mut (H x))(g:e=x\/H e=Zz (.own x))(k:∀b u,b≠e->h.get? b=Zz u->h'.get? b=Zz u)(c:∃u,h'.get? e=Zz u):Un fs ex H (upd H x o) h h':=by
 have hx:∀b,H b=Zy->b≠x:=λb n z=>by subst z;rw[n]at a;exact a
 have f:∀b,H b=Zy->b≠e:=λb n z=>by
  subst z;rcases g with r|r
  ·exact hx b n r
  ·rw[n]at r;cases r
 have d:∀b u,H b=Zz u->¬Mut (Zz u)->b≠x:=λb u q nm z=>by subst z;rw[q]at a;exact nm a
 refine⟨λb u q n _ _=>k b u (f b n) q,λb u q n _ _=>#[u.slots,k b u (f b n) q],λb u q n _=>#v[aE (hx b n),n],λb u q _=>?_,
  λb i q=>by rw[aE (d b _ q λz=>z)];exact q,λb u i q=>by rw[aE (d b _ q λz=>z)];exact q,λb j q=>#[(List.toArray []),by rw[aE (d b _ q λz=>z),q];simp]⟩
 by_cases hbe:b=e
 ·subst hbe;exact c
 ·exact#[u,k b u hbe q]
end
def trk (h:Heap)(H:Hp):am:=(aM h.objs.size).filter λa=>(H a).isSome
def jg (h:Heap)(H:Hp):Heap:=PySem.W.hideAll h (trk h H)
theorem Mr (h:Heap)(H:Hp):(jg h H).objs.size=h.objs.size:=PySem.W.hideAll_size _ _
theorem Mt {h:Heap}{H:Hp}{b:Addr}{o:Obj}(e:h.get? b=Zz o)(n:H b=Zy):(jg h H).get? b=Zz o:=
 PySem.W.hideAll_get _ e λa=>by
  have q:(H b).isSome=true:=(lE.mp a).2;rw[n]at q;simp at q
theorem Mu {h:Heap}{H:Hp}{b:Addr}{o:Obj}(e:(jg h H).get? b=Zz o):h.get? b=Zz o/\H b=Zy:=by
 have a:h.get? b=Zz o:=PySem.W.of_hideAll (trk h H) e;refine#[a,?_]
 cases q:H b with
 | none=>rfl
 | some x=>
  have c:b∈trk h H:=lE.mpr #[dj.mpr (Heap.lt_size a),by simp[q]];have z:(jg h H).get? b=Zy:=PySem.W.hideAll_none (trk h H) c;rw[z]at e;cases e
noncomputable def Mv (g h:Heap) (L:Addr):aJ:=(aM h.objs.size).filterMap λa=>if a=L\/(g.get? a).isSome=true then Zy else (h.get? a).map λo=>(a,o)
def rest (g h:Heap)(L d:Addr):aJ:=(Mv g h L).filter λp=>decide (p.1≠d)
structure Mod (K:ao)(mg:bH)(base:Heap):Prop where
 kin:K.In base
 glob:base.Ns mainGlobals mg
 blt:∃mb,base.Ns builtinsNs mb/\∀x:Str,x ≠ "__name__" -> mb x=bootBuiltins x
 nolimit:base.NoLimit
structure Cx where
 prog:Program
 w:World
 K:ao
 mg:bH
 base:Heap
 A:Around
 N:List Str
 s₀:Shared
 H₀:Hp
 env:Env
 outer:List Env
 stack:List Env
 ex:am
 fn:Str->Bool
 calm:Bool
 pn:aJ
 xe:aX
noncomputable def frs (l:List Env):am:=l.filterMap (·.frame)
abbrev Cx.fs (X:Cx):am:=frs X.outer
def Vis (sc:Scope)(x:Str):Prop:=sc.names.lookup x=Zz .local\/sc.names.lookup x=Zz .cell\/sc.names.lookup x=Zz .free
def Loc (sc:Scope)(x:Str):Prop:=sc.names.lookup x=Zz .local\/sc.names.lookup x=Zz .cell
def Mw (env:Env)(h:Heap)(m:bH)(x:Str)(u:Value):Prop:=
 (env.kindOf x=Zz .local/\m x=Zz u)\/((env.kindOf x=Zz .cell\/env.kindOf x=Zz .free)/\∃c,env.cells.lookup x=Zz c/\h.IsCell c (Zz u))
structure Cx.Ok (X:Cx):Prop where
 mod:Mod X.K X.mg X.base
 kind:X.env.scope.kind=.function
 glob:X.env.globals=mainGlobals
 blt:X.env.builtins=builtinsNs
 above:X.s₀.7<=X.env.locals
 inj:∀x y c,X.env.cells.lookup x=Zz c->X.env.cells.lookup y=Zz c->x=y
 has:∀x,(X.env.kindOf x=Zz .cell\/X.env.kindOf x=Zz .free)->∃c,X.env.cells.lookup x=Zz c
 cab:∀x c,X.fn x=true->X.env.cells.lookup x=Zz c->X.s₀.7<=c
 hd:X.calm=true->X.A.handled=Zy
 frames:X.A.frames=Zz X.stack
 stk:X.stack=X.outer\/(X.stack=X.env :: X.outer/\X.env.frame=Zz X.env.locals)
 exf:∀b∈X.ex,b≠X.env.locals/\∀x c,X.env.cells.lookup x=Zz c->c≠b
 bs:∀b o,X.base.get? b=Zz o->X.s₀.heap.get? b=Zz o/\X.H₀ b=Zy
 bsz:X.base.objs.size<=X.s₀.7
 noex:∀b o,X.base.get? b=Zz o->b∉X.ex
 exfs:∀b∈X.ex,b∉X.fs
 funs:X.s₀.heap.FunFrames X.base X.outer
 frf:∀b∈X.fs,X.H₀ b=Zy
structure Inv (X:Cx)(Vz:aJ)(σ:List (Option V))(H:Hp)(s:Shared):Prop where
 ok:X.Ok
 os:s.os=X.s₀.os
 bare:AllBare s.gens
 base:Un X.fs X.ex X.H₀ H X.s₀.heap s.heap
 loc:∃m,s.heap.Ns X.env.locals m/\∀(i:Nat)(x:Str)(v:V),X.N[i]?=Zz x->σ[i]?=Zz (Zz v)->Vis X.env.scope x->∃u,RelV v u/\Mw X.env s.heap m x u
 cell:∀x c,X.env.cells.lookup x=Zz c->∃v,s.heap.IsCell c v
 free:H X.env.locals=Zy
 freeC:∀x c,X.env.cells.lookup x=Zz c->H c=Zy
 pin:∀p∈X.pn++Vz,s.heap.get? p.1=Zz p.2/\H p.1=Zy/\p.1≠X.env.locals/\p.1∉X.fs/\∀v,p.2.data≠.cell v
 hok:HOk X.prog X.w H s.heap
 len:σ.9=X.N.9
section
variable {X:Cx}{Vz:aJ}{σ:List (Option V)}{H H':Hp}{s:Shared}{h':Heap}
theorem Cx.Ok.nofr (ok:X.Ok){b:Addr}{o:Obj}(e:X.base.get? b=Zz o):b∉X.fs:=λa=>by
 have:=(ok.funs.mem a).1;rw[e]at this;cases this
theorem Inv.bs (I:Inv X Vz σ H s):∀b o,X.base.get? b=Zz o->s.heap.get? b=Zz o/\H b=Zy:=λb o e=>
 #[I.base.keep b o (I.ok.bs b o e).1 (I.ok.bs b o e).2 (I.ok.nofr e) (I.ok.noex b o e),I.base.free b o (I.ok.bs b o e).1 (I.ok.bs b o e).2 (I.ok.noex b o e)]
theorem Inv.bk (I:Inv X Vz σ H s):∀b o,X.base.get? b=Zz o->s.heap.get? b=Zz o:=λb o e=>(I.bs b o e).1
theorem Inv.mod (I:Inv X Vz σ H s):Mod X.K X.mg X.base:=I.ok.mod
theorem Inv.kIn (I:Inv X Vz σ H s):X.K.In s.heap:=I.ok.mod.kin.keeps I.bk
theorem Inv.lt (I:Inv X Vz σ H s):X.env.locals<s.7:=let ⟨_,hn,_⟩:=I.loc;hn.lt
theorem Inv.sz (I:Inv X Vz σ H s):X.s₀.7<=s.7:=aQ I.ok.above (dz I.lt)
theorem Inv.nofs (I:Inv X Vz σ H s){a:Addr}(h:s.7<=a):a∉X.fs:=λc=>by
 exists I.ok.funs.mem c,_,o,d,_;exact absurd (cI (Heap.lt_size d) (aQ I.sz h)) (ki _)
theorem Inv.cne (I:Inv X Vz σ H s):∀x c,X.env.cells.lookup x=Zz c->c≠X.env.locals:=λx c e z=>by
 exists I.cell x c e,v,o,f,hd;exists I.loc,m,#[g,h,i,a,d,_],_;rw[z,a]at f;cases f;rw[d]at hd;cases hd
theorem Inv.funs (I:Inv X Vz σ H s):s.heap.FunFrames X.base X.outer:=by
 have all:∀(l:List Env),(∀b∈frs l,b∈X.fs)->X.s₀.heap.FunFrames X.base l->s.heap.FunFrames X.base l:=by
  intro l
  induction l with
  | nil=>intro _ _;trivial
  | cons env r ih=>
   intro hs f;exists f,hk,#[L,o,a,g,h,hd],i;have c:L∈X.fs:=hs L (by unfold frs;rw[K5,a];exact dU);obtain⟨j,e⟩:=I.base.slot L o h (I.ok.frf L c) c λz=>I.ok.exfs L z c;exact#[hk,#[L,_,a,g,e,hd],ih (λb d=>hs b (by unfold frs;rw[K5,a];exact dC _ d)) i]
 exact all X.outer (λ_ d=>d) I.ok.funs
theorem Inv.stack (I:Inv X Vz σ H s):s.heap.FunFrames X.base X.stack:=by
 rcases I.ok.stk with e|⟨e,a⟩
 ·rw[e];exact I.funs
 ·rw[e];exists I.loc,m,c,_;refine .cons (by rw[I.ok.kind];decide) a c ?_ I.funs;exact Heap.get?_none_of_le (aQ I.ok.bsz I.ok.above)
theorem Inv.stkSub (I:Inv X Vz σ H s):∀b∈frs X.stack,b∈X.env.locals :: X.fs:=λb a=>by
 rcases I.ok.stk with e|⟨e,c⟩
 ·rw[e]at a;exact dC _ a
 ·rw[e]at a;unfold frs at a;rw[K5,c]at a;exact a
theorem Inv.stkFree (I:Inv X Vz σ H s):∀b∈frs X.stack,H b=Zy:=λb a=>by
 rcases bN.mp (I.stkSub b a) with e|a
 ·rw[e];exact I.free
 ·exists I.ok.funs.mem a,_,o,c,_;exact I.base.free b o c (I.ok.frf b a) λz=>I.ok.exfs b z a
theorem Inv.step {g':Array GenState}{t':Nat}{d':Drawn}{ch:am}(I:Inv X Vz σ H s)(a:∀b∈ch,(b∈X.ex\/X.s₀.7<=b)/\b≠X.env.locals/\(∀x c,X.env.cells.lookup x=Zz c->c≠b)/\∀p∈X.pn++Vz,p.1≠b)(keep:∀b o,b≠X.env.locals->b∉X.fs->b∉ch->s.heap.get? b=Zz o->H b=Zy->h'.get? b=Zz o)(slot:∀b o,b≠X.env.locals->b∈X.fs->b∉ch->s.heap.get? b=Zz o->H b=Zy->∃P,h'.get? b=Zz { o with slots:=P })(free:∀b o,b∉ch->s.heap.get? b=Zz o->H b=Zy->H' b=Zy)(there:∀b o,b∉ch->s.heap.get? b=Zz o->∃G,h'.get? b=Zz G)(tups:∀b y,H b=Zz (.tup y)->H' b=Zz (.tup y))(frzs:∀b o u,H b=Zz (.frz o u)->H' b=Zz (.frz o u))(tbls:∀b O,H b=Zz (.tbl O)->∃more,H' b=Zz (.tbl (O++more)))(ns:∀m,s.heap.Ns X.env.locals m->h'.Ns X.env.locals m)(hok:HOk X.prog X.w H' h')(T:AllBare g'):
  Inv X Vz σ H' { s with heap:=h',gens:=g',drawn:=d',toks:=t' }:=by
 have J:∀b o,X.s₀.heap.get? b=Zz o->b≠X.env.locals:=λb o e=>du (cI (Heap.lt_size e) I.ok.above);have h:∀b o,X.s₀.heap.get? b=Zz o->b∉X.ex->b∉ch:=λb o e hx C=>by
  rcases (a b C).1 with z|z
  ·exact hx z
  ·exact absurd (cI (Heap.lt_size e) z) (ki _)
 have f:∀x c,X.env.cells.lookup x=Zz c->∀v,s.heap.IsCell c v->h'.IsCell c v:=λx c e v ⟨o,F,hd⟩=>by
  have g:c∉ch:=λz=>(a c z).2.2.1 x c e rfl;by_cases hc:c∈X.fs
  ·exists slot c o (I.cne x c e) hc g F (I.freeC x c e),P,q;exact#[_,q,hd]
  ·exact#[o,keep c o (I.cne x c e) hc g F (I.freeC x c e),hd]
 refine#[I.ok,I.os,T,#[λb o e n C hx=>?_,λb o e n C hx=>?_,λb o e n hx=>?_,λb o e hx=>?_,λb y e=>tups b y (I.base.tups b y e),λb o y e=>frzs b o y (I.base.frzs b o y e),λb O e=>?_],?_,λx c e=>?_,?_,λx c e=>?_,λp R=>?_,hok,I.len]
 ·exact keep b o (J b o e) C (h b o e hx) (I.base.keep b o e n C hx) (I.base.free b o e n hx)
 ·exists I.base.slot b o e n C hx,P,j;exists slot b _ (J b o e) C (h b o e hx) j (I.base.free b o e n hx),Q,M;exact#[Q,M]
 ·exists I.base.there b o e hx,G,j;exact free b G (h b o e hx) j (I.base.free b o e n hx)
 ·exists I.base.there b o e hx,G,j;exact there b G (h b o e hx) j
 ·exists I.base.tbls b O e,U,j;exists tbls b _ j,Y,M;exact#[U++Y,by rw[M,Array.append_assoc]]
 ·exists I.loc,m,Z,hl;refine#[m,ns m Z,λi x v j M e3=>?_];exists hl i x v j M e3,u,r,l;refine#[u,r,?_];rcases l with l|⟨k,c,e,z⟩
  ·exact .inl l
  ·exact .inr #[k,c,e,f x c e _ z]
 ·exists I.cell x c e,v,z;exact#[v,f x c e v z]
 ·exists I.loc,m,#[o,_,_,F,_],_;exact free _ o (λz=>(a _ z).2.1 rfl) F I.free
 ·exists I.cell x c e,v,o,F,hd;exact free c o (λz=>(a c z).2.2.1 x c e rfl) F (I.freeC x c e)
 ·exists I.pin p R,e,n,ne,S,d;have g:p.1∉ch:=λz=>(a p.1 z).2.2.2 p R rfl;exact#[keep p.1 p.2 ne S g e n,free p.1 p.2 g e n,ne,S,d]
theorem Inv.un {t':Nat}(I:Inv X Vz σ H s)(u:Un X.fs [] H H' s.heap h')(hok:HOk X.prog X.w H' h'):Inv X Vz σ H' { s with heap:=h',toks:=t' }:=by
 exists id I.loc,m,#[o,k,p,g,r],_;obtain⟨v,h⟩:=u.any g I.free (by simp);exact I.step (g':=s.gens) (d':=s.drawn) (ch:=[]) (λ_ z=>nomatch z) (λb o _ c _ e n=>u.keep b o e n c (by simp)) (λb o _ c _ e n=>u.slot b o e n c (by simp)) (λb o _ e n=>u.free b o e n (by simp)) (λb o _ e=>u.there b o e (by simp)) u.tups u.frzs u.tbls (λx i=>by
  exists i,y,d,f,a,j;rw[g]at a;cases a;exact#[_,d,f,h,j]) hok I.bare
theorem Inv.call {g':Array GenState}{t':Nat}{d':Drawn}{ch:am}(I:Inv X Vz σ H s)(u:Un (frs X.stack) ch H H' s.heap h')(hok:HOk X.prog X.w H' h')(k:AllBare g')(d:∀b∈ch,(b∈X.ex\/X.s₀.7<=b)/\b≠X.env.locals/\(∀x c,X.env.cells.lookup x=Zz c->c≠b)/\∀p∈X.pn++Vz,p.1≠b):
  Inv X Vz σ H' { s with heap:=h',gens:=g',drawn:=d',toks:=t' }:=by
 exists id I.loc,m,#[o,F,G,j,r],_;obtain⟨J,g⟩:=u.any j I.free λz=>(d _ z).2.1 rfl;exact I.step (ch:=ch) d (λb o g v a e n=>u.keep b o e n (λz=>(bN.mp (I.stkSub b z)).elim g v) a) (λb o _ _ a e n=>u.any e n a) (λb o a e n=>u.free b o e n a) (λb o a e=>u.there b o e a) u.tups u.frzs u.tbls (λM y=>by
  exists y,O,h,i,f,C;rw[j]at f;cases f;exact#[_,h,i,g,C]) hok k
theorem Inv.turned {t':Nat}{it:Addr}(I:Inv X Vz σ H s)(k:∀b o,b≠it->s.heap.get? b=Zz o->h'.get? b=Zz o)(g:H it=Zy)(f:it≠X.env.locals)(h:it∈X.ex\/X.s₀.7<=it)(i:∀x c,X.env.cells.lookup x=Zz c->c≠it)(j:∀p∈X.pn++Vz,p.1≠it):Inv X Vz σ H { s with heap:=h',toks:=t' }:=by
 have d:∀b u,H b=Zz u->b≠it:=λb u e z=>by rw[z,g]at e;cases e
 refine I.step (g':=s.gens) (d':=s.drawn) (ch:=[it]) (λb y=>?_) (λb o _ _ a e _=>k b o (λz=>a (by simp[z])) e) (λb o _ _ a e _=>#[o.slots,k b o (λz=>a (by simp[z])) e]) (λ_ _ _ _ n=>n)
  (λb o a e=>#[o,k b o (λz=>a (by simp[z])) e]) (λ_ _ e=>e) (λ_ _ _ e=>e) (λb M e=>#[(List.toArray []),by rw[e];simp]) (λm C=>?_) (λb u e=>?_) I.bare
 ·have e:b=it:=by simpa using y
  subst e;exact#[h,f,i,j]
 ·exists C,o,F,G,J,r;exact#[o,F,G,k _ o (Ne.symm f) J,r]
 ·refine (I.hok b u e).stay (λc v a q=>k c v ?_ q) (λ_ q=>q) λ_ _ q=>q;rcases a with z|z
  ·rw[z];exact d b u e
  ·exact d c _ z
theorem Inv.tok (I:Inv X Vz σ H s)(t:Nat):Inv X Vz σ H { s with toks:=t }:=I.un (h':=s.heap) (t':=t) Un.refl I.hok
theorem Inv.kept {t':Nat}(I:Inv X Vz σ H s)(k:∀b u,s.heap.get? b=Zz u->h'.get? b=Zz u):Inv X Vz σ H { s with heap:=h',toks:=t' }:=I.un (Un.kept k) (I.hok.kept k)
theorem Inv.laid {a:Addr}{o:HO}{t':Nat}(I:Inv X Vz σ H s)(k:∀b u,s.heap.get? b=Zz u->h'.get? b=Zz u)(c:s.7<=a)(d:ObjOk X.prog X.w (upd H a o) h' a o):
  Inv X Vz σ (upd H a o) { s with heap:=h',toks:=t' }:=I.un (Un.laid k c (I.hok.fresh c)) (I.hok.laid k c d)
theorem Inv.write {x e:Addr}{o:HO}{t':Nat}(I:Inv X Vz σ H s)(d:Mut (H x))(f:e=x\/H e=Zz (.own x))(k:∀b u,b≠e->s.heap.get? b=Zz u->h'.get? b=Zz u)(a:∃u,h'.get? e=Zz u)(c:ObjOk X.prog X.w (upd H x o) h' x o):Inv X Vz σ (upd H x o) { s with heap:=h',toks:=t' }:=I.un (Un.write d f k a) (I.hok.write d f k a c)
theorem Inv.pins_of {a:aJ}(I:Inv X Vz σ H s)(h:∀p∈a,s.heap.get? p.1=Zz p.2/\H p.1=Zy/\p.1≠X.env.locals/\p.1∉X.fs/\∀v,p.2.data≠.cell v):Inv X a σ H s:=
 #[I.ok,I.os,I.bare,I.base,I.loc,I.cell,I.free,I.freeC,λp c=>(a8.mp c).elim (λz=>I.pin p (i4 _ z)) (h p),I.hok,I.len]
theorem Ep {N:List Str}(c:N.Nodup){i j:Nat}{x:Str}(a:N[i]?=Zz x)(b:N[j]?=Zz x):i=j:=by
 exists aZ.mp a,f,d;exists aZ.mp b,g,e;exact (List.getElem_inj c).mp (d.trans e.symm)
theorem nG {M:Model}{A:Around}{E:aX}{i:Nat}{x:Str}{v:V}{u:Value}{Q:Unit->Shared->Prop}(I:Inv X Vz σ H s)(hN:X.N.Nodup)(hi:X.N[i]?=Zz x)(hx:Loc X.env.scope x)(r:RelV v u)(h:∀s',Inv X Vz (σ.set i (Zz v)) H s'->(∃a,Heap.SameBut a s.heap s'.heap/\(a=X.env.locals\/X.env.cells.lookup x=Zz a))->Q #[] s')(hf:X.fn x=true\/X.env.scope.names.lookup x=Zz .local:=by first|exact .inl rfl|exact .inr rfl|assumption):wpAny M A (storeName X.env x u) Q E s:=by
 exists id I.loc,m,hn,hl;have S:(X.env.scope.kind == .class || (X.env.scope.kind == .module && X.env.locals != X.env.globals))=false:=by rw[I.ok.kind];rfl
 have J:i < σ.9:=by rw[I.len];exact (aZ.mp hi).1
 have cne:=I.cne;have f:∀{a:Addr}{h':Heap},(∃o,s.heap.get? a=Zz o/\H a=Zy)->Heap.SameBut a s.heap h'->HOk X.prog X.w H h':=λ{a h'} ha hs b ob e=>by
  exists ha,_,_,F;refine (I.hok b ob e).stay (λc Z C q=>(hs.2 c ?_).trans q) (λ_ q=>q) λ_ _ q=>q
  rintro rfl
  rcases C with rfl|C
  ·rw[F]at e;cases e
  ·rw[F]at C;cases C
 rcases hx with hk|hk
 ·refine wpAny_storeName_local hk hn (λh' x0 hs=>?_) S;exists id hn,oL,_,_,y0,_;refine h _ #[I.ok,I.os,I.bare,#[λb o e n O hx=>?_,λb o e n O hx=>?_,I.base.free,λb o e hx=>?_,I.base.tups,I.base.frzs,I.base.tbls],#[_,x0,λj y v' g G e3=>?_],λy c e=>?_,I.free,I.freeC,λp hp=>?_,f #[oL,y0,I.free] hs,by simpa using I.len] #[_,hs,.inl rfl]
  ·exact (hs.2 b (du (cI (Heap.lt_size e) I.ok.above))).trans (I.base.keep b o e n O hx)
  ·exists I.base.slot b o e n O hx,sl,g;exact#[sl,(hs.2 b (du (cI (Heap.lt_size e) I.ok.above))).trans g]
  ·exists I.base.there b o e hx,o',g;exact#[o',(hs.2 b (du (cI (Heap.lt_size e) I.ok.above))).trans g]
  ·by_cases P:j=i
   ·subst P;rw[hi]at g;cases g;rw[vD J]at G
    cases G
    exact#[u,r,.inl #[hk,by simp]]
   ·rw[pi (Ne.symm P)]at G;exists hl j y v' g G e3,u',r',q;refine#[u',r',?_];rcases q with ⟨k,e⟩|⟨k,c,e,z⟩
    ·refine .inl #[k,?_];have:y≠x:=λe=>P (Ep hN g (e ▸ hi));simp[this,e]
    ·exact .inr #[k,c,e,z.sameBut hs (cne y c e)]
  ·exists I.cell y c e,Z,z;exact#[Z,z.sameBut hs (cne y c e)]
  ·exists I.pin p hp,e,n,ne,nf,d;exact#[(hs.2 p.1 ne).trans e,n,ne,nf,d]
 ·have R:X.fn x=true:=by
   rcases hf with z|z
   ·exact z
   ·rw[z]at hk;cases hk
  exists I.ok.has x (.inl hk),c,C;exists I.cell x c C,Z,z;refine wpAny_storeName_cell I.ok.kind hk C z (λh' T hs=>?_);exists id z,oc,U,Y;refine h { s with heap:=h' } #[I.ok,I.os,I.bare,#[λb o e n O hx=>?_,λb o e n O hx=>?_,I.base.free,λb o e hx=>?_,I.base.tups,I.base.frzs,I.base.tbls],#[m,hn.sameBut hs (Ne.symm (cne x c C)),λj y v' g G e3=>?_],λy c' e=>?_,I.free,I.freeC,λp hp=>?_,f #[oc,U,I.freeC x c C] hs,by simpa using I.len] #[c,hs,.inr C]
  ·exact (hs.2 b (du (cI (Heap.lt_size e) (I.ok.cab x c R C)))).trans (I.base.keep b o e n O hx)
  ·exists I.base.slot b o e n O hx,sl,g;exact#[sl,(hs.2 b (du (cI (Heap.lt_size e) (I.ok.cab x c R C)))).trans g]
  ·exists I.base.there b o e hx,o',g;exact#[o',(hs.2 b (du (cI (Heap.lt_size e) (I.ok.cab x c R C)))).trans g]
  ·by_cases P:j=i
   ·subst P;rw[hi]at g;cases g;rw[vD J]at G
    cases G
    exact#[u,r,.inr #[.inl hk,c,C,T]]
   ·rw[pi (Ne.symm P)]at G;exists hl j y v' g G e3,u',r',q;refine#[u',r',?_];rcases q with q|⟨k,c',e,z'⟩
    ·exact .inl q
    ·refine .inr #[k,c',e,z'.sameBut hs ?_]
     rintro rfl
     exact P (Ep hN g (I.ok.inj _ _ _ e C ▸ hi))
  ·by_cases hcc:c'=c
   ·subst hcc;exact#[_,T]
   ·exists I.cell y c' e,w2,z2;exact#[w2,z2.sameBut hs hcc]
  ·exists I.pin p hp,e,n,ne,nf,d;refine#[(hs.2 p.1 ?_).trans e,n,ne,nf,d];intro q;rw[q,U]at e;have q':oc=p.2:=Option.some.inj e;exact d Z #v[<-q',Y]
theorem qF {M:Model}{A:Around}{E:aX}{i:Nat}{x:Str}{v:V}{u:Value}{Q:Unit->Shared->Prop}(I:Inv X Vz σ H s)(c:X.N.Nodup)(hi:X.N[i]?=Zz x)(hx:Loc X.env.scope x)(r:RelV v u)(h:∀a,Inv X Vz (σ.set i (Zz v)) H a->Q #[] a)(d:X.fn x=true\/X.env.scope.names.lookup x=Zz .local:=by first|exact .inl rfl|exact .inr rfl|assumption):wpAny M A (storeName X.env x u) Q E s:=
 nG I c hi hx r (λa e _=>h a e) d
theorem Inv.call' {a:Shared}{ch:am}(I:Inv X Vz σ H s)(f:a.os=s.os)(u:Un (frs X.stack) ch H H' s.heap a.heap)(hok:HOk X.prog X.w H' a.heap)(g:AllBare a.gens)(d:∀b∈ch,(b∈X.ex\/X.s₀.7<=b)/\b≠X.env.locals/\(∀x c,X.env.cells.lookup x=Zz c->c≠b)/\∀p∈X.pn++Vz,p.1≠b):Inv X Vz σ H' a:=by
 exists a,h',g',d',t',h;have e:h=s.os:=f;subst e;exact I.call (g':=g') (t':=t') (d':=d') u hok g d
end
abbrev XK:=Value->Option Addr->Hp->Prop
abbrev St:=List (Option V)
abbrev fc:=St->Hp->Prop
abbrev cB:=Nat->Hp->Prop
abbrev VK:=V->Hp->Prop
abbrev TE:=St->Hp->VK->Prop
abbrev TT:=St->Hp->(Bool->Hp->Prop)->Prop
abbrev TA:=St->Hp->(List V->Hp->Prop)->Prop
structure Ends where
 nx:fc
 rt:VK
 bk:fc:=λ_ _=>False
 ct:fc:=λ_ _=>False
abbrev TS:=Ends->St->Hp->Prop
def EP (X:Cx)(Vz:aJ)(σ:St)(Q:VK)(u:Value)(s':Shared):Prop:=∃v H',Inv X Vz σ H' s'/\RelV v u/\Q v H'
def TP (X:Cx)(Vz:aJ)(σ:St)(Q:Bool->Hp->Prop)(b:Bool)(s':Shared):Prop:=∃H',Inv X Vz σ H' s'/\Q b H'
def AP (X:Cx)(Vz:aJ)(σ:St)(Q:List V->Hp->Prop)(us:List Value)(s':Shared):Prop:=∃vs H',Inv X Vz σ H' s'/\Vals vs us/\Q vs H'
def SP (X:Cx)(Vz:aJ)(D:Ends)(f:Flow)(s':Shared):Prop:=
 match f with
 | .next=>∃σ' H',Inv X Vz σ' H' s'/\D.nx σ' H'
 | .brk=>∃σ' H',Inv X Vz σ' H' s'/\D.bk σ' H'
 | .cont=>∃σ' H',Inv X Vz σ' H' s'/\D.ct σ' H'
 | .ret u=>∃v σ' H',Inv X Vz σ' H' s'/\RelV v u/\D.rt v H'
def PE (X:Cx)(e:Expr)(t:TE):Prop:=
 ∀(Vz:aJ)(s:Shared)(σ:St)(H:Hp)(Q:VK),Inv X Vz σ H s->t σ H Q->wpAny (model X.prog X.w) X.A (eval e X.env) (EP X Vz σ Q) X.xe s
def PT (X:Cx)(e:Expr)(t:TT):Prop:=
 ∀(Vz:aJ)(s:Shared)(σ:St)(H:Hp)(Q:Bool->Hp->Prop),Inv X Vz σ H s->t σ H Q->wpAny (model X.prog X.w) X.A (isTrue e X.env (eval e X.env)) (TP X Vz σ Q) X.xe s
def PW (X:Cx)(e:Expr)(t:TT):Prop:=
 ∀(whole:Sem Value)(Vz:aJ)(s:Shared)(σ:St)(H:Hp)(Q:Bool->Hp->Prop),Inv X Vz σ H s->t σ H Q->wpAny (model X.prog X.w) X.A (isTrue e X.env whole) (TP X Vz σ Q) X.xe s
theorem PW.pt {X:Cx}{e:Expr}{t:TT}(h:PW X e t):PT X e t:=h _
def PA (X:Cx)(es:List Expr)(t:TA):Prop:=
 ∀(pos:Pos)(Vz:aJ)(s:Shared)(σ:St)(H:Hp)(Q:List V->Hp->Prop),Inv X Vz σ H s->t σ H Q->wpAny (model X.prog X.w) X.A (spliced (backTo pos (starEach es X.env))) (AP X Vz σ Q) X.xe s
def PS (X:Cx)(st:Stmt)(t:TS):Prop:=
 ∀(Vz:aJ)(s:Shared)(σ:St)(H:Hp)(D:Ends),Inv X Vz σ H s->t D σ H->wpAny (model X.prog X.w) X.A (exec st X.env) (SP X Vz D) X.xe s
def PSs (X:Cx)(st:List Stmt)(t:TS):Prop:=
 ∀(Vz:aJ)(s:Shared)(σ:St)(H:Hp)(D:Ends),Inv X Vz σ H s->t D σ H->wpAny (model X.prog X.w) X.A (execs st X.env) (SP X Vz D) X.xe s
theorem thn {α:Type}{t:Sem α}{Q c:α->Shared->Prop}{M:Model}{A:Around}{E:aX}{s:Shared}(h:wpAny M A t Q E s)(hQ:∀a s,Q a s->c a s):wpAny M A t c E s:=wpAny_mono h hQ λ_ _ x=>x
section
variable {X:Cx}
theorem bin {a b:Expr}{m tb:TE}(n:PE X a m)(o:PE X b tb){c:aJ}{s:Shared}{σ:St}{H:Hp}{R:V->V->Hp->Prop}(I:Inv X c σ H s)(h:m σ H λx j=>tb σ j λy d=>R x y d){α:Type}{Q:α->Shared->Prop}{f:Value->Value->Sem α}(p:∀v u i x y d,Inv X c σ d i->RelV x v->RelV y u->R x y d->wpAny (model X.prog X.w) X.A (f v u) Q X.xe i):
  wpAny (model X.prog X.w) X.A (eval a X.env) (λv e=>wpAny (model X.prog X.w) X.A (eval b X.env) (λu g=>wpAny (model X.prog X.w) X.A (f v u) Q X.xe g) X.xe e) X.xe s:=by
 refine thn (n c s σ H _ I h) λv r k=>?_;exists k,x,j,z,C,F;refine thn (o c r σ j _ z F) λu i k=>?_;exists k,y,d,G,J,M;exact p v u i x y d G C J M
def zV (i:Nat):TE:=λσ H Q=>∃v,σ[i]?=Zz (Zz v)/\Q v H
def tC (v:V):TE:=λ_ H Q=>Q v H
theorem Er {i:Nat}{x:Str}{pos:Pos}(k:X.N[i]?=Zz x)(n:Vis X.env.scope x)(hd:(x == ("__debug__" : Str))=false:=by decide)(g:(x == ("__classdict__" : Str))=false:=by decide):PE X (.Name x pos) (zV i):=by
 intro f s σ H Q I h;exists h,v,e,h;exists I.loc,m,o,p;exists p i x v k e n,u,r,l;have d:EP X f σ Q u s:=#[v,H,I,r,h]
 rcases l with ⟨hk,y⟩|⟨hk,c,j,a⟩
 ·exact wpAny_Name (wpAny_loadName_local I.ok.kind hk o y d) hd
 ·rcases hk with hk|hk
  ·exact wpAny_Name (wpAny_loadName_cell I.ok.kind hk j a d) hd
  ·exact wpAny_Name (wpAny_loadName_free I.ok.kind hk j a d g) hd
theorem ag {i j pos}:PE X (.Constant (.int i) j pos) (tC (.int i)):=λ_ _ _ H _ I h=>wpAny_Constant_int #[.int i,H,I.tok _,#[_,rfl],h]
theorem iA {b j pos}:PE X (.Constant (.bool b) j pos) (tC (.bl b)):=λ_ _ _ H _ I h=>Constant_bool #[.bl b,H,I,rfl,h]
theorem fj {j pos}:PE X (.Constant .none j pos) (tC .non):=λ_ _ _ H _ I h=>Constant_none #[.non,H,I,rfl,h]
def Gl (X:Cx)(x:Str):Prop:=X.env.kindOf x=Zz .globalImplicit
theorem zW {E:aX}{a:aJ}{s:Shared}{σ:St}{H:Hp}{x:Str}{u:Value}{pos:Pos}{Q:aX}(I:Inv X a σ H s)(c:Gl X x)(d:X.mg x=Zz u)(h:Q u s)(hd:(x == ("__debug__" : Str))=false:=by decide):wpAny (model X.prog X.w) X.A (eval (.Name x pos) X.env) Q E s:=
 Calls.Name_function_global I.ok.kind c (Calls.loadGlobal_global #v[I.ok.glob,I.mod.glob.keeps I.bk] d h) hd
theorem iP {E:aX}{a:aJ}{s:Shared}{σ:St}{H:Hp}{x:Str}{u:Value}{pos:Pos}{Q:aX}(I:Inv X a σ H s)(c:Gl X x)(d:X.mg x=Zy)(e:bootBuiltins x=Zz u)(h:Q u s)(f:x ≠ "__name__" := by decide)(hd:(x == ("__debug__" : Str))=false:=by decide):wpAny (model X.prog X.w) X.A (eval (.Name x pos) X.env) Q E s:=by
 exists I.mod.blt,j,g,i;exact Calls.Name_function_global I.ok.kind c (Calls.loadGlobal_builtin #v[I.ok.glob,I.mod.glob.keeps I.bk] d #v[I.ok.blt,g.keeps I.bk] ((i x f).trans e) h) hd
theorem kz {x:Str}{v:V}{u:Value}{pos:Pos}(a:Gl X x)(c:X.mg x=Zz u)(r:RelV v u)(hd:(x == ("__debug__" : Str))=false:=by decide):PE X (.Name x pos) (tC v):=
 λ_ _ _ H _ I h=>zW I a c #[v,H,I,r,h] hd
theorem qG {x:Str}{v:V}{u:Value}{pos:Pos}(a:Gl X x)(c:X.mg x=Zy)(d:bootBuiltins x=Zz u)(r:RelV v u)(e:x ≠ "__name__" := by decide)(hd:(x == ("__debug__" : Str))=false:=by decide):PE X (.Name x pos) (tC v):=
 λ_ _ _ H _ I h=>iP I a c d #[v,H,I,r,h] e hd
variable {a b:Expr}{ta tb:TE}{pos:Pos}
def PC (X:Cx)(op:CmpOp)(a b:Expr)(t:TE):Prop:=
 ∀(Vz:aJ)(s:Shared)(σ:St)(H:Hp)(Q:VK),Inv X Vz σ H s->t σ H Q->
  wpAny (model X.prog X.w) X.A (eval a X.env) (λv s₁=>wpAny (model X.prog X.w) X.A (eval b X.env) (λu s₂=>wpAny (model X.prog X.w) X.A (compareOp op v u) (EP X Vz σ Q) X.xe s₂) X.xe s₁) X.xe s
theorem Mz (b:Expr){a:CmpOp}(h:a≠.In)(c:a≠.NotIn):behindInMarks a b=false:=by
 have d:(a == CmpOp.In)=false:=by cases a <;> first|rfl|exact absurd rfl h
 have e:(a == CmpOp.NotIn)=false:=by cases a <;> first|rfl|exact absurd rfl c
 cases b <;> simp[behindInMarks,d,e]
def tB (t:TE):TT:=λσ H Q=>t σ H λx H1=>∃c,x=.bl c/\Q c H1
theorem TZ {f:CmpOp}{t:TE}(h:PC X f a b t)(g:behindInMarks f b=false:=by first|exact Mz _ () ()|rfl):PT X (.Compare a [f] [b] pos) (tB t):=by
 intro e s σ H Q I i;refine wpAny_isTrue_Compare1 (thn (h e s σ H _ I i) λv r g=>thn g λu y j=>thn j λc z k=>?_) g;exists k,x,m,n,o,p;obtain⟨d,rfl,q⟩:=p
 cases o
 exact wpAny_truthy_bool #[m,n,q]
theorem gT {e:Expr}{t:TE}(h:PE X e t)(f:∀a,isTrue e X.env a=(do let v <-a;standAt e.pos;holding [v] (truthy v)):=by intro _;rfl):PT X e (tB t):=by
 intro c s σ H Q I g;refine isTrue_plain (thn (h c s σ H _ I g) λv o i=>?_) (f _);exists i,x,j,k,m,n;obtain⟨d,rfl,q⟩:=n
 cases m
 exact wpAny_truthy_bool #[j,k,q]
variable {tA tB':TT}{rest:List Expr}
def Es (t u:TT):TT:=λσ H Q=>t σ H λc H1=>if c=true then u σ H1 Q else Q false H1
def tOr (t u:TT):TT:=λσ H Q=>t σ H λc H1=>if c=true then Q true H1 else u σ H1 Q
def Et (t:TT):TT:=λσ H Q=>t σ H λc H1=>Q (!c) H1
theorem jh (f:PT X a tA):PW X (.BoolOp .And [a] pos) tA:=by
 intro g d s σ H Q I h;refine isTrue_and (thn (f d s σ H Q I h) λc i e=>?_)
 cases c with
 | true=>exact isTrue_and_nil e
 | false=>exact e
theorem jH (f:PT X a tA):PW X (.BoolOp .Or [a] pos) tA:=by
 intro g d s σ H Q I h;refine isTrue_or (thn (f d s σ H Q I h) λc i e=>?_)
 cases c with
 | false=>exact isTrue_or_nil e
 | true=>exact e
theorem ji (i:PT X a tA)(j:PW X (.BoolOp .And (b :: rest) pos) tB'):PW X (.BoolOp .And (a :: b :: rest) pos) (Es tA tB'):=by
 intro k d s σ H Q I h;refine isTrue_and (thn (i d s σ H _ I h) λc m n=>?_);obtain⟨e,f,g⟩:=n
 cases c with
 | true=>exact j k d m σ e Q f g
 | false=>exact#[e,f,g]
theorem iQ (i:PT X a tA)(j:PW X (.BoolOp .Or (b :: rest) pos) tB'):PW X (.BoolOp .Or (a :: b :: rest) pos) (tOr tA tB'):=by
 intro k d s σ H Q I h;refine isTrue_or (thn (i d s σ H _ I h) λc m n=>?_);obtain⟨e,f,g⟩:=n
 cases c with
 | true=>exact#[e,f,g]
 | false=>exact j k d m σ e Q f g
theorem iR (e:PT X a tA):PT X (.UnaryOp .Not a pos) (Et tA):=by
 intro d s σ H Q I h;exact isTrue_not (e d s σ H (λc f=>Q (!c) f) I h)
def Eu (ta tb:TE):TE:=λσ H Q=>ta σ H λx H1=>∃c,x=.bl c/\if c=true then tb σ H1 Q else Q (.bl false) H1
def Ev (ta tb:TE):TE:=λσ H Q=>ta σ H λx H1=>∃c,x=.bl c/\if c=true then Q (.bl true) H1 else tb σ H1 Q
theorem Ew {op}{t:TE}(h:PE X a t):PE X (.BoolOp op [a] pos) t:=λc s σ H Q I d=>BoolOp_one (h c s σ H Q I d)
theorem MA (i:PE X a ta)(j:PE X (.BoolOp .And (b :: rest) pos) tb):PE X (.BoolOp .And (a :: b :: rest) pos) (Eu ta tb):=by
 intro d s σ H Q I h;refine BoolOp_and (thn (i d s σ H _ I h) λv k m=>?_);exists m,x,f,g,n,e;obtain⟨c,rfl,e⟩:=e
 cases n
 refine wpAny_truthy_bool ?_
 cases c with
 | true=>exact j d k σ f Q g e
 | false=>exact#[.bl false,f,g,rfl,e]
theorem MB (i:PE X a ta)(j:PE X (.BoolOp .Or (b :: rest) pos) tb):PE X (.BoolOp .Or (a :: b :: rest) pos) (Ev ta tb):=by
 intro d s σ H Q I h;refine BoolOp_or (thn (i d s σ H _ I h) λv k m=>?_);exists m,x,f,g,n,e;obtain⟨c,rfl,e⟩:=e
 cases n
 refine wpAny_truthy_bool ?_
 cases c with
 | false=>exact j d k σ f Q g e
 | true=>exact#[.bl true,f,g,rfl,e]
def tIf (t:TT)(ta tb:TE):TE:=λσ H Q=>t σ H λc H1=>if c=true then ta σ H1 Q else tb σ H1 Q
theorem zX {c:Expr}(k:PT X c tA)(m:PE X a ta)(n:PE X b tb):PE X (.IfExp c a b pos) (tIf tA ta tb):=by
 intro e s σ H Q I h;refine wpAny_IfExp (thn (k e s σ H _ I h) λd f o=>?_);obtain⟨g,i,j⟩:=o
 cases d with
 | true=>exact m e f σ g Q i j
 | false=>exact n e f σ g Q i j
end
def SqL (K:ao)(H:Hp)(a:Addr)(xs:List V):Prop:=
 Rd H a (.lst xs)\/
  ∃(o:Obj)(its:Array Value)(n:Nat),K.lookup a=Zz o/\o.cls=.type "list"/\o.dict=Zy/\o.data=.seq its n/\its.size<=sizeLine/\Vals xs its.toList
def SqT (K:ao)(H:Hp)(a:Addr)(xs:List V):Prop:=
 Rd H a (.tup xs)\/
  ∃(o:Obj)(its:Array Value)(n:Nat),K.lookup a=Zz o/\o.cls=.type "tuple"/\o.data=.seq its n/\its.size<=sizeLine/\Vals xs its.toList
noncomputable def MC:Value->Option V
 | .none=>Zz .non
 | .bool b=>Zz (.bl b)
 | .int i _=>Zz (.int i)
 | .str x _=>Zz (.str x)
 | .bytes b _=>Zz (.byt b)
 | .float b _=>Zz (.flt b)
 | .ref a=>Zz (.ref a)
 | .type n=>Zz (.ty n)
 | _=>Zy
theorem RelV.abs {x:V}{u:Value}(r:RelV x u):MC u=Zz x:=by
 cases x with
 | non=>cases r;rfl
 | bl _=>cases r;rfl
 | int _=>exists r,t,rfl;rfl
 | str _=>exists r,t,rfl;rfl
 | byt _=>exists r,t,rfl;rfl
 | flt _=>exists r,t,rfl;rfl
 | ref _=>cases r;rfl
 | ty _=>cases r;rfl
theorem RelV.inj {x y:V}{u:Value}(r:RelV x u)(q:RelV y u):x=y:=Option.some.inj (r.abs.symm.trans q.abs)
theorem Vals.inj:∀{a c:List V}{d:List Value},Vals a d->Vals c d->a=c
 | _,_,_,.nil,.nil=>rfl
 | _,_,_,.cons r t,.cons r' t'=>by rw[r.inj r',Vals.inj t t']
section
variable {X:Cx}{Vz:aJ}{σ:St}{H:Hp}{s:Shared}{a:Addr}{xs ys:List V}
theorem SqL.of {K:ao}(h:H a=Zz (.lst xs)):SqL K H a xs:=.inl (.inl h)
theorem SqT.of {K:ao}(h:H a=Zz (.tup xs)):SqT K H a xs:=.inl (.inl h)
theorem Inv.list (I:Inv X Vz σ H s)(h:SqL X.K H a xs):∃c:List Value,Vals xs c/\PlainL s.heap a c.toArray/\xs.9<=sizeLine:=by
 rcases h with h|⟨o,c,n,hk,d,hd,hs,f,r⟩
 ·exists h.ok I.hok,z,c,n,r,e;exact#[c,r,#[_,n,e,rfl,rfl,rfl],z]
 ·refine#[c.toList,r,#[o,n,I.kIn a o hk,d,hd,by simpa using hs],?_];have e:=r.9;simp only[Array.length_toList]at e;omega
theorem Inv.tuple (I:Inv X Vz σ H s)(h:SqT X.K H a xs):∃c:List Value,Vals xs c/\IsTup s.heap a c.toArray/\xs.9<=sizeLine:=by
 rcases h with h|⟨o,c,n,hk,d,hs,f,r⟩
 ·exists h.ok I.hok,z,c,r,p;exact#[c,r,p,z]
 ·refine#[c.toList,r,#[o,I.kIn a o hk,d,n,by simpa using hs],?_];have e:=r.9;simp only[Array.length_toList]at e;omega
theorem Inv.list_inj (I:Inv X Vz σ H s)(h:SqL X.K H a xs)(h':SqL X.K H a ys):xs=ys:=by
 exists I.list h,f,r,#[o,n,e,_,_,d],_;exists I.list h',c,j,#[k,m,g,_,_,i],_;rw[e]at g;cases g;rw[d]at i;injection i with d1 _;have:f=c:=by simpa using congrArg Array.toList d1
 subst this;exact r.inj j
end
abbrev Cx.wish (X:Cx) (E:aX):Cx:={ X with xe:=E }
abbrev Cx.nox (X:Cx):Cx:=X.wish λ_ _=>False
theorem Cx.Ok.wish {X:Cx}(ok:X.Ok)(E:aX):(X.wish E).Ok:=
 #[ok.mod,ok.kind,ok.glob,ok.blt,ok.above,ok.inj,ok.has,ok.cab,ok.hd,ok.frames,ok.stk,ok.exf,ok.bs,ok.bsz,ok.noex,ok.exfs,ok.funs,ok.frf]
theorem Cx.Ok.unwish {X:Cx}{E:aX}(ok:(X.wish E).Ok):X.Ok:=
 #[ok.mod,ok.kind,ok.glob,ok.blt,ok.above,ok.inj,ok.has,ok.cab,ok.hd,ok.frames,ok.stk,ok.exf,ok.bs,ok.bsz,ok.noex,ok.exfs,ok.funs,ok.frf]
section
variable {X:Cx}{Vz:aJ}{σ:St}{H:Hp}{s:Shared}{E:aX}
theorem Inv.wish (I:Inv X Vz σ H s)(E:aX):Inv (X.wish E) Vz σ H s:=#[I.ok.wish E,I.os,I.bare,I.base,I.loc,I.cell,I.free,I.freeC,I.pin,I.hok,I.len]
theorem Inv.unwish (I:Inv (X.wish E) Vz σ H s):Inv X Vz σ H s:=#[I.ok.unwish,I.os,I.bare,I.base,I.loc,I.cell,I.free,I.freeC,I.pin,I.hok,I.len]
theorem SP.unwish {D:Ends}{f:Flow}{d:Shared}(h:SP (X.wish E) Vz D f d):SP X Vz D f d:=by
 cases f with
 | next=>exists h,a,c,I,q;exact#[a,c,I.unwish,q]
 | brk=>exists h,a,c,I,q;exact#[a,c,I.unwish,q]
 | cont=>exists h,a,c,I,q;exact#[a,c,I.unwish,q]
 | ret u=>exists h,v,a,c,I,r,q;exact#[v,a,c,I.unwish,r,q]
theorem PSs.nox {st:List Stmt}{t:TS}(h:PSs X.nox st t):PSs X st t:=λVz s σ H D I a=>
 wpAny_mono (h Vz s σ H D (I.wish _) a) (λ_ _ q=>q.unwish) λ_ _ z=>False.elim z
end
section
variable {X:Cx}{st:Stmt}{rest:List Stmt}{t u:TS}{e:Expr}{te:TE}{pos:Pos}
def Ex:TS:=λD σ H=>D.nx σ H
def jI (t u:TS):TS:=λD σ H=>t { D with nx:=u D } σ H
theorem ce:PSs X [] Ex:=λ_ _ σ H _ I h=>wpAny_execs_nil #[σ,H,I,h]
theorem aj (d:PS X st t)(e:PSs X rest u):PSs X (st :: rest) (jI t u):=by
 intro a s σ H D I h;refine wpAny_execs_cons (thn (d a s σ H { D with nx:=u D } I h) λf g q=>?_)
 cases f with
 | next=>
  exists q,c,i,j,q;exact e a g c i D j q
 | ret v=>exact q
 | brk=>exact q
 | cont=>exact q
theorem aw (c:PS X st t):PSs X [st] t:=by
 intro a s σ H D I h;refine wpAny_execs_cons (thn (c a s σ H D I h) λf d q=>?_)
 cases f with
 | next=>exact wpAny_execs_nil q
 | ret v=>exact q
 | brk=>exact q
 | cont=>exact q
def Ey:TS:=λD σ H=>D.ct σ H
theorem MD:PS X (.Continue pos) Ey:=λ_ _ σ H _ I h=>wpAny_Continue #[σ,H,I,h]
theorem Inv.quiet {a:aJ}{σ:St}{H:Hp}{s:Shared}(I:Inv X a σ H s):interactive X.env=false:=by simp[interactive,I.ok.kind]
def Ez (te:TE):TS:=λD σ H=>te σ H λ_ H1=>D.nx σ H1
theorem fC (c:PE X e te)(hs:swapsWith e Zy pos.line X.env=pure false:=by rfl):PS X (.Expr e pos) (Ez te):=by
 intro a s σ H D I h;exact wpAny_Expr_any (thn (c a s σ H _ I h) λv i ⟨x,d,f,j,g⟩=>#[σ,d,f,g]) I.quiet hs
def EA (te:TE):TS:=λD σ H=>te σ H D.rt
theorem aS (c:PE X e te):PS X (.Return (Zz e) pos) (EA te):=by
 intro a s σ H D I h;exact wpAny_Return_some (thn (c a s σ H _ I h) λv j ⟨x,d,f,g,i⟩=>#[x,σ,d,f,g,i])
def EB (c:TT)(t u:TS):TS:=λD σ H=>c σ H λb H1=>if b=true then t D σ H1 else u D σ H1
theorem cj {c:Expr}{a b:List Stmt}{f:TT}(m:PT X c f)(n:PSs X a t)(o:PSs X b u):PS X (.If c a b pos) (EB f t u):=by
 intro e s σ H D I h;refine wpAny_If (thn (m e s σ H _ I h) λd g p=>?_);obtain⟨i,j,k⟩:=p
 cases d with
 | true=>exact n e g σ i D j k
 | false=>exact o e g σ i D j k
def ME:TS:=λ_ _ _=>False
theorem qH {a:List Stmt}:PSs X a ME:=λ_ _ _ _ _ _ h=>h.elim
end
abbrev TG:=V->St->Hp->fc->Prop
abbrev TGs:=List V->St->Hp->fc->Prop
def PG (X:Cx)(target:Expr)(t:TG):Prop:=
 ∀(Vz:aJ)(s:Shared)(σ:St)(H:Hp)(v:V)(u:Value)(Q:fc),Inv X Vz σ H s->RelV v u->t v σ H Q->
  wpAny (model X.prog X.w) X.A (assign target X.env u) (λ_ s'=>∃σ' H',Inv X Vz σ' H' s'/\Q σ' H') X.xe s
def PGs (X:Cx)(ts:List Expr)(t:TGs):Prop:=
 ∀(Vz:aJ)(s:Shared)(σ:St)(H:Hp)(vs:List V)(us:List Value)(Q:fc),Inv X Vz σ H s->Vals vs us->t vs σ H Q->
  wpAny (model X.prog X.w) X.A (assignInOrder ((assignEach ts X.env).map (·.2)) us) (λ_ s'=>∃σ' H',Inv X Vz σ' H' s'/\Q σ' H') X.xe s
abbrev kC:=V->V->V->Hp->(Hp->Prop)->Prop
def zY (X:Cx)(t:kC):Prop:=
 ∀(Vz:aJ)(s:Shared)(σ:St)(H:Hp)(o i v:V)(ov iv u:Value)(Q:Hp->Prop),Inv X Vz σ H s->RelV o ov->RelV i iv->RelV v u->t o i v H Q->
  wpAny (model X.prog X.w) X.A (setItem ov iv u) (λ_ s'=>∃H',Inv X Vz σ H' s'/\Q H') X.xe s
abbrev TIp:=V->V->Hp->VK->Prop
def PIp (X:Cx)(op:Operator)(t:TIp):Prop:=
 ∀(Vz:aJ)(s:Shared)(σ:St)(H:Hp)(x y:V)(v u:Value)(Q:VK),Inv X Vz σ H s->RelV x v->RelV y u->t x y H Q->
  wpAny (model X.prog X.w) X.A (inplaceOp op v u) (EP X Vz σ Q) X.xe s
section
variable {X:Cx}{pos:Pos}
def gU (i:Nat):TG:=λv σ H Q=>Q (σ.set i (Zz v)) H
theorem cm {i:Nat}{x:Str}(c:X.N.Nodup)(hi:X.N[i]?=Zz x)(hx:Loc X.env.scope x)(d:X.fn x=true\/X.env.scope.names.lookup x=Zz .local:=by first|exact .inl rfl|exact .inr rfl|assumption):PG X (.Name x pos) (gU i):=by
 intro a s σ H v u Q I r h;exact wpAny_assign_Name (qF I c hi hx r (λf e=>#[_,H,e,h]) d)
def zZ:TGs:=λvs σ H Q=>vs=[]/\Q σ H
def qI (t:TG)(u:TGs):TGs:=λvs σ H Q=>∃v r,vs=v :: r/\t v σ H λσ' H'=>u r σ' H' Q
theorem jJ:PGs X [] zZ:=by
 intro a s σ H c d Q I r h;exists h,e,h;subst e
 cases r
 exact assignInOrder_nil #[σ,H,I,h]
theorem f7 {e:Expr}{c:List Expr}{t:TG}{u:TGs}(f:PG X e t)(g:PGs X c u)(hs:(assignEach (e :: c) X.env).map (·.2)=assign e X.env :: (assignEach c X.env).map (·.2):=by rfl):PGs X (e :: c) (qI t u):=by
 intro a s σ H p x Q I r h;exists h,v,y,i,h;subst i
 cases r with
 | cons r rr=>
  rw[hs];refine assignInOrder_cons (thn (f a s σ H _ _ _ I r h) λ_ j k=>?_);exists k,d,m,n,o;exact g a j d m _ _ Q n rr o
def z_ (K:ao)(n:Nat)(t:TGs):TG:=λv σ H Q=>∃a xs,v=.ref a/\SqT K H a xs/\xs.9=n/\t xs σ H Q
theorem jK {d:List Expr}{k:Nat}{t:TGs}{n:Nat}(j:X.calm=true)(h:PGs X d t)(m:(assignEach d X.env).9=n:=by rfl)(f:(assignEach d X.env).findIdx? (·.1)=Zy:=by rfl):PG X (.Tuple d k pos) (z_ X.K n t):=by
 intro c s σ H v u Q I r g;exists g,a,p,x,y,z,g;subst x
 cases r
 exists I.tuple y,C,i,F,M;refine assign_Tuple_tuple (I.ok.hd j) F (by simp[m,<-z,i.9]) f λG hx=>?_;have J:Inv X c σ H { s with heap:=G }:=I.kept (t':=s.toks) λb o e=>hx b o (du (Heap.lt_size e)) e;exact h c _ σ H p _ Q J (⇑i) g
def EC (to ti:TE)(t:kC):TG:=λv σ H Q=>to σ H λo H1=>ti σ H1 λi H2=>t o i v H2 λH3=>Q σ H3
theorem qJ {o i:Expr}{to f:TE}{t:kC}(g:PE X o to)(hi:PE X i f)(hs:zY X t)(j:∀v,assign (.Subscript o i pos) X.env v=(do
   let c <-holding [v] (eval o X.env)
   let d <-holding [v,c] (eval i X.env)
   standAt pos
   holding [v,c,d] (setItem c d v)
   release [v,c,d] []):=by intro _;rfl):PG X (.Subscript o i pos) (EC to f t):=by
 intro a s σ H v u Q I r h;rw[j];refine wpAny_bind (wpAny_holding (thn (g a s σ H _ I h) λc k e=>?_));exists e,x,m,n,p,z;refine wpAny_bind (wpAny_holding (thn (hi a k σ m _ n z) λd C e=>?_));exists e,y,F,G,J,M;refine wpAny_bind (wpAny_standAt (wpAny_bind (wpAny_holding (thn (hs a C σ F x y v c d u _ G p J r M) λ_ S e=>?_))));exists e,O,P,R;exact wpAny_release #[σ,O,P,R]
def kD (te:TE)(g:TG):TS:=λD σ H=>te σ H λx H1=>g x σ H1 D.nx
theorem qL {c e:Expr}{d:TE}{g:TG}(f:PE X e d)(i:PG X c g)(hs:swapsWithSole [c] e pos.line X.env=pure false:=by rfl)(j:swappedStores [c] e X.env=pure Zy:=by rfl)(k:(assignEach [c] X.env).map (·.2)=[assign c X.env]:=by rfl):PS X (.Assign [c] e pos) (kD d g):=by
 intro a s σ H D I h;refine wpAny_Assign_stores (thn (f a s σ H _ I h) λv m n=>?_) hs j;exists n,x,o,p,r,u;rw[k];exact thn (i a m σ o x v _ p r u) λ_ y q=>q
theorem av {i:Nat}{x:Str}{e:Expr}{d:TE}{a:Pos}(f:X.N.Nodup)(hi:X.N[i]?=Zz x)(hx:Loc X.env.scope x)(g:PE X e d)(hs:swapsWith e (Zz (.Name x a)) pos.line X.env=pure false:=by rfl)(j:X.fn x=true\/X.env.scope.names.lookup x=Zz .local:=by first|exact .inl rfl|exact .inr rfl|assumption):
  PS X (.Assign [.Name x a] e pos) (kD d (gU i)):=by
 intro c s σ H D I h;refine wpAny_Assign_Name (thn (g c s σ H _ I h) λv u k=>?_) hs;exists k,y,m,n,o,p;exact qF n f hi hx o (λz r=>#[_,m,r,p]) j
def ED (i:Nat)(te:TE)(ti:TIp):TS:=λD σ H=>∃x,σ[i]?=Zz (Zz x)/\te σ H λy H1=>ti x y H1 λz H2=>D.nx (σ.set i (Zz z)) H2
theorem Ab {i:Nat}{x:Str}{e:Expr}{C:TE}{n:Operator}{F:TIp}{f:Pos}(G:X.N.Nodup)(hi:X.N[i]?=Zz x)(hx:Loc X.env.scope x)(J:PE X e C)(M:PIp X n F)(O:X.fn x=true\/X.env.scope.names.lookup x=Zz .local:=by first|exact .inl rfl|exact .inr rfl|assumption):
  PS X (.AugAssign (.Name x f) n e pos) (ED i C F):=by
 intro a s σ H D I h;exists h,v,P,h;exists I.loc,m,Q,R;have o:Vis X.env.scope x:=by rcases hx with k|k;exact .inl k;exact .inr (.inl k)
 exists R i x v hi P o,u,r,l;refine wpAny_AugAssign_Name ?_;have go:wpAny (model X.prog X.w) X.A (eval e X.env) (λw g=>wpAny (model X.prog X.w) X.A (inplaceOp n u w) (λr j=>wpAny (model X.prog X.w) X.A (storeName X.env x r) (λ_=>SP X a D .next) X.xe j) X.xe g) X.xe s:=by
  refine thn (J a s σ H _ I h) λw S p=>?_;exists p,y,T,U,Y,Z;refine thn (M a S σ T v y u w _ U r Y Z) λz s2 p=>?_;exists p,zv,H2,I2,r2,q2;exact qF I2 G hi hx r2 (λs3 I3=>#[_,H2,I3,q2]) O
 rcases l with ⟨hk,hm⟩|⟨hk,c,hc,d⟩
 ·exact wpAny_loadName_local I.ok.kind hk Q hm go
 ·rcases hk with hk|hk
  ·exact wpAny_loadName_cell I.ok.kind hk hc d go
  ·rcases hx with k|k
   ·have:X.env.scope.names.lookup x=Zz .free:=hk;rw[k]at this;cases this
   ·have:X.env.scope.names.lookup x=Zz .free:=hk;rw[k]at this;cases this
def EE (to ti te:TE)(tget:V->V->Hp->VK->Prop)(tip:TIp)(tset:kC):TS:=λD σ H=>to σ H λo H1=>ti σ H1 λi H2=>tget o i H2 λx H3=>te σ H3 λy H4=>tip x y H4 λz H5=>tset o i z H5 λH6=>D.nx σ H6
def EF (X:Cx)(t:V->V->Hp->VK->Prop):Prop:=
 ∀(Vz:aJ)(s:Shared)(σ:St)(H:Hp)(o i:V)(ov iv:Value)(Q:VK),Inv X Vz σ H s->RelV o ov->RelV i iv->t o i H Q->
  wpAny (model X.prog X.w) X.A (getItem ov iv) (EP X Vz σ Q) X.xe s
theorem qM {o i e:Expr}{to p r:TE}{f:V->V->Hp->VK->Prop}{m:TIp}{g:kC}{u:Operator}{tpos:Pos}(F:PE X o to)(hi:PE X i p)(G:EF X f)(J:PE X e r)(M:PIp X u m)(hs:zY X g)(O:∀j k c,augStore i j k c=(do holding [c,j,k] (setItem j k c);release [c,j,k] [];pure .next):=by intros;rfl):PS X (.AugAssign (.Subscript o i tpos) u e pos) (EE to p r f m g):=by
 intro a s σ H D I h;refine wpAny_AugAssign_SubscriptAny (thn (F a s σ H _ I h) λj P d=>?_) O;exists d,x,Q,R,y,S;refine thn (hi a P σ Q _ R S) λk T d=>?_;exists d,z,U,Y,C,Z;refine thn (G a T σ U x z j k _ Y y C Z) λn s3 d=>?_;exists d,x3,H3,I3,r3,q3;refine thn (J a s3 σ H3 _ I3 q3) λv s4 d=>?_;exists d,x4,H4,I4,r4,q4;refine thn (M a s4 σ H4 x3 x4 n v _ I4 r3 r4 q4) λc s5 d=>?_;exists d,x5,H5,I5,r5,q5;exact thn (hs a s5 σ H5 x z x5 j k c _ I5 y C r5 q5) λ_ s6 ⟨H6,I6,q6⟩=>#[σ,H6,I6,q6]
def ipI (f:Int->Int->Int):TIp:=λx y H Q=>∃i j,x=.int i/\y=.int j/\Q (.int (f i j)) H
theorem qN:PIp X .Add (ipI λi j=>i+j):=by
 intro a s σ H x y v u Q I c d h;exists h,i,j,e,f,q;subst e;subst f;exists c,t,rfl;exists d,g,rfl;exact iadd_int #[.int _,H,I.tok _,#[_,rfl],q]
theorem Ac:PIp X .Sub (ipI λi j=>i-j):=by
 intro a s σ H x y v u Q I c d h;exists h,i,j,e,f,q;subst e;subst f;exists c,t,rfl;exists d,g,rfl;exact isub_int #[.int _,H,I.tok _,#[_,rfl],q]
end
section
variable {X:Cx}{pos:Pos}
def EG (c:TT)(tb:TS):TS:=λD σ H=>∃W:Nat->St->Hp->Prop,(∃m,W m σ H)/\∀m σ H,W m σ H->
 c σ H λb H1=>if b=true then ∃N:fc,(∀σ' H',N σ' H'->∃m',m'<m/\W m' σ' H')/\tb { D with nx:=N,ct:=N,bk:=D.nx } σ H1 else D.nx σ H1
theorem ib {c:Expr}{e:List Stmt}{y:TT}{tb:TS}(z:PassesOwn (model X.prog X.w) X.A X.env X.xe)(M:PT X c y)(O:PSs X e tb):PS X (.While c e [] pos) (EG y tb):=by
 intro a s σ H D I h;exists h,W,#[m0,P],g;refine wpAny_While (codeAny_whileLoop (λn Q=>∃i C,Inv X a i C Q/\W n i C) ?_ m0 #[σ,H,I,P])
 rintro n R ⟨σ1,H1,I1,w1⟩
 refine wpAny_passesOwn z (thn (M a R σ1 H1 _ I1 (g n σ1 H1 w1)) λb S T=>?_);obtain⟨F,G,k⟩:=T
 cases b with
 | true=>
  exists k,N,J,k;rw[if_pos rfl];refine wpAny_passesOwn z (thn (O a S σ1 F _ G k) λf U m=>?_)
  cases f with
  | next=>
   exists m,d,j,o,p;exists J d j p,r,u,x;exact#[r,u,d,j,o,x]
  | cont=>
   exists m,d,j,o,p;exists J d j p,r,u,x;exact#[r,u,d,j,o,x]
  | brk=>exact m
  | ret v=>exact m
 | false=>
  rw[if_neg Bool.false_ne_true];exact wpAny_execs_nil #[σ1,F,G,k]
end
structure It where
 go:cB
 yld:Nat->Hp->V->Hp->Prop
 stop:cB
def dm (X:Cx)(Vz:aJ)(H:Hp)(b:Addr):Prop:=
 H b=Zy/\b≠X.env.locals/\b∉X.fs/\(b∈X.ex\/X.s₀.7<=b)/\(∀x c,X.env.cells.lookup x=Zz c->c≠b)/\∀p∈X.pn++Vz,p.1≠b
theorem Inv.fpOk {X:Cx}{a:aJ}{σ:St}{H f:Hp}{s:Shared}{b:Addr}(I:Inv X a σ H s)(d:s.7<=b)(g:f b=Zy):dm X a f b:=by
 refine#[g,K6 (cI I.lt d),I.nofs d,.inr (aQ I.sz d),λx c e z=>?_,λp h z=>?_]
 ·exists I.cell x c e,v,q;exact absurd (cI q.lt #v[z,d]) (ki _)
 ·exact absurd (cI (Heap.lt_size (I.pin p h).1) #v[z,d]) (ki _)
structure Turn (P:Program)(w:World)(K:ao)(tg:Expr)(J:It)(fp:am)(it:Addr)(tn:Nat->Heap->Prop):Prop where
 mem:it∈fp
 obj:∀i h,tn i h->∀b∈fp,∃o,h.get? b=Zz o/\∀v,o.data≠.cell v
 keep:∀i h h',tn i h->(∀b∈fp,∀o,h.get? b=Zz o->h'.get? b=Zz o)->tn i h'
 item:∀(X:Cx),X.prog=P->X.w=w->X.K=K->X.calm=true->∀(i:Nat)(Vz:aJ)(s:Shared)(σ:St)(H:Hp)(E:aX),Inv X Vz σ H s->(∀b∈fp,dm X Vz H b)->tn i s.heap->J.go i H->
  wpAny (model P w) X.A (pyNext (.ref it)) (λr s1=>∃u,r=Zz u/\
   wpAny (model P w) X.A (letOwnedTupleGo tg (.ref it) u) (λ_ s2=>∃x H',Inv X Vz σ H' s2/\RelV x u/\J.yld i H x H'/\tn (i+1) s2.heap/\∀b∈fp,H' b=Zy) E s1) E s
 done:∀(X:Cx),X.prog=P->X.w=w->X.K=K->X.calm=true->∀(i:Nat)(Vz:aJ)(s:Shared)(σ:St)(H:Hp)(E:aX),Inv X Vz σ H s->(∀b∈fp,dm X Vz H b)->tn i s.heap->J.stop i H->
  wpAny (model P w) X.A (pyNext (.ref it)) (λr s1=>r=Zy/\Inv X Vz σ H s1) E s
 self:∀(A:Around)(i:Nat)(s:Shared)(Q:aX)(E:aX),tn i s.heap->Q (.ref it) s->wpAny (model P w) A (pyIter (.ref it)) Q E s
abbrev TI:=St->Hp->(It->Hp->Prop)->Prop
def PIE (X:Cx)(Vz:aJ)(σ:St)(tg:Expr)(R:It->Hp->Prop)(itv:Value)(s2:Shared):Prop:=
 ∃(it:Addr)(fp:am)(tn:Nat->Heap->Prop)(J:It)(H':Hp),itv=.ref it/\Inv X Vz σ H' s2/\Turn X.prog X.w X.K tg J fp it tn/\tn 0 s2.heap/\(∀b∈fp,dm X Vz H' b)/\R J H'
def PI (X:Cx)(tg iter:Expr)(wi:TI):Prop:=
 ∀(Vz:aJ)(s:Shared)(σ:St)(H:Hp)(R:It->Hp->Prop),Inv X Vz σ H s->wi σ H R->
  wpAny (model X.prog X.w) X.A (eval iter X.env) (λv s1=>wpAny (model X.prog X.w) X.A (pyIter v) (PIE X Vz σ tg R) X.xe s1) X.xe s
theorem qO {M:Model}{A:Around}{E:aX}{s:Shared}{a:Expr}{it:Addr}{u:Value}{o:Obj}{n:String}{vs:Array Value}{Q:Unit->Shared->Prop}(c:s.heap.get? it=Zz o)(d:o.cls=.type n)(hd:o.data=.fields vs)(e:["enumerate","zip","dict_itemiterator","dict_reverseitemiterator","odict_iterator","itertools.zip_longest","itertools.pairwise"].contains n=false)(hQ:Q #[] s):wpAny M A (letOwnedTupleGo a (.ref it) u) Q E s:=by
 unfold letOwnedTupleGo
 cases a <;> first
  | exact wpAny_pure hQ
  |(cases u <;> first
    | exact wpAny_pure hQ
    |(refine wpAny_bind (wpAny_load c ?_)
      rw[d,hd];show wpAny M A (if (["enumerate","zip","dict_itemiterator","dict_reverseitemiterator","odict_iterator","itertools.zip_longest","itertools.pairwise"].contains n && vs[0]? == Zz (rawInt _))=true then _ else _) Q E s;rw[if_neg (by intro h;rw[e,Bool.false_and]at h;cases h)];exact wpAny_pure hQ))
def Itl (K:ao)(a:Addr):It:=
 #[λi H=>∃xs x,SqL K H a xs/\xs[i]?=Zz x,λi H x H'=>H'=H/\∀xs,SqL K H a xs->xs[i]?=Zz x,λi H=>∃xs,SqL K H a xs/\xs.9<=i]
def Itr (lo:Int)(n:Nat):It:=#[λi _=>i<n,λi H x H'=>H'=H/\x=.int (lo+i),λi _=>n<=i]
theorem MF {P:Program}{w:World}{K:ao}{T:Expr}(a it:Addr):Turn P w K T (Itl K a) [it] it (λi h=>h.IsListIter it a i) where
 mem:=by simp
 obj:=λi h st b g=>by
  have e:b=it:=by simpa using g
  subst e;exists st,o,e,c,d;exact#[o,e,λv z=>by rw[d]at z;cases z]
 keep:=λi h m st k=>st.at λo e=>k it (by simp) o e
 item:=by
  intro X hP y hK S i f s σ H E I n st C;subst hP y hK;exists C,U,x,r,hx;exists I.list r,F,G,p,Y;exists G.get hx,u,Z,ru;obtain⟨J,M,f2,O,Q,R⟩:=n it (by simp);refine wpAny_pyNext_list_item st p.isList (x:=u) (⇑Z) λm j sb=>?_;have I1:Inv X f σ H { s with heap:=m }:=I.turned (t':=s.toks) (λb o g e=>(sb.2 b g).trans e) J M O Q R;exists id j,o,e,c,d;exact#[u,rfl,qO (s:={ s with heap:=m }) e c d () #[x,H,I1,ru,#[rfl,λys hy=>#v[I.list_inj hy r,hx]],j,λb g=>(n b g).1]]
 done:=by
  intro X hP y hK S i f s σ H E I n st C;subst hP y hK;exists C,U,r,hx;exists I.list r,F,G,p,Y;obtain⟨J,M,f2,O,Q,R⟩:=n it (by simp);have hl:=G.9;exact wpAny_pyNext_list_end (I.ok.hd S) st p.isList (by simp;omega) λm eb=>#[rfl,I.turned (t':=s.toks) (λb o g e=>eb b o g e) J M O Q R]
 self:=λ_ _ _ _ _ st h=>wpAny_pyIter_listiter st h
theorem MG {P:Program}{w:World}{K:ao}{G:Expr}(it:Addr)(lo:Int)(n:Nat):Turn P w K G (Itr lo n) [it] it (λi h=>IsRangeIter h it (lo+(i:Nat)*1) ((n:Int)-(i:Nat)) 1) where
 mem:=by simp
 obj:=λi h st b c=>by
  have e:b=it:=by simpa using c
  subst e;exact⟨_,st,λv z=>by
   have J:Data.fields _=Data.cell v:=z
   cases J⟩
 keep:=λi h f st k=>k it (by simp) _ st
 item:=by
  intro X hP j hK m i a s σ H E I g st p;subst hP j hK;obtain⟨r,u,M,x,y,C⟩:=g it (by simp);have W:=Walks.range (prog:=X.prog) (w:=X.w) (I.ok.hd m) it lo 1 n;refine W.item i s _ _ p st λv f F O d Q=>?_;exists O,t,rfl;have R:Inv X a σ H { s with heap:=f,toks:=F }:=I.turned (λb o c e=>Q b o (⇑c) e) r u x y C;refine#[_,rfl,qO (s:={ s with heap:=f,toks:=F }) (n := "range_iterator") d rfl rfl () #[.int (lo+i),H,R,#[t,?_],#[rfl,rfl],d,λb c=>(g b c).1]];rw[vE]
 done:=by
  intro X hP j hK m i a s σ H E I g st p;subst hP j hK;obtain⟨r,u,M,x,y,C⟩:=g it (by simp);exact wpAny_pyNext_range_end (I.ok.hd m) st (by have:n<=i:=p;omega) λf S=>#[rfl,I.turned (t':=s.toks) (λb o c e=>S b o c e) r u x y C]
 self:=λ_ _ _ _ _ st h=>wpAny_pyIter_rangeiter st h
section
variable {X:Cx}{tg:Expr}
def Ad (K:ao)(tl:TE):TI:=λσ H R=>tl σ H λx H1=>∃a,x=.ref a/\(∃xs,SqL K H1 a xs)/\R (Itl K a) H1
theorem cV {l:Expr}{g:TE}(i:PE X l g):PI X tg l (Ad X.K g):=by
 intro c s σ H R I h;refine thn (i c s σ H _ I h) λv d j=>?_;exists j,x,k,f,m,n;exists n,a,e,#[z,r],q;subst e
 cases m
 exists f.list r,u,C,p,F;refine wpAny_pyIter_list p.isList ?_;refine#[d.7,[d.7],_,_,k,rfl,f.kept (t':=d.toks) λb o e=>Heap.get?_push_of_some _ e,MF a _,#[_,Heap.get?_push_size _ rfl,rfl,rfl],λb y=>?_,q];have e:b=d.7:=by simpa using y
 subst e;exact f.fpOk (aA _) (f.hok.fresh (aA _))
theorem EH {a:aJ}{σ:St}{H:Hp}{s:Shared}{R:It->Hp->Prop}{E:aX}{lo hi:Int}{t u v:Tok}{tk:Nat}(I:Inv X a σ H s)(d:-(2 ^ 62)<=lo)(f:lo<2 ^ 62)(g:-(2 ^ 62)<=hi)(h:hi<2 ^ 62)(q:R (Itr lo (hi-lo).toNat) H):wpAny (model X.prog X.w) X.A (pyIter (.ref s.7)) (PIE X a σ tg R) E { s with heap:=s.heap.push { cls:=.type "range",data:=.fields (List.toArray [.int lo t,.int hi u,.int 1 v]) },toks:=tk }:=by
 refine wpAny_pyIter_range (IsRange.new ..) (small_one d f g h) ?_;have c:Inv X a σ H { s with heap:=s.heap.push { cls:=.type "range",data:=.fields (List.toArray [.int lo t,.int hi u,.int 1 v]) },toks:=tk }:=I.kept λb o e=>Heap.get?_push_of_some _ e;refine⟨(s.heap.push { cls:=.type "range",data:=.fields (List.toArray [.int lo t,.int hi u,.int 1 v]) }).objs.size,[(s.heap.push { cls:=.type "range",data:=.fields (List.toArray [.int lo t,.int hi u,.int 1 v]) }).objs.size],_,_,H,rfl,
  c.kept (t':=tk) λb o e=>Heap.get?_push_of_some _ e,MG _ lo (hi-lo).toNat,?_,λb i=>?_,q⟩
 ·have j:lo+((0:Nat):Int)*1=lo:=by simp
  have k:(((hi-lo).toNat:Nat):Int)-((0:Nat):Int)=Builtin.Range.rangeSize lo hi 1:=by rw[rangeSize_one];split <;> omega
  show IsRangeIter _ _ (lo+((0:Nat):Int)*1) ((((hi-lo).toNat:Nat):Int)-((0:Nat):Int)) 1;rw[j,k];exact Heap.get?_push_size _ rfl
 ·have e:b=(s.heap.push { cls:=.type "range",data:=.fields (List.toArray [.int lo t,.int hi u,.int 1 v]) }).objs.size:=by simpa using i
  subst e;exact c.fpOk (aA _) (c.hok.fresh (aA _))
def EI (ta:TA):TI:=λσ H R=>ta σ H λvs H1=>∃j:Int,vs=[.int j]/\-(2 ^ 62)<=j/\j<2 ^ 62/\R (Itr 0 j.toNat) H1
def EJ (ta:TA):TI:=λσ H R=>ta σ H λvs H1=>∃i j:Int,vs=[.int i,.int j]/\(-(2 ^ 62)<=i/\i<2 ^ 62/\-(2 ^ 62)<=j/\j<2 ^ 62)/\R (Itr i (j-i).toNat) H1
theorem gl {a:Expr}{f:TA}{p pos:Pos}(g:Gl X "range")(i:X.mg "range" = Zy)(k:PA X [a] f)(hs:starEach [a] X.env=[(false,eval a X.env)]:=by rfl):PI X tg (.Call (.Name "range" p) [a] [] pos) (EI f):=by
 intro c s σ H R I h;refine Call_ (iP I g i boot_range (PyProof.Rows.callWith_type1 (thn (k pos c s σ H _ I h) λv x m=>?_) hs rfl));exists m,y,z,n,o,d;exists d,j,e,d,u,q;subst e
 cases o with
 | cons r rr=>
  cases rr
  exists r,t,rfl;exact call_range_1 (EH n () () d u (⇑q))
theorem MH {a b:Expr}{g:TA}{p pos:Pos}(k:Gl X "range")(m:X.mg "range" = Zy)(n:PA X [a,b] g)(hs:starEach [a,b] X.env=[(false,eval a X.env),(false,eval b X.env)]:=by rfl)(c:starEach [b] X.env=[(false,eval b X.env)]:=by rfl):
  PI X tg (.Call (.Name "range" p) [a,b] [] pos) (EJ g):=by
 intro d s σ H R I h;refine Call_ (iP I k m boot_range (PyProof.Rows.callWith_type1 (thn (n pos d s σ H _ I h) λC F o=>?_) (by rw[hs,c]) (by rw[c];rfl)));exists o,G,J,u,v,f;exists f,i,j,e,#[f,x,y,z],q;subst e
 cases v with
 | cons r rr=>
  cases rr with
  | cons r' rr=>
   cases rr
   exists r,t,rfl;exists r',M,rfl;exact call_range_2 (EH u f x y z q)
def EK (wi:TI)(g:TG)(tb:TS):TS:=λD σ H=>wi σ H λJ H1=>∃W:Nat->Nat->St->Hp->Prop,(∃m,W 0 m σ H1)/\∀i m σ H,W i m σ H->
 (J.stop i H/\D.nx σ H)\/(J.go i H/\∃N:fc,(∀σ' H',N σ' H'->∃m',m'<m/\W (i+1) m' σ' H')/\∀x H',J.yld i H x H'->g x σ H' λσ2 H2=>tb { D with nx:=N,ct:=N,bk:=D.nx } σ2 H2)
def nH (fp:am)(h:Heap):aJ:=fp.filterMap λb=>(h.get? b).map λo=>(b,o)
theorem mj {a:am}{h:Heap}{b:Addr}{o:Obj}(c:b∈a)(e:h.get? b=Zz o):(b,o)∈nH a h:=List.mem_filterMap.mpr #[b,c,by rw[e];rfl]
theorem MI {a:am}{h:Heap}{p:Addr×Obj}(c:p∈nH a h):p.1∈a/\h.get? p.1=Zz p.2:=by
 obtain⟨b,d,e⟩:=List.mem_filterMap.mp c
 cases q:h.get? b with
 | none=>rw[q]at e;cases e
 | some o=>
  rw[q]at e;have f:(b,o)=p:=Option.some.inj e;subst f;exact#[d,q]
theorem Inv.pinned {a:aJ}{σ:St}{H:Hp}{s:Shared}{c:am}(I:Inv X a σ H s)(h:∀b∈c,dm X a H b)(i:∀b∈c,∃o,s.heap.get? b=Zz o/\∀v,o.data≠.cell v):Inv X (a++nH c s.heap) σ H s:=
 I.pins_of λp j=>(a8.mp j).elim (λz=>I.pin p (hH _ z)) λz=>by
  exists MI z,f,e;exists h p.1 f,k,m,n,_;exists i p.1 f,o,g,d;rw[e]at g;cases g;exact#[e,k,m,n,d]
theorem Inv.unpinned {a pl:aJ}{σ:St}{H:Hp}{s:Shared}(I:Inv X (a++pl) σ H s):Inv X a σ H s:=I.pins_of λp c=>I.pin p (hH _ (i4 _ c))
theorem cZ {j:Expr}{M:List Stmt}{wi:TI}{g:TG}{tb:TS}{pos:Pos}(R:PassesOwn (model X.prog X.w) X.A X.env X.xe)(hc:X.calm=true)(hi:PI X tg j wi)(hg:PG X tg g)(k:PSs X M tb)(hs:∀x,foldedSetIterable j X.env x=pure x:=by intro _;rfl):PS X (.For tg j M [] pos) (EK wi g tb):=by
 intro a s σ H D I h;refine wpAny_For (thn (hi a s σ H _ I h) λv s1 h1=>thn h1 λu0 s2 h2=>?_) hs;exists h2,it,S,tn,J,H2,e,I2,T,Z,f2,W,#[m0,w0],U;subst e;have p:∀{G:Hp},(∀b∈S,G b=Zy)->∀b∈S,dm X a G b:=λhn b k=>#[hn b k,(f2 b k).2]
 refine codeAny_forLoop_any (λn s'=>∃i y G,Inv X a y G s'/\tn i s'.heap/\(∀b∈S,G b=Zy)/\W i n y G) ?_ m0 #[0,σ,H2,I2,Z,λb k=>(f2 b k).1,w0]
 rintro n s3 ⟨i,σ3,H3,I3,st3,fr3,w3⟩
 rcases U i n σ3 H3 w3 with ⟨stop,qn⟩|⟨go,N,hN,step⟩
 ·refine wpAny_passesOwn R (thn (T.done X rfl rfl rfl hc i a s3 σ3 H3 X.xe I3 (p fr3) st3 stop) λr s4 P=>?_);exists P,hr,I4;subst hr;exact wpAny_execs_nil #[σ3,H3,I4,qn]
 ·refine wpAny_passesOwn R (thn (T.item X rfl rfl rfl hc i a s3 σ3 H3 X.xe I3 (p fr3) st3 go) λr s4 P=>?_);exists P,u,hr,h4;subst hr;refine wpAny_passesOwn R (thn h4 λ_ s5 P=>?_);exists P,x,H5,I5,r5,y5,Q,x0;have y0:=I5.pinned (p x0) (T.obj _ _ Q);refine wpAny_passesOwn R (thn (hg _ s5 σ3 H5 x u _ y0 r5 (step x H5 y5)) λ_ s6 P=>?_);exists P,z0,H6,I6,q6;refine wpAny_passesOwn R (thn (k _ s6 z0 H6 _ I6 q6) λf s7 O=>?_);have z:∀{c:St}{C:Hp},Inv X (a++nH S s5.heap) c C s7->N c C->∃m,m<n/\∃i y G,Inv X a y G s7/\tn i s7.heap/\(∀b∈S,G b=Zy)/\W i m y G:=λ{c C} F Y=>by
   exists hN c C Y,m',hm,w7;refine#[m',hm,i+1,c,C,F.unpinned,T.keep _ _ _ Q λb k o e=>(F.pin (b,o) (hH _ (hH _ (mj k e)))).1,λb k=>?_,w7];exists T.obj _ _ Q b k,o,e,d;exact (F.pin (b,o) (hH _ (hH _ (mj k e)))).2.1
  cases f with
  | next=>exists O,c,C,F,Y;exact z F Y
  | cont=>exists O,c,C,F,Y;exact z F Y
  | brk=>exists O,c,C,F,O;exact#[c,C,F.unpinned,O]
  | ret v=>exists O,x7,c,C,F,r7,O;exact#[x7,c,C,F.unpinned,r7,O]
end
theorem MJ {K:ao}{a:Addr}{xs:List V}{g:TG}{tb:TS}{D:Ends}{σ:St}{H:Hp}(c:Nat->St->Hp->Prop)(n:c 0 σ H)(o:∀i σ H,i<=xs.9->c i σ H->SqL K H a xs)(hs:∀i x σ H,xs[i]?=Zz x->c i σ H->g x σ H λd j=>tb { D with nx:=c (i+1),ct:=c (i+1),bk:=D.nx } d j)(hd:∀σ H,c xs.9 σ H->D.nx σ H):
  ∃W:Nat->Nat->St->Hp->Prop,(∃m,W 0 m σ H)/\∀i m σ H,W i m σ H->
   ((Itl K a).stop i H/\D.nx σ H)\/((Itl K a).go i H/\∃N:fc,(∀f h,N f h->∃k,k<m/\W (i+1) k f h)/\∀x h,(Itl K a).yld i H x h->g x σ h λd j=>tb { D with nx:=N,ct:=N,bk:=D.nx } d j):=by
 refine#[λi m σ H=>m=xs.9-i/\i<=xs.9/\c i σ H,#[xs.9,by simp,aU _,n],?_]
 rintro i m σ H ⟨rfl,hi,p⟩
 have q:=o i σ H hi p;by_cases hlt:i<xs.9
 ·refine .inr #[#[xs,xs[i],q,by simp[hlt]],c (i+1),λf h r=>#[xs.9-(i+1),(),rfl,hlt,r],λx h y=>?_];exists y,e,y;subst e;exact hs i x σ _ (y xs q) p
 ·have e:i=xs.9:=()
  subst e;exact .inl #[#[xs,q,aA _],hd σ H p]
theorem MK {lo:Int}{n:Nat}{g:TG}{tb:TS}{D:Ends}{σ:St}{H:Hp}(a:Nat->St->Hp->Prop)(k:a 0 σ H)(hs:∀i σ H,i<n->a i σ H->g (.int (lo+i)) σ H λc h=>tb { D with nx:=a (i+1),ct:=a (i+1),bk:=D.nx } c h)(hd:∀σ H,a n σ H->D.nx σ H):
  ∃W:Nat->Nat->St->Hp->Prop,(∃m,W 0 m σ H)/\∀i m σ H,W i m σ H->
   ((Itr lo n).stop i H/\D.nx σ H)\/((Itr lo n).go i H/\∃N:fc,(∀d f,N d f->∃j,j<m/\W (i+1) j d f)/\∀x f,(Itr lo n).yld i H x f->g x σ f λc h=>tb { D with nx:=N,ct:=N,bk:=D.nx } c h):=by
 refine#[λi m σ H=>m=n-i/\i<=n/\a i σ H,#[n,by simp,aU _,k],?_]
 rintro i m σ H ⟨rfl,hi,p⟩
 by_cases hlt:i<n
 ·refine .inr #[hlt,a (i+1),λd f o=>#[n-(i+1),(),rfl,hlt,o],λx f y=>?_];exists y,e,y;subst e y;exact hs i σ _ hlt p
 ·have e:i=n:=()
  subst e;exact .inl #[aA _,hd σ H p]
abbrev R2:=V->V->Hp->VK->Prop
def OpR (X:Cx)(f:Value->Value->Sem Value)(r:R2):Prop:=
 ∀(Vz:aJ)(s:Shared)(σ:St)(H:Hp)(x y:V)(v u:Value)(Q:VK),Inv X Vz σ H s->RelV x v->RelV y u->r x y H Q->
  wpAny (model X.prog X.w) X.A (f v u) (EP X Vz σ Q) X.xe s
def UnR (X:Cx)(f:Value->Sem Value)(r:V->Hp->VK->Prop):Prop:=
 ∀(Vz:aJ)(s:Shared)(σ:St)(H:Hp)(x:V)(v:Value)(Q:VK),Inv X Vz σ H s->RelV x v->r x H Q->
  wpAny (model X.prog X.w) X.A (f v) (EP X Vz σ Q) X.xe s
def gX (X:Cx)(f:Value)(r:List V->Hp->VK->Prop):Prop:=
 ∀(Vz:aJ)(s:Shared)(σ:St)(H:Hp)(xs:List V)(us:List Value)(Q:VK),Inv X Vz σ H s->Vals xs us->r xs H Q->
  wpAny (model X.prog X.w) X.A (call f us) (EP X Vz σ Q) X.xe s
def tOp (r:R2)(ta tb:TE):TE:=λσ H Q=>ta σ H λx H1=>tb σ H1 λy H2=>r x y H2 Q
def tUn (r:V->Hp->VK->Prop)(ta:TE):TE:=λσ H Q=>ta σ H λx H1=>r x H1 Q
def rI (C:Int->Int->Prop)(g:Int->Int->V):R2:=λx y H Q=>∃i j,x=.int i/\y=.int j/\C i j/\Q (g i j) H
def rI0 (g:Int->Int->V):R2:=λx y H Q=>∃i j,x=.int i/\y=.int j/\Q (g i j) H
def rU (g:Int->V):V->Hp->VK->Prop:=λx H Q=>∃i,x=.int i/\Q (g i) H
section
variable {X:Cx}{a b c:Expr}{ta tb tc:TE}{pos:Pos}
theorem Ae (m:PE X a ta)(n:PE X b tb){c:aJ}{s:Shared}{σ:St}{H:Hp}{R:V->V->Hp->Prop}(I:Inv X c σ H s)(h:ta σ H λx j=>tb σ j λy d=>R x y d){Q:aX}{f:Value->Value->Sem Value}(o:∀v u i x y d,Inv X c σ d i->RelV x v->RelV y u->R x y d->wpAny (model X.prog X.w) X.A (f v u) Q X.xe i):
  wpAny (model X.prog X.w) X.A (eval a X.env) (λv e=>wpAny (model X.prog X.w) X.A (eval b X.env) (λu g=>wpAny (model X.prog X.w) X.A (f v u) Q X.xe g) X.xe e) X.xe s:=by
 refine thn (m c s σ H _ I h) λv p k=>?_;exists k,x,j,r,z,C;refine thn (n c p σ j _ r C) λu i k=>?_;exists k,y,d,F,G,J;exact o v u i x y d F z G J
theorem ap {d:Operator}{r:R2}(e:OpR X (binaryOp d) r)(f:PE X a ta)(g:PE X b tb):PE X (.BinOp a d b pos) (tOp r ta tb):=by
 intro c s σ H Q I h;exact wpAny_BinOp (Ae f g I h λv u i x y j k m n q=>e c i σ j x y v u Q k m n q)
theorem cK {d:UnaryOp}{r:V->Hp->VK->Prop}(e:UnR X (unaryOp d) r)(f:PE X a ta):PE X (.UnaryOp d a pos) (tUn r ta):=by
 intro c s σ H Q I h;exact UnaryOp_ (thn (f c s σ H _ I h) λv g ⟨x,i,j,k,m⟩=>e c g σ i x v Q j k m)
theorem opI {f:Value->Value->Sem Value}{C:Int->Int->Prop}{g:Int->Int->Int}(a:∀(i j:Int)(t u:Tok)(s:Shared)(Q:aX)(E:aX),C i j->Q (.int (g i j) s.toks) { s with toks:=s.toks+1 }->wpAny (model X.prog X.w) X.A (f (.int i t) (.int j u)) Q E s):
  OpR X f (rI C λi j=>.int (g i j)):=by
 intro c s σ H x y v u Q I d e h;exists h,i,j,rfl,rfl,k,q;exists d,t,rfl;exists e,m,rfl;exact a i j t m s _ _ k #[.int (g i j),H,I.tok _,#[_,rfl],q]
theorem EL {f:Value->Value->Sem Value}{g:Int->Int->Int}(a:∀(i j:Int)(t u:Tok)(s:Shared)(Q:aX)(E:aX),Q (.int (g i j) s.toks) { s with toks:=s.toks+1 }->wpAny (model X.prog X.w) X.A (f (.int i t) (.int j u)) Q E s):
  OpR X f (rI0 λi j=>.int (g i j)):=by
 intro c s σ H x y v u Q I d e h;exists h,i,j,rfl,rfl,q;exists d,t,rfl;exists e,k,rfl;exact a i j t k s _ _ #[.int (g i j),H,I.tok _,#[_,rfl],q]
theorem qP {f:Value->Value->Sem Value}{g:Int->Int->Bool}(a:∀(i j:Int)(t u:Tok)(s:Shared)(Q:aX)(E:aX),Q (.bool (g i j)) s->wpAny (model X.prog X.w) X.A (f (.int i t) (.int j u)) Q E s):
  OpR X f (rI0 λi j=>.bl (g i j)):=by
 intro c s σ H x y v u Q I d e h;exists h,i,j,rfl,rfl,q;exists d,t,rfl;exists e,k,rfl;exact a i j t k s _ _ #[.bl (g i j),H,I,rfl,q]
def ML (i j:Int):Prop:=0<j/\j<1073741824
def MN (i j:Int):Prop:=0<=j/\j<=1000000/\i.8<2 ^ 64
def CMul (i j:Int):Prop:=(-(2 ^ 64)<i/\i<2 ^ 64)\/(-(2 ^ 64)<j/\j<2 ^ 64)
theorem CMul.ok {i j:Int}(h:CMul i j):IntMulOk i j:=by
 rcases h with ⟨a,c⟩|⟨a,c⟩
 ·exact .of_left (intBits_le_64 a c)
 ·exact .of_right (intBits_le_64 a c)
theorem MO (k:Nat):(0:Int)<=2 ^ k:=by
 rw[two_pow_cast];exact Int.natCast_nonneg _
theorem cL:OpR X (binaryOp .Add) (rI0 λi j=>.int (i+j)):=EL λ_ _ _ _ _ _ _ q=>add_int q
theorem cn:OpR X (binaryOp .Sub) (rI0 λi j=>.int (i-j)):=EL λ_ _ _ _ _ _ _ q=>sub_int q
theorem EM:OpR X (binaryOp .Mult) (rI CMul λi j=>.int (i*j)):=opI λ_ _ _ _ _ _ _ a q=>mul_int q a.ok
theorem iS:OpR X (binaryOp .FloorDiv) (rI ML λi j=>.int (i / j)):=opI λi j _ _ _ _ _ a q=>by
 have c:(0:Int)<j:=a.1;have d:j<1073741824:=a.2;exact floordiv_int () #v[Ck i (),q] (.inl (PyProof.noPylong_small ()))
theorem fE:OpR X (binaryOp .Mod) (rI (λ_ j=>0<j) λi j=>.int (i % j)):=opI λi j _ _ _ _ _ a q=>by
 have c:(0:Int)<j:=a;exact mod_int' () #v[Int.fmod_eq_emod_of_nonneg i (),q]
theorem MQ:OpR X (binaryOp .LShift) (rI MN λi j=>.int (i*2 ^ j.toNat)):=opI λ_ _ _ _ _ _ _ a q=>lshift_int_small a.1 a.2.1 a.2.2 q
theorem EN:OpR X (binaryOp .RShift) (rI (λ_ j=>0<=j) λi j=>.int (i / 2 ^ j.toNat)):=opI λi j _ _ _ _ _ a q=>
 rshift_int a #v[Ck i (MO _),q]
theorem unI {f:Value->Sem Value}{g:Int->Int}(a:∀(i:Int)(t:Tok)(s:Shared)(Q:aX)(E:aX),Q (.int (g i) s.toks) { s with toks:=s.toks+1 }->wpAny (model X.prog X.w) X.A (f (.int i t)) Q E s):
  UnR X f (rU λi=>.int (g i)):=by
 intro c s σ H x v Q I d h;exists h,i,rfl,q;exists d,t,rfl;exact a i t s _ _ #[.int (g i),H,I.tok _,#[_,rfl],q]
theorem cM:UnR X (unaryOp .USub) (rU λi=>.int (-i)):=unI λ_ _ _ _ _ q=>neg_int q
end
noncomputable def EO:V->V->Bool
 | .non,.non=>true | .non,.int _=>true | .int _,.non=>true | .non,.bl _=>true | .bl _,.non=>true | .non,.str _=>true | .str _,.non=>true
 | .int _,.int _=>true | .bl _,.bl _=>true | .str _,.str _=>true | .byt _,.byt _=>true
 | .int _,.str _=>true | .str _,.int _=>true | .bl _,.str _=>true | .str _,.bl _=>true
 | _,_=>false
def rEq:R2:=λx y H Q=>EO x y=true/\Q (.bl (decide (x=y))) H
def rNe:R2:=λx y H Q=>EO x y=true/\Q (.bl (!decide (x=y))) H
theorem qQ {i j:Int}:decide (V.int i=V.int j)=(i == j):=by
 rw[Bool.eq_iff_iff];simp
theorem EQ {i j:Bool}:decide (V.bl i=V.bl j)=(i == j):=by
 rw[Bool.eq_iff_iff];simp
theorem ER {i j:Str}:decide (V.str i=V.str j)=(i == j):=by
 rw[Bool.eq_iff_iff];simp
theorem ES {i j:Array UInt8}:decide (V.byt i=V.byt j)=(i.toList == j.toList):=by
 rw[Bool.eq_iff_iff]
 cases i
 cases j
 simp
section
variable {X:Cx}{a b c:Expr}{ta tb tc:TE}{pos:Pos}
theorem c_ {a:aJ}{σ:St}{H:Hp}{s:Shared}{Q:VK}{k c:Bool}(I:Inv X a σ H s)(q:Q (.bl k) H)(e:k=c):EP X a σ Q (.bool c) s:=by
 subst e;exact#[.bl k,H,I,rfl,q]
theorem fe:OpR X (compareOp .Eq) rEq:=by
 intro e s σ H x y v u Q I d a h;obtain⟨hs,q⟩:=h
 cases x with
 | non=>
  cases d
  cases y with
  | non=>cases a;exact PySem.EqNone.eq_none_none (c_ I q (by simp))
  | bl j=>cases a;exact PySem.EqNone.eq_none_bool (c_ I q (by simp))
  | int j=>exists a,c,rfl;exact PySem.EqNone.eq_none_int (c_ I q (by simp))
  | str j=>exists a,c,rfl;exact PySem.EqNone.eq_none_str (c_ I q (by simp))
  | _=>exact absurd (show false=true from hs) Bool.false_ne_true
 | bl i=>
  cases d
  cases y with
  | non=>cases a;exact PySem.EqNone.eq_bool_none (c_ I q (by simp))
  | bl j=>cases a;exact eq_bool (c_ I q EQ)
  | str j=>exists a,c,rfl;exact PySem.EqMixed.eq_bool_str (c_ I q (by simp))
  | _=>exact absurd (show false=true from hs) Bool.false_ne_true
 | int i=>
  obtain⟨t,rfl⟩:=d
  cases y with
  | non=>cases a;exact PySem.EqNone.eq_int_none (c_ I q (by simp))
  | int j=>exists a,c,rfl;exact eq_int (c_ I q qQ)
  | str j=>exists a,c,rfl;exact PySem.EqMixed.eq_int_str (c_ I q (by simp))
  | _=>exact absurd (show false=true from hs) Bool.false_ne_true
 | str i=>
  obtain⟨t,rfl⟩:=d
  cases y with
  | non=>cases a;exact PySem.EqNone.eq_str_none (c_ I q (by simp))
  | bl j=>cases a;exact PySem.EqMixed.eq_str_bool (c_ I q (by simp))
  | int j=>exists a,c,rfl;exact PySem.EqMixed.eq_str_int (c_ I q (by simp))
  | str j=>exists a,c,rfl;exact eq_str (c_ I q ER)
  | _=>exact absurd (show false=true from hs) Bool.false_ne_true
 | byt i=>
  obtain⟨t,rfl⟩:=d
  cases y with
  | byt j=>exists a,c,rfl;exact PySem.W.eq_bytes (c_ I q ES)
  | _=>exact absurd (show false=true from hs) Bool.false_ne_true
 | _=>cases y <;> exact absurd (show false=true from hs) Bool.false_ne_true
theorem kF:OpR X (compareOp .NotEq) rNe:=by
 intro e s σ H x y v u Q I d a h;obtain⟨hs,q⟩:=h
 cases x with
 | non=>
  cases d
  cases y with
  | non=>cases a;exact PySem.EqNone.ne_none_none (c_ I q (by simp))
  | bl j=>cases a;exact PySem.EqNone.ne_none_bool (c_ I q (by simp))
  | int j=>exists a,c,rfl;exact PySem.EqNone.ne_none_int (c_ I q (by simp))
  | str j=>exists a,c,rfl;exact PySem.EqNone.ne_none_str (c_ I q (by simp))
  | _=>exact absurd (show false=true from hs) Bool.false_ne_true
 | bl i=>
  cases d
  cases y with
  | non=>cases a;exact PySem.EqNone.ne_bool_none (c_ I q (by simp))
  | bl j=>cases a;exact ne_bool (c_ I q (congrArg not EQ))
  | str j=>exists a,c,rfl;exact PySem.EqMixed.ne_bool_str (c_ I q (by simp))
  | _=>exact absurd (show false=true from hs) Bool.false_ne_true
 | int i=>
  obtain⟨t,rfl⟩:=d
  cases y with
  | non=>cases a;exact PySem.EqNone.ne_int_none (c_ I q (by simp))
  | int j=>exists a,c,rfl;exact ne_int (c_ I q (congrArg not qQ))
  | str j=>exists a,c,rfl;exact PySem.EqMixed.ne_int_str (c_ I q (by simp))
  | _=>exact absurd (show false=true from hs) Bool.false_ne_true
 | str i=>
  obtain⟨t,rfl⟩:=d
  cases y with
  | non=>cases a;exact PySem.EqNone.ne_str_none (c_ I q (by simp))
  | bl j=>cases a;exact PySem.EqMixed.ne_str_bool (c_ I q (by simp))
  | int j=>exists a,c,rfl;exact PySem.EqMixed.ne_str_int (c_ I q (by simp))
  | str j=>exists a,c,rfl;exact ne_str (c_ I q (congrArg not ER))
  | _=>exact absurd (show false=true from hs) Bool.false_ne_true
 | byt i=>
  obtain⟨t,rfl⟩:=d
  cases y with
  | byt j=>exists a,c,rfl;exact PySem.W.ne_bytes (c_ I q (congrArg not ES))
  | _=>exact absurd (show false=true from hs) Bool.false_ne_true
 | _=>cases y <;> exact absurd (show false=true from hs) Bool.false_ne_true
theorem ic:OpR X (compareOp .Lt) (rI0 λi j=>.bl (decide (i<j))):=qP λ_ _ _ _ _ _ _ q=>lt_int q
theorem MR:OpR X (compareOp .LtE) (rI0 λi j=>.bl (decide (i<=j))):=qP λ_ _ _ _ _ _ _ q=>le_int q
theorem gm:OpR X (compareOp .Gt) (rI0 λi j=>.bl (decide (j<i))):=qP λ_ _ _ _ _ _ _ q=>gt_int q
theorem ET:OpR X (compareOp .GtE) (rI0 λi j=>.bl (decide (j<=i))):=qP λ_ _ _ _ _ _ _ q=>ge_int q
theorem qR:OpR X (compareOp .Is) (λx y H Q=>y=.non/\Q (.bl (decide (x=.non))) H):=by
 intro a s σ H x y v u Q I c d h;obtain⟨rfl,q⟩:=h
 cases d
 refine is_none_gen (c_ I q ?_)
 cases x <;> first
  |(cases c;rfl)
  |(exists c,t,rfl;rfl)
theorem nI:OpR X (compareOp .IsNot) (λx y H Q=>y=.non/\Q (.bl (!decide (x=.non))) H):=by
 intro a s σ H x y v u Q I c d h;obtain⟨rfl,q⟩:=h
 cases d
 refine isnot_none_gen (c_ I q ?_)
 cases x <;> first
  |(cases c;rfl)
  |(exists c,t,rfl;rfl)
theorem aY (b:Expr){a:CmpOp}(h:a≠.In:=by decide)(c:a≠.NotIn:=by decide):behindInMarks a b=false:=by
 have d:(a == CmpOp.In)=false:=by cases a <;> first|rfl|exact absurd rfl h
 have e:(a == CmpOp.NotIn)=false:=by cases a <;> first|rfl|exact absurd rfl c
 cases b <;> simp[behindInMarks,d,e]
theorem kG {d:CmpOp}{r:R2}(e:OpR X (compareOp d) r)(f:PE X a ta)(g:PE X b tb)(i:behindInMarks d b=false):PE X (.Compare a [d] [b] pos) (tOp r ta tb):=by
 intro c s σ H Q I h;exact wpAny_Compare1 (Ae f g I h λv u j x y k m n o q=>e c j σ k x y v u Q m n o q) i
def EU (t:TE):TT:=λσ H Q=>t σ H λx H'=>∃k,x=.bl k/\Q k H'
theorem a_ {f:CmpOp}{r:R2}(g:OpR X (compareOp f) r)(i:PE X a ta)(j:PE X b tb)(m:behindInMarks f b=false):PT X (.Compare a [f] [b] pos) (EU (tOp r ta tb)):=by
 intro d s σ H Q I h;refine wpAny_isTrue_Compare1 (thn (i d s σ H _ I h) λv n ⟨x,o,p,C,F⟩=>thn (j d n σ o _ p F) λu G ⟨y,J,M,O,P⟩=>
  thn (g d G σ J x y v u _ M C O P) λc Y ⟨z,R,S,T,k,e,U⟩=>?_) m
 subst e
 cases T
 exact wpAny_truthy_bool #[R,S,U]
theorem nJ:(sizeLine:Nat)<2 ^ 63:=by rw[sizeLine_eq];decide
theorem jL {x:V}{us:List Value}(r:Vals [x] us):∃u,us=[u]/\RelV x u:=by
 cases r with
 | cons r1 r2=>cases r2;exact#[_,rfl,r1]
theorem EV {x y:V}{us:List Value}(r:Vals [x,y] us):∃u a,us=[u,a]/\RelV x u/\RelV y a:=by
 cases r with
 | cons r1 r2=>
  cases r2 with
  | cons r3 r4=>cases r4;exact#[_,_,rfl,r1,r3]
theorem kH:gX X (.builtin "abs") (λa H Q=>∃i,a=[.int i]/\Q (.int (if i<0 then -i else i)) H):=by
 intro c s σ H a d Q I r h;exists h,i,rfl,q;exists jL r,u,rfl,t,rfl;exact call_abs_int λu e=>#[.int (if i<0 then -i else i),H,I.tok _,#[_,rfl],q]
theorem EW (d:X.calm=true):gX X (.builtin "max") (λa H Q=>∃i j,a=[.int i,.int j]/\Q (.int (if j > i then j else i)) H):=by
 intro c s σ H a e Q I r h;exists h,i,j,rfl,q;exists EV r,u,f,rfl,#[t,rfl],#[g,rfl];refine max_two_ints (I.ok.hd d) λm n k=>#[_,H,I.kept k,?_,q]
 by_cases hj:j > i
 ·rw[if_pos hj,if_pos hj];exact#[_,rfl]
 ·rw[if_neg hj,if_neg hj];exact#[_,rfl]
theorem Af (d:X.calm=true):gX X (.builtin "min") (λa H Q=>∃i j,a=[.int i,.int j]/\Q (.int (if j<i then j else i)) H):=by
 intro c s σ H a e Q I r h;exists h,i,j,rfl,q;exists EV r,u,f,rfl,#[t,rfl],#[g,rfl];refine min_two_ints (I.ok.hd d) λm n k=>#[_,H,I.kept k,?_,q]
 by_cases hj:j<i
 ·rw[if_pos hj,if_pos hj];exact#[_,rfl]
 ·rw[if_neg hj,if_neg hj];exact#[_,rfl]
end
structure ObjM (h:Heap)(x dx C:Addr)(mA:bH):Prop where
 obj:h.get? x=Zz (PySem.W.instObj C dx)
 ns:h.Ns1 dx mA
 ne:dx≠x
theorem MS {h:Heap}{dx:Addr}{f:bH}(n:h.Ns1 dx f):∃g,h.get? dx=Zz g/\∀c,PySem.W.lookIn c g=Zz (f c):=by
 exists n,o,i,p,j,hd,hk,_,k;refine#[o,j,λc=>?_];have e:=k c;unfold nsFind findBy at e;rw[<-Array.find?_toList]at e;unfold PySem.W.lookIn;rw[hd];dsimp only
 split
 ·rename_i y q;rw[q]at e;exact congrArg Zz e
 ·rename_i q;rw[q]at e;have a:i.toList.any (·.refKey)=false:=by
   rw[List.any_eq_false];intro y hy;exists hk y (Array.mem_toList_iff.mp hy),z,t,d;simp[DictEntry.refKey,d]
  have m:¬i.toList.any (·.refKey)=true:=by rw[a];exact Bool.false_ne_true
  rw[if_neg m];exact congrArg Zz e
theorem ObjM.look {h:Heap}{x dx C:Addr}{d:bH}(I:ObjM h x dx C d):∃c,PySem.W.InstAt h x (PySem.W.instObj C dx) C (Zz c)/\∀a,PySem.W.lookIn a c=Zz (d a):=
 let ⟨c,ho,hl⟩:=MS I.ns
 #[c,#[I.obj,rfl,rfl,ho],hl]
section
variable {prog:Program}{w:World}{A:Around}{E:aX}{s:Shared}{K:ao}{x dx C f:Addr}{mA:bH}{name:Str}{v:Value}
theorem MT {a:Bool}{Q:aX}(X:K.In s.heap)(I:ObjM s.heap x dx C mA)(d:PySem.W.plainGet K C name=true)(e:PySem.W.hasDictIn K C=true)(f:PySem.W.findIn K (.ref C) name=Zz Zy)(g:mA name=Zz v)(c:PySem.W.handedIn v=true)(h:Q v { s with toks:=s.toks+1 }):
  wpAny (model prog w) A (getAttr (.ref x) name a) Q E s:=by
 exists I.look,j,J,i;exact PySem.W.get_value X J (PySem.W.plainGet_of d).1 (PySem.W.findObj_own e f rfl (by rw[i,g])) c h
theorem MU {pl:Sem Bool}{Q:Value×List Value->Shared->Prop}(X:K.In s.heap)(I:ObjM s.heap x dx C mA)(a:PySem.W.plainGet K C name=true)(c:PySem.W.findIn K (.ref C) name=Zz (Zz (.ref f)))(d:PySem.W.isFn K (.ref f)=true)(e:mA name=Zy)(h:Q (.ref f,[.ref x]) s):
  wpAny (model prog w) A (getMethod (.ref x) name pl) Q E s:=by
 exists I.look,g,J,i;exact PySem.W.method_fn X J (PySem.W.plainGet_of a).1 (PySem.W.plainGet_of a).2 c (beq_iff_eq.mp d) (by show (PySem.W.lookIn name g).map (·.isSome)=Zz false;rw[i,e];rfl) h
theorem MV {ns:List Str}{Q:Unit->Shared->Prop}(X:K.In s.heap)(I:ObjM s.heap x dx C mA)(hs:PySem.W.findIn K (.ref C) "__setattr__" = Zz (Zz (.builtin "object.__setattr__")))(k:PySem.W.plainOver K C=true)(m:PySem.W.takerIn K C name=Zz Zy)(n:PySem.W.hasDictIn K C=true)(o:PySem.Within mA ns)(p:ns.9<=sizeLine)(h:∀e,ObjM e x dx C (λy=>if y=name then Zz v else mA y)->Heap.SameBut dx s.heap e->Q #[] { s with heap:=e,toks:=s.toks+2 }):
  wpAny (model prog w) A (setAttr (.ref x) name v) Q E s:=by
 exists I.look,G,J,H;refine PySem.W.set_plain X J hs (PySem.W.osa_open (s:={ s with toks:=s.toks+1 }) (r:=Zy) X J k m λb=>?_);exists PySem.W.any_some n,M,u,f;have hx:s.heap.get? x=Zz #[.ref C,Zz dx,.plain,(List.toArray [])]:=I.obj;refine wpAny_bind (wpAny_pure (wpAny_bind (wpAny_bind (wpAny_loadPart hx (wpAny_bind (PySem.W.Looks.here (s:={ s with toks:=s.toks+1 }) (PySem.W.looks_clsIn X u) ?_))))));rw[f];refine wpAny_pure (a:=Zz dx) (wpAny_bind (wpAny_pure (wpAny_bind ?_)));refine wpAny_nsSet1 (s:={ s with toks:=s.toks+1 }) I.ns λe c d=>?_;exists c.count (PySem.Within.cons name v o),O,z,F,g,i,j;refine wpAny_bind (wpAny_lookBehind g (by rw[i];exact pastItsLine_dict (aQ j (by rw[cP];omega))) ?_);exact wpAny_pure (h _ #[(d.2 _ (Ne.symm I.ne)).trans I.obj,c,I.ne] d)
theorem MW {R:Result->Shared->Prop}{vs:List Value}{kw:List (Str×Value)}(X:K.In s.heap)(a:PySem.W.makesIn K C=true)(hi:PySem.W.findIn K (.ref C) "__init__" = Zz (Zz (.ref f)))(c:PySem.W.typeIn K (.ref f)=Zz (.type "function"))(h:codeAny (model prog w) (A.under (.builtin "type.__call__" ⟨.ref C :: vs,kw⟩)) (.call (.ref f) ⟨.ref (s.7+1) :: vs,kw⟩) (PySem.W.InitBack (s.7+1) R)
   { s with heap:=(s.heap.push PySem.W.emptyDict).push (PySem.W.instObj C s.7) }):
  codeAny (model prog w) A (.call (.ref C) #[vs,kw]) R s:=by
 exists s,e,g,d,t,os;exact PySem.W.make_core (PySem.W.makes_of X a) (PySem.W.looks_findIn X hi) (λself=>PySem.W.bind_fn X self c) (.inl rfl) h
end
noncomputable def a7 (f:Str) (v:V):List (Str×V)->List (Str×V)
 | []=>[(f,v)]
 |(g,x) :: r=>if g=f then (g,v) :: r else (g,x) :: a7 f v r
theorem EX (f g:Str)(v:V):∀fs:List (Str×V),(a7 f v fs).lookup g=if g=f then Zz v else fs.lookup g
 | []=>by
  show mT g [(f,v)]=_;by_cases h:g=f
  ·have a:(g == f)=true:=beq_iff_eq.mpr h;simp only[mT,a,if_pos h]
  ·have a:(g == f)=false:=beq_eq_false_iff_ne.mpr h;simp only[mT,a,if_neg h]
 |(k,x) :: r=>by
  have c:=EX f g v r;rw[show a7 f v ((k,x) :: r)=(if k=f then (k,v) :: r else (k,x) :: a7 f v r) from rfl];by_cases hk:k=f
  ·rw[if_pos hk];by_cases h:g=k
   ·have a:(g == k)=true:=beq_iff_eq.mpr h;simp only[mT,a,if_pos (h.trans hk)]
   ·have a:(g == k)=false:=beq_eq_false_iff_ne.mpr h;simp only[mT,a,if_neg (λe:g=f=>h (e.trans hk.symm))]
  ·rw[if_neg hk];by_cases h:g=k
   ·have a:(g == k)=true:=beq_iff_eq.mpr h;simp only[mT,a,if_neg (λe:g=f=>hk (h.symm.trans e))]
   ·have a:(g == k)=false:=beq_eq_false_iff_ne.mpr h;simp only[mT,a];exact c
theorem Ag (f:Str)(v:V):∀fs:List (Str×V),f∈(a7 f v fs).map (·.1)/\∀g,g∈fs.map (·.1)->g∈(a7 f v fs).map (·.1)
 | []=>#[by simp[a7],λg h=>by simp at h]
 |(k,x) :: r=>by
  exists Ag f v r,a,c;rw[show a7 f v ((k,x) :: r)=(if k=f then (k,v) :: r else (k,x) :: a7 f v r) from rfl];by_cases hk:k=f
  ·rw[if_pos hk];subst hk;exact#[by simp,λg h=>by simpa using h]
  ·rw[if_neg hk];refine#[?_,λg h=>?_]
   ·rw[d9];exact dC _ a
   ·rw[d9]at h ⊢;rcases bN.mp h with e|e
    ·exact bN.mpr (.inl e)
    ·exact dC _ (c g e)
theorem EY (f:Str)(v:V):∀fs:List (Str×V),(a7 f v fs).9<=fs.9+1
 | []=>by simp[a7]
 |(k,x) :: r=>by
  have a:=EY f v r;rw[show a7 f v ((k,x) :: r)=(if k=f then (k,v) :: r else (k,x) :: a7 f v r) from rfl];by_cases hk:k=f
  ·rw[if_pos hk,cP,cP];omega
  ·rw[if_neg hk,cP,cP];omega
theorem RelO.some_of {v:V}{o:Option Value}(r:RelO (Zz v) o):∃u,o=Zz u/\RelV v u:=by
 cases o with
 | none=>exact (show False from r).elim
 | some u=>exact#[u,rfl,r]
theorem RelO.none_of {o:Option Value}(r:RelO Zy o):o=Zy:=by
 cases o with
 | none=>rfl
 | some u=>exact (show False from r).elim
theorem MX {v:V}{u:Value}(r:RelV v u):PySem.W.handedIn u=true:=by
 cases v with
 | non=>cases (show u=Value.none from r);rfl
 | bl b=>cases (show u=Value.bool b from r);rfl
 | int i=>obtain⟨t,e⟩:=(show ∃t,u=Value.int i t from r);cases e;rfl
 | str x=>obtain⟨t,e⟩:=(show ∃t,u=Value.str x t from r);cases e;rfl
 | byt b=>obtain⟨t,e⟩:=(show ∃t,u=Value.bytes b t from r);cases e;rfl
 | flt b=>obtain⟨t,e⟩:=(show ∃t,u=Value.float b t from r);cases e;rfl
 | ref a=>cases (show u=Value.ref a from r);rfl
 | ty n=>cases (show u=Value.type n from r);rfl
section
variable {P:Program}{w:World}{H H':Hp}{h h':Heap}{a C dx:Addr}{fs fs':List (Str×V)}
theorem qS (hok:HOk P w H h)(e:H a=Zz (.ins C dx fs)):∃c,ObjM h a dx C c/\(∀f,RelO (fs.lookup f) (c f))/\PySem.Within c (fs.map (·.1))/\fs.9<=1000/\H dx=Zz (.own a):=by
 obtain⟨d,z,ne,g,c,n,r,q⟩:=(show ObjOk P w H h a (.ins C dx fs) from hok a _ e)
 exact#[c,#[g,n,ne],r,q,z,d]
end
structure Cls (K:ao)(C:Addr):Prop where
 pg:PySem.W.plainGet K C Str.empty=true
 hd:PySem.W.hasDictIn K C=true
 po:PySem.W.plainOver K C=true
 sa:PySem.W.findIn K (.ref C) "__setattr__" = Zz (Zz (.builtin "object.__setattr__"))
theorem Cls.get {K:ao}{C:Addr}(c:Cls K C)(f:Str):PySem.W.plainGet K C f=true:=c.pg
def NoAttr (K:ao)(C:Addr)(f:Str):Prop:=PySem.W.findIn K (.ref C) f=Zz Zy
theorem NoAttr.taker {K:ao}{C:Addr}{f:Str}(n:NoAttr K C f):PySem.W.takerIn K C f=Zz Zy:=by
 unfold PySem.W.takerIn;rw[show PySem.W.findIn K (.ref C) f=Zz Zy from n];rfl
structure Meth (K:ao)(C:Addr)(m:Str)(f:Addr):Prop where
 at_:PySem.W.findIn K (.ref C) m=Zz (Zz (.ref f))
 fn:PySem.W.isFn K (.ref f)=true
 kp:PySem.W.keepIn K (.ref f)=true
section
variable {X:Cx}{Vz:aJ}{σ:St}{H:Hp}{s:Shared}{a C dx:Addr}{fs:List (Str×V)}{f:Str}{v:V}{A:Around}{E:aX}
theorem EZ {b:Bool}{Q:aX}(I:Inv X Vz σ H s)(e:H a=Zz (.ins C dx fs))(c:Cls X.K C)(n:NoAttr X.K C f)(l:fs.lookup f=Zz v)(h:∀u d,Inv X Vz σ H d->RelV v u->Q u d):wpAny (model X.prog X.w) A (getAttr (.ref a) f b) Q E s:=by
 exists qS I.hok e,i,O,r,_,_,_;exists RelO.some_of (v:=v) (o:=i f) #v[<-l,r f],u,j,g;exact MT I.kIn O (c.get f) c.hd n j (MX g) (h u _ (I.tok _) g)
theorem E2 {m:Str}{g:Addr}{pl:Sem Bool}{Q:Value×List Value->Shared->Prop}(I:Inv X Vz σ H s)(e:H a=Zz (.ins C dx fs))(c:Cls X.K C)(k:Meth X.K C m g)(l:fs.lookup m=Zy)(h:Q (.ref g,[.ref a]) s):wpAny (model X.prog X.w) A (getMethod (.ref a) m pl) Q E s:=by
 exists qS I.hok e,d,O,r,_,_,_;have f:d m=Zy:=RelO.none_of #v[<-l,r m];exact MU I.kIn O (c.get m) k.at_ k.fn f h
theorem E3 {y:V}{u:Value}{Q:Unit->Shared->Prop}(I:Inv X Vz σ H s)(e:H a=Zz (.ins C dx fs))(c:Cls X.K C)(n:NoAttr X.K C f)(P:fs.9<1000)(p:RelV y u)(h:∀i,Inv X Vz σ (upd H a (.ins C dx (a7 f y fs))) i->Q #[] i):wpAny (model X.prog X.w) A (setAttr (.ref a) f u) Q E s:=by
 exists qS I.hok e,j,O,r,k,_,m;have v:(fs.map (·.1)).9<=sizeLine:=by rw[af,sizeLine_eq];omega
 refine MV I.kIn O c.sa c.po n.taker c.hd k v λF d G=>h _ ?_;have hd:∃o,F.get? dx=Zz o:=let ⟨o,_,_,e',_⟩:=d.ns;#[o,e']
 refine I.write (x:=a) (e:=dx) #v[e,True.intro] (.inr m) (λb q J z=>(G.2 b J).trans z) hd ?_;refine#[#v[aE O.ne,m],?_,O.ne,d.obj,_,d.ns,λg=>?_,λg M=>?_]
 ·have:=EY f y fs;omega
 ·show RelO ((a7 f y fs).lookup g) (if g=f then Zz u else j g);rw[EX];by_cases q:g=f
  ·rw[if_pos q,if_pos q];exact p
  ·rw[if_neg q,if_neg q];exact r g
 ·by_cases q:g=f
  ·rw[q];exact (Ag f y fs).1
  ·refine (Ag f y fs).2 g (k g λz=>M ?_);show (if g=f then Zz u else j g)=Zy;rw[if_neg q];exact z
theorem Inv.made (I:Inv X Vz σ H s):Inv X Vz σ (upd (upd H s.7 (.own (s.7+1))) (s.7+1) (.ins C s.7 []))
  { s with heap:=(s.heap.push PySem.W.emptyDict).push (PySem.W.instObj C s.7) }:=by
 have c:(s.heap.push PySem.W.emptyDict).get? s.7=Zz PySem.W.emptyDict:=Heap.get?_push_size s.heap rfl;have d:((s.heap.push PySem.W.emptyDict).push (PySem.W.instObj C s.7)).get? (s.7+1)=Zz (PySem.W.instObj C s.7):=by
  have:=Heap.get?_push_size (s.heap.push PySem.W.emptyDict) (o:=PySem.W.instObj C s.7) rfl
  rwa [Heap.size_push]at this
 have f:(s.heap.push PySem.W.emptyDict).Ns s.7 (λ_=>Zy):=#[PySem.W.emptyDict,(List.toArray []),_,c,rfl,(λe g=>absurd g (by simp)),λ_=>rfl]
 have h:=I.laid (a:=s.7) (o:=.own (s.7+1)) (h':=s.heap.push PySem.W.emptyDict) (t':=s.toks) (λb u q=>Heap.get?_push_of_some _ q) (aA _) #[_,c];refine h.laid (a:=s.7+1) (o:=.ins C s.7 []) (t':=s.toks) (λb u q=>Heap.get?_push_of_some _ q) (kk (Heap.size_push _ _)) ?_;have ne:s.7≠s.7+1:=du (pj _);refine#[by rw[aE ne,ak],aU _,ne,d,λ_=>Zy,(Heap.Ns1.of_empty f).at λo q=>Heap.get?_push_of_some _ q,λ_=>True.intro,λy hy=>absurd rfl hy]
theorem MY {prog:Program}{w:World}{env:Env}{e:Expr}{f:Str}{pos:Pos}{s:Shared}{Q:aX}(c:attributeBase e f env (eval e env)=eval e env)(h:wpAny (model prog w) A (eval e env) (λo a=>wpAny (model prog w) A (getAttr o f true) Q E a) E s):wpAny (model prog w) A (eval (.Attribute e f pos) env) Q E s:=
 Attribute_any_ h (by rw[arm_eval_Attribute,c])
end
def Ah (K:ao)(ta:TE)(f:Str):TE:=λσ H Q=>ta σ H λx H1=>∃a C dx fs v,x=.ref a/\H1 a=Zz (.ins C dx fs)/\Cls K C/\NoAttr K C f/\fs.lookup f=Zz v/\Q v H1
def E4 (K:ao)(ta tv:TE)(f:Str):TS:=λD σ H=>tv σ H λy H1=>ta σ H1 λx H2=>∃a C dx fs,x=.ref a/\H2 a=Zz (.ins C dx fs)/\Cls K C/\NoAttr K C f/\fs.9<1000/\
 D.nx σ (upd H2 a (.ins C dx (a7 f y fs)))
def E5 (X:Cx)(op:Operator)(rd:V->V->Hp->VK->Prop):Prop:=
 ∀(Vz:aJ)(s:Shared)(σ:St)(H:Hp)(x y:V)(u v:Value)(Q:VK),Inv X Vz σ H s->RelV x u->RelV y v->rd x y H Q->wpAny (model X.prog X.w) X.A (inplaceOp op u v) (EP X Vz σ Q) X.xe s
def E6 (K:ao)(ta tv:TE)(rd:V->V->Hp->VK->Prop)(f:Str):TS:=λD σ H=>ta σ H λx H1=>∃a C dx fs v,x=.ref a/\H1 a=Zz (.ins C dx fs)/\Cls K C/\NoAttr K C f/\fs.lookup f=Zz v/\
 tv σ H1 λy H2=>rd v y H2 λz H3=>∃dx' fs',H3 a=Zz (.ins C dx' fs')/\fs'.9<1000/\D.nx σ (upd H3 a (.ins C dx' (a7 f z fs')))
section
variable {X:Cx}{o e value:Expr}{f:Str}{pos pos' tpos:Pos}{ta tv:TE}
theorem dQ (g:PE X e ta)(i:attributeBase e f X.env (eval e X.env)=eval e X.env):PE X (.Attribute e f pos) (Ah X.K ta f):=by
 intro d s σ H Q I h;refine MY i (thn (g d s σ H _ I h) λu z j=>?_);exists j,x,k,m,o,a,C,dx,fs,v,ex,p,c,n,l,q;subst ex;obtain rfl:u=Value.ref a:=o;exact EZ m p c n l λF G r y=>#[v,k,r,y,q]
theorem nL (e:PE X o ta)(g:PE X value tv)(hs:swapsWith value (Zz (.Attribute o f pos')) pos.line X.env=pure false):PS X (.Assign [.Attribute o f pos'] value pos) (E4 X.K ta tv f):=by
 intro d s σ H D I h;refine plainObj_wpAny_Assign_Attribute (thn (g d s σ H _ I h) λu i ⟨y,j,k,m,q⟩=>thn (e d i σ j _ k q) λp M r=>?_) hs;exists r,x,O,v,z,a,C,dx,fs,ex,F,c,n,l,G;subst ex;obtain rfl:p=Value.ref a:=z;exact E3 v F c n l m λP J=>#[σ,_,J,G]
theorem MZ {j:Operator}{k:V->V->Hp->VK->Prop}(m:PE X o ta)(p:PE X value tv)(e:E5 X j k):PS X (.AugAssign (.Attribute o f tpos) j value pos) (E6 X.K ta tv k f):=by
 intro d s σ H D I h;refine wpAny_AugAssign_AttributeAny (thn (m d s σ H _ I h) λr s1 g=>?_);exists g,x,F,G,J,a,C,dx,fs,v,ex,M,c,n,l,q;subst ex;obtain rfl:r=Value.ref a:=J;refine EZ G M c n l λu O P Q=>thn (p d O σ F _ P q) λR S ⟨y,T,U,Y,Z⟩=>thn (e d S σ T v y u R _ U Q Y Z) λw4 s4 g=>?_;exists g,z,H3,I4,rz,x0,y0,i,l',q4;exact E3 I4 i c n l' rz λs5 I5=>#[σ,_,I5,q4]
def E7:V->V->Hp->VK->Prop:=λx y H Q=>∃i j,x=.int i/\y=.int j/\Q (.int (i+j)) H
theorem M4:E5 X .Add E7:=by
 rintro a s σ H x y u v Q I d e ⟨i,j,rfl,rfl,q⟩
 obtain⟨t,rfl⟩:=(show ∃t,u=Value.int i t from d)
 obtain⟨c,rfl⟩:=(show ∃c,v=Value.int j c from e)
 exact PyProof.Rows.iadd_int #[.int (i+j),H,I.tok _,#[_,rfl],q]
theorem T1 {pl:Sem Bool}{m:Str}{i:Pos}{d:List Expr}{j:aJ}{s:Shared}{σ:St}{H:Hp}{Q:aX}{p:TE}(y:PE X e p)(I:Inv X j σ H s)(h:p σ H λx o=>∃a C dx fs g,x=.ref a/\o a=Zz (.ins C dx fs)/\Cls X.K C/\Meth X.K C m g/\fs.lookup m=Zy/\
   ∀n,Inv X j σ o n->wpAny (model X.prog X.w) X.A (callWith pos (.ref g) [.ref a] (backTo pos (starEach d X.env)) (backToKw pos (keywordEach [] X.env))) Q X.xe n)(z:eval (.Call (.Attribute e m i) d [] pos) X.env=(do
   let r <-eval e X.env
   standAt i.atName
   let (f,first) <-holding [r] (getMethod r m pl)
   callWith pos f first (backTo pos (starEach d X.env)) (backToKw pos (keywordEach [] X.env)))):
  wpAny (model X.prog X.w) X.A (eval (.Call (.Attribute e m i) d [] pos) X.env) Q X.xe s:=by
 refine PySem.W.methodCall_KW (pl:=pl) (thn (y j s σ H _ I h) λu n F=>?_) z;exists F,x,o,v,G,a,C,dx,fs,g,ex,J,c,k,l,q;subst ex;obtain rfl:u=Value.ref a:=G;exact E2 v J c k l (q n v)
end
section
variable {X:Cx}{Vz:aJ}{σ:St}{H:Hp}{s:Shared}{A:Around}{E:aX}{Q:aX}{c:Value}{b:Bool}
inductive TyOf (K:ao) (H:Hp):V->Value->Prop where
 | non:TyOf K H .non (.type "NoneType")
 | bl (x:Bool):TyOf K H (.bl x) (.type "bool")
 | int (i:Int):TyOf K H (.int i) (.type "int")
 | str (x:Str):TyOf K H (.str x) (.type "str")
 | flt (x:UInt64):TyOf K H (.flt x) (.type "float")
 | lst {a:Addr}{xs:List V}(e:H a=Zz (.lst xs)):TyOf K H (.ref a) (.type "list")
 | frz {a:Addr}{o:Obj}{xs:List V}(e:H a=Zz (.frz o (.lst xs))):TyOf K H (.ref a) (.type "list")
 | tup {a:Addr}{xs:List V}(e:H a=Zz (.tup xs)):TyOf K H (.ref a) (.type "tuple")
 | dK {a:Addr}{kvs:List (Key×V)}(e:H a=Zz (.dK kvs)):TyOf K H (.ref a) (.type "dict")
 | dT {a:Addr}{kvs:List (List Key×V)}(e:H a=Zz (.dT kvs)):TyOf K H (.ref a) (.type "dict")
 | ins {a C dx:Addr}{fs:List (Str×V)}(e:H a=Zz (.ins C dx fs)) (cl:Cls K C) (ha:PySem.W.findIn K (.ref C) "__class__" = Zz (Zz (.builtin "object.__class__")))
   (hn:PySem.W.specialIn K (.builtin "object.__class__") "__get__" = Zz (Zz (.builtin "getset_descriptor.__get__"))) (htk:PySem.W.takesIn K (.builtin "object.__class__")=Zz true)
   (hm:PySem.W.mroIn K C (.type "object")=Zz true):TyOf K H (.ref a) (.ref C)
theorem M6 {x:V}{u t:Value}(I:Inv X Vz σ H s)(d:RelV x u)(k:TyOf X.K H x t)(e:PySem.W.kitOne X.K t c=Zz b)(h:∀m,Q (.bool b) { s with toks:=m }):
  wpAny (model X.prog X.w) A (call (.builtin "isinstance") [u,c]) Q E s:=by
 cases k with
 | non=>cases (show u=Value.none from d);exact PySem.W.kia_one PySem.W.kitx_none I.kIn True.intro e (λz=>nomatch z) h
 | bl y=>cases (show u=Value.bool y from d);exact PySem.W.kia_one PySem.W.kitx_bool I.kIn True.intro e (λz=>nomatch z) h
 | int i=>obtain⟨t,q⟩:=(show ∃t,u=Value.int i t from d);cases q;exact PySem.W.kia_one PySem.W.kitx_int I.kIn True.intro e (λz=>nomatch z) h
 | str y=>obtain⟨t,q⟩:=(show ∃t,u=Value.str y t from d);cases q;exact PySem.W.kia_one PySem.W.kitx_str I.kIn True.intro e (λz=>nomatch z) h
 | flt y=>obtain⟨t,q⟩:=(show ∃t,u=Value.float y t from d);cases q;exact PySem.W.kia_one PySem.W.kitx_float I.kIn True.intro e (λz=>nomatch z) h
 | @lst a g ea=>
  cases (show u=Value.ref a from d)
  obtain⟨_,_,n,_,f⟩:=(show ObjOk X.prog X.w H s.heap a (.lst g) from I.hok a _ ea)
  exact PySem.W.kia_one PySem.W.kitx_list I.kIn #[_,f,rfl] e (λz=>nomatch z) h
 | @frz a ob g ea=>
  cases (show u=Value.ref a from d)
  obtain⟨_,_,_,n,_,f⟩:=(show ObjOk X.prog X.w H s.heap a (.frz ob (.lst g)) from I.hok a _ ea)
  exact PySem.W.kia_one PySem.W.kitx_list I.kIn #[_,f,rfl] e (λz=>nomatch z) h
 | @tup a g ea=>
  cases (show u=Value.ref a from d)
  obtain⟨_,_,_,p⟩:=(show ObjOk X.prog X.w H s.heap a (.tup g) from I.hok a _ ea)
  exists p,o,f,j,_;exact PySem.W.kia_one PySem.W.kitx_tuple I.kIn #[o,f,j] e (λz=>nomatch z) h
 | @dK a kvs ea=>
  cases (show u=Value.ref a from d)
  obtain⟨_,_,F,_,p⟩:=(show ObjOk X.prog X.w H s.heap a (.dK kvs) from I.hok a _ ea)
  exists p,o,r,v,f,j,_;exact PySem.W.kia_one PySem.W.kitx_dict I.kIn #[o,f,j.1] e (λz=>nomatch z) h
 | @dT a kvs ea=>
  cases (show u=Value.ref a from d)
  obtain⟨_,_,g,_,o,r,v,f,j,_⟩:=(show ObjOk X.prog X.w H s.heap a (.dT kvs) from I.hok a _ ea)
  exact PySem.W.kia_one PySem.W.kitx_dict I.kIn #[o,f,j.1] e (λz=>nomatch z) h
 | @ins a C dx fs ea cl ha hn htk hm=>
  cases (show u=Value.ref a from d)
  exists qS I.hok ea,G,O,_;exists O.look,M,J,_;exact PySem.W.kia_one (PySem.W.kitx_own (cl.get _) cl.hd ha hn htk hm) I.kIn J e (λz=>nomatch z) h
end
structure Room (k:Nat)(A:Around):Prop where
 hd:A.handled=Zy
 dp:A.depth+3*k+5<recursionLimit
 un:A.units+16*k+200<cLine
theorem Room.mono {j k:Nat}{A:Around}(r:Room k A)(h:j<=k):Room j A:=#[r.hd,by have:=r.dp;omega,by have:=r.un;omega]
theorem Room.deeper {k:Nat}{A:Around}(r:Room (k+1) A)(env:Env):Room k (A.deeper env):=
 #[r.hd,by have:=r.dp;show A.depth+1+3*k+5<_;omega,by have:=r.un;show A.units+3+16*k+200<_;omega]
theorem M9 {A:Around}{C:Addr}{us:List Value}{kw:List (Str×Value)}:(A.under (.builtin "type.__call__" #[.ref C :: us,kw])).depth=A.depth+1:=by
 first|rfl|simp[Around.under,Code.weight,Code.isCreation,Code.isGuard,Code.isCaller,Code.frames,Code.isFrame,guardIds]
theorem M_ {A:Around}{C:Addr}{us:List Value}{kw:List (Str×Value)}:(A.under (.builtin "type.__call__" #[.ref C :: us,kw])).units=A.units+1:=by
 first|rfl|simp[Around.under,Code.cUnits,Code.frames,Code.isFrame]
theorem Room.make {k:Nat}{A:Around}(r:Room (k+1) A)(C:Addr)(us:List Value)(kw:List (Str×Value)):Room k (A.under (.builtin "type.__call__" #[.ref C :: us,kw])):=
 #[r.hd,by have:=r.dp;rw[M9];omega,by have:=r.un;rw[M_];omega]
theorem Room.depth {k:Nat}{A:Around}(r:Room k A):A.depth<recursionLimit:=by have:=r.dp;omega
theorem Room.units {k:Nat}{A:Around}(r:Room k A):A.units+64<cLine:=by have:=r.un;omega
def Ai:TA:=λ_ H Q=>Q [] H
def Aj (ta:TE)(tr:TA):TA:=λσ H Q=>ta σ H λx H1=>tr σ H1 λxs H2=>Q (x :: xs) H2
section
variable {X:Cx}{e:Expr}{es:List Expr}{te:TE}{t:TA}{pos:Pos}
theorem ae:PA X [] Ai:=λ_ _ _ _ H Q I h=>Calls.spliced_nil #[[],H,I,.nil,h]
theorem ab (c:PE X e te)(d:PA X es t)(hs:starEach (e :: es) X.env=(false,eval e X.env) :: starEach es X.env:=by rfl):PA X (e :: es) (Aj te t):=by
 intro pos a s σ H Q I h;rw[hs];show wpAny _ _ (spliced ((false,eval e X.env) :: backTo pos (starEach es X.env))) _ _ s;refine Calls.spliced_cons (thn (c a s σ H _ I h) λu f g=>?_);exists g,x,i,j,k,m;exact thn (d pos a f σ i _ j m) λy z ⟨n,o,p,r,v⟩=>#[x :: n,o,p,.cons k r,v]
def E8 (t:TA):TE:=λσ H Q=>t σ H λxs H1=>xs.9<=sizeLine/\∀p,H1 p=Zy->Q (.ref p) (upd H1 p (.tup xs))
def E9 (t:TA):TE:=λσ H Q=>t σ H λxs H1=>xs.9<=sizeLine/\∀p,H1 p=Zy->Q (.ref p) (upd H1 p (.lst xs))
theorem gF {x1}(h:PA X es t):PE X (.Tuple es x1 pos) (E8 t):=by
 intro a s σ H Q I g;refine wpAny_Tuple_spliced (thn (h pos a s σ H _ I g) λi c ⟨j,d,f,r,z,q⟩=>#[#v[<-r.9,z],?_]);have k:d c.7=Zy:=f.hok.fresh (aA _);refine#[.ref c.7,upd d c.7 (.tup j),f.laid (t':=c.toks) (λb u e=>Heap.get?_push_of_some _ e) (aA _) ?_,rfl,q _ k];exact#[z,i,r,#[_,Heap.get?_push_size _ rfl,rfl,_,rfl]]
theorem cy (h:PA X es t):PE X (.List es pos) (E9 t):=by
 intro a s σ H Q I g;refine wpAny_List_spliced (thn (h pos a s σ H _ I g) λi c ⟨j,d,f,r,z,q⟩=>#[#v[<-r.9,z],?_]);have k:d c.7=Zy:=f.hok.fresh (aA _);refine#[.ref c.7,upd d c.7 (.lst j),f.laid (t':=c.toks) (λb u e=>Heap.get?_push_of_some _ e) (aA _) ?_,rfl,q _ k];exact#[z,i,0,r,Heap.get?_push_size _ rfl]
end
abbrev Sp:=List V->Hp->VK->XK->Prop
abbrev CXT:=List Env->Hp->Shared->XK->Value->Shared->Prop
structure Env0 (P:Program)(w:World)(K:ao)(mg:bH)(base:Heap)(A:Around)(outer:List Env)(s:Shared)(H:Hp):Prop where
 frames:A.frames=Zz outer
 mod:Mod K mg base
 bs:∀b o,base.get? b=Zz o->s.heap.get? b=Zz o/\H b=Zy
 bsz:base.objs.size<=s.7
 funs:s.heap.FunFrames base outer
 frf:∀b∈frs outer,H b=Zy
 hok:HOk P w H s.heap
 bare:AllBare s.gens
def CE (outer:List Env)(P:Program)(w:World)(H:Hp)(s:Shared)(Q:VK)(u:Value)(s':Shared):Prop:=
 ∃v H',s'.os=s.os/\AllBare s'.gens/\Un (frs outer) [] H H' s.heap s'.heap/\HOk P w H' s'.heap/\RelV v u/\Q v H'
def CR (CX:CXT)(outer:List Env)(P:Program)(w:World)(H:Hp)(s:Shared)(Q:VK)(E:XK)(r:Result)(s':Shared):Prop:=
 match r with
 | .ok (.ret u)=>CE outer P w H s Q u s'
 | .ok _=>False
 | .error e=>CX outer H s E e s'
structure FnOk (P:Program)(w:World)(K:ao)(mg:bH)(base:Heap)(CX:CXT)(k:Nat)(f:Addr)(fd:FuncData)(ps:List Str)(sp:Sp):Prop where
 len:∀vs H Q E,sp vs H Q E->vs.9=ps.9
 run:∀(A:Around)(outer:List Env)(s:Shared)(H:Hp)(args:Args)(us:List Value)(vs:List V)(Q:VK)(E:XK),Room k A->Env0 P w K mg base A outer s H->BindsTo s fd args (ps.zip us)->Vals vs us->sp vs H Q E->
  codeAny (model P w) A (.call (.ref f) args) (CR CX outer P w H s Q E) s
theorem FnOk.mono {P:Program}{w:World}{K:ao}{mg:bH}{base:Heap}{CX:CXT}{j k:Nat}{f:Addr}{c:FuncData}{ps:List Str}{sp:Sp}(F:FnOk P w K mg base CX j f c ps sp)(h:j<=k):
  FnOk P w K mg base CX k f c ps sp:=#[F.len,λA outer s H a d e Q E g=>F.run A outer s H a d e Q E (g.mono h)]
theorem Env0.make {P:Program}{w:World}{K:ao}{mg:bH}{base:Heap}{A:Around}{outer:List Env}{s:Shared}{H:Hp}(e:Env0 P w K mg base A outer s H)(C:Addr)(us:List Value)(kw:List (Str×Value)):
  Env0 P w K mg base (A.under (.builtin "type.__call__" #[.ref C :: us,kw])) outer s H:=#[by first|exact e.frames|(simpa [Around.under,Code.envs,Code.isFrame,pushEnvs] using e.frames),e.mod,e.bs,e.bsz,e.funs,e.frf,e.hok,e.bare]
section
variable {X:Cx}{Vz:aJ}{σ:St}{H:Hp}{s s':Shared}
theorem Inv.env0 (I:Inv X Vz σ H s):Env0 X.prog X.w X.K X.mg X.base X.A X.stack s H:=
 #[I.ok.frames,I.ok.mod,I.bs,aQ I.ok.bsz I.sz,I.stack,I.stkFree,I.hok,I.bare]
theorem Inv.after {Q:VK}{u:Value}(I:Inv X Vz σ H s)(h:CE X.stack X.prog X.w H s Q u s'):EP X Vz σ Q u s':=by
 exists h,v,c,os,bare,un,hok,r,q;exists s',e,g,d,t,a;obtain rfl:a=s.os:=os;exact#[v,c,I.call (h':=e) (g':=g) (d':=d) (t':=t) (ch:=[]) un hok bare (λb z=>absurd z (by simp)),r,q]
end
def qT (sp:Sp)(dvs:List V)(E:XK)(t:TA):TE:=λσ H Q=>t σ H λvs H1=>sp (vs++dvs) H1 Q E
def E_ (C:Addr)(m:Str)(sp:Sp)(dvs:List V)(E:XK)(ta:TE)(t:TA):TE:=λσ H Q=>ta σ H λx H1=>∃a dx fs,x=.ref a/\H1 a=Zz (.ins C dx fs)/\fs.lookup m=Zy/\
 t σ H1 λvs H2=>sp (x :: (vs++dvs)) H2 Q E
def Fa (C:Addr)(sp:Sp)(dvs:List V)(E:XK)(t:TA):TE:=λσ H Q=>t σ H λvs H1=>∀x dx,H1 x=Zy->H1 dx=Zy->dx≠x->
 sp (.ref x :: (vs++dvs)) (upd (upd H1 dx (.own x)) x (.ins C dx [])) (λv H2=>v=.non/\Q (.ref x) H2) E
def Binds (K:ao)(fd:FuncData)(ps:List Str)(ds:List Value):Prop:=
 ∀(s:Shared)(us:List Value),K.In s.heap->(us++ds).9=ps.9->BindsTo s fd #[us,[]] (ps.zip (us++ds))
theorem Binds.all {K:ao}{c:FuncData}{ps:List Str}(h:∀a:List Value,a.9=ps.9->bindArgs c #[a,[]]=pure (ps.zip a)):Binds K c ps []:=λs a _ d=>by
 rw[mU]at d ⊢;exact .of_eq (h a d)
def kI (CX:CXT)(X:Cx)(E:XK):Prop:=∀(Vz:aJ)(σ:St)(H:Hp)(s:Shared)(e:Value)(s':Shared),Inv X Vz σ H s->CX X.stack H s E e s'->X.xe e s'
section
variable {X:Cx}{CX:CXT}{k:Nat}{f C:Addr}{fd:FuncData}{ps:List Str}{sp:Sp}{dvs:List V}{ds:List Value}{E:XK}{x m:Str}{p pos apos:Pos}{e o:Expr}{es:List Expr}{ta:TE}{t:TA}
theorem Ak {a:aJ}{σ:St}{H:Hp}{s:Shared}{Q:VK}{us:List Value}{vs:List V}(F:FnOk X.prog X.w X.K X.mg X.base CX k f fd ps sp)(g:Room k X.A)(i:Binds X.K fd ps ds)(hd:Vals dvs ds)(hx:kI CX X E)(I:Inv X a σ H s)(r:Vals vs us)(h:sp (vs++dvs) H Q E):wpAny (model X.prog X.w) X.A (call (.ref f) us) (EP X a σ Q) X.xe s:=by
 have d:Vals (vs++dvs) (us++ds):=r.append hd;have j:(us++ds).9=ps.9:=by rw[<-d.9];exact F.len _ _ _ _ h
 refine wpAny_call (codeAny_mono (F.run X.A X.stack s H #[us,[]] (us++ds) (vs++dvs) Q E g I.env0 (i s us I.kIn j) d h) λr m c=>?_)
 cases r with
 | error e=>exact hx a σ H s e m I c
 | ok fl=>
  cases fl with
  | ret u=>exact I.after c
  | next=>exact False.elim c
  | brk=>exact False.elim c
  | cont=>exact False.elim c
theorem aH (F:FnOk X.prog X.w X.K X.mg X.base CX k f fd ps sp)(i:Room k X.A)(j:Gl X x)(m:X.mg x=Zz (.ref f))(hk:PySem.W.keepIn X.K (.ref f)=true)(n:Binds X.K fd ps ds)(hd:Vals dvs ds)(hx:kI CX X E)(o:PA X (e :: es) t)(c:(x == ("__debug__" : Str))=false:=by decide)(u:starEach (e :: es) X.env=(false,eval e X.env) :: starEach es X.env:=by rfl)(d:(backTo pos (starEach es X.env)).any (·.1)=false:=by rfl):
  PE X (.Call (.Name x p) (e :: es) [] pos) (qT sp dvs E t):=by
 intro a s σ H Q I h;refine wpAny_Call_Name_kw (zW I j m ?_ c);refine PySem.W.callWith_K (h₀:=X.base) I.ok.mod.kin hk (thn (o pos a s σ H _ I h) λv y ⟨z,C,g,r,q⟩=>#[g.kIn,?_]) u d;exact Ak F i n hd hx g r q
theorem gG {pl:Sem Bool}(y:PE X o ta)(c:Cls X.K C)(j:Meth X.K C m f)(F:FnOk X.prog X.w X.K X.mg X.base CX k f fd ps sp)(z:Room k X.A)(G:Binds X.K fd ps ds)(hd:Vals dvs ds)(hx:kI CX X E)(J:PA X (e :: es) t)(g:starEach (e :: es) X.env=(false,eval e X.env) :: starEach es X.env:=by rfl)(i:(backTo pos (starEach es X.env)).any (·.1)=false:=by rfl)(M:eval (.Call (.Attribute o m apos) (e :: es) [] pos) X.env=(do
   let n <-eval o X.env
   standAt apos.atName
   let (f,first) <-holding [n] (getMethod n m pl)
   callWith pos f first (backTo pos (starEach (e :: es) X.env)) (backToKw pos (keywordEach [] X.env))):=by rfl):
  PE X (.Call (.Attribute o m apos) (e :: es) [] pos) (E_ C m sp dvs E ta t):=by
 intro d s σ H Q I h;refine PySem.W.methodCall_KW (pl:=pl) (thn (y d s σ H _ I h) λu O P=>?_) M;exists P,x,R,p,S,a,dx,fs,ex,T,l,q;subst ex;obtain rfl:u=Value.ref a:=S;refine E2 p T c j l ?_;refine PySem.W.callWith_K (first:=[.ref a]) (h₀:=X.base) I.ok.mod.kin j.kp (thn (J pos d O σ R _ p q) λus Y ⟨vs,Z,v,r,U⟩=>#[v.kIn,?_]) g i;exact Ak (us:=.ref a :: us) (vs:=.ref a :: vs) F z G hd hx v (.cons rfl r) U
structure Mk (K:ao)(C f:Addr):Prop where
 makes:PySem.W.makesIn K C=true
 init:PySem.W.findIn K (.ref C) "__init__" = Zz (Zz (.ref f))
 fn:PySem.W.isFn K (.ref f)=true
 kp:PySem.W.keepIn K (.ref C)=true
theorem Na {a:aJ}{σ:St}{H:Hp}{s:Shared}{Q:VK}{us:List Value}{vs:List V}(M:Mk X.K C f)(F:FnOk X.prog X.w X.K X.mg X.base CX k f fd ps sp)(j:Room (k+1) X.A)(m:Binds X.K fd ps ds)(hd:Vals dvs ds)(hx:kI CX X E)(I:Inv X a σ H s)(r:Vals vs us)(h:∀x dx,H x=Zy->H dx=Zy->dx≠x->sp (.ref x :: (vs++dvs)) (upd (upd H dx (.own x)) x (.ins C dx [])) (λv n=>v=.non/\Q (.ref x) n) E):
  wpAny (model X.prog X.w) X.A (call (.ref C) us) (EP X a σ Q) X.xe s:=by
 have g:=h (s.7+1) s.7 (I.hok.fresh (Cm _)) (I.hok.fresh (aA _)) (du (pj _));have d:=Inv.made (C:=C) I;have i:Vals (V.ref (s.7+1) :: (vs++dvs)) (Value.ref (s.7+1) :: (us++ds)):=.cons rfl (r.append hd);have o:(Value.ref (s.7+1) :: us++ds).9=ps.9:=by
  have e:=i.9;rw[F.len _ _ _ _ g]at e;exact e.symm
 refine wpAny_call (MW (f:=f) I.kIn M.makes M.init (beq_iff_eq.mp M.fn) (codeAny_mono (F.run _ X.stack _ _ #[Value.ref (s.7+1) :: us,[]] (Value.ref (s.7+1) :: (us++ds)) _ _ E (j.make C us [])
  (d.env0.make C us []) (m _ (Value.ref (s.7+1) :: us) d.kIn o) i g) λr p c=>?_))
 cases r with
 | error e=>exact hx a σ _ _ e p d c
 | ok fl=>
  cases fl with
  | ret u=>
   exists d.after c,v,y,z,G,ev,J;subst ev;exact#[G,#[V.ref (s.7+1),y,z,rfl,J]]
  | next=>exact False.elim c
  | brk=>exact False.elim c
  | cont=>exact False.elim c
theorem Fe (M:Mk X.K C f)(F:FnOk X.prog X.w X.K X.mg X.base CX k f fd ps sp)(i:Room (k+1) X.A)(j:Gl X x)(m:X.mg x=Zz (.ref C))(n:Binds X.K fd ps ds)(hd:Vals dvs ds)(hx:kI CX X E)(o:PA X (e :: es) t)(c:(x == ("__debug__" : Str))=false:=by decide)(u:starEach (e :: es) X.env=(false,eval e X.env) :: starEach es X.env:=by rfl)(d:(backTo pos (starEach es X.env)).any (·.1)=false:=by rfl):
  PE X (.Call (.Name x p) (e :: es) [] pos) (Fa C sp dvs E t):=by
 intro a s σ H Q I h;refine wpAny_Call_Name_kw (zW I j m ?_ c);refine PySem.W.callWith_K (h₀:=X.base) I.ok.mod.kin M.kp (thn (o pos a s σ H _ I h) λv y ⟨z,G,g,r,q⟩=>#[g.kIn,?_]) u d;exact Na M F i n hd hx g r q
end
def PK (X:Cx)(kws:List Keyword)(t:TA):Prop:=
 ∀(pos:Pos)(Vz:aJ)(s:Shared)(σ:St)(H:Hp)(Q:List V->Hp->Prop),Inv X Vz σ H s->t σ H Q->wpAny (model X.prog X.w) X.A (evalAll ((backToKw pos (keywordEach kws X.env)).map (·.2))) (AP X Vz σ Q) X.xe s
section
variable {X:Cx}{CX:CXT}{k:Nat}{f C:Addr}{fd:FuncData}{ps ks:List Str}{sp:Sp}{E:XK}{x m:Str}{p pos apos kpos:Pos}{e o:Expr}{es:List Expr}{kws:List Keyword}{te ta:TE}{t tk:TA}{nm:Option Str}
theorem Nb:PK X [] Ai:=λ_ _ _ _ H Q I h=>wpAny_evalAll_nil #[[],H,I,.nil,h]
theorem Nc (c:PE X e te)(d:PK X kws t):PK X (#[nm,e,kpos] :: kws) (Aj te t):=by
 intro pos a s σ H Q I h;show wpAny _ _ (evalAll ((do let v <-eval e X.env;standAt pos;pure v) :: (backToKw pos (keywordEach kws X.env)).map (·.2))) _ _ s;refine wpAny_evalAll_cons (wpAny_bind (thn (c a s σ H _ I h) λu f ⟨x,g,i,j,k⟩=>wpAny_bind (wpAny_standAt (wpAny_pure ?_))));exact thn (d pos a f σ g _ i k) λy z ⟨m,n,o,p,r⟩=>#[x :: m,n,o,.cons j p,r]
variable {g:List Value->List Value->List Value}{gV:List V->List V->List V}
end
structure FnScope (N P:List Str)(sc:Scope):Prop where
 kind:sc.kind=.function
 co:sc.isCoroutine=false
 gen:sc.isGenerator=false
 nd:N.Nodup
 pre:N.take P.9=P
 par:∀x∈P,sc.names.lookup x=Zz .local\/sc.names.lookup x=Zz .cell
 nofree:∀y∈sc.names,y.2≠.free
theorem Ff {a:Str->Option NameKind}{x:Str}:∀{binds:List (Str×Value)}{m:bH},(∀v,(x,v)∉binds)->bindL a binds m x=m x
 | [],_,_=>rfl
 |(n,v) :: r,m,h=>by
  unfold bindL;rw[Ff λw c=>h w (dC _ c)]
  split
  ·have:x≠n:=by rintro rfl;exact h v dU
   simp[this]
  ·rfl
theorem Fg {a:Str->Option NameKind}{x:Str}:∀{binds:List (Str×Value)}{m:bH},(∀v,(x,v)∉binds)->bindC a binds m x=m x
 | [],_,_=>rfl
 |(n,v) :: r,m,h=>by
  unfold bindC;rw[Fg λw c=>h w (dC _ c)]
  split
  ·rfl
  ·have:x≠n:=by rintro rfl;exact h v dU
   simp[this]
theorem Fh {a:Str->Option NameKind}{x:Str}{v:Value}:∀{P:List Str}{c:List Value}{i:Nat}{m:bH},P.Nodup->P[i]?=Zz x->c[i]?=Zz v->a x=Zz .local->
  bindL a (P.zip c) m x=Zz v
 | [],_,_,_,_,h,_,_=>by simp at h
 | _ :: _,[],_,_,_,_,h,_=>by simp at h
 | p :: P,w :: c,0,m,nd,h1,h2,hk=>by
  simp at h1 h2;subst h1;subst h2;show bindL a ((p,w) :: P.zip c) m p=_;unfold bindL;rw[Ff λv d=>(lG.mp nd).1 (K7 d).1,if_pos hk];simp
 | p :: P,w :: c,i+1,m,nd,h1,h2,hk=>by
  show bindL a ((p,w) :: P.zip c) m x=_;unfold bindL;exact Fh (i:=i) (lG.mp nd).2 (⇑h1) (⇑h2) hk
theorem Fi {a:Str->Option NameKind}{x:Str}{v:Value}:∀{P:List Str}{c:List Value}{i:Nat}{m:bH},P.Nodup->P[i]?=Zz x->c[i]?=Zz v->a x≠Zz .local->
  bindC a (P.zip c) m x=Zz v
 | [],_,_,_,_,h,_,_=>by simp at h
 | _ :: _,[],_,_,_,_,h,_=>by simp at h
 | p :: P,w :: c,0,m,nd,h1,h2,hk=>by
  simp at h1 h2;subst h1;subst h2;show bindC a ((p,w) :: P.zip c) m p=_;unfold bindC;rw[Fg λv d=>(lG.mp nd).1 (K7 d).1,if_neg hk];simp
 | p :: P,w :: c,i+1,m,nd,h1,h2,hk=>by
  show bindC a ((p,w) :: P.zip c) m x=_;unfold bindC;exact Fi (i:=i) (lG.mp nd).2 (⇑h1) (⇑h2) hk
def start (N:List Str)(vs:List V):St:=vs.map Zz++bZ (N.9-vs.9) Zy
noncomputable def kJ (CX:CXT) (P:Program) (w:World) (K:ao) (mg:bH) (base:Heap) (N:List Str) (qual:Str) (scope:Scope) (f:Addr) (cd:Value) (A:Around) (outer:List Env) (s:Shared) (H:Hp) (E:XK):Cx where
 prog:=P
 w:=w
 K:=K
 mg:=mg
 base:=base
 A:=A.deeper (envOfC qual scope s.7 f cd)
 N:=N
 s₀:=s
 H₀:=H
 env:=envOfC qual scope s.7 f cd
 outer:=outer
 stack:=envOfC qual scope s.7 f cd :: outer
 ex:=[]
 calm:=true
 fn:=λ_=>true
 pn:=[]
 xe:=λe s'=>wpAny (model P w) (A.deeper (envOfC qual scope s.7 f cd)) (leaving (envOfC qual scope s.7 f cd) e) (λ_ s''=>CX outer H s E e s'') (λe' s''=>CX outer H s E e' s'') s'
theorem Fj {a:Scope}{n:Nat}{x:Str}(h:a.names.lookup x=Zz .cell):∃c,(cellsFrom n a.names []).lookup x=Zz c:=by
 have q:=PySem.W.cellsFrom_some a.names n [] (.inl h);exact Tn.mp q
theorem Nd {CX:CXT}{P:Program}{w:World}{K:ao}{mg:bH}{base:Heap}{N ps:List Str}{g:Str}{d:Scope}{f:Addr}{G:Value}{A:Around}{outer:List Env}{s J:Shared}{H:Hp}{E:XK}{us:List Value}{vs:List V}(S:FnScope N ps d)(hd:A.handled=Zy)(m:Env0 P w K mg base A outer s H)(T:vs.9=ps.9)(r:Vals vs us)(x:InCallC s s.7 (bindL (envOfC g d s.7 f G).kindOf (ps.zip us) λ_=>Zy) (cellsFrom (s.7+1) d.names []) (bindC (envOfC g d s.7 f G).kindOf (ps.zip us) λ_=>Zy) J):
  Inv (kJ CX P w K mg base N g d f G A outer s H E) [] (start N vs) H J:=by
 have O:ps.9<=N.9:=by have:=congrArg kl S.pre;rw[bV]at this;omega
 exists x.done,I,U,rfl,hk;have o:∀b:Addr,b∉(kJ CX P w K mg base N g d f G A outer s H E).ex:=λb z=>absurd (show b∈([]:am) from z) (by simp);refine⟨#[m.mod,S.kind,rfl,rfl,aA _,λy z c I j=>?_,λy hy=>?_,λy c _ h=>?_,λ_=>hd,Around.frames_deeper m.frames,.inr #[rfl,rfl],λb z=>absurd z (o b),m.bs,m.bsz,λb _ _=>o b,λb z=>absurd z (o b),m.funs,m.frf],
  rfl,m.bare,Un.kept hk,#[_,x.toInCall.ns,λi y v I j X=>?_],λy c h=>#[_,x.cell y c h],m.hok.fresh (aA _),λy c h=>?_,λp C=>absurd (show p∈([]:aJ) from C) (by simp),m.hok.kept hk,?_⟩
 ·exact name_of_addr x.apart (PySem.mem_of_lookup I) (PySem.mem_of_lookup j)
 ·have hy:d.names.lookup y=Zz .cell\/d.names.lookup y=Zz .free:=hy;rcases hy with hy|hy
  ·exact Fj hy
  ·exact absurd rfl (S.nofree _ (PySem.mem_of_lookup hy))
 ·exact dz (x.above y c (PySem.mem_of_lookup h))
 ·have hi:i<vs.9:=by
   unfold start at j;by_cases hi:i<vs.9
   ·exact hi
   ·rw[cQ (⇑hi)]at j;rw[lH]at j
    split at j <;> cases j
  have Q:vs[i]?=Zz v:=by
   unfold start at j;rw[cE (⇑hi),aI]at j
   cases e:vs[i]? with
   | none=>rw[e]at j;cases j
   | some a=>rw[e]at j;cases j;rfl
  exists r.get Q,u,M,R;have C:ps[i]?=Zz y:=by
   rw[<-S.pre,vF ()];exact I
  have F:ps.Nodup:=by rw[<-S.pre];exact S.nd.sublist (vG _ _)
  refine#[u,R,?_];rcases S.par y (b4 C) with k|k
  ·exact .inl #[k,Fh F C M k]
  ·exists Fj (n:=s.7+1) k,c,e;refine .inr #[.inl k,c,e,?_];have q:=x.cell y c e;rw[Fi F C M (by show d.names.lookup y≠_;rw[k];decide)]at q;exact q
 ·exact m.hok.fresh (dz (x.above y c (PySem.mem_of_lookup h)))
 ·unfold start;show _=N.9;rw[b8,af,pk];omega
theorem Nf {CX:CXT}{P:Program}{w:World}{K:ao}{mg:bH}{base:Heap}{k:Nat}{f:Addr}{m c:Str}{g:Arguments}{h:List Stmt}{a:Scope}{dV kV F pm d ct oc:Value}{an od:Option Addr}{R:Array (Option Value)}{N ps:List Str}{sp:Sp}(lk:K.lookup f=Zz #[oc,od,.func (PySem.W.fnOf m c g h a dV kV F pm an d ct),R])(T:PySem.W.codeIn K d c=true)(S:FnScope N ps a)(len:∀i H Q E,sp i H Q E->i.9=ps.9)(z:∀(A:Around)(outer:List Env)(s:Shared)(H:Hp)(i:List V)(Q:VK)(E:XK),Room k (A.deeper (envOfC c a s.7 f d))->sp i H Q E->
   ∃t,PSs (kJ CX P w K mg base N c a f d A outer s H E) h t/\t { nx:=λ_ p=>Q .non p,rt:=Q } (start N i) H):
  FnOk P w K mg base CX (k+1) f (PySem.W.fnOf m c g h a dV kV F pm an d ct) ps sp:=by
 refine#[len,λA outer s H x0 us i Q E U G hb r M=>?_];have hl:=len _ _ _ _ M;have KX:K.In s.heap:=G.mod.kin.keeps λb o e=>(G.bs b o e).1;have X:s.heap.NoLimit:=G.mod.nolimit.keeps λb o e=>(G.bs b o e).1;have C:∀y∈ps.zip us,a.names.lookup y.1=Zz .local\/(a.names.lookup y.1=Zz .cell/\((cellsFrom (s.7+1) a.names []).lookup y.1).isSome=true):=λ⟨n,v⟩ hy=>by
  rcases S.par n (K7 hy).1 with q|q
  ·exact .inl q
  ·exact .inr #[q,PySem.W.cellsFrom_some _ _ _ (.inl q)]
 refine codeAny_call_function U.depth (KX _ _ lk) rfl S.co S.gen rfl (PySem.W.codeRec_of KX T) (hb _ _ _ _ ?_);refine wpAny_newFunctionEnv_cells S.kind C λenv he s1 x=>?_;subst he;refine#[X.keeps x.toInCall.keep,codeAny_func ?_];exists z A outer s H i Q E (U.deeper _) M,t,ht,hq;have I:Inv (kJ CX P w K mg base N c a f d A outer s H E) [] (start N i) H s1:=Nd S U.hd G hl r x;refine wpAny_mono (ht [] s1 (start N i) H _ I hq) (λfl Y hs=>?_) λe Y hs=>hs;have O:∀{j:St}{p:Hp}{v:V}{u:Value},Inv (kJ CX P w K mg base N c a f d A outer s H E) [] j p Y->RelV v u->Q v p->CE outer P w H s Q u Y:=
  λ{j p v u} J Z q=>#[v,p,J.os,J.bare,J.base,J.hok,Z,q]
 cases fl with
 | ret u=>
  exists hs,v,j,p,J,Z,q;exact O J Z q
 | next=>
  exists hs,j,p,J,q;exact O (v:=V.non) (u:=Value.none) J rfl q
 | brk=>
  exists hs,_,_,_,q;exact False.elim q
 | cont=>
  exists hs,_,_,_,q;exact False.elim q
section
variable {X:Cx}{x:Str}{p pos:Pos}{e:Expr}{es:List Expr}{t:TA}{id T:String}{r:List V->Hp->VK->Prop}
def tCB (r:List V->Hp->VK->Prop)(t:TA):TE:=λσ H Q=>t σ H λvs H1=>r vs H1 Q
theorem aT (f:gX X (.builtin id) r)(g:Gl X x)(i:X.mg x=Zy)(j:bootBuiltins x=Zz (.builtin id))(k:PA X (e :: es) t)(m:x ≠ "__name__" := by decide)(c:(x == ("__debug__" : Str))=false:=by decide)(n:starEach (e :: es) X.env=(false,eval e X.env) :: starEach es X.env:=by rfl)(d:(backTo pos (starEach es X.env)).any (·.1)=false:=by rfl):PE X (.Call (.Name x p) (e :: es) [] pos) (tCB r t):=by
 intro a s σ H Q I h;refine wpAny_Call_Name_kw (iP I g i j ?_ m c);exact PyProof.Rows.callWith_builtin1 (thn (k pos a s σ H _ I h) λo u ⟨v,y,z,C,F⟩=>f a u σ y v o Q z C F) n d
theorem jj (f:gX X (.type T) r)(g:Gl X x)(i:X.mg x=Zy)(j:bootBuiltins x=Zz (.type T))(k:PA X (e :: es) t)(m:x ≠ "__name__" := by decide)(c:(x == ("__debug__" : Str))=false:=by decide)(n:starEach (e :: es) X.env=(false,eval e X.env) :: starEach es X.env:=by rfl)(d:(backTo pos (starEach es X.env)).any (·.1)=false:=by rfl):PE X (.Call (.Name x p) (e :: es) [] pos) (tCB r t):=by
 intro a s σ H Q I h;refine wpAny_Call_Name_kw (iP I g i j ?_ m c);exact PyProof.Rows.callWith_type1 (thn (k pos a s σ H _ I h) λo u ⟨v,y,z,C,F⟩=>f a u σ y v o Q z C F) n d
end
end L2
namespace HT
open PySem PyProof.Rows
section
variable {prog:Program}{w:World}{A:Around}{E:aX}{s:Shared}
def sIx (n d:Nat):Option Int->Nat
 | none=>d
 | some v=>if v<0 then (v+(n:Int)).toNat else min v.toNat n
theorem sIx_none (n d:Nat):sIx n d Zy=d:=rfl
theorem sIx_nat (n d k:Nat):sIx n d (Zz (k:Int))=min k n:=by
 show (if (k:Int)<0 then ((k:Int)+(n:Int)).toNat else min (k:Int).toNat n)=min k n;rw[if_neg (),i5]
end
end HT
namespace L2
open PySem PySem.Spec PyProof.Rows
abbrev TO:=St->Hp->(Option Int->Hp->Prop)->Prop
def PO (X:Cx)(e:Option Expr)(t:TO):Prop:=
 ∀(Vz:aJ)(s:Shared)(σ:St)(H:Hp)(Q:Option Int->Hp->Prop),Inv X Vz σ H s->t σ H Q->
  wpAny (model X.prog X.w) X.A (evalPart e X.env) (λu s'=>∃o H',Inv X Vz σ H' s'/\IsPart u o/\Q o H') X.xe s
def Fk:TO:=λ_ H Q=>Q Zy H
def Fl (t:TE):TO:=λσ H Q=>t σ H λx H1=>∃i,x=.int i/\Q (Zz i) H1
section
variable {X:Cx}{e:Expr}{te:TE}{lo hi:Option Expr}{tl th:TO}{pos p2:Pos}
theorem nN:PO X Zy Fk:=by
 intro a s σ H Q I h;rw[evalPart_none];exact wpAny_pure #[Zy,H,I,.none,h]
theorem nQ (h:PE X e te):PO X (Zz e) (Fl te):=by
 intro a s σ H Q I c;rw[evalPart_some];refine thn (h a s σ H _ I c) λu m d=>?_;exists d,x,f,g,j,k;exists k,i,rfl,q;exists j,t,rfl;exact#[Zz i,f,g,.int i t,q]
def SlR (X:Cx)(r:V->Option Int->Option Int->Hp->VK->Prop):Prop:=
 ∀(Vz:aJ)(s:Shared)(σ:St)(H:Hp)(x:V)(v vl vu:Value)(lo hi:Option Int)(sl:Addr)(Q:VK),Inv X Vz σ H s->RelV x v->s.heap.IsSliceOf sl vl vu .none->IsPart vl lo->IsPart vu hi->r x lo hi H Q->
  ∃T id,typeLookup (.type T) "__getitem__" = pure (Zz (.builtin id))/\s.TypeIs v T/\wpAny (model X.prog X.w) X.A (getItem v (.ref sl)) (EP X Vz σ Q) X.xe s
def tSl (r:V->Option Int->Option Int->Hp->VK->Prop)(te:TE)(tl th:TO):TE:=λσ H Q=>te σ H λx H1=>tl σ H1 λl H2=>th σ H2 λu H3=>r x l u H3 Q
theorem nV {r:V->Option Int->Option Int->Hp->VK->Prop}(i:SlR X r)(j:PE X e te)(k:PO X lo tl)(m:PO X hi th):PE X (.Subscript e (.Slice lo hi Zy p2) pos) (tSl r te tl th):=by
 intro a s σ H Q I h;refine Subscript_ (thn (j a s σ H _ I h) λv n f=>?_);exists f,x,o,p,y,z;refine wpAny_Slice (thn (k a n σ o _ p z) λvl C ⟨l,F,G,pl,J⟩=>thn (m a C σ F _ G J) λd c f=>?_);exists f,u,g,M,O,P;rw[evalPart_none];refine wpAny_pure ?_;have R:Inv X a σ g { c with heap:=c.heap.push { cls:=.type "slice",data:=.fields (List.toArray [vl,d,.none]) } }:=M.kept (t':=c.toks) λb Y q=>Heap.get?_push_of_some _ q;exists i a { c with heap:=c.heap.push { cls:=.type "slice",data:=.fields (List.toArray [vl,d,.none]) } } σ g x v vl d l u c.7 Q R y (Heap.IsSliceOf.new ..) pl O P,T,id,hT,S,U;show wpAny (model X.prog X.w) X.A (subscriptTail e (.Slice lo hi Zy p2) v (.ref c.7)) (EP X a σ Q) X.xe { c with heap:=c.heap.push { cls:=.type "slice",data:=.fields (List.toArray [vl,d,.none]) } };exact tail_any (ops:=[.ref c.7,v]) S hT U (by with_unfolding_all rfl)
noncomputable def fG (xs:List V) (lo hi:Option Int):List V:=(xs.drop (HT.sIx xs.9 0 lo)).take (HT.sIx xs.9 xs.9 hi-HT.sIx xs.9 0 lo)
theorem Ng (xs:List V)(lo hi:Option Int):(fG xs lo hi).9<=xs.9:=by
 unfold fG;rw[bV,pu];omega
end
noncomputable def ixN (n:Nat) (i:Int):Option Nat:=if 0<=i then (if i<n then Zz i.toNat else Zy) else if -(n:Int)<=i then Zz (i+n).toNat else Zy
def atI {α:Type}(xs:List α)(i:Int):Option α:=(ixN xs.9 i).bind λj=>xs[j]?
theorem Fm {n:Nat}{i:Int}{j:Nat}(h:ixN n i=Zz j):seqIndex? i n=Zz j/\j<n/\-(n:Int)<=i/\i<n:=by
 unfold ixN at h;by_cases h0:0<=i
 ·rw[if_pos h0]at h;by_cases h1:i<n
  ·rw[if_pos h1]at h;have e:i.toNat=j:=Option.some.inj h;exact#[by rw[seqIndex_of h0 h1,e],(),(),h1]
  ·rw[if_neg h1]at h;cases h
 ·rw[if_neg h0]at h;by_cases h1:-(n:Int)<=i
  ·rw[if_pos h1]at h;have e:(i+n).toNat=j:=Option.some.inj h;exact#[by rw[seqIndex_neg () h1,e],(),h1,()]
  ·rw[if_neg h1]at h;cases h
theorem Al {α:Type}{xs:List α}{i:Int}{v:α}(h:atI xs i=Zz v):∃j,seqIndex? i xs.9=Zz j/\xs[j]?=Zz v/\j<xs.9/\-(xs.9:Int)<=i/\i<xs.9:=by
 unfold atI at h
 cases e:ixN xs.9 i with
 | none=>rw[e]at h;cases h
 | some j=>
  rw[e]at h;exists Fm e,a,c,d,f;exact#[j,a,h,c,d,f]
theorem f8 {α:Type}{xs:List α}{j:Nat}{v:α}(h:xs[j]?=Zz v):atI xs (j:Int)=Zz v:=by
 have a:j<xs.9:=(aZ.mp h).1;have e:ixN xs.9 (j:Int)=Zz j:=by
  unfold ixN;rw[if_pos (),if_pos ()];simp
 unfold atI;rw[e];exact h
theorem Fn {α:Type}(xs:List α)(v:α):atI (xs++[v]) (-1)=Zz v:=by
 have a:(xs++[v]).9=xs.9+1:=by simp
 have e:ixN (xs++[v]).9 (-1)=Zz xs.9:=by
  unfold ixN;rw[a,if_neg (),if_pos ()];congr 1;omega
 unfold atI;rw[e];show (xs++[v])[xs.9]?=Zz v;simp
def Nh (b:Expr):Prop:=∀o i,subscripted b false o i=operate [o,i] (getItem o i)
def IxR (X:Cx)(r:R2):Prop:=
 ∀(value slice:Expr)(Vz:aJ)(s:Shared)(σ:St)(H:Hp)(x y:V)(v u:Value)(Q:VK),Inv X Vz σ H s->RelV x v->RelV y u->r x y H Q->
  subscripted slice false v u=operate [v,u] (getItem v u)->wpAny (model X.prog X.w) X.A (subscriptTail value slice v u) (EP X Vz σ Q) X.xe s
def MtR (X:Cx)(id:String)(r:V->List V->Hp->VK->Prop):Prop:=
 ∀(Vz:aJ)(s:Shared)(σ:St)(H:Hp)(x:V)(xs:List V)(v:Value)(us:List Value)(Q:VK),Inv X Vz σ H s->RelV x v->Vals xs us->r x xs H Q->
  wpAny (model X.prog X.w) X.A (call (.builtin id) (v :: us)) (EP X Vz σ Q) X.xe s
section
variable {X:Cx}{a b:Expr}{ta tb:TE}{pos:Pos}
theorem aG {r:R2}(d:IxR X r)(e:PE X a ta)(f:PE X b tb)(hs:Nh b):PE X (.Subscript a b pos) (tOp r ta tb):=by
 intro c s σ H Q I h;exact Subscript_ (Ae e f I h λv u g x y i j k m q=>d a b c g σ i x y v u Q j k m q (hs _ _))
def qU (K:ao):R2:=λx y H Q=>∃p xs i v,x=.ref p/\y=.int i/\SqL K H p xs/\atI xs i=Zz v/\Q v H
def Am (K:ao):R2:=λx y H Q=>∃p xs i v,x=.ref p/\y=.int i/\SqT K H p xs/\atI xs i=Zz v/\Q v H
theorem bE:IxR X (qU X.K):=by
 intro e f a s σ H x y v u Q I o C h hs;obtain⟨p,S,i,z,rfl,rfl,F,G,q⟩:=h
 cases o
 exists C,t,rfl;exists I.list F,g,r,pl,T;exists Al G,j,d,J,U,M,O;exists r.get J,w,n,k;have P:=r.9;have Y:=nJ;have c:EP X a σ Q w s:=#[z,H,I,k,q]
 by_cases h0:0<=i
 ·have m:i.toNat=j:=by
   rw[seqIndex_of h0 O]at d;exact Option.some.inj d
  exact item_listR pl.isList h0 () (by rw[m];simpa using n) c hs
 ·have m:(i+(g.toArray.size:Int)).toNat=j:=by
   rw[seqIndex_neg () M]at d;rw[dI,<-P];exact Option.some.inj d
  exact subscriptTail_builtinR (x:=w) pl.isList.typeIs slot_list_getitem.lookup
   (wpAny_getItem_list_neg (Q:=λr R=>r=w/\EP X a σ Q r R) pl.isList () (by rw[dI] <;> omega) () (by rw[m];simpa using n) #[rfl,c]) hs
theorem df:IxR X (Am X.K):=by
 intro c d a s σ H x y v u Q I g k h hs;obtain⟨p,O,i,z,rfl,rfl,m,n,q⟩:=h
 cases g
 exists k,t,rfl;exists I.tuple m,o,r,pl,P;exists Al n,j,C,F,R,S,T;exists r.get F,w,G,e;have J:=r.9;have U:=nJ;have f:EP X a σ Q w s:=#[z,H,I,e,q]
 exact subscriptTail_builtinR (x:=w) pl.typeIs slot_tuple_getitem.lookup
  (getItem_tuple (j:=j) (Q:=λr M=>r=w/\EP X a σ Q r M) pl () () #v[dI,<-J,C] (⇑G) #[rfl,f]) hs
theorem Ni (its:List Value)(n j:Nat)(u:Value):Obj.mapSeq (·.setIfInBounds j u) { cls:=.type "list",data:=.seq its.toArray n }={ cls:=.type "list",data:=.seq (its.set j u).toArray n }:=by
 simp[Obj.mapSeq]
theorem Inv.lst {c:aJ}{σ:St}{H:Hp}{s:Shared}{p:Addr}{xs:List V}(I:Inv X c σ H s)(h:H p=Zz (.lst xs)):
  ∃(a:List Value)(n:Nat),Vals xs a/\s.heap.get? p=Zz { cls:=.type "list",data:=.seq a.toArray n }/\xs.9<=sizeLine:=by
 exists I.hok p _ h,z,a,n,r,e;exact#[a,n,r,e,z]
theorem Inv.lstUpd {a:aJ}{σ:St}{H:Hp}{s:Shared}{p:Addr}{xs ys:List V}{its its':List Value}{n c:Nat}{f:Obj->Obj}(I:Inv X a σ H s)(h:H p=Zz (.lst xs))(g:s.heap.get? p=Zz { cls:=.type "list",data:=.seq its.toArray n })(d:f { cls:=.type "list",data:=.seq its.toArray n }={ cls:=.type "list",data:=.seq its'.toArray c })(r:Vals ys its')(i:ys.9<=sizeLine)(t:Nat):
  Inv X a σ (upd H p (.lst ys)) { s with heap:=s.heap.update p f,toks:=t }:=by
 have e:(s.heap.update p f).get? p=Zz { cls:=.type "list",data:=.seq its'.toArray c }:=by
  rw[Heap.get?_update_self f g (by rw[d] <;> rfl),d]
 refine I.write (x:=p) (e:=p) (by rw[h];trivial) (.inl rfl) (λb u j q=>(Heap.get?_update_other _ _ (Ne.symm j)).trans q) #[_,e] ?_;exact#[i,its',c,r,e]
def Fo:V->V->V->Hp->(Hp->Prop)->Prop:=λo i v H Q=>∃p xs k j,o=.ref p/\i=.int k/\H p=Zz (.lst xs)/\ixN xs.9 k=Zz j/\Q (upd H p (.lst (xs.set j v)))
theorem jM:zY X Fo:=by
 intro a s σ H o i v O P u Q I z C F h;obtain⟨p,G,k,j,rfl,rfl,g,J,q⟩:=h
 cases z
 exists C,t,rfl;exists I.lst g,c,n,r,e,M;exists Fm J,d,R,m,x;have f:=r.9;have S:=nJ;have y:Inv X a σ (upd H p (.lst (G.set j v))) { s with heap:=s.heap.update p (Obj.mapSeq (·.setIfInBounds j u)) }:=
  I.lstUpd g e (Ni c n j u) (r.set F j) #v[py,M] s.toks
 by_cases h0:0<=k
 ·have hk:k.toNat=j:=by
   rw[seqIndex_of h0 x]at d;exact Option.some.inj d
  exact PySem.W.ki_setAt e h0 () #v[dI,<-f,x] (by rw[hk];exact#[_,y,q])
 ·have hk:(k+(c.toArray.size:Int)).toNat=j:=by
   rw[seqIndex_neg () m]at d;rw[dI,<-f];exact Option.some.inj d
  exact PySem.W.ki_setBack e () #v[dI,<-f,m] () (by rw[hk];exact#[_,y,q])
theorem Nj (lo hi:Option Int)(n:Nat):(sliceBounds lo hi Zy n).1=((HT.sIx n 0 lo:Nat):Int)/\(sliceBounds lo hi Zy n).2.1=((HT.sIx n n hi:Nat):Int)/\(sliceBounds lo hi Zy n).2.2=1:=by
 refine#[?_,?_,rfl]
 ·cases lo with
  | none=>simp[sliceBounds,HT.sIx]
  | some i=>
   simp only[sliceBounds,HT.sIx,Option.getD_none,show (1:Int) > 0 by decide,if_true];by_cases h:i<0
   ·simp only[h,if_true] <;> omega
   ·simp only[h,if_false] <;> omega
 ·cases hi with
  | none=>simp[sliceBounds,HT.sIx]
  | some i=>
   simp only[sliceBounds,HT.sIx,Option.getD_none,show (1:Int) > 0 by decide,if_true];by_cases h:i<0
   ·simp only[h,if_true] <;> omega
   ·simp only[h,if_false] <;> omega
theorem Nk (its:List Value)(lo hi:Option Int):slicePick its.toArray lo hi Zy=((its.drop (HT.sIx its.9 0 lo)).take (HT.sIx its.9 its.9 hi-HT.sIx its.9 0 lo)).toArray:=by
 exists Nj lo hi its.toArray.size,a,c,d;unfold slicePick;rw[a,c,d];simp only[sliceRange_one,pick_run,dI] <;> rfl
def Fp (K:ao):V->Option Int->Option Int->Hp->VK->Prop:=λx lo hi H Q=>∃a xs,x=.ref a/\SqL K H a xs/\∀p,H p=Zy->Q (.ref p) (upd H p (.lst (fG xs lo hi)))
theorem n_:SlR X (Fp X.K):=by
 intro e s σ H x v vl m lo hi n Q I g hs pl i h;obtain⟨a,c,rfl,hx,q⟩:=h
 cases g
 exists I.list hx,j,r,f,k;have d:=r.9;refine#["list",_,slot_list_getitem.lookup,f.isList.typeIs,?_];refine wpAny_getItem_list_slice f.isList hs pl i .none (by simp) ?_ (by rw[dI] <;> omega);rw[Nk,<-d];refine#[.ref s.7,_,I.laid (t':=s.toks) (o:=.lst (fG c lo hi)) (λb p q=>Heap.get?_push_of_some _ q) (aA _) ?_,rfl,q _ (I.hok.fresh (aA _))];exact#[aQ (Ng c lo hi) k,_,0,(r.drop (HT.sIx c.9 0 lo)).take (HT.sIx c.9 c.9 hi-HT.sIx c.9 0 lo),Heap.get?_push_size _ rfl]
def ie:V->Bool
 | .non=>true
 | .bl _=>true
 | .int _=>true
 | .str _=>true
 | _=>false
noncomputable def eqV:V->V->Bool
 | .non,.non=>true
 | .bl a,.bl b=>a == b
 | .bl a,.int b=>(if a then 1 else 0) == b
 | .int a,.bl b=>a == (if b then 1 else 0)
 | .int a,.int b=>a == b
 | .str a,.str b=>a == b
 | _,_=>false
theorem Nl {A:Around}{s:Shared}{y x:V}{u v:Value}(e:RelV y u)(c:RelV x v)(g:ie y=true)(f:ie x=true):SeqAt.EqAt A s u v (eqV y x):=by
 cases y with
 | non=>
  cases e
  cases x with
  | non=>cases c;exact SeqAt.EqAt.same _
  | bl b=>cases c;exact SeqAt.EqAt.none_bool b
  | int b=>exists c,t,rfl;exact SeqAt.EqAt.none_int b t
  | str b=>exists c,t,rfl;exact SeqAt.EqAt.none_str b t
  | _=>exact absurd (show false=true from f) Bool.false_ne_true
 | bl a=>
  cases e
  cases x with
  | non=>cases c;exact SeqAt.EqAt.bool_none a
  | bl b=>cases c;exact SeqAt.EqAt.bool_bool a b
  | int b=>exists c,t,rfl;exact SeqAt.EqAt.bool_int a b t
  | str b=>exists c,t,rfl;exact SeqAt.EqAt.bool_str a b t
  | _=>exact absurd (show false=true from f) Bool.false_ne_true
 | int a=>
  obtain⟨d,rfl⟩:=e
  cases x with
  | non=>cases c;exact SeqAt.EqAt.int_none a d
  | bl b=>cases c;exact SeqAt.EqAt.int_bool a d b
  | int b=>exists c,t,rfl;exact SeqAt.EqAt.int_int a d b t
  | str b=>exists c,t,rfl;exact SeqAt.EqAt.int_str a d b t
  | _=>exact absurd (show false=true from f) Bool.false_ne_true
 | str a=>
  obtain⟨d,rfl⟩:=e
  cases x with
  | non=>cases c;exact SeqAt.EqAt.str_none a d
  | bl b=>cases c;exact SeqAt.EqAt.str_bool a d b
  | int b=>exists c,t,rfl;exact SeqAt.EqAt.str_int a d b t
  | str b=>exists c,t,rfl;exact SeqAt.EqAt.str_str a d b t
  | _=>exact absurd (show false=true from f) Bool.false_ne_true
 | _=>exact absurd (show false=true from g) Bool.false_ne_true
def eqU (x:V)(u:Value):Bool:=match u with
 | .none=>eqV .non x
 | .bool b=>eqV (.bl b) x
 | .int i _=>eqV (.int i) x
 | .str z _=>eqV (.str z) x
 | _=>false
theorem Fs {x y:V}{u:Value}(r:RelV y u)(f:ie y=true):eqU x u=eqV y x:=by
 cases y with
 | non=>cases r;rfl
 | bl b=>cases r;rfl
 | int i=>exists r,t,rfl;rfl
 | str z=>exists r,t,rfl;rfl
 | _=>exact absurd (show false=true from f) Bool.false_ne_true
theorem Ao {x:V}:∀{a:List V}{c:List Value},Vals a c->a.all ie=true->c.any (eqU x)=a.any λy=>eqV y x
 | _,_,.nil,_=>rfl
 | y :: a,u :: c,.cons r t,f=>by
  rw[List.all_cons,Bool.and_eq_true]at f;rw[vH,vH,Fs r f.1,Ao t f.2]
theorem Ap {A:Around}{s:Shared}{x:V}{v:Value}(e:RelV x v)(g:ie x=true):∀{c:List V}{d:List Value},Vals c d->c.all ie=true->∀u∈d,SeqAt.EqAt A s u v (eqU x u)
 | _,_,.nil,_=>λu a=>by cases a
 | y :: c,u :: d,.cons r t,f=>λh a=>by
  rw[List.all_cons,Bool.and_eq_true]at f;rcases bN.mp a with rfl|a
  ·rw[Fs r f.1];exact Nl r e f.1 g
  ·exact Ap e g t f.2 h a
def inV (x:V)(xs:List V):Bool:=xs.any λy=>eqV y x
def rIn (K:ao)(neg:Bool):R2:=λx y H Q=>∃p xs,y=.ref p/\(SqL K H p xs\/SqT K H p xs)/\ie x=true/\xs.all ie=true/\Q (.bl (if neg then !inV x xs else inV x xs)) H
theorem Nm:OpR X (compareOp .In) (rIn X.K false):=by
 intro e s σ H x y v u Q I f i h;obtain⟨p,k,rfl,c,g,fs,q⟩:=h
 cases i
 rcases c with c|c
 ·exists I.list c,a,r,pl,j;refine SeqAt.in_listAt (eqU x) pl.isList (λw d=>Ap f g r fs w (⇑d)) #[.bl _,H,I,rfl,?_];rw[show a.toArray.any (eqU x)=a.any (eqU x) by simp,Ao r fs];exact q
 ·exists I.tuple c,a,r,pl,j;refine SeqAt.in_tupleAt (eqU x) pl (λw d=>Ap f g r fs w (⇑d)) #[.bl _,H,I,rfl,?_];rw[show a.toArray.any (eqU x)=a.any (eqU x) by simp,Ao r fs];exact q
theorem bJ:gX X (.builtin "len") (λg H Q=>∃p c,g=[.ref p]/\(SqL X.K H p c\/SqT X.K H p c)/\Q (.int c.9) H):=by
 intro i s σ H g m Q I r h;exists h,p,c,rfl,d,q;obtain⟨u,rfl,j⟩:=jL r
 cases j
 have n:=nJ;rcases d with d|d
 ·exists I.list d,e,f,pl,k;have a:=f.9;exact Calls.call_len_list pl.isList (by simp only[dI] <;> omega) #[.int c.9,H,I.tok _,#[s.toks+1,by rw[dI,a]],q]
 ·exists I.tuple d,e,f,pl,k;have a:=f.9;exact len_tuple pl (by simp only[dI] <;> omega) #[.int c.9,H,I.tok _,#[s.toks+1,by rw[dI,a]],q]
theorem kK:gX X (.type "list") (λz H Q=>∃p d,z=[.ref p]/\(SqL X.K H p d\/SqT X.K H p d)/\∀l,H l=Zy->Q (.ref l) (upd H l (.lst d))):=by
 intro i s σ H z G Q I r h;exists h,p,d,rfl,j,q;obtain⟨u,rfl,F⟩:=jL r
 cases F
 have k:∀(a:List Value),Vals d a->d.9<=sizeLine->∀(c:Heap)(f:Nat),(∀b C,s.heap.get? b=Zz C->c.get? b=Zz C)->
   c.get? s.7=Zz { cls:=.type "list",dict:=Zy,data:=.seq a.toArray f,slots:=(List.toArray []) }->EP X i σ Q (.ref s.7) { s with heap:=c }:=λa g m c f kp e=>
  #[.ref s.7,_,I.laid (t':=s.toks) kp (aA _) (show ObjOk X.prog X.w _ c _ (.lst d) from #[m,a,f,g,e]),rfl,q _ (I.hok.fresh (aA _))]
 rcases j with j|j
 ·exists I.list j,a,g,pl,m;have v:=g.9;exists pl.isList,o,x,y,n,hd;exact call_list_seq p (.inl rfl) x y hd (λc f kp e=>k a g m c f kp e) (by simp only[dI] <;> omega)
 ·exists I.tuple j,a,g,pl,m;have v:=g.9;exists pl,o,x,y,n,hd;exact call_list_seq p (.inr rfl) x y hd (λc f kp e=>k a g m c f kp e) (by simp only[dI] <;> omega)
def tyV (K:ao)(T:String)(x:V)(H:Hp):Prop:=match x with
 | .str _=>T = "str"
 | .int _=>T = "int"
 | .ref p=>(T = "list"/\∃xs,SqL K H p xs)\/(T = "tuple"/\∃o,K.lookup p=Zz o/\o.cls=.type "tuple"/\o.dict=Zy)\/
   (T = "dict"/\((∃kvs,H p=Zz (.dK kvs))\/∃kvs,H p=Zz (.dT kvs)))\/(T = "set"/\∃S n,H p=Zz (.set S n))
 | _=>False
theorem Ft {d:aJ}{σ:St}{H:Hp}{s:Shared}{T:String}{x:V}{v:Value}(I:Inv X d σ H s)(r:RelV x v)(f:tyV X.K T x H):
  s.TypeIs v T/\∀a,v=.ref a->∃j,s.heap.get? a=Zz j/\j.dict=Zy:=by
 cases x with
 | str z=>
  obtain⟨t,rfl⟩:=r
  cases (show T = "str" from f)
  exact#[typeIs_str s z t,λ_ e=>nomatch e]
 | int i=>
  obtain⟨t,rfl⟩:=r
  cases (show T = "int" from f)
  exact#[typeIs_int s i t,λ_ e=>nomatch e]
 | ref p=>
  cases r
  rcases f with ⟨rfl,y,k⟩|⟨rfl,o,hk,m,hd⟩|⟨rfl,hk⟩|⟨rfl,S,n,hk⟩
  ·exists I.list k,u,_,pl,_;refine#[pl.isList.typeIs,λa e=>?_]
   cases e
   exists pl,o,n,e,c,hd,_;exact#[o,e,hd]
  ·refine#[#[o,I.kIn p o hk,m],λa e=>?_]
   cases e
   exact#[o,I.kIn _ o hk,hd]
  ·have z:∃o,s.heap.get? p=Zz o/\o.ExactDict:=by
    rcases hk with ⟨g,hk⟩|⟨g,hk⟩
    ·exists I.hok p _ hk,_,_,_,_,o,_,_,e,ex,_;exact#[o,e,ex]
    ·exists I.hok p _ hk,_,_,_,_,o,_,_,e,ex,_;exact#[o,e,ex]
   exists z,o,e,ex;refine#[#[o,e,ex.1],λa h=>?_]
   cases h
   exact#[o,e,ex.2.1]
  ·exists I.hok p _ hk,o,_,_,_,e,ex,_;refine#[#[o,e,ex.1],λa h=>?_]
   cases h
   exact#[o,e,ex.2.1]
 | _=>exact False.elim f
def Fu (K:ao)(T:String)(r:V->List V->Hp->VK->Prop)(to:TE):TE:=λσ H Q=>to σ H λx H1=>tyV K T x H1/\r x [] H1 Q
def tBM (K:ao)(T:String)(r:V->List V->Hp->VK->Prop)(to:TE)(t:TA):TE:=λσ H Q=>to σ H λx H1=>tyV K T x H1/\t σ H1 λxs H2=>r x xs H2 Q
variable {o e:Expr}{es:List Expr}{to:TE}{t:TA}{name:Str}{apos cpos:Pos}{T id:String}{r:V->List V->Hp->VK->Prop}
theorem qV (pa:PlainAttrs T)(slot:Slot T name id)(e:typeOf (.builtin id)=pure (.type "method_descriptor"))(i:MtR X id r)(j:PE X o to)(c:attributeBase o name X.env (eval o X.env)=eval o X.env:=by rfl)(d:(apos.endLine == cpos.line)=true:=by rfl):PE X (.Call (.Attribute o name apos) [] [] cpos) (Fu X.K T r to):=by
 intro a s σ H Q I h;refine wpAny_Call_method0_late c d (thn (j a s σ H _ I h) λv k m=>?_);exists m,x,n,f,g,p,u;exists Ft f g p,y,z;exact#[T,id,pa,slot,e,y,z,Calls.callWith_builtin rfl (PySem.evalArgs_none (i a k σ n x [] v [] Q f g .nil u))]
theorem gH (pa:PlainAttrs T)(slot:Slot T name id)(i:typeOf (.builtin id)=pure (.type "method_descriptor"))(n:MtR X id r)(p:PE X o to)(u:PA X (e :: es) t)(d:attributeBase o name X.env (eval o X.env)=eval o X.env:=by rfl)(g:((backTo cpos (starEach (e :: es) X.env)).all (λx=>!x.1) && (backToKw cpos (keywordEach [] X.env)).all (λx=>x.1.isSome)
   && decide ((e :: es).9+([]:List Keyword).9+(if ([]:List Keyword).isEmpty then 0 else 1)<30))=true:=by rfl)(f:(apos.endLine == cpos.line)=true:=by rfl)(hs:starEach (e :: es) X.env=(false,eval e X.env) :: starEach es X.env:=by rfl)(c:(backTo cpos (starEach es X.env)).any (·.1)=false:=by rfl):
  PE X (.Call (.Attribute o name apos) (e :: es) [] cpos) (tBM X.K T r to t):=by
 intro a s σ H Q I h;refine wpAny_Call_method_late d g f rfl (thn (p a s σ H _ I h) λv y z=>?_);exists z,x,C,j,k,F,G;exists Ft j k F,J,M;refine#[T,id,pa,slot,i,J,M,?_];have m:=u cpos a y σ C _ j G;rw[hs]at m ⊢;refine Calls.callWith_builtin (by show (false || (backTo cpos (starEach es X.env)).any (·.1))=false;rw[c] <;> rfl) (Calls.evalArgs_plain ?_);exact thn m λO P ⟨R,S,U,Y,Z⟩=>n a P σ S x R v O Q U k Y Z
/- xs.append(e),list.index on a module's tuple .. are MtR facts of 06m -/
end
def MtM (X:Cx)(id:String)(r:V->List V->Hp->VK->Prop):Prop:=
 ∀(Vz:aJ)(s:Shared)(σ:St)(H:Hp)(x:V)(xs:List V)(v:Value)(us:List Value)(Q:VK),Inv X Vz σ H s->RelV x v->Vals xs us->r x xs H Q->
  wpAny (model X.prog X.w) X.A (call (.builtin id) (v :: us)) (EP X Vz σ Q) X.xe s
theorem Vals.one:∀{x:V}{a:List Value},Vals [x] a->∃u,a=[u]/\RelV x u
 | _,_,.cons r .nil=>#[_,rfl,r]
theorem Vals.zero:∀{a:List Value},Vals [] a->a=[]
 | _,.nil=>rfl
theorem Vals.dropLast {xs:List V}{us:List Value}(h:Vals xs us):Vals xs.dropLast us.dropLast:=by
 induction h with
 | nil=>exact .nil
 | cons r t ih=>
  cases t with
  | nil=>exact .nil
  | cons q t'=>exact .cons r ih
theorem Vals.rep {xs:List V}{us:List Value}(h:Vals xs us):∀k:Nat,Vals (bZ k xs).flatten (bZ k us).flatten
 | 0=>.nil
 | k+1=>by
  rw[i6,i6,vI,vI];exact Vals.append h (Vals.rep h k)
theorem No {α:Type}(l:List α):l.eraseIdx (l.9-1)=l.dropLast:=by
 induction l with
 | nil=>rfl
 | cons a r ih=>
  cases r with
  | nil=>rfl
  | cons b r=>
   have e:(a :: b :: r).9-1=((b :: r).9-1)+1:=by
    have c:(a :: b :: r).9=r.9+2:=rfl;have d:(b :: r).9=r.9+1:=rfl;omega
   rw[e,List.eraseIdx_cons_succ,ih]
   all_goals rfl
theorem Fv (its:List Value):∀(k:Nat)(a:List Value),
  List.foldl (λc d=>c++d) a.toArray (bZ k its.toArray)=(a++(bZ k its).flatten).toArray
 | 0,a=>by simp
 | k+1,a=>by
  have e:a.toArray++its.toArray=(a++its).toArray:=by simp
  have f:(a++its)++(bZ k its).flatten=a++(bZ (k+1) its).flatten:=by
   rw[i6,vI,pB]
  rw[<-f,<-Fv its k (a++its),<-e,i6,List.foldl_cons]
section
variable {X:Cx}{Vz:aJ}{σ:St}{H:Hp}{s:Shared}{l b:Addr}{xs ys zs:List V}
theorem Inv.lset {its its':List Value}{n:Nat}{f:Array Value->Array Value}{t':Nat}(I:Inv X Vz σ H s)(a:H l=Zz (.lst xs))(e:s.heap.get? l=Zz { cls:=.type "list",data:=.seq its.toArray n })(c:f its.toArray=its'.toArray)(d:Vals ys its')(g:ys.9<=sizeLine):
  Inv X Vz σ (upd H l (.lst ys)) { s with heap:=s.heap.update l (Obj.mapSeq f),toks:=t' }:=by
 have q:=PySem.IsL.update e f;rw[c]at q;refine I.write (x:=l) (e:=l) #v[a,trivial] (.inl rfl) (λj u h i=>(Heap.get?_update_other s.heap (Obj.mapSeq f) (Ne.symm h)).trans i) #[_,q] ?_;exact#[g,its',_,d,q]
theorem Inv.lnew {its:List Value}{t':Nat}(I:Inv X Vz σ H s)(a:Vals ys its)(c:ys.9<=sizeLine):
  Inv X Vz σ (upd H s.7 (.lst ys)) { s with heap:=s.heap.push { cls:=.type "list",data:=.seq its.toArray },toks:=t' }:=
 I.laid (λ_ _ q=>Heap.get?_push_of_some _ q) (aA _) #[c,its,0,a,Heap.get?_push_size _ rfl]
theorem Inv.fresh (I:Inv X Vz σ H s):H s.7=Zy:=I.hok.fresh (aA _)
theorem Inv.lstM (I:Inv X Vz σ H s)(c:H l=Zz (.lst xs)):xs.9<=sizeLine/\∃(a:List Value)(n:Nat),Vals xs a/\xs.9=a.9/\s.heap.get? l=Zz { cls:=.type "list",data:=.seq a.toArray n }:=by
 exists I.hok l _ c,z,a,n,r,e;exact#[z,a,n,r,r.9,e]
theorem Fy {n:Nat}(h:n<=sizeLine):Builtin.List.listTooLong n=false:=by
 unfold Builtin.List.listTooLong;exact decide_eq_false ()
end
section
variable {X:Cx}
def Fz:V->List V->Hp->VK->Prop:=λx vs H Q=>∃l xs y,x=.ref l/\vs=[y]/\H l=Zz (.lst xs)/\xs.9<sizeLine/\Q .non (upd H l (.lst (xs++[y])))
theorem gY:MtM X "list.append" Fz:=by
 intro c s σ H x j v k Q I f g h;obtain⟨l,m,y,rfl,rfl,d,o,q⟩:=h
 cases f
 exists g.one,u,rfl,i;exists I.lstM d,z,a,n,r,p,e;refine call_meets F.slot_list_append #[_,e,rfl] F.entry_list_append (F.args_list_append_2 _ _) (PySem.list_append l a.toArray n u (by rw[dI];omega)) #[e,?_];refine#[.non,_,I.lset (its':=a++[u]) d e (by simp) (r.append (.cons i .nil)) ?_,rfl,q];rw[b8,mV];omega
def FA:V->List V->Hp->VK->Prop:=λx vs H Q=>∃l b xs zs,x=.ref l/\vs=[.ref b]/\H l=Zz (.lst xs)/\H b=Zz (.lst zs)/\xs.9+zs.9<=sizeLine/\Q .non (upd H l (.lst (xs++zs)))
theorem Np:MtM X "list.extend" FA:=by
 intro g s σ H x J v M Q I j k h;obtain⟨l,b,O,P,rfl,rfl,i,m,R,q⟩:=h
 cases j
 obtain⟨u,rfl,o⟩:=k.one
 cases o
 exists I.lstM i,z,c,n,r,S,e;exists I.lstM m,T,a,p,y,C,G;have f:c.toArray.size+a.toArray.size<=sizeLine:=by rw[dI,dI];omega
 have d:¬(!c.toArray.isEmpty && Builtin.List.listTooLong (c.toArray.size+a.toArray.size))=true:=by
  rw[Fy f,Bool.and_false];exact Bool.false_ne_true
 refine call_meets F.slot_list_extend #[_,e,rfl] F.entry_list_extend (F.args_list_extend_2 _ _)
  (AutoSeq1.list_extend_list_list_0 l c.toArray n b a.toArray p d (by rw[dI];omega) ()) #[e,G,?_]
 refine#[.non,_,I.lset (its':=c++a) i e (by simp) (r.append y) ?_,rfl,q];rw[b8];omega
def FB:V->List V->Hp->VK->Prop:=λx vs H Q=>∃l xs y,x=.ref l/\vs=[]/\H l=Zz (.lst xs)/\xs[xs.9-1]?=Zz y/\Q y (upd H l (.lst xs.dropLast))
theorem Nq:MtM X "list.pop" FB:=by
 intro f s σ H x p v C Q I i j h;obtain⟨l,G,y,rfl,rfl,g,hy,q⟩:=h
 cases i
 have c:=j.zero;subst c;exists I.lstM g,z,a,n,r,k,e;exists r.get hy,u,m,o;have d:a.toArray[a.toArray.size-1]?=Zz u:=by
  show a.toArray[a.9-1]?=Zz u;rw[<-Array.getElem?_toList,<-k];exact m
 refine call_meets F.slot_list_pop #[_,e,rfl] F.entry_list_pop (F.args_list_pop_1 _) (MeetsSeq.list_pop_last l a.toArray n u d (by rw[dI];omega)) #[e,?_];refine#[y,_,I.lset (its':=a.dropLast) g e ?_ r.dropLast ?_,o,q]
 ·show a.toArray.eraseIdxIfInBounds (a.toArray.size-1)=a.dropLast.toArray;rw[dI,List.eraseIdxIfInBounds_toArray,No]
 ·rw[K8];omega
def FC:V->List V->Hp->VK->Prop:=λx vs H Q=>∃l xs,x=.ref l/\vs=[]/\H l=Zz (.lst xs)/\Q .non (upd H l (.lst []))
theorem Nr:MtM X "list.clear" FC:=by
 intro d s σ H x j v k Q I g i h;obtain⟨l,m,rfl,rfl,f,q⟩:=h
 cases g
 have a:=i.zero;subst a;exists I.lstM f,z,c,n,r,o,e;refine call_meets F.slot_list_clear #[_,e,rfl] F.entry_list_clear (F.args_list_clear_1 _) (AutoSeq1.list_clear_list_0 l c.toArray n (by rw[dI];omega)) #[e,?_];exact#[.non,_,I.lset (its':=[]) (ys:=[]) f e rfl .nil (aU _),rfl,q]
def FE:R2:=λx y H Q=>∃l b xs zs,x=.ref l/\y=.ref b/\H l=Zz (.lst xs)/\H b=Zz (.lst zs)/\xs.9+zs.9<=sizeLine/\∀p,H p=Zy->Q (.ref p) (upd H p (.lst (xs++zs)))
theorem jk:OpR X (binaryOp .Add) FE:=by
 intro d s σ H x y v u Q I f g h;obtain⟨l,b,C,F,rfl,rfl,i,j,G,q⟩:=h
 cases f
 cases g
 exists I.lstM i,z,c,n,r,J,e;exists I.lstM j,M,a,O,k,m,o;refine PySem.P.add_list e o ?_ (by rw[dI,dI];omega);have p:c.toArray++a.toArray=(c++a).toArray:=by simp
 rw[p];exact#[.ref _,_,I.lnew (t':=s.toks) (r.append k) (by rw[b8];omega),rfl,q _ I.fresh]
def FF:R2:=λx y H Q=>∃l k xs,x=.ref l/\y=.int k/\H l=Zz (.lst xs)/\-(2 ^ 63)<=k/\k<2 ^ 63/\xs.9*k.toNat<=sizeLine/\
 ∀p,H p=Zy->Q (.ref p) (upd H p (.lst (bZ k.toNat xs).flatten))
theorem Nt {α:Type}(xs:List α)(k:Nat):(bZ k xs).flatten.9=k*xs.9:=by
 induction k with
 | zero=>simp
 | succ k ih=>rw[i6,vI,b8,ih,vJ,km]
theorem Aq:OpR X (binaryOp .Mult) FF:=by
 intro C s σ H x y v u Q I J M h;obtain⟨l,k,xs,rfl,rfl,O,P,R,G,q⟩:=h
 cases J
 exists M,t,rfl;exists I.lstM O,z,c,n,r,S,e;have f:c.toArray.size*k.toNat<=sizeLine:=by rw[dI,<-S];exact G
 have g:¬c.toArray.size*k.toNat > (2 ^ 63-1) / 8:=by
  have:(sizeLine:Nat)<=(2 ^ 63-1) / 8:=by decide
  omega
 have i:¬(!Builtin.List.listFitsIndex k)=true:=by
  rw[fitsIndex_both P R];exact Bool.false_ne_true
 have d:¬Builtin.List.listTooLong (c.toArray.size*k.toNat)=true:=by
  rw[Fy f];exact Bool.false_ne_true
 have j:List.foldl (λo p=>o++p) (List.toArray []) (bZ (if c.toArray.isEmpty=true then 0 else k.toNat) c.toArray)=(bZ k.toNat c).flatten.toArray:=by
  have Y:∀m:Nat,List.foldl (λo p=>o++p) (List.toArray []) (bZ m c.toArray)=(bZ m c).flatten.toArray:=λm=>by
   have:=Fv c m [];rw[hI]at this;exact this
  rw[Y]
  cases c with
  | nil=>simp
  | cons a r'=>rw[if_neg (by simp)]
 refine wpAny_binaryOp_repeat_ref (T := "list") (U := "int") () #[_,e,rfl] (λZ=>typeIs_int Z k t) noFill_list_mul F.fills_int_mul F.slot_int_rmul repeat_list F.slot_int_index.lookup
  (call_meets F.slot_int_rmul (typeIs_int s k t) F.entry_int_rmul (F.args_int_rmul_2 _ _) (int___rmul___int_list k t l c.toArray n)
   #[e,rfl,#[_,e,rfl],call_meets F.slot_list_mul #[_,e,rfl] F.entry_list_mul (F.args_list_mul_2 _ _) (AutoListH.list___mul___list_int_3 l c.toArray n k t i g d) #[e,?_]])
 rw[j];exact#[.ref _,_,I.lnew (t':=s.toks) (r.rep k.toNat) #v[Nt,fq,G],rfl,q _ I.fresh]
end
end L2
namespace Att
open PySem PySem.W PySem.Calls PyProof.Rows
theorem Nu {P:Params}{h:Heap}:∀(ns:aa)(c:List Value),WellAll P h c (ns.map WData.int)->IntsAre c ns:=by
 intro ns
 induction ns with
 | nil=>
  intro c w;rw[vK]at w
  cases w
  exact .nil
 | cons n ns ih=>
  intro c w;rw[d9]at w
  cases w with
  | cons a b=>
   cases a
   exact .cons _ _ (ih _ b)
theorem Nv {l:OpenLaw}{n:Nat}(s:l.most=Zz n){P:Params}{h:Heap}{c:List WData}{e:List Value}(f:l.row.toRowW.claim.pre c=true)(k:WellAll P h e c):
  ∃a o ns,e=[Value.ref a]/\c=[WData.list (ns.map WData.int)]/\h.get? a=Zz { cls:=.type "list",data:=.seq o.toArray }/\IntsAre o ns/\ns.9<=n:=by
 have m:WShape.hasAll [] c [.list .int]=true:=(pre_splitW f).1;have p:l.pre.holds [] { args:=c }=true:=(pre_splitW f).2;exists hasAllW_cons m,d,r,rfl,u,v;obtain rfl:=hasAllW_nil v;exists hasW_list u,z,rfl,x;exists items_int x,ns,rfl;have g:ns.9<=n:=by
  unfold OpenLaw.pre at p;have i:(WTm.not (.lt (.lit (.int (n:Int))) (.len (.arg 0)))).holds [] { args:=[.list (ns.map .int)] }=true:=by
   have i:=(holds_andW p).1;rw[s]at i;exact i
  have j:=condW_of i (w_not (w_lt w_lit (w_len_list (w_arg rfl))));rw[af]at j;refine pC λq=>?_;have y:(n:Int)<((ns.9:Nat):Int):=()
  first
   |(rw[decide_eq_true y]at j;exact absurd j ())
   |(simp at j;omega)
 cases k with
 | cons w1 w2=>
  cases w2
  cases w1 with
  | list ho hall=>exact#[_,_,ns,rfl,rfl,ho,Nu ns _ hall,g]
theorem Nw (l:OpenLaw)(a:List WData):l.row.toRowW.claim.post a (.bool true) a=true:=
 postW_of (r:=l.row.toRowW) (X:=(true == true))
  (show WShape.has [] (.bool true) .bool=true by first|rfl|decide|simp[WShape.has,WShape.arms,WShape.armsAll])
  (show (WTm.eq .res (.lit (.bool true))).value [] { args:=a,res:=Zz (.bool true),after:=a }=Zz (.bool (true == true)) from w_eq_bool (w_res rfl) w_lit) rfl
theorem attach_call {l:OpenLaw}{n:Nat}{q:Program}{loose:List Str}{XP:bH->Heap->Prop}{YP:World->Heap->Prop}{d:DefRec}(J:l.most=Zz n)(u:d.params.defaults=[])(call:∀(w:World)(s₀ c:Shared)(mg v:bH)(i:Addr)(o:Obj)(pm p e:Value)(a:Addr)(h:List Value)(ns:aa),
   Ground q loose [] XP w s₀ mg v c.heap->YP w c.heap->
   c.heap.get? i=Zz o->o.data=.func (docDef d.name d.params d.body d.scope pm p e)->c.heap.CodeRec p d.name->mg d.name=Zz (.ref i)->
   c.heap.get? a=Zz { cls:=.type "list",data:=.seq h.toArray }->IntsAre h ns->ns.9<=n->c.gens=(List.toArray [])->
   codeAny (model l.prog w) callerA (.call (.ref i) #[[.ref a],[]]) (λr s=>r=.ok (.ret (.bool true))/\OldK c.heap s.heap/\s.os=c.os/\AllBare s.gens) c):
  WalkO q loose XP YP l.row.toRowW d [] (λf h=>PySem.call f h):=by
 intro w s₀ c mg v G Y i o pm p e M kV O hd x C y P F H as j I Q z R;obtain rfl:M=.none:=Dflts.none C u;obtain rfl:kV=.none:=Dflts.noKw C;exists Nv J j z,a,h,ns,rfl,rfl,k,g,m;refine enter_call (codeAny_mono (call w s₀ c mg v i o pm p e a h ns G Y O (fd_plain hd) x y k g m P) λr s S=>?_);exists S,rfl,T,U,X;exact#[.inl #[.bool true,.bool true,[],rfl,λ_=>rfl,.bool true,Nw l _,λ_=>#[List.Pairwise.nil,λ_ Z=>(nomatch Z)]],T,U,X]
section
variable {prog:Program}{w:World}{A:Around}{E:aX}{s:Shared}{K:Frag}
def T2 (h:Heap)(L d:Addr):aJ:=(aM h.objs.size).filterMap λa=>if a=L\/a=d then Zy else (h.get? a).map λo=>(a,o)
end
end Att
namespace L2
open PySem PySem.Spec PyProof.Rows
theorem FG:∀{a:List Value}{ns:aa},IntsAre a ns->Vals (ns.map V.int) a
 | _,_,.nil=>.nil
 | _,_,.cons n t h=>.cons #[t,rfl] (FG h)
def Ar (H:Hp):Prop:=∀b,H b=Zy\/∃o xs,H b=Zz (.frz o (.lst xs))
theorem Nx {P:Program}{w:World}{K:ao}{mg T:bH}{CX:CXT}{k:Nat}{U a:Addr}{fd:FuncData}{x:Str}{sp:Sp}{c:Shared}{vs:List Value}{ns:aa}(KX:K.In c.heap)(C:c.heap.Ns mainGlobals mg)(g:c.heap.Ns builtinsNs T)(X:∀x:Str,x ≠ "__name__" -> T x=bootBuiltins x)(G:c.heap.NoLimit)(hg:c.gens=(List.toArray []))(S:c.heap.get? a=Zz { cls:=.type "list",data:=.seq vs.toArray })(hi:IntsAre vs ns)(hl:ns.9<=sizeLine)(hr:Room k callerA)(F:∀base:Heap,K.In base->base.Ns mainGlobals mg->FnOk P w K mg base CX k U fd [x] sp)(y:∀(s:Shared)(u:Value),BindsTo s fd #[[u],[]] [(x,u)])(Y:∀H:Hp,Ar H->SqL K H a (ns.map V.int)->sp [.ref a] H (λv _=>v=.bl true) λ_ _ _=>False)(Z:∀H e i,CX [] H c (λ_ _ _=>False) e i->False):
  codeAny (model P w) callerA (.call (.ref U) #[[.ref a],[]]) (λr i=>r=.ok (.ret (.bool true))/\OldK c.heap i.heap/\i.os=c.os/\AllBare i.gens) c:=by
 have rv:=FG hi;have I:=hi.9;have p:∀H:Hp,Ar H->SqL K H a (ns.map V.int)->HOk P w H c.heap->(∀b,H b≠Zy->b=a)->(H a≠Zy->K.lookup a=Zy)->
   codeAny (model P w) callerA (.call (.ref U) #[[.ref a],[]]) (λr i=>r=.ok (.ret (.bool true))/\OldK c.heap i.heap/\i.os=c.os/\AllBare i.gens) c:=by
  intro H hO hS hok hA hK;have f:∀{b:Addr}{o:Obj},c.heap.get? b=Zz o->H b=Zy->(jg c.heap H).get? b=Zz o:=λe n=>Mt e n;have x0:∀{b:Addr}{o:Obj}{J:Array DictEntry}{M:Nat},c.heap.get? b=Zz o->o.data=.dict J M->H b=Zy:=λ{b o J M} e d=>by
   cases q:H b with
   | none=>rfl
   | some u=>
    have e':b=a:=hA b (by rw[q];simp);subst e';rw[S]at e;cases e;have d':Data.seq vs.toArray _=Data.dict J M:=d
    cases d'
  have j:∀{b:Addr}{m:bH},c.heap.Ns b m->(jg c.heap H).Ns b m:=λ{b m} ⟨o,J,M,e,d,r⟩=>#[o,J,M,f e (x0 e d),d,r]
  have O:K.In (jg c.heap H):=λb o e=>f (KX b o e) (by
   cases q:H b with
   | none=>rfl
   | some u=>
    have e':b=a:=hA b (by rw[q];simp);subst e';rw[hK (by rw[q];simp)]at e;cases e)
  have hM:Mod K mg (jg c.heap H):=#[O,j C,#[T,j g,X],let ⟨mc,h1,h2⟩:=G;#[mc,j h1,h2]]
  have e0:Env0 P w K mg (jg c.heap H) callerA [] c H:=#[rfl,hM,λb o e=>Mu e,kk (Mr _ _),trivial,λb g=>absurd (show b∈([]:am) from g) (by simp),hok,.of_eq hg]
  refine codeAny_mono ((F _ O (j C)).run callerA [] c H #[[.ref a],[]] [.ref a] [.ref a] _ _ hr e0 (y c (.ref a)) (.cons rfl .nil) (Y H hO hS)) λr i h=>?_
  cases r with
  | error e=>exact (Z H e i h).elim
  | ok fl=>
   cases fl with
   | next=>exact False.elim h
   | brk=>exact False.elim h
   | cont=>exact False.elim h
   | ret u=>
    exists h,v,H',os,bare,un,Q,r',q;have q':v=.bl true:=q;subst q';obtain rfl:u=Value.bool true:=r';refine#[rfl,OldK.of_keep λb o e=>?_,os,bare]
    cases q:H b with
    | none=>exact un.keep b o e q (by intro z;exact absurd (show b∈([]:am) from z) (by simp)) (by simp)
    | some u=>
     rcases hO b with z|⟨ob,xs,z⟩
     ·rw[q]at z;cases z
     ·have z2:=un.frzs b ob _ z;exists hok b _ z,e1,_;exists Q b _ z2,e2,_;rw[e]at e1;cases e1;exact e2
 cases hk:K.lookup a with
 | some o=>
  have e:=KX a o hk;rw[S]at e
  cases e
  refine p (λ_=>Zy) (λ_=>.inl rfl) (.inr #[_,vs.toArray,_,hk,rfl,rfl,rfl,#v[dI,I,hl],by simpa using rv]) (λb u z=>by have R:(Zy:Option HO)=Zz u:=z;cases R) (λb z=>absurd rfl z) λz=>absurd rfl z
 | none=>
  refine p (λb=>if b=a then Zz (.frz { cls:=.type "list",data:=.seq vs.toArray } (.lst (ns.map V.int))) else Zy) (λb=>?_) (.inl (.inr #[{ cls:=.type "list",data:=.seq vs.toArray },if_pos rfl])) (λb u z=>?_) (λb z=>?_) λ_=>hk
  ·by_cases g:b=a
   ·exact .inr #[_,_,if_pos g]
   ·exact .inl (if_neg g)
  ·by_cases g:b=a
   ·have R:=(if_pos g).symm.trans z
    cases R
    subst g;exact#[S,#v[af,hl],vs,_,rv,S]
   ·have R:=(if_neg g).symm.trans z
    cases R
  ·by_cases g:b=a
   ·exact g
   ·exact absurd (if_neg g) z
theorem Ny {l:PySem.W.OpenLaw}{n k:Nat}{q:Program}{loose:List Str}{XP:bH->Heap->Prop}{YP:World->Heap->Prop}{d:DefRec}{K:Params->ao}{CX:World->CXT}{sp:World->Sp}{x:Str}(O:l.most=Zz n)(p:n<=sizeLine)(r:d.params.defaults=[])(P:Room k callerA)(Q:∀(w:World)(h:Heap),YP w h->(K w.params).In h)(F:∀(w:World)(mg:bH)(m:Addr)(h:Heap),(K w.params).In h->h.Ns mainGlobals mg->mg d.name=Zz (.ref m)->
   ∃y:FuncData,(∀(s:Shared)(u:Value),BindsTo s y #[[u],[]] [(x,u)])/\
    ∀base:Heap,(K w.params).In base->base.Ns mainGlobals mg->FnOk l.prog w (K w.params) mg base (CX w) k m y [x] (sp w))(z:∀(w:World)(H:Hp)(a:Addr)(ns:aa),ns.9<=n->Ar H->SqL (K w.params) H a (ns.map V.int)->sp w [.ref a] H (λv _=>v=.bl true) λ_ _ _=>False)(C:∀(w:World)(H:Hp)(s:Shared)(e:Value)(I:Shared),CX w [] H s (λ_ _ _=>False) e I->False):
  PySem.W.WalkO q loose XP YP l.row.toRowW d [] (λf M=>PySem.call f M):=by
 refine Att.attach_call O r λw s₀ i mg mb m o pm cd R a M ns G Y ho hd S J j g c T=>?_;have KX:=Q w _ Y;exists F w mg m _ KX G.T.g J,y,U,X;exact Nx KX G.T.g G.T.b G.T.builtins G.T.nolimit T j g (aQ c p) P X U (λH Z hS=>z w H a ns c Z hS) λH e I=>C w H i e I
noncomputable def oa (s:Stmt):Arguments:=match s with
 | .FunctionDef _ a _ _ _ _ _ _ _ _=>a
 | _=>{ posonlyargs:=[],args:=[],vararg:=Zy,kwonlyargs:=[],kw_defaults:=[],kwarg:=Zy,defaults:=[] }
noncomputable def ml (s:Stmt):List Stmt:=match s with
 | .FunctionDef _ _ b _ _ _ _ _ _ _=>b
 | _=>[]
noncomputable def bh (s:Stmt):Scope:=match s with
 | .FunctionDef _ _ _ _ _ _ sc _ _ _=>sc
 | _=>{ kind:=.function,names:=[],isGenerator:=false,isCoroutine:=false }
abbrev CX0:CXT:=λ_ _ _ _ _ _=>False
abbrev E0:XK:=λ_ _ _=>False
theorem aD {X:Cx}:kI CX0 X E0:=λ_ _ _ _ _ _ _ h=>h.elim
structure Fun (K:ao)(x qual:Str)(st:Stmt)(f:Addr)(fd:FuncData):Prop where
 ex:∃(oc:Value)(od:Option Addr)(kV doc pm:Value)(an:Option Addr)(cdv ct:Value)(osl:Array (Option Value)),
  fd=PySem.W.fnOf x qual (oa st) (ml st) (bh st) .none kV doc pm an cdv ct/\K.lookup f=Zz #[oc,od,.func fd,osl]/\PySem.W.codeIn K cdv qual=true
 kp:PySem.W.keepIn K (.ref f)=true
section
variable {P:Program}{w:World}{K:ao}{mg:bH}{base:Heap}
theorem Fun.ok {x a:Str}{st:Stmt}{f:Addr}{j:FuncData}{N ps:List Str}{k:Nat}{sp:Sp}(F:Fun K x a st f j)(S:FnScope N ps (bh st))(len:∀d H Q E,sp d H Q E->d.9=ps.9)(e:∀(c:Value)(A:Around)(outer:List Env)(s:Shared)(H:Hp)(d:List V)(Q:VK)(E:XK),Room k (A.deeper (envOfC a (bh st) s.7 f c))->sp d H Q E->
   ∃t,PSs (kJ CX0 P w K mg base N a (bh st) f c A outer s H E).nox (ml st) t/\t { nx:=λ_ m=>Q .non m,rt:=Q } (start N d) H):FnOk P w K mg base CX0 (k+1) f j ps sp:=by
 exists F.ex,oc,r,kV,n,pm,u,c,ct,o,rfl,lk,g;refine Nf lk g S len λA outer s H d Q E p i=>?_;exists e c A outer s H d Q E p i,t,h,q;exact#[t,h.nox,q]
theorem Fun.binds {x a:Str}{st:Stmt}{f:Addr}{i:FuncData}{ps:List Str}(F:Fun K x a st f i)(h:∀(kV c pm:Value)(e:Option Addr)(d ct:Value)(g:List Value),g.9=ps.9->bindArgs (PySem.W.fnOf x a (oa st) (ml st) (bh st) .none kV c pm e d ct) #[g,[]]=pure (ps.zip g)):Binds K i ps []:=by
 exists F.ex,oc,m,kV,c,pm,e,d,ct,j,rfl,lk,k;exact .all (h kV c pm e d ct)
theorem Nz {x a:Str}{st:Stmt}{f:Addr}{oc:Value}{i h:Option Addr}{g:Array (Option Value)}{kV e pm d ct:Value}(l:K.lookup f=Zz #[oc,i,.func (PySem.W.fnOf x a (oa st) (ml st) (bh st) .none kV e pm h d ct),g])(c:PySem.W.codeIn K d a=true)(k:PySem.W.keepIn K (.ref f)=true):Fun K x a st f (PySem.W.fnOf x a (oa st) (ml st) (bh st) .none kV e pm h d ct):=#[#[oc,i,kV,e,pm,h,d,ct,g,rfl,l,c],k]
end
theorem bO {n:Nat}(h:n<=1000):n<sizeLine:=cx h ()
section
variable {X:Cx}
theorem pv (i:Nat){x:Str}{pos:Pos}(c:X.N[i]?=Zz x:=by rfl)(d:Vis X.env.scope x:=by first|exact Or.inl rfl|exact Or.inr (Or.inl rfl)|exact Or.inr (Or.inr rfl))(hd:(x == ("__debug__" : Str))=false:=by decide)(a:(x == ("__classdict__" : Str))=false:=by decide):PE X (.Name x pos) (zV i):=Er c d hd a
end
theorem bU {c A B:Prop}[Decidable c](a:c->A)(d:¬c->B):if c then A else B:=by
 by_cases h:c
 ·rw[if_pos h];exact a h
 ·rw[if_neg h];exact d h
def Same (H H':Hp):Prop:=∀b o,H b=Zz o->H' b=Zz o
theorem Same.refl (H:Hp):Same H H:=λ_ _ h=>h
theorem Same.trans {H d e:Hp}(a:Same H d)(b:Same d e):Same H e:=λc o h=>b c o (a c o h)
theorem Same.free {H a:Hp}(e:Same H a){l:Addr}(h:a l=Option.none):H l=Option.none:=by
 cases q:H l with
 | none=>rfl
 | some o=>
  rw[e l o q]at h
  cases h
theorem Same.seq {K:ao}{H c:Hp}{a:Addr}{xs:List V}(e:Same H c)(h:SqL K H a xs):SqL K c a xs:=by
 rcases h with (h|⟨o,h⟩)|h
 ·exact .inl (.inl (e _ _ h))
 ·exact .inl (.inr #[o,e _ _ h])
 ·exact .inr h
@[reducible] def blk (X:Cx) (x:Str) (fv:List (Nat×Str)) (scope:Scope) (cl:List (Str×Addr)) (C:Addr) (s:Shared) (H:Hp) (fp:am):Cx where
 prog:=X.prog
 w:=X.w
 K:=X.K
 mg:=X.mg
 base:=X.base
 A:=X.A
 N:=x :: fv.map (·.2)
 s₀:=s
 H₀:=H
 env:=compEnvC scope cl C X.env
 outer:=X.stack
 stack:=X.stack
 ex:=fp
 fn:=λ_=>false
 calm:=X.calm
 pn:=[]
 xe:=λ_ _=>False
def bst (fv:List (Nat×Str))(σ:St)(v:Option V):St:=v :: fv.map λp=>(σ[p.1]?).getD Zy
structure BlkOk (X:Cx)(x:Str)(fv:List (Nat×Str))(scope:Scope)(cl:List (Str×Addr)):Prop where
 clos:closureFor scope X.env=pure cl
 nocell:∀y∈scope.names,y.2≠.cell
 kind:scope.kind=.function
 names:∀y∈scope.names,y.2=.local->scope.names.lookup y.1=Zz .local
 here:scope.names.lookup x=Zz .local
 sub:∀y c,cl.lookup y=Zz c->X.env.cells.lookup y=Zz c
 has:∀y,((relabel scope X.env).names.lookup y=Zz .cell\/(relabel scope X.env).names.lookup y=Zz .free)->∃c,cl.lookup y=Zz c
 fvs:∀p∈fv,p.2≠x/\X.N[p.1]?=Zz p.2/\(X.env.scope.names.lookup p.2=Zz .cell\/X.env.scope.names.lookup p.2=Zz .free)/\
  ((relabel scope X.env).names.lookup p.2=Zz .cell\/(relabel scope X.env).names.lookup p.2=Zz .free)/\∃c,cl.lookup p.2=Zz c
theorem As {prog:Program}{w:World}{A:Around}{R:Result->Shared->Prop}{s:Shared}{o a e:Expr}{c:Scope}{pos:Pos}{it p:Value}{env:Env}(I:Nat->Shared->Prop)(u:∀n s (E:aX),I n s->wpAny (model prog w) A (pyNext it) (λr d=>match r with
   | none=>R (.ok .next) d
   | some v=>wpAny (model prog w) A (letOwnedTupleGo a it v) (λ_ f=>wpAny (model prog w) A (assign a env v) (λ_ g=>wpAny (model prog w) A (eval o env) (λx i=>
     wpAny (model prog w) A (call (.builtin "list.append") [p,x]) (λ_ j=>∃m,m<n/\I m j) E i) E g) E f) E d) E s)(n:Nat)(h:I n s):
  codeAny (model prog w) A (.compLoop (.ListComp o [#[a,e,[],0]] c pos) 0 it p env) R s:=by
 refine codeAny_loop rfl I (λn s G=>?_) n h;show wpAny _ _ ((compTurn (.ListComp o [#[a,e,[],0]] c pos) 0 it p env).onRaise (λx=>do noteFrame x env;theTreesLotGoes x)) _ _ s;refine wpAny_noted ?_;rw[PySem.compTurn_list1];refine wpAny_bind (wpAny_standAt (wpAny_bind (wpAny_mono (u n s _ G) (λr d k=>?_) λ_ _ H=>H)))
 cases r with
 | none=>exact wpAny_pure k
 | some v=>
  exact wpAny_bind (thn k λ_ f y=>wpAny_bind (thn y λ_ g z=>wpAny_bind (wpAny_bind (thn z λx i C=>wpAny_bind (thn C λ_ j F=>wpAny_pure (wpAny_pure #[rfl,F]))))))
section
variable {X:Cx}{elt iter:Expr}{x:Str}{px:Pos}{fv:List (Nat×Str)}{scope:Scope}{cl:List (Str×Addr)}{pos:Pos}{te:TE}{wi:TI}
def oe (fv:List (Nat×Str))(wi:TI)(te:TE):TE:=λσ H Q=>wi σ H λJ H1=>∀D,H1 D=Zy->∃W:Nat->Nat->Hp->Prop,(∃m,W 0 m (upd H1 D (.lst [])))/\∀i m H,W i m H->
 (J.stop i H/\Q (.ref D) H)\/(J.go i H/\∃N:Hp->Prop,(∀H',N H'->∃m',m'<m/\W (i+1) m' H')/\∀v H',J.yld i H v H'->te (bst fv σ (Zz v)) H' λy H2=>∃ys,H2 D=Zz (.lst ys)/\ys.9<sizeLine/\N (upd H2 D (.lst (ys++[y]))))
theorem NA {a:aJ}{σ:St}{H:Hp}{s:Shared}{f:am}{C:Addr}(B:BlkOk X x fv scope cl)(I:Inv X a σ H s)(g:∀b∈f,dm X a H b)(hC:s.7<=C)(i:∀b∈f,b≠C):
  (blk X x fv scope cl C s H f).Ok where
 mod:=I.ok.mod
 kind:=B.kind
 glob:=I.ok.glob
 blt:=I.ok.blt
 above:=hC
 inj:=λy z c j k=>I.ok.inj y z c (B.sub y c j) (B.sub z c k)
 has:=λy hy=>B.has y hy
 cab:=λy c h=>nomatch h
 hd:=I.ok.hd
 frames:=I.ok.frames
 stk:=.inl rfl
 exf:=λb d=>#[i b d,λy c e=>(g b d).2.2.2.2.1 y c (B.sub y c e)]
 bs:=I.bs
 bsz:=aQ I.ok.bsz I.sz
 noex:=λb o e d=>by
  exists g b d,_,_,_,m,_;rcases m with z|z
  ·exact I.ok.noex b o e z
  ·exact absurd (cI (Heap.lt_size e) (aQ I.ok.bsz z)) (ki _)
 exfs:=λb d hs=>by
  exists g b d,_,n,p,_;rcases bN.mp (I.stkSub b hs) with z|z
  ·exact n z
  ·exact p z
 funs:=I.stack
 frf:=I.stkFree
theorem At {fv:List (Nat×Str)}{σ:St}{o:Option V}{j:Nat}{y:Str}{v:V}(e:(x :: fv.map (·.2))[j+1]?=Zz y)(f:(bst fv σ o)[j+1]?=Zz (Zz v)):∃p∈fv,p.2=y/\σ[p.1]?=Zz (Zz v):=by
 have a:(fv.map (·.2))[j]?=Zz y:=by simpa using e
 have d:(fv.map λp=>(σ[p.1]?).getD Zy)[j]?=Zz (Zz v):=by simpa [bst] using f
 rw[aI]at a d
 cases q:fv[j]? with
 | none=>rw[q]at a;cases a
 | some p=>
  rw[q]at a d;refine#[p,b4 q,Option.some.inj a,?_];have c:(σ[p.1]?).getD Zy=Zz v:=Option.some.inj d
  cases r:σ[p.1]? with
  | none=>rw[r]at c;cases c
  | some w=>rw[r]at c;exact congrArg Zz c
theorem FH {a:aJ}{σ:St}{H:Hp}{s d:Shared}{g:am}{C:Addr}{m:bH}(B:BlkOk X x fv scope cl)(I:Inv X a σ H s)(R:∀b∈g,dm X a H b)(hC:C=s.7)(h:∀b∈g,b≠C)(os:d.os=s.os)(f:d.gens=s.gens)(keep:∀b o,s.heap.get? b=Zz o->d.heap.get? b=Zz o)(ns:d.heap.Ns C m):
  Inv (blk X x fv scope cl C s H g) [] (bst fv σ Zy) H d:=by
 subst hC;refine#[NA B I R (aA _) h,os,#v[f,I.bare],Un.kept keep,#[m,ns,λi y v S O Z=>?_],λy c e=>?_,I.hok.fresh (aA _),λy c e=>I.freeC y c (B.sub y c e),λp n=>absurd (show p∈([]:aJ) from n) (by simp),I.hok.kept keep,by simp[bst]]
 ·cases i with
  | zero=>simp[bst]at O
  | succ j=>
   exists At S O,p,n,rfl,T;exists B.fvs p n,_,U,hk,F,c,P;exists I.loc,m0,_,Y;have G:Vis X.env.scope p.2:=hk.elim (λz=>.inr (.inl z)) λz=>.inr (.inr z);exists Y p.1 p.2 v U T G,u,r,l;refine#[u,r,.inr #[F,c,P,?_]];rcases l with ⟨z,_⟩|⟨_,c',J,o,M,hd⟩
   ·have Q:X.env.scope.names.lookup p.2=Zz .local:=z;rcases hk with k|k <;> (rw[k]at Q;cases Q)
   ·have:=B.sub p.2 c P;rw[J]at this;cases this;exact#[o,keep _ o M,hd]
 ·exists I.cell y c (B.sub y c e),v,o,M,hd;exact#[v,o,keep c o M,hd]
theorem FI {a:aJ}{σ:St}{H T:Hp}{s U:Shared}{Y:am}{C:Addr}{o:Option V}{v:V}{u:Value}{E:aX}{Q:Unit->Shared->Prop}(B:BlkOk X x fv scope cl)(I:Inv (blk X x fv scope cl C s T Y) a (bst fv σ o) H U)(r:RelV v u)(h:∀Z,Inv (blk X x fv scope cl C s T Y) a (bst fv σ (Zz v)) H Z->Q #[] Z):
  wpAny (model X.prog X.w) X.A (assign (.Name x px) (compEnvC scope cl C X.env) u) Q E U:=by
 exists id I.loc,m,hn,hl;have hk:(relabel scope X.env).names.lookup x=Zz .local:=lookup_relabel_local B.here;have G:((compEnvC scope cl C X.env).scope.kind == .class || ((compEnvC scope cl C X.env).scope.kind == .module && (compEnvC scope cl C X.env).locals != (compEnvC scope cl C X.env).globals))=false:=by
  have:(compEnvC scope cl C X.env).scope.kind=.function:=B.kind;rw[this];rfl
 refine wpAny_assign_Name (wpAny_storeName_local hk hn (λh' J hs=>?_) G);have cne:=I.cne;exists id hn,oL,_,_,x0,_;have f:HOk X.prog X.w H h':=λb ob e=>by
  refine (I.hok b ob e).stay (λc w' F q=>(hs.2 c ?_).trans q) (λ_ q=>q) λ_ _ q=>q;intro z;have z':c=C:=z;have fr:H C=Zy:=I.free;rcases F with F|F
  ·rw[<-F,z',fr]at e;cases e
  ·rw[z',fr]at F;cases F
 refine h _ #[I.ok,I.os,I.bare,#[λb o e n M hx=>?_,λb o e n M hx=>?_,I.base.free,λb o e hx=>?_,I.base.tups,I.base.frzs,I.base.tbls],#[_,J,λj y O g P e3=>?_],λy c e=>?_,I.free,I.freeC,λp R=>?_,f,by simp[bst]]
 ·exact (hs.2 b (du (cI (Heap.lt_size e) I.ok.above))).trans (I.base.keep b o e n M hx)
 ·exists I.base.slot b o e n M hx,sl,g;exact#[sl,(hs.2 b (du (cI (Heap.lt_size e) I.ok.above))).trans g]
 ·exists I.base.there b o e hx,o',g;exact#[o',(hs.2 b (du (cI (Heap.lt_size e) I.ok.above))).trans g]
 ·cases j with
  | zero=>
   have S:x=y:=by simpa using g
   subst S;have i:v=O:=by simpa [bst] using P
   subst i;exact#[u,r,.inl #[hk,by simp]]
  | succ j=>
   have i:(bst fv σ o)[j+1]?=Zz (Zz O):=by simpa [bst] using P
   exists hl (j+1) y O g i e3,u',r',q;refine#[u',r',?_];exists At g P,p,R,rfl,_;rcases q with ⟨k,e⟩|⟨k,c,e,z⟩
   ·exact .inl #[k,by simp[(B.fvs p R).1,e]]
   ·exact .inr #[k,c,e,z.sameBut hs (cne _ c e)]
 ·exists I.cell y c e,w',z;exact#[w',z.sameBut hs (cne y c e)]
 ·exists I.pin p R,e,n,ne,nf,d;exact#[(hs.2 p.1 ne).trans e,n,ne,nf,d]
theorem qW {X:Cx}{a:aJ}{σ:St}{H e:Hp}{c g d:Shared}{h:am}(I:Inv X a σ H c)(hk:HOk X.prog X.w e d.heap)(bare:AllBare d.gens)(i:H c.7=Zy)(f:∀b o,c.heap.get? b=Zz o->g.heap.get? b=Zz o)(j:Un (frs X.stack) h (upd H c.7 (.lst [])) e g.heap d.heap)(os:d.os=c.os)(k:∀b∈h,dm X a H b):Inv X a σ e d:=by
 refine I.call' ?_ ((Un.laid f (aA _) i).trans j) hk bare λb m=>?_
 ·exact os
 ·exists k b m,_,n,u,p,r,s;exact#[p,n,r,s]
theorem qX {Y:Cx}{prog:Program}{w:World}{K:ao}{I:Expr}{J:It}{v:am}{it:Addr}{x:Nat->Heap->Prop}(T:Turn prog w K I J v it x){f:St}{g:Hp}{H C:Shared}{D:Addr}{ys:List V}{h:V}{y:Value}{i n:Nat}{N:Hp->Prop}{W:Nat->Nat->Hp->Prop}{E':aX}(hx:∀u s,¬Y.xe u s)(j:x (i+1) H.heap)(M:Inv Y ([]++nH v H.heap) f g C)(O:RelV h y)(F:g D=Zz (.lst ys))(P:ys.9<sizeLine)(Q:N (upd g D (.lst (ys++[h]))))(R:∀d,N d->∃p,p<n/\W (i+1) p d):
  wpAny (model Y.prog Y.w) Y.A (call (.builtin "list.append") [.ref D,y]) (λ_ a=>∃m,m<n/\∃d,Inv Y [] f d a/\x (i+1) a.heap/\(∀b∈v,d b=Zy)/\W (i+1) m d) E' C:=by
 have S:=gY (X:=Y) _ C _ g (.ref D) [h] (.ref D) [y] (λ_ k=>k=upd g D (.lst (ys++[h]))) M rfl (.cons O .nil)
  #[_,ys,h,rfl,rfl,F,P,rfl]
 refine wpAny_mono S (λ_ U Z=>?_) λ_ _ z=>(hx _ _ z).elim;exists Z,_,k,c,_,G;subst G;exists R _ Q,p,hm,w9;refine#[p,hm,_,c.unpinned,T.keep _ _ _ j λb r o e=>(c.pin (b,o) (hH _ (hH _ (mj r e)))).1,λb r=>?_,w9];exists T.obj _ _ j b r,o,e,_;exact (c.pin (b,o) (hH _ (hH _ (mj r e)))).2.1
theorem FJ {a:aJ}{σ:St}{H:Hp}{d:Shared}{it:Addr}{h:am}{tn:Nat->Heap->Prop}{J:It}{Q:VK}{E:aX}{RR:Value->Addr->Result->Shared->Prop}(hc:X.calm=true)(B:BlkOk X x fv scope cl)(he:∀C s H h,PE (blk X x fv scope cl C s H h) elt te)(I:Inv X a σ H d)(T:Turn X.prog X.w X.K (.Name x px) J h it tn)(st:tn 0 d.heap)(hf:∀b∈h,dm X a H b)(rd:∀D,H D=Zy->∃W:Nat->Nat->Hp->Prop,(∃m,W 0 m (upd H D (.lst [])))/\∀i m H,W i m H->
   (J.stop i H/\Q (.ref D) H)\/(J.go i H/\∃N:Hp->Prop,(∀g,N g->∃Y,Y<m/\W (i+1) Y g)/\∀v g,J.yld i H v g->te (bst fv σ (Zz v)) g λy H2=>∃ys,H2 D=Zz (.lst ys)/\ys.9<sizeLine/\N (upd H2 D (.lst (ys++[y])))))(z1:∀D C Z g Y,Inv X a σ g Z->dm X a g C->Z.heap.Ns C Y->Q (.ref D) g->RR (.ref D) C (.ok .next) Z):
  wpAny (model X.prog X.w) X.A (newList []) (λx0 y0=>wpAny (model X.prog X.w) X.A (newFunctionEnv scope X.env.globals cl [] X.env.qual Zy .none (Zz X.env)) (λP z0=>
   codeAny (model X.prog X.w) X.A (.compStart (.ListComp elt [#[.Name x px,iter,[],0]] scope pos) 0 (.ref it) x0 { P with scope:=relabel scope X.env }) (RR x0 P.locals) z0) E y0) E d:=by
 refine wpAny_newObj_type ?_ (by show 0<=sizeLine;exact aU _);have hD:H d.7=Zy:=I.hok.fresh (aA _);have I3:=I.lnew (ys:=[]) (its:=[]) (t':=d.toks) .nil (aU _);generalize S:({ d with heap:=d.heap.push { cls:=.type "list",data:=.seq ([]:List Value).toArray },toks:=d.toks }:Shared)=f at I3;have u1:f.7=d.7+1:=by rw[<-S];exact Heap.size_push ..
 have u0:∀b o,d.heap.get? b=Zz o->f.heap.get? b=Zz o:=λb o e=>by rw[<-S];exact Heap.get?_push_of_some _ e
 have v0:∀b∈h,dm X a (upd H d.7 (.lst [])) b:=λb j=>by
  exists hf b j,f0,r;refine#[?_,r];exists T.obj 0 _ st b j,o,e,_;rw[aE (du (Heap.lt_size e))];exact f0
 have v1:∀b∈h,b<d.7:=λb j=>by
  exists T.obj 0 _ st b j,o,e,_;exact Heap.lt_size e
 have j1:tn 0 f.heap:=T.keep 0 _ _ st λb _ o e=>u0 b o e;exists rd _ hD,W,#[m0,w0],j0;refine wpAny_newFunctionEnv B.nocell (by intro y hy;simp at hy) (λk G M=>?_) B.kind;have k0:∀b∈h,b≠f.7:=λb j=>du #v[u1,pD (v1 b j)];have n0:∀b o,f.heap.get? b=Zz o->k.get? b=Zz o:=λb o e=>M.extBut b o (du (Heap.lt_size e)) (Heap.get?_push_of_some _ e);generalize U:({ f with heap:=k,toks:=f.toks+([]:List (Str×Value)).9 }:Shared)=s4;have h4:s4.heap=k:=by rw[<-U]
 have I4:Inv (blk X x fv scope cl f.7 f (upd H d.7 (.lst [])) h) [] (bst fv σ Zy) (upd H d.7 (.lst [])) s4:=
  FH B I3 v0 rfl k0 (by rw[<-U]) (by rw[<-U]) (λb o e=>#v[h4,n0 b o e]) #v[h4,G]
 have x1:tn 0 s4.heap:=by rw[h4];exact T.keep 0 _ _ j1 λb _ o e=>n0 b o e
 have F:∀{g:Hp},(∀b∈h,g b=Zy)->∀b∈h,dm (blk X x fv scope cl f.7 f (upd H d.7 (.lst [])) h) [] g b:=λ{g} hn b j=>by
  exists hf b j,_,f1,f2,f3,f4,f5;refine#[hn b j,k0 b j,λz=>?_,.inl j,λy c e=>f4 y c (B.sub y c e),λp hp=>absurd (show p∈([]:aJ) from hp) (by simp)];rcases bN.mp (I.stkSub b z) with q|q
  ·exact f1 q
  ·exact f2 q
 have R:codeAny (model X.prog X.w) X.A (.compLoop (.ListComp elt [#[.Name x px,iter,[],0]] scope pos) 0 (.ref it) (.ref d.7) (compEnvC scope cl f.7 X.env)) (RR (.ref d.7) f.7) s4:=by
  refine As (λn Z=>∃i g o,Inv (blk X x fv scope cl f.7 f (upd H d.7 (.lst [])) h) [] (bst fv σ o) g Z/\tn i Z.heap/\(∀b∈h,g b=Zy)/\W i n g) ?_ m0
   #[0,_,Zy,I4,x1,λb j=>(v0 b j).1,w0]
  rintro n s5 E' ⟨i,H5,o5,I5,st5,fr5,w5⟩
  rcases j0 i n H5 w5 with ⟨stop,q⟩|⟨go,N,hN,step⟩
  ·refine thn (T.done (blk X x fv scope cl f.7 f (upd H d.7 (.lst [])) h) rfl rfl rfl hc i [] s5 _ H5 _ I5 (F fr5) st5 stop) λr s6 O=>?_;exists O,hr,I6;subst hr;exists I6.loc,m6,k1,_;have J6:Inv X a σ H5 s6:=qW I I6.hok I6.bare hD u0 I6.base (I6.os.trans (by rw[<-S])) hf;refine z1 _ _ s6 H5 m6 J6 ?_ k1 q;exact I3.fpOk (aA _) I6.free
  ·refine thn (T.item (blk X x fv scope cl f.7 f (upd H d.7 (.lst [])) h) rfl rfl rfl hc i [] s5 _ H5 _ I5 (F fr5) st5 go) λr s6 O=>?_;exists O,u,hr,h6;subst hr;refine thn h6 λ_ s7 O=>?_;exists O,v,H7,I7,r7,y7,y1,g1;have m1:=I7.pinned (F g1) (T.obj _ _ y1);refine FI B m1 r7 λs8 I8=>?_;have e8:=he _ _ _ _ _ s8 _ H7 _ I8 (step v H7 y7);refine wpAny_mono e8 (λy s9 O=>?_) λ_ _ z=>False.elim z;exists O,yv,H9,I9,r9,ys,x2,hz,n9;have a9:=qX (E':=E') T (λ_ _ z=>z) y1 I9 r9 x2 hz n9 hN;refine wpAny_mono a9 (λ_ j2 O=>?_) λ_ _ z=>z;exists O,Y,hm,y2,z2,u2,v2,w9;exact#[Y,hm,i+1,y2,_,z2,u2,v2,w9]
 exact codeAny_compStart_list R (T.self _ 0 _ _ _ x1 R)
end
section
variable {X:Cx}{elt iter:Expr}{x:Str}{px:Pos}{fv:List (Nat×Str)}{scope:Scope}{cl:List (Str×Addr)}{pos:Pos}{te:TE}{wi:TI}
theorem fH (i:X.calm=true)(B:BlkOk X x fv scope cl)(hi:PI X (.Name x px) iter wi)(j:∀C s H g,PE (blk X x fv scope cl C s H g) elt te)(hs:∀v,foldedSetIterable iter X.env v=pure v:=by intro _;rfl):PE X (.ListComp elt [#[.Name x px,iter,[],0]] scope pos) (oe fv wi te):=by
 intro a s σ H Q I h;rw[eval_ListComp];refine wpAny_comprehension_free (use:=Zy) rfl hs B.clos B.kind B.names (thn (hi a s σ H _ I h) λv R k=>thn k λm S n=>?_);exists n,it,g,U,J,Y,e,p,T,d,r,u;subst e;refine FJ (RR:=λf C=>compPost (model X.prog X.w) X.A X.xe Zy (EP X a σ Q) f C) i B j p T d r u ?_;intro D C y z F G c M q;exact#[F,M,λZ O=>#[.ref D,z,G.turned (t':=y.toks) (λb o P e=>(O.2 b P).trans e) c.1 c.2.1 c.2.2.2.1 c.2.2.2.2.1 c.2.2.2.2.2,rfl,q]]
theorem jl {i:Nat}{y:Str}{g d:Pos}(P:X.calm=true)(B:BlkOk X x fv scope cl)(hi:PI X (.Name x px) iter wi)(R:∀C s H M,PE (blk X x fv scope cl C s H M) elt te)(S:X.N.Nodup)(k:X.N[i]?=Zz y)(hy:X.env.scope.names.lookup y=Zz .local)(m:swapsWith (.ListComp elt [#[.Name x px,iter,[],0]] scope pos) (Zz (.Name y g)) d.line X.env=pure true:=by rfl)(hs:∀v,foldedSetIterable iter X.env v=pure v:=by intro _;rfl):
  PS X (.Assign [.Name y g] (.ListComp elt [#[.Name x px,iter,[],0]] scope pos) d) (kD (oe fv wi te) (gU i)):=by
 intro c s σ H D I h;rw[exec_Assign_Name_used _ _ _ _ m];refine wpAny_bind (wpAny_standAt (wpAny_bind ?_));show wpAny _ X.A (do let _ <-comprehension (.ListComp elt [#[.Name x px,iter,[],0]] scope pos) scope X.env _ (newList []) false (eval iter X.env) (Zz (assign (.Name y g) X.env))) _ _ s;refine wpAny_bind (wpAny_mono (wpAny_comprehension_free (use:=Zz (assign (.Name y g) X.env)) (Q:=λ_ j=>SP X c D .next j) rfl hs B.clos B.kind B.names
  (thn (hi c s σ H _ I h) λv s1 U=>thn U λY s2 Z=>?_)) (λ_ j hq=>wpAny_pure (wpAny_pure hq)) λ_ _ e=>e)
 exists Z,it,M,tn,J,H2,e,I2,T,n,f2,rd;subst e;refine FJ (Q:=λx H1=>gU i x σ H1 D.nx) (RR:=λp C=>compPost (model X.prog X.w) X.A X.xe (Zz (assign (.Name y g) X.env)) (λ_ j=>SP X c D .next j) p C) P B R I2 T n f2 rd ?_;intro O C j H' m' I' f hn q;show wpAny _ X.A (assign (.Name y g) X.env (.ref O)) _ _ _;refine wpAny_assign_Name (nG I' S k (.inl hy) (v:=.ref O) rfl (λr u z=>?_) (.inr hy));exists z,a,sb,ha;have F:C≠a:=by
  rcases ha with rfl|e
  ·exact f.2.1
  ·exact Ne.symm (f.2.2.2.2.1 _ _ e)
 exact#[m',hn.sameBut sb F,λh' G=>#[_,H',u.turned (t':=r.toks) (λb o hb e=>(G.2 b hb).trans e) f.1 f.2.1 f.2.2.2.1 f.2.2.2.2.1 f.2.2.2.2.2,q]]
end
def kL (lo c:Int)(n:Nat):It:=#[λi _=>i<n,λi H x H'=>H'=H/\x=.int (lo+i*c),λi _=>n<=i]
theorem NB {P:Program}{w:World}{K:ao}{J:Expr}(it:Addr)(lo c:Int)(n:Nat):Turn P w K J (kL lo c n) [it] it (λi h=>IsRangeIter h it (lo+(i:Nat)*c) ((n:Int)-(i:Nat)) c) where
 mem:=by simp
 obj:=λi h st b d=>by
  have e:b=it:=by simpa using d
  subst e;exact⟨_,st,λv z=>by
   have M:Data.fields _=Data.cell v:=z
   cases M⟩
 keep:=λi h g st k=>k it (by simp) _ st
 item:=by
  intro X hP m hK p i a s σ H E I j st r;subst hP m hK;obtain⟨u,x,O,y,C,F⟩:=j it (by simp);have W:=Walks.range (prog:=X.prog) (w:=X.w) (I.ok.hd p) it lo c n;refine W.item i s _ _ r st λv g G Q f R=>?_;exists Q,t,rfl;have S:Inv X a σ H { s with heap:=g,toks:=G }:=I.turned (λb o d e=>R b o (⇑d) e) u x y C F;exact#[_,rfl,qO (s:={ s with heap:=g,toks:=G }) (n := "range_iterator") f rfl rfl () #[.int (lo+i*c),H,S,#[t,rfl],#[rfl,rfl],f,λb d=>(j b d).1]]
 done:=by
  intro X hP m hK p i a s σ H E I j st r;subst hP m hK;obtain⟨u,x,O,y,C,F⟩:=j it (by simp);exact wpAny_pyNext_range_end (I.ok.hd p) st (by have:n<=i:=r;omega) λg T=>#[rfl,I.turned (t':=s.toks) (λb o d e=>T b o d e) u x y C F]
 self:=λ_ _ _ _ _ st h=>wpAny_pyIter_rangeiter st h
section
variable {X:Cx}{tg:Expr}
def FK (ta:TA):TI:=λσ H R=>ta σ H λvs H1=>∃(i j k:Int)(n:Nat),vs=[.int i,.int j,.int k]/\k≠0/\k.8<1073741824/\Builtin.Range.small i j k=true/\Builtin.Range.rangeSize i j k=n/\R (kL i k n) H1
theorem qY {a b c:Expr}{y:TA}{p pos:Pos}(C:Gl X "range")(F:X.mg "range" = Zy)(G:PA X [a,b,c] y)(hs:starEach [a,b,c] X.env=[(false,eval a X.env),(false,eval b X.env),(false,eval c X.env)]:=by rfl)(m:starEach [b,c] X.env=[(false,eval b X.env),(false,eval c X.env)]:=by rfl):PI X tg (.Call (.Name "range" p) [a,b,c] [] pos) (FK y):=by
 intro f s σ H R I h;refine Call_ (iP I C F boot_range (PyProof.Rows.callWith_type1 (thn (G pos f s σ H _ I h) λY g J=>?_) (by rw[hs,m]) (by rw[m];rfl)));exists J,Z,z,M,O,P;exists P,i,j,k,n,e,hk,u,v,Q,q;subst e
 cases O with
 | cons r rr=>
  cases rr with
  | cons r' rr=>
   cases rr with
   | cons r'' rr=>
    cases rr
    exists r,t,rfl;exists r',t',rfl;exists r'',d,rfl;refine call_range_3 hk ?_ (.inl (PyProof.noPylong_small u));refine wpAny_pyIter_range (IsRange.new ..) v ?_;have x:Inv X f σ z { g with heap:=g.heap.push { cls:=.type "range",data:=.fields (List.toArray [.int i t,.int j t',.int k d]) },toks:=g.toks }:=M.kept λb o e=>Heap.get?_push_of_some _ e;refine⟨(g.heap.push { cls:=.type "range",data:=.fields (List.toArray [.int i t,.int j t',.int k d]) }).objs.size,[(g.heap.push { cls:=.type "range",data:=.fields (List.toArray [.int i t,.int j t',.int k d]) }).objs.size],_,_,z,rfl,
     x.kept (t':=g.toks) λb o e=>Heap.get?_push_of_some _ e,NB _ i k n,?_,λb S=>?_,q⟩
    ·have T:i+((0:Nat):Int)*k=i:=by simp
     have U:((n:Nat):Int)-((0:Nat):Int)=Builtin.Range.rangeSize i j k:=by rw[Q];simp
     show IsRangeIter _ _ (i+((0:Nat):Int)*k) (((n:Nat):Int)-((0:Nat):Int)) k;rw[T,U];exact Heap.get?_push_size _ rfl
    ·have e:b=(g.heap.push { cls:=.type "range",data:=.fields (List.toArray [.int i t,.int j t',.int k d]) }).objs.size:=by simpa using S
     subst e;exact x.fpOk (aA _) (x.hok.fresh (aA _))
end
theorem NC {lo c:Int}{n:Nat}{g:TG}{tb:TS}{D:Ends}{σ:St}{H:Hp}(a:Nat->St->Hp->Prop)(o:a 0 σ H)(hs:∀i σ H,i<n->a i σ H->g (.int (lo+i*c)) σ H λd j=>tb { D with nx:=a (i+1),ct:=a (i+1),bk:=D.nx } d j)(hd:∀σ H,a n σ H->D.nx σ H):
  ∃W:Nat->Nat->St->Hp->Prop,(∃m,W 0 m σ H)/\∀i m σ H,W i m σ H->
   ((kL lo c n).stop i H/\D.nx σ H)\/((kL lo c n).go i H/\∃N:fc,(∀f h,N f h->∃k,k<m/\W (i+1) k f h)/\∀x h,(kL lo c n).yld i H x h->g x σ h λd j=>tb { D with nx:=N,ct:=N,bk:=D.nx } d j):=by
 refine#[λi m σ H=>m=n-i/\i<=n/\a i σ H,#[n,by simp,aU _,o],?_]
 rintro i m σ H ⟨rfl,hi,p⟩
 by_cases hlt:i<n
 ·refine .inr #[hlt,a (i+1),λf h r=>#[n-(i+1),(),rfl,hlt,r],λx h y=>?_];exists y,e,y;subst e y;exact hs i σ _ hlt p
 ·have e:i=n:=()
  subst e;exact .inl #[aA _,hd σ H p]
theorem ND {K:ao}{a:Addr}{xs:List V}{h:List (Nat×Str)}{j:TE}{Q:VK}{σ:St}{k:Hp}{D:Addr}(c:cB)(o:c 0 (upd k D (.lst [])))(r:∀i H,i<=xs.9->c i H->SqL K H a xs)(hs:∀i v H,xs[i]?=Zz v->c i H->j (bst h σ (Zz v)) H λy g=>∃d,g D=Zz (.lst d)/\d.9<sizeLine/\c (i+1) (upd g D (.lst (d++[y]))))(hd:∀H,c xs.9 H->Q (.ref D) H):
  ∃W:Nat->Nat->Hp->Prop,(∃m,W 0 m (upd k D (.lst [])))/\∀i m H,W i m H->
   ((Itl K a).stop i H/\Q (.ref D) H)\/((Itl K a).go i H/\∃N:Hp->Prop,(∀f,N f->∃n,n<m/\W (i+1) n f)/\∀v f,(Itl K a).yld i H v f->j (bst h σ (Zz v)) f λy g=>∃d,g D=Zz (.lst d)/\d.9<sizeLine/\N (upd g D (.lst (d++[y])))):=by
 refine#[λi m H=>m=xs.9-i/\i<=xs.9/\c i H,#[xs.9,by simp,aU _,o],?_]
 rintro i m H ⟨rfl,hi,p⟩
 have q:=r i H hi p;by_cases hlt:i<xs.9
 ·refine .inr #[#[xs,xs[i],q,aq hlt],c (i+1),λf s=>#[xs.9-(i+1),(),rfl,hlt,s],λv f y=>?_];exists y,e,y;subst e;exact hs i v _ (y xs q) p
 ·have e:i=xs.9:=()
  subst e;exact .inl #[#[xs,q,aA _],hd H p]
theorem NE {lo:Int}{n:Nat}{g:List (Nat×Str)}{h:TE}{Q:VK}{σ:St}{j:Hp}{D:Addr}(d:cB)(o:d 0 (upd j D (.lst [])))(hs:∀i H,i<n->d i H->h (bst g σ (Zz (.int (lo+i)))) H λy f=>∃a,f D=Zz (.lst a)/\a.9<sizeLine/\d (i+1) (upd f D (.lst (a++[y]))))(hd:∀H,d n H->Q (.ref D) H):
  ∃W:Nat->Nat->Hp->Prop,(∃m,W 0 m (upd j D (.lst [])))/\∀i m H,W i m H->
   ((Itr lo n).stop i H/\Q (.ref D) H)\/((Itr lo n).go i H/\∃N:Hp->Prop,(∀c,N c->∃k,k<m/\W (i+1) k c)/\∀v c,(Itr lo n).yld i H v c->h (bst g σ (Zz v)) c λy f=>∃a,f D=Zz (.lst a)/\a.9<sizeLine/\N (upd f D (.lst (a++[y])))):=by
 refine#[λi m H=>m=n-i/\i<=n/\d i H,#[n,by simp,aU _,o],?_]
 rintro i m H ⟨rfl,hi,p⟩
 by_cases hlt:i<n
 ·refine .inr #[hlt,d (i+1),λc r=>#[n-(i+1),(),rfl,hlt,r],λv c y=>?_];exists y,e,y;subst e y;exact hs i _ hlt p
 ·have e:i=n:=()
  subst e;exact .inl #[aA _,hd H p]
theorem cD {a:List (Str×Addr)}:∀y c,([]:List (Str×Addr)).lookup y=Zz c->a.lookup y=Zz c:=λ_ _ h=>nomatch h
theorem dF {n:Str}{d:Addr}{r a:List (Str×Addr)}(f:a.lookup n=Zz d)(h:∀y c,r.lookup y=Zz c->a.lookup y=Zz c):∀y c,((n,d) :: r).lookup y=Zz c->a.lookup y=Zz c:=λy c q=>by
 rw[Cn]at q
 cases e:y == n with
 | true=>
  rw[e]at q
  cases q
  rw[eq_of_beq e];exact f
 | false=>
  rw[e]at q;exact h y c q
theorem Au {l:List (Str×NameKind)}{cl:List (Str×Addr)}(h:(l.all λp=>(p.2 != .cell && p.2 != .free) || (cl.lookup p.1).isSome)=true):∀y,(l.lookup y=Zz .cell\/l.lookup y=Zz .free)->∃c,cl.lookup y=Zz c:=λy hy=>by
 have a:∀k,l.lookup y=Zz k->(k=.cell\/k=.free)->∃c,cl.lookup y=Zz c:=λk e hk=>by
  have q:=List.all_eq_true.mp h (y,k) (PySem.mem_of_lookup e);have z:(k != .cell && k != .free)=false:=by rcases hk with rfl|rfl <;> rfl
  rw[show ((y,k).2 != .cell && (y,k).2 != .free)=false from z,Bool.false_or]at q;exact Tn.mp q
 rcases hy with e|e
 ·exact a _ e (.inl rfl)
 ·exact a _ e (.inr rfl)
def og (X:Cx)(x:Str)(scope:Scope)(cl:List (Str×Addr))(fv:List (Nat×Str)):Prop:=
 ∀p∈fv,p.2≠x/\X.N[p.1]?=Zz p.2/\(X.env.scope.names.lookup p.2=Zz .cell\/X.env.scope.names.lookup p.2=Zz .free)/\
  ((relabel scope X.env).names.lookup p.2=Zz .cell\/(relabel scope X.env).names.lookup p.2=Zz .free)/\∃c,cl.lookup p.2=Zz c
theorem dc {X:Cx}{x:Str}{a:Scope}{cl:List (Str×Addr)}:og X x a cl []:=λ_ h=>nomatch h
theorem eH {X:Cx}{x:Str}{a:Scope}{cl:List (Str×Addr)}{e:List (Nat×Str)}(i:Nat)(y:Str)(f:y≠x)(g:X.N[i]?=Zz y)(h:X.env.scope.names.lookup y=Zz .cell\/X.env.scope.names.lookup y=Zz .free)(j:(relabel a X.env).names.lookup y=Zz .cell\/(relabel a X.env).names.lookup y=Zz .free)(k:∃c,cl.lookup y=Zz c)(r:og X x a cl e):og X x a cl ((i,y) :: e):=λp d=>by
 rcases bN.mp d with rfl|d
 ·exact#[f,g,h,j,k]
 ·exact r p d
theorem dq {X:Cx}{x:Str}{d:List (Nat×Str)}{a:Scope}{cl:List (Str×Addr)}(clos:closureFor a X.env=pure cl)(sub:∀y c,cl.lookup y=Zz c->X.env.cells.lookup y=Zz c)(fvs:og X x a cl d)(kind:a.kind=.function:=by rfl)(here:a.names.lookup x=Zz .local:=by rfl)(nocell:∀y∈a.names,y.2≠.cell:=by decide +kernel)(names:∀y∈a.names,y.2=.local->a.names.lookup y.1=Zz .local:=by decide +kernel)(has:((relabel a X.env).names.all λp=>(p.2 != .cell && p.2 != .free) || (cl.lookup p.1).isSome)=true:=by rfl):BlkOk X x d a cl:=
 #[clos,nocell,kind,names,here,sub,Au has,fvs]
section
variable {X:Cx}
theorem qZ:gX X (.builtin "isinstance") (λa H Q=>∃x n t b,a=[x,.ty n]/\TyOf X.K H x t/\PySem.W.kitOne X.K t (.type n)=Zz b/\Q (.bl b) H):=by
 intro c s σ H a g Q I d h;obtain⟨x,n,t,b,rfl,f,e,q⟩:=h
 cases d with
 | cons r rr=>
  cases rr with
  | cons r' rr=>
   cases rr
   cases r'
   exact M6 I r f e λi=>#[.bl b,H,I.tok _,rfl,q]
theorem FL:MtR X "int.bit_length" (λx a H Q=>∃i,x=.int i/\a=[]/\Q (.int (Builtin.Int.intBits i:Nat)) H):=by
 intro c s σ H x a v f Q I d e h;obtain⟨i,rfl,rfl,q⟩:=h
 cases e
 exists d,t,rfl;exact call_gives F.slot_int_bit_length (typeIs_int s i t) F.entry_int_bit_length (F.args_int_bit_length_1 _) (PySem.AutoIntG2.int_bit_length_int_0 i t) #[.int _,H,I.tok _,#[_,rfl],q]
end
theorem Av {i:Int}{k:Nat}(h:i.8<2 ^ k):Builtin.Int.intBits i<=k:=by
 unfold Builtin.Int.intBits
 split
 ·exact aU _
 ·rename_i a;have c:i≠0:=by simpa using a
  have:i.natAbs.log2<k:=(K9 ()).mpr h;omega
theorem NG {i j:Int}{k l:Nat}(a:i.8<2 ^ k)(c:j.8<2 ^ l)(h:k+l<=134217728):IntMulOk i j:=IntMulOk.of_le (Av a) (Av c) h
theorem jN {X:Cx}:OpR X (binaryOp .FloorDiv) (rI (λ_ j=>j≠0/\j.8<2 ^ 9000) λi j=>.int (i.fdiv j)):=
 opI λ_ j _ _ _ _ _ a q=>floordiv_int a.1 q (.inl (PyProof.noPylong_of_log2 ((K9 (by have:=a.1;omega)).mpr a.2)))
section
variable {σ:St}{H:Hp}{Q:VK}{D:Ends}{t u:TS}{te ta tb tc to ti:TE}{tt:TT}{tA:TA}{i:Nat}{x y v:V}{r r':R2}{QT:Bool->Hp->Prop}{QA:List V->Hp->Prop}
theorem Aw:jI t u D σ H=t { D with nx:=u D } σ H:=rfl
theorem q8:Ex D σ H=D.nx σ H:=rfl
theorem q9:Ey D σ H=D.ct σ H:=rfl
theorem q_:Ez te D σ H=te σ H λ_ a=>D.nx σ a:=rfl
theorem ra:EA te D σ H=te σ H D.rt:=rfl
theorem re:EB tt t u D σ H=tt σ H λb a=>if b=true then t D σ a else u D σ a:=rfl
theorem rf {g:TG}:kD te g D σ H=te σ H λx a=>g x σ a D.nx:=rfl
theorem rg {Q:fc}:gU i v σ H Q=Q (σ.set i (Zz v)) H:=rfl
theorem rh {a:kC}{Q:fc}:EC to ti a v σ H Q=to σ H λo c=>ti σ c λi d=>a o i v d λe=>Q σ e:=rfl
theorem rj {K:ao}{n:Nat}{d:TGs}{Q:fc}:z_ K n d v σ H Q=∃a c,v=.ref a/\SqT K H a c/\c.9=n/\d c σ H Q:=rfl
theorem rl {vs:List V}{Q:fc}:zZ vs σ H Q=(vs=[]/\Q σ H):=rfl
theorem rm {g:TG}{gs:TGs}{vs:List V}{Q:fc}:qI g gs vs σ H Q=∃v r,vs=v :: r/\g v σ H λa c=>gs r a c Q:=rfl
theorem rn {a:TIp}:ED i te a D σ H=∃x,σ[i]?=Zz (Zz x)/\te σ H λy c=>a x y c λz d=>D.nx (σ.set i (Zz z)) d:=rfl
theorem ro {a:V->V->Hp->VK->Prop}{d:TIp}{c:kC}:EE to ti te a d c D σ H=to σ H λo e=>ti σ e λi f=>a o i f λx g=>te σ g λy h=>d x y h λz j=>c o i z j λk=>D.nx σ k:=rfl
theorem rp {f:Int->Int->Int}:ipI f x y H Q=∃i j,x=.int i/\y=.int j/\Q (.int (f i j)) H:=rfl
theorem rq:zV i σ H Q=∃v,σ[i]?=Zz (Zz v)/\Q v H:=rfl
theorem a_c:tC v σ H Q=Q v H:=rfl
theorem ry:tOp r ta tb σ H Q=ta σ H λx a=>tb σ a λy c=>r x y c Q:=rfl
theorem rA {r:V->Hp->VK->Prop}:tUn r ta σ H Q=ta σ H λx a=>r x a Q:=rfl
theorem rB {C:Int->Int->Prop}{g:Int->Int->V}:rI C g x y H Q=∃i j,x=.int i/\y=.int j/\C i j/\Q (g i j) H:=rfl
theorem rC {g:Int->Int->V}:rI0 g x y H Q=∃i j,x=.int i/\y=.int j/\Q (g i j) H:=rfl
theorem rD {g:Int->V}:rU g x H Q=∃i,x=.int i/\Q (g i) H:=rfl
theorem rE {i j:Int}:rEq (.int i) (.int j) H Q=Q (.bl (decide (i=j))) H:=by
 show (true=true/\Q (.bl (decide (V.int i=V.int j))) H)=_;rw[show decide (V.int i=V.int j)=decide (i=j) by rw[qQ];exact Bool.beq_eq_decide_eq i j];simp
theorem rF {i j:Int}:rNe (.int i) (.int j) H Q=Q (.bl (!decide (i=j))) H:=by
 show (true=true/\Q (.bl (!decide (V.int i=V.int j))) H)=_;rw[show decide (V.int i=V.int j)=decide (i=j) by rw[qQ];exact Bool.beq_eq_decide_eq i j];simp
theorem rG {i j:Bool}:rEq (.bl i) (.bl j) H Q=Q (.bl (decide (i=j))) H:=by
 show (true=true/\Q (.bl (decide (V.bl i=V.bl j))) H)=_
 cases i <;> cases j <;> simp
theorem rH {i j:Bool}:rNe (.bl i) (.bl j) H Q=Q (.bl (!decide (i=j))) H:=by
 show (true=true/\Q (.bl (!decide (V.bl i=V.bl j))) H)=_
 cases i <;> cases j <;> simp
theorem rJ:tB te σ H QT=te σ H λx a=>∃c,x=.bl c/\QT c a:=rfl
theorem rK:EU te σ H QT=te σ H λx a=>∃k,x=.bl k/\QT k a:=rfl
theorem rL {a:TT}:Es tt a σ H QT=tt σ H λc d=>if c=true then a σ d QT else QT false d:=rfl
theorem rM {a:TT}:tOr tt a σ H QT=tt σ H λc d=>if c=true then QT true d else a σ d QT:=rfl
theorem rN:Et tt σ H QT=tt σ H λc a=>QT (!c) a:=rfl
theorem rO:Eu ta tb σ H Q=ta σ H λx a=>∃c,x=.bl c/\if c=true then tb σ a Q else Q (.bl false) a:=rfl
theorem rP:Ev ta tb σ H Q=ta σ H λx a=>∃c,x=.bl c/\if c=true then Q (.bl true) a else tb σ a Q:=rfl
theorem rQ:tIf tt ta tb σ H Q=tt σ H λc a=>if c=true then ta σ a Q else tb σ a Q:=rfl
theorem rR:Ai σ H QA=QA [] H:=rfl
theorem rS:Aj ta tA σ H QA=ta σ H λx a=>tA σ a λc d=>QA (x :: c) d:=rfl
theorem rT:E9 tA σ H Q=tA σ H λa c=>a.9<=sizeLine/\∀p,c p=Zy->Q (.ref p) (upd c p (.lst a)):=rfl
theorem rV:E8 tA σ H Q=tA σ H λa c=>a.9<=sizeLine/\∀p,c p=Zy->Q (.ref p) (upd c p (.tup a)):=rfl
theorem rW {sp:Sp}{a:List V}{E:XK}:qT sp a E tA σ H Q=tA σ H λc d=>sp (c++a) d Q E:=rfl
theorem rX {r:List V->Hp->VK->Prop}:tCB r tA σ H Q=tA σ H λa c=>r a c Q:=rfl
theorem rY {K:ao}{T:String}{r:V->List V->Hp->VK->Prop}:Fu K T r to σ H Q=to σ H λx a=>tyV K T x a/\r x [] a Q:=rfl
theorem rZ {K:ao}{T:String}{r:V->List V->Hp->VK->Prop}:tBM K T r to tA σ H Q=to σ H λx a=>tyV K T x a/\tA σ a λc d=>r x c d Q:=rfl
theorem r_ {r:V->Option Int->Option Int->Hp->VK->Prop}{a c:TO}:tSl r te a c σ H Q=te σ H λx d=>a σ d λl e=>c σ e λu f=>r x l u f Q:=rfl
theorem sf {Q:Option Int->Hp->Prop}:Fk σ H Q=Q Zy H:=rfl
theorem sj {Q:Option Int->Hp->Prop}:Fl te σ H Q=te σ H λx a=>∃i,x=.int i/\Q (Zz i) a:=rfl
theorem sm {K:ao}{T:String}{i:Int}:tyV K T (.int i) H=(T = "int"):=rfl
theorem gn {K:ao}{p:Addr}{xs:List V}(h:SqL K H p xs):tyV K "list" (.ref p) H:=.inl #[rfl,xs,h]
end
def jO (J:It)(g:TG)(tb:TS)(D:Ends)(σ:St)(H:Hp):Prop:=∃W:Nat->Nat->St->Hp->Prop,(∃m,W 0 m σ H)/\∀i m σ H,W i m σ H->
 (J.stop i H/\D.nx σ H)\/(J.go i H/\∃N:fc,(∀σ' H',N σ' H'->∃m',m'<m/\W (i+1) m' σ' H')/\∀x H',J.yld i H x H'->g x σ H' λσ2 H2=>tb { D with nx:=N,ct:=N,bk:=D.nx } σ2 H2)
theorem sn {a:TI}{g:TG}{tb:TS}{D:Ends}{σ:St}{H:Hp}:EK a g tb D σ H=a σ H λJ c=>jO J g tb D σ c:=rfl
def jP (J:It)(fv:List (Nat×Str))(te:TE)(Q:VK)(σ:St)(H1:Hp)(D:Addr):Prop:=∃W:Nat->Nat->Hp->Prop,(∃m,W 0 m (upd H1 D (.lst [])))/\∀i m H,W i m H->
 (J.stop i H/\Q (.ref D) H)\/(J.go i H/\∃N:Hp->Prop,(∀H',N H'->∃m',m'<m/\W (i+1) m' H')/\∀v H',J.yld i H v H'->te (bst fv σ (Zz v)) H' λy H2=>∃ys,H2 D=Zz (.lst ys)/\ys.9<sizeLine/\N (upd H2 D (.lst (ys++[y]))))
theorem sr {a:List (Nat×Str)}{c:TI}{d:TE}{σ:St}{H:Hp}{Q:VK}:oe a c d σ H Q=c σ H λJ e=>∀D,e D=Zy->jP J a d Q σ e D:=rfl
theorem su {K:ao}{c:TE}{σ:St}{H:Hp}{R:It->Hp->Prop}:Ad K c σ H R=c σ H λx d=>∃a,x=.ref a/\(∃e,SqL K d a e)/\R (Itl K a) d:=rfl
theorem sv {a:TA}{σ:St}{H:Hp}{R:It->Hp->Prop}:EI a σ H R=a σ H λc d=>∃j:Int,c=[.int j]/\-(2 ^ 62)<=j/\j<2 ^ 62/\R (Itr 0 j.toNat) d:=rfl
theorem sB {a:TA}{σ:St}{H:Hp}{R:It->Hp->Prop}:EJ a σ H R=a σ H λc d=>∃i j:Int,c=[.int i,.int j]/\(-(2 ^ 62)<=i/\i<2 ^ 62/\-(2 ^ 62)<=j/\j<2 ^ 62)/\R (Itr i (j-i).toNat) d:=rfl
theorem sC {a:TA}{σ:St}{H:Hp}{R:It->Hp->Prop}:FK a σ H R=a σ H λc d=>∃(i j k:Int)(n:Nat),c=[.int i,.int j,.int k]/\k≠0/\k.8<1073741824/\Builtin.Range.small i j k=true/\Builtin.Range.rangeSize i j k=n/\R (kL i k n) d:=rfl
theorem ig {c:TT}{tb:TS}{D:Ends}{σ:St}{H:Hp}(d:Nat->St->Hp->Prop)(m:Nat)(h:d m σ H)(hs:∀m σ H,d m σ H->c σ H λb e=>if b=true then ∃N:fc,(∀a f,N a f->∃g,g<m/\d g a f)/\tb { D with nx:=N,ct:=N,bk:=D.nx } σ e else D.nx σ e):EG c tb D σ H:=#[d,#[m,h],hs]
section
variable {σ:St}{H:Hp}{Q:VK}{x y v:V}{K:ao}
theorem sD {lo hi:Option Int}:Fp K x lo hi H Q=∃a c,x=.ref a/\SqL K H a c/\∀p,H p=Zy->Q (.ref p) (upd H p (.lst (fG c lo hi))):=rfl
theorem sE:qU K x y H Q=∃p a i v,x=.ref p/\y=.int i/\SqL K H p a/\atI a i=Zz v/\Q v H:=rfl
theorem sF:Am K x y H Q=∃p a i v,x=.ref p/\y=.int i/\SqT K H p a/\atI a i=Zz v/\Q v H:=rfl
theorem sI {Q:Hp->Prop}:Fo x y v H Q=∃p a k j,x=.ref p/\y=.int k/\H p=Zz (.lst a)/\ixN a.9 k=Zz j/\Q (upd H p (.lst (a.set j v))):=rfl
theorem sJ {vs:List V}:Fz x vs H Q=∃l a y,x=.ref l/\vs=[y]/\H l=Zz (.lst a)/\a.9<sizeLine/\Q .non (upd H l (.lst (a++[y]))):=rfl
theorem FM (ns:aa)(lo hi:Option Int):fG (ns.map V.int) lo hi=((ns.drop (HT.sIx ns.9 0 lo)).take (HT.sIx ns.9 ns.9 hi-HT.sIx ns.9 0 lo)).map V.int:=by
 unfold fG;rw[af,K_,Lb]
end
theorem bI:bootBuiltins "len" = Zz (.builtin "len"):=by decide +kernel
theorem kO:bootBuiltins "abs" = Zz (.builtin "abs"):=by decide +kernel
theorem sK:bootBuiltins "isinstance" = Zz (.builtin "isinstance"):=by decide +kernel
theorem oh:bootBuiltins "min" = Zz (.builtin "min"):=by decide +kernel
theorem mn:bootBuiltins "max" = Zz (.builtin "max"):=by decide +kernel
theorem NH:bootBuiltins "int" = Zz (.type "int"):=by decide +kernel
theorem NI:bootBuiltins "bool" = Zz (.type "bool"):=by decide +kernel
theorem iB:bootBuiltins "list" = Zz (.type "list"):=by decide +kernel
def sL (t u:TS):TS:=λD σ H=>∃M:fc,t { D with nx:=M } σ H/\∀σ' H',M σ' H'->u D σ' H'
theorem gI {X:Cx}{st:Stmt}{rest:List Stmt}{t u:TS}(e:PS X st t)(g:PSs X rest u):PSs X (st :: rest) (sL t u):=by
 intro a s σ H D I h;exists h,M,h,i;refine wpAny_execs_cons (thn (e a s σ H { D with nx:=M } I h) λf j q=>?_)
 cases f with
 | next=>
  exists q,c,d,k,q;exact g a j c d D k (i c d q)
 | ret v=>exact q
 | brk=>exact q
 | cont=>exact q
theorem gq {t u:TS}{D:Ends}{σ:St}{H:Hp}(M:fc)(d:t { D with nx:=M } σ H)(e:∀a c,M a c->u D a c):sL t u D σ H:=#[M,d,e]
theorem sM {CX:CXT}{P:Program}{w:World}{K:ao}{mg:bH}{base:Heap}{N:List Str}{c:Str}{a:Scope}{f:Addr}{d:Value}{A:Around}{outer:List Env}{s:Shared}{H:Hp}{E:XK}:
  (kJ CX P w K mg base N c a f d A outer s H E).K=K:=rfl
section
variable {K:ao}{a:Addr}{xs:List V}{g:TG}{tb:TS}{D:Ends}{σ:St}{H H1:Hp}{fv:List (Nat×Str)}{te:TE}{Q:VK}{L:Addr}{lo c:Int}{n:Nat}
theorem ff (c:cB)(f:c 0 (upd H1 L (.lst [])))(g:∀i H,i<=xs.9->c i H->SqL K H a xs)(hs:∀i v H,xs[i]?=Zz v->c i H->te (bst fv σ (Zz v)) H λy e=>∃d,e L=Zz (.lst d)/\d.9<sizeLine/\c (i+1) (upd e L (.lst (d++[y]))))(hd:∀H,c xs.9 H->Q (.ref L) H):
  jP (Itl K a) fv te Q σ H1 L:=ND c f g hs hd
theorem sO (a:cB)(e:a 0 (upd H1 L (.lst [])))(hs:∀i H,i<n->a i H->te (bst fv σ (Zz (.int (lo+i)))) H λy d=>∃c,d L=Zz (.lst c)/\c.9<sizeLine/\a (i+1) (upd d L (.lst (c++[y]))))(hd:∀H,a n H->Q (.ref L) H):
  jP (Itr lo n) fv te Q σ H1 L:=NE a e hs hd
theorem jQ (c:Nat->St->Hp->Prop)(e:c 0 σ H)(f:∀i σ H,i<=xs.9->c i σ H->SqL K H a xs)(hs:∀i v σ H,xs[i]?=Zz v->c i σ H->g v σ H λd h=>tb { D with nx:=c (i+1),ct:=c (i+1),bk:=D.nx } d h)(hd:∀σ H,c xs.9 σ H->D.nx σ H):jO (Itl K a) g tb D σ H:=MJ c e f hs hd
theorem iC (a:Nat->St->Hp->Prop)(d:a 0 σ H)(hs:∀i σ H,i<n->a i σ H->g (.int (lo+i)) σ H λc e=>tb { D with nx:=a (i+1),ct:=a (i+1),bk:=D.nx } c e)(hd:∀σ H,a n σ H->D.nx σ H):jO (Itr lo n) g tb D σ H:=MK a d hs hd
theorem oi (a:Nat->St->Hp->Prop)(e:a 0 σ H)(hs:∀i σ H,i<n->a i σ H->g (.int (lo+i*c)) σ H λd f=>tb { D with nx:=a (i+1),ct:=a (i+1),bk:=D.nx } d f)(hd:∀σ H,a n σ H->D.nx σ H):jO (kL lo c n) g tb D σ H:=NC a e hs hd
end
theorem T3 {j:Int}(a:0<=j)(c:j<2 ^ 60):Builtin.Range.small 0 j 2=true:=by
 unfold Builtin.Range.small;simp only[Builtin.Range.rangeFitsLong,Builtin.Range.rangeSize,Bool.and_eq_true,Bool.or_eq_true,decide_eq_true_eq,beq_iff_eq,show (2:Int) > 0 by decide,if_true]
 split <;> omega
section
variable {X:Cx}
theorem sR:EF X (qU X.K):=by
 intro a s σ H o i G J Q I m n h;obtain⟨p,M,i,z,rfl,rfl,u,v,q⟩:=h
 cases m
 exists n,t,rfl;exists I.list u,e,r,pl,O;exists Al v,j,d,x,P,y,C;exists r.get x,w,k,f;have F:=r.9;have R:=nJ;have c:EP X a σ Q w s:=#[z,H,I,f,q]
 by_cases h0:0<=i
 ·have g:i.toNat=j:=by
   rw[seqIndex_of h0 C]at d;exact Option.some.inj d
  exact wpAny_getItem_list pl.isList h0 () (by rw[g];simpa using k) c
 ·have g:(i+(e.toArray.size:Int)).toNat=j:=by
   rw[seqIndex_neg () y]at d;rw[dI,<-F];exact Option.some.inj d
  exact wpAny_getItem_list_neg pl.isList () (by rw[dI] <;> omega) () (by rw[g];simpa using k) c
mutual
inductive DV (K:ao) (H:Hp):V->PyData->Prop
 | non:DV K H .non .none
 | bl (b):DV K H (.bl b) (.bool b)
 | int (i):DV K H (.int i) (.int i)
 | str (x):DV K H (.str x) (.str x)
 | lst {a xs ds}:SqL K H a xs->DVs K H xs ds->DV K H (.ref a) (.list ds)
 | tup {a xs ds}:SqT K H a xs->DVs K H xs ds->DV K H (.ref a) (.tuple ds)
inductive DVs (K:ao) (H:Hp):List V->List PyData->Prop
 | nil:DVs K H [] []
 | cons {x xs d ds}:DV K H x d->DVs K H xs ds->DVs K H (x :: xs) (d :: ds)
end
theorem DVs.ints {K:ao}{H:Hp}:∀ns:aa,DVs K H (ns.map V.int) (ns.map PyData.int)
 | []=>.nil
 | n :: r=>.cons (.int n) (DVs.ints r)
theorem DV.ints {K:ao}{H:Hp}{a:Addr}{ns:aa}(h:SqL K H a (ns.map V.int)):DV K H (.ref a) (.list (ns.map PyData.int)):=.lst h (DVs.ints ns)
mutual
theorem DV.reads {a:aJ}{σ:St}{H:Hp}{s:Shared}(I:Inv X a σ H s):∀{x:V}{d:PyData}{v:Value},DV X.K H x d->RelV x v->∃as,Reads s.heap v d as
 | _,_,_,.non,r=>by cases r;exact#[_,.none]
 | _,_,_,.bl b,r=>by cases r;exact#[_,.bool b]
 | _,_,_,.int i,r=>by exists r,t,rfl;exact#[_,.int i t]
 | _,_,_,.str x,r=>by exists r,t,rfl;exact#[_,.str x t]
 | _,_,_,.lst hq hs,r=>by
  cases r
  exists I.list hq,f,g,#[o,n,e,c,_,hd],_;exists DVs.reads I hs g,as,h;exact#[_,.list e c hd (⇑h)]
 | _,_,_,.tup hq hs,r=>by
  cases r
  exists I.tuple hq,f,g,#[o,e,c,n,hd],_;exists DVs.reads I hs g,as,h;exact#[_,.tuple e c hd (⇑h)]
theorem DVs.reads {a:aJ}{σ:St}{H:Hp}{s:Shared}(I:Inv X a σ H s):∀{c:List V}{ds:List PyData}{d:List Value},DVs X.K H c ds->Vals c d->∃as,ReadsAll s.heap d ds as
 | _,_,_,.nil,r=>by cases r;exact#[_,.nil]
 | _,_,_,.cons h t,r=>by
  cases r with
  | cons r1 r2=>
   exists DV.reads I h r1,as,e;exists DVs.reads I t r2,bs,f;exact#[_,.cons e f]
end
theorem Ax (j:X.A.units+64<cLine):OpR X (compareOp .Eq) (λx y H Q=>∃da db,DV X.K H x da/\DV X.K H y db/\da.canLay0=true/\db.canLay0=true/\da.depth<=64/\Q (.bl (PyData.eqv da db)) H):=by
 intro a s σ H x y v u Q I c d h;exists h,da,db,hx,hy,e,f,hd,q;exists hx.reads I c,as,g;exists hy.reads I d,bs,i;exact PySem.SeqAt.eqOverData _ _ _ _ _ _ _ _ _ _ _ _ g i e f () #[.bl _,H,I,rfl,q]
end
theorem Ay:∀a c:aa,PyData.eqvAll (a.map PyData.int) (c.map PyData.int)=decide (a=c)
 | [],[]=>by simp[PyData.eqvAll]
 | [],_ :: _=>by simp[PyData.eqvAll]
 | _ :: _,[]=>by simp[PyData.eqvAll]
 | x :: a,y :: c=>by
  have d:=Ay a c;simp only[d9,PyData.eqvAll,PyData.eqv,d];by_cases h:x=y
  ·subst h;simp
  ·simp[h]
theorem Az:∀a:aa,PyData.canLayAll0 (a.map PyData.int)=true
 | []=>rfl
 | _ :: r=>by simp[PyData.canLayAll0,PyData.canLay0,Az r]
theorem AA:∀a:aa,PyData.depthAll (a.map PyData.int)=0
 | []=>rfl
 | _ :: r=>by simp[PyData.depthAll,PyData.depth,AA r]
def Ite (K:ao)(a:Addr):It:=
 #[λi H=>∃xs x,SqL K H a xs/\xs[i]?=Zz x,λi H v H'=>∃p x,H p=Zy/\v=.ref p/\H'=upd H p (.tup [.int i,x])/\∀xs,SqL K H a xs->xs[i]?=Zz x,λi H=>∃xs,SqL K H a xs/\xs.9<=i]
theorem NJ {P:Program}{w:World}{K:ao}{M:List Expr}{tk:Nat}{tpos:Pos}(a e it:Addr)(O:e≠it):
  Turn P w K (.Tuple M tk tpos) (Ite K a) [e,it] e (λi h=>(∃g,IsEnum h e it i g)/\h.IsListIter it a i) where
 mem:=by simp
 obj:=λi h st b f=>by
  exists st,#[g,j],o,Y,c,d;rcases bN.mp f with rfl|f
  ·exact⟨_,j,λv z=>by
    have z':Data.fields _=Data.cell v:=z
    cases z'⟩
  ·rw[bj.mp f];exact#[o,Y,λv z=>by rw[d]at z;cases z]
 keep:=λi h h' st k=>by
  exists st,#[g,j],hit;exact#[#[g,k e (by simp) _ j],hit.at λo q=>k it (by simp) o q]
 item:=by
  intro X hP Z hK p i y s σ H E I Q st hg;subst hP Z hK;exists hg,xs,x,U,hx;exists I.list U,x0,rv,pl,hz;exists rv.get hx,u,hu,ru;exists st,#[g,j],hit;have F:=Q e (by simp);have G:=Q it (by simp);refine wpAny_pyNext_enum_item j hit pl.isList (x:=u) (⇑hu) O λh1 Y R hT v0 hk=>?_;refine#[_,rfl,wpAny_letOwnedTupleGo_enum Y λh2 y0 C=>?_];have J:H s.7=Zy:=I.hok.fresh (aA _);have z0:s.7≠e:=K6 (Heap.lt_size j);have S:∀b o,b∉[e,it]->s.heap.get? b=Zz o->h2.get? b=Zz o:=λb o f q=>
   (C.2 b λz=>f (by simp[z])).trans (hk b o (λz=>f (by simp[z])) (λz=>f (by simp[z])) q)
  have u0:h2.get? s.7=Zz { cls:=.type "tuple",data:=.seq (List.toArray [.int i s.toks,u]) }:=(C.2 _ z0).trans hT;have T:∀b u,H b=Zz u->b∉[e,it]:=λb u q f=>by
   rcases bN.mp f with rfl|f
   ·rw[F.1]at q;cases q
   ·rw[bj.mp f,G.1]at q;cases q
  have up:∀b,b<s.7->b≠s.7:=λb f=>du f;have I2:Inv X y σ (upd H s.7 (.tup [.int i,x])) { s with heap:=h2,toks:=s.toks+1 }:=by
   refine I.step (g':=s.gens) (d':=s.drawn) (t':=s.toks+1) (ch:=[e,it]) (λb f=>?_) (λb o _ _ p q _=>S b o p q) (λb o _ _ p q _=>#[o.slots,S b o p q])
    (λb o _ q n=>#v[aE (up b (Heap.lt_size q)),n]) (λb o p q=>#[o,S b o p q]) (λb ys q=>#v[aE (e_ q J),q]) (λb o v q=>#v[aE (e_ q J),q])
    (λb ps q=>#[(List.toArray []),by rw[aE (e_ q J),q];simp]) (λm hm=>?_) (λb v q=>?_) I.bare
   ·rcases bN.mp f with rfl|f
    ·exact#[F.2.2.2.1,F.2.1,F.2.2.2.2.1,F.2.2.2.2.2]
    ·rw[bj.mp f];exact#[G.2.2.2.1,G.2.1,G.2.2.2.2.1,G.2.2.2.2.2]
   ·exists hm,o,es,ep,q,r;refine#[o,es,ep,S _ o (λz=>?_) q,r];rcases bN.mp z with z|z
    ·exact F.2.1 z.symm
    ·exact G.2.1 (bj.mp z).symm
   ·by_cases f:b=s.7
    ·subst f;rw[ak]at q;cases q;exact#[by show 2<=sizeLine;decide,[.int i s.toks,u],.cons #[_,rfl] (.cons ru .nil),#[_,u0,rfl,_,rfl]]
    ·rw[aE f]at q;refine (I.hok b v q).stay (λc o p r=>S c o ?_ r) (λc r=>#v[aE (e_ r J),r]) λc ys r=>by rw[aE (e_ r J)];exact r
     rcases p with z|z
     ·rw[z];exact T b v q
     ·exact T c _ z
  refine#[.ref s.7,_,I2,rfl,#[_,x,J,rfl,rfl,λys hy=>#v[I.list_inj hy U,hx]],#[#[_,by simpa using y0],R.at λo q=>(C.2 it (Ne.symm O)).trans q],λb f=>?_];have lb:b<s.7:=by
   rcases bN.mp f with rfl|f
   ·exact Heap.lt_size j
   ·rw[bj.mp f];exists hit,_,q,_;exact Heap.lt_size q
  rw[aE (up b lb)];exact (Q b f).1
 done:=by
  intro X hP Z hK p i y s σ H E I Q st hg;subst hP Z hK;exists hg,xs,U,hx;exists I.list U,x0,rv,pl,hz;exists st,#[g,j],hit;obtain⟨f0,f1,f2,f3,f4,f5⟩:=Q it (by simp);have hl:=rv.9;exact wpAny_pyNext_enum_end (I.ok.hd p) j hit pl.isList (by simp;omega) λh' eb=>#[rfl,I.turned (t':=s.toks) (λb o f q=>eb b o f q) f0 f1 f3 f4 f5]
 self:=λ_ _ _ _ _ st h=>by
  exists st,#[g,j],_;exact wpAny_pyIter_enum j h
section
variable {X:Cx}
def FO (K:ao)(ta:TA):TI:=λσ H R=>ta σ H λvs H1=>∃a xs,vs=[.ref a]/\SqL K H1 a xs/\R (Ite K a) H1
theorem sU {f:List Expr}{tk:Nat}{tpos:Pos}{a:Expr}{k:TA}{p pos:Pos}(o:Gl X "enumerate")(u:X.mg "enumerate" = Zy)(v:PA X [a] k)(hs:starEach [a] X.env=[(false,eval a X.env)]:=by rfl):
  PI X (.Tuple f tk tpos) (.Call (.Name "enumerate" p) [a] [] pos) (FO X.K k):=by
 intro c s σ H R I h;refine Call_ (iP I o u boot_enumerate (PyProof.Rows.callWith_type1 (thn (v pos c s σ H _ I h) λO d x=>?_) hs rfl));exists x,P,m,i,y,z;exists z,a,Q,e,C,q;subst e
 cases y with
 | cons r rr=>
  cases rr
  cases r
  exists i.list C,F,S,pl,T;refine call_enumerate_list pl.isList λG n hit J hk=>?_;have M:Inv X c σ m { d with heap:=G }:=i.kept (t':=d.toks) hk;refine wpAny_pyIter_enum n ?_;refine#[d.7+1,[d.7+1,d.7],_,_,m,rfl,M,NJ a _ _ (Nat.succ_ne_self _),#[#[_,n],hit],λb j=>?_,q];have g:d.7<=b:=by
   rcases bN.mp j with rfl|j
   ·exact Cm _
   ·rw[bj.mp j];exact aA _
  exact i.fpOk g (i.hok.fresh g)
end
theorem sV {K:ao}{c:TA}{σ:St}{H:Hp}{R:It->Hp->Prop}:FO K c σ H R=c σ H λe d=>∃a f,e=[.ref a]/\SqL K d a f/\R (Ite K a) d:=rfl
theorem NK {K:ao}{a:Addr}{xs:List V}{g:TG}{tb:TS}{D:Ends}{σ:St}{H:Hp}(c:Nat->St->Hp->Prop)(f:c 0 σ H)(h:∀i σ H,i<=xs.9->c i σ H->SqL K H a xs)(hs:∀i v p σ H,xs[i]?=Zz v->c i σ H->H p=Zy->g (.ref p) σ (upd H p (.tup [.int i,v])) λd j=>tb { D with nx:=c (i+1),ct:=c (i+1),bk:=D.nx } d j)(hd:∀σ H,c xs.9 σ H->D.nx σ H):jO (Ite K a) g tb D σ H:=by
 refine#[λi m σ H=>m=xs.9-i/\i<=xs.9/\c i σ H,#[xs.9,by simp,aU _,f],?_]
 rintro i m σ H ⟨rfl,hi,p⟩
 have q:=h i σ H hi p;by_cases hlt:i<xs.9
 ·refine .inr #[#[xs,xs[i],q,aq hlt],c (i+1),λk n o=>#[xs.9-(i+1),(),rfl,hlt,o],λx n y=>?_];exists y,pa,z,r,s,u,y;subst s u;exact hs i z pa σ H (y xs q) p r
 ·have e:i=xs.9:=()
  subst e;exact .inl #[#[xs,q,aA _],hd σ H p]
def Itv (K:ao)(a:Addr)(n:Nat):It:=
 #[λi H=>i<n/\∃xs,SqL K H a xs/\xs.9=n,λi H x H'=>H'=H/\∀xs,SqL K H a xs->xs[n-1-i]?=Zz x,λi _=>i=n]
theorem NL {P:Program}{w:World}{K:ao}{U:Expr}(a it:Addr)(n:Nat):Turn P w K U (Itv K a n) [it] it (λi h=>h.IsRevIter it a ((n:Int)-1-i)) where
 mem:=by simp
 obj:=λi h st b g=>by
  have e:b=it:=by simpa using g
  subst e;exists st,o,e,c,d;exact#[o,e,λv z=>by rw[d]at z;cases z]
 keep:=λi h m st k=>st.at λo e=>k it (by simp) o e
 item:=by
  intro X hP y hK R i f s σ H E I r st C;subst hP y hK;exists C,hi,S,T,hn;exists I.list T,Y,Z,p,hz;have hx:S[n-1-i]?=Zz (S[n-1-i]'()):=aq ();exists Z.get hx,u,hu,ru;obtain⟨F,G,f2,J,M,O⟩:=r it (by simp);have Q:(n:Int)-1-i=((n-1-i:Nat):Int):=()
  rw[Q]at st;refine wpAny_pyNext_rev_item st p.isList (x:=u) (⇑hu) λm j sb=>?_;have I1:Inv X f σ H { s with heap:=m }:=I.turned (t':=s.toks) (λb o g e=>(sb.2 b g).trans e) F G J M O;have e1:((n-1-i:Nat):Int)-1=(n:Int)-1-((i+1:Nat):Int):=()
  rw[e1]at j;exists id j,o,e,c,d;exact#[u,rfl,qO (s:={ s with heap:=m }) e c d () #[_,H,I1,ru,#[rfl,λys hy=>#v[I.list_inj hy T,hx]],j,λb g=>(r b g).1]]
 done:=by
  intro X hP y hK R i f s σ H E I r st C;subst hP y hK;obtain⟨F,G,f2,J,M,O⟩:=r it (by simp);have Q:(n:Int)-1-i=-1:=by have:i=n:=C;omega
  rw[Q]at st;exact wpAny_pyNext_rev_end (I.ok.hd R) st λm eb=>#[rfl,I.turned (t':=s.toks) (λb o g e=>eb b o g e) F G J M O]
 self:=λ_ _ _ _ _ st h=>wpAny_pyIter_revIter st h
section
variable {X:Cx}{tg:Expr}
def FP (K:ao)(ta:TA):TI:=λσ H R=>ta σ H λvs H1=>∃a xs,vs=[.ref a]/\SqL K H1 a xs/\R (Itv K a xs.9) H1
theorem FQ {a:Expr}{j:TA}{p pos:Pos}(m:Gl X "reversed")(n:X.mg "reversed" = Zy)(u:PA X [a] j)(hs:starEach [a] X.env=[(false,eval a X.env)]:=by rfl):
  PI X tg (.Call (.Name "reversed" p) [a] [] pos) (FP X.K j):=by
 intro c s σ H R I h;refine Call_ (iP I m n boot_reversed (PyProof.Rows.callWith_type1 (thn (u pos c s σ H _ I h) λO d v=>?_) hs rfl));exists v,P,k,g,x,y;exists y,a,i,e,z,q;subst e
 cases x with
 | cons r rr=>
  cases rr
  cases r
  exists g.list z,f,C,pl,Q;have F:=C.9;refine call_reversed_list pl.isList ?_;have G:Inv X c σ k { d with heap:=d.heap.push (revObj a ((f.toArray.size:Int)-1)) }:=g.kept (t':=d.toks) λb o e=>Heap.get?_push_of_some _ e;have st:(d.heap.push (revObj a ((f.toArray.size:Int)-1))).IsRevIter d.7 a ((i.9:Int)-1-((0:Nat):Int)):=by
   have J:(i.9:Int)-1-((0:Nat):Int)=(f.toArray.size:Int)-1:=by rw[dI,F];simp
   rw[J];exact#[_,Heap.get?_push_size _ rfl,rfl,rfl]
  refine wpAny_pyIter_revIter st ?_;refine#[d.7,[d.7],_,_,k,rfl,G,NL a _ i.9,st,λb M=>?_,q];have e:b=d.7:=by simpa using M
  subst e;exact g.fpOk (aA _) (g.hok.fresh (aA _))
end
theorem sW {K:ao}{c:TA}{σ:St}{H:Hp}{R:It->Hp->Prop}:FP K c σ H R=c σ H λf d=>∃a e,f=[.ref a]/\SqL K d a e/\R (Itv K a e.9) d:=rfl
theorem FR {K:ao}{a:Addr}{xs:List V}{g:TG}{tb:TS}{D:Ends}{σ:St}{H:Hp}(c:Nat->St->Hp->Prop)(f:c 0 σ H)(h:∀i σ H,i<=xs.9->c i σ H->SqL K H a xs)(hs:∀i v σ H,i<xs.9->xs[xs.9-1-i]?=Zz v->c i σ H->g v σ H λd j=>tb { D with nx:=c (i+1),ct:=c (i+1),bk:=D.nx } d j)(hd:∀σ H,c xs.9 σ H->D.nx σ H):jO (Itv K a xs.9) g tb D σ H:=by
 refine#[λi m σ H=>m=xs.9-i/\i<=xs.9/\c i σ H,#[xs.9,by simp,aU _,f],?_]
 rintro i m σ H ⟨rfl,hi,p⟩
 have q:=h i σ H hi p;by_cases hlt:i<xs.9
 ·refine .inr #[#[hlt,xs,q,rfl],c (i+1),λk n o=>#[xs.9-(i+1),(),rfl,hlt,o],λx n y=>?_];exists y,e,y;subst e;exact hs i x σ _ hlt (y xs q) p
 ·have e:i=xs.9:=()
  subst e;exact .inl #[rfl,hd σ H p]
section
variable {σ:St}{H:Hp}{Q:VK}{x y v:V}{vs:List V}
theorem sY:FE x y H Q=∃l b a c,x=.ref l/\y=.ref b/\H l=Zz (.lst a)/\H b=Zz (.lst c)/\a.9+c.9<=sizeLine/\∀p,H p=Zy->Q (.ref p) (upd H p (.lst (a++c))):=rfl
theorem sZ:FF x y H Q=∃l k a,x=.ref l/\y=.int k/\H l=Zz (.lst a)/\-(2 ^ 63)<=k/\k<2 ^ 63/\a.9*k.toNat<=sizeLine/\∀p,H p=Zy->Q (.ref p) (upd H p (.lst (bZ k.toNat a).flatten)):=rfl
theorem s_:FB x vs H Q=∃l a y,x=.ref l/\vs=[]/\H l=Zz (.lst a)/\a[a.9-1]?=Zz y/\Q y (upd H l (.lst a.dropLast)):=rfl
theorem tf:FC x vs H Q=∃l a,x=.ref l/\vs=[]/\H l=Zz (.lst a)/\Q .non (upd H l (.lst [])):=rfl
end
theorem cF {X:Cx}:OpR X (binaryOp .Mult) (rI IntMulOk λi j=>.int (i*j)):=opI λ_ _ _ _ _ _ _ a q=>mul_int q a
def Bd (k:Nat)(x:Int):Prop:=x.8<2 ^ k
theorem Bd.mono {k l:Nat}{x:Int}(h:Bd k x)(a:k<=l):Bd l x:=cI h (fu () a)
theorem Bd.zero (k:Nat):Bd k 0:=eo k
theorem Bd.one {k:Nat}(h:0<k):Bd k 1:=by
 have:Bd 1 1:=by show (1:Nat)<2 ^ 1;decide
 exact this.mono h
theorem Bd.neg {k:Nat}{x:Int}(h:Bd k x):Bd k (-x):=by unfold Bd;rw[Co];exact h
theorem Bd.mul {k l:Nat}{x y:Int}(h:Bd k x)(g:Bd l y):Bd (k+l) (x*y):=by
 unfold Bd at *;rw[cc,dN];exact Nat.mul_lt_mul_of_lt_of_lt h g
theorem Bd.add {k:Nat}{x y:Int}(h:Bd k x)(g:Bd k y):Bd (k+1) (x+y):=by
 unfold Bd at *;rw[ko];have:=i7 x y;omega
theorem Bd.sub {k:Nat}{x y:Int}(h:Bd k x)(g:Bd k y):Bd (k+1) (x-y):=by
 rw[Int.sub_eq_add_neg];exact h.add g.neg
theorem Bd.fits {k l:Nat}{x y:Int}(h:Bd k x)(g:Bd l y)(a:k+l<=134217728):IntMulOk x y:=NG h g a
theorem Bd.of_lt {k:Nat}{x:Int}{m:Nat}(h:x.8<m)(a:m<=2 ^ k):Bd k x:=cI h a
def eI (H:Hp)(Q:VK)(ys:List V):Prop:=∀r H',Same H H'->H r=Zy->H' r=Zz (.lst ys)->Q (.ref r) H'
theorem aB {H:Hp}{p:Addr}(h:H p=Zy)(o:HO):Same H (upd H p o):=λb u q=>#v[aE (e_ q h),q]
theorem iD {xs:aa}{i:Nat}(h:i<xs.9):atI (xs.map V.int) (i:Int)=Zz (V.int xs[i]):=f8 (by rw[aI,aq h];rfl)
theorem jR {n i:Nat}(h:i<n):ixN n (i:Int)=Zz i:=by
 unfold ixN;rw[if_pos (),if_pos ()];simp
theorem FS {n i:Nat}(h:0<i)(a:i<=n):ixN n (-(i:Int))=Zz (n-i):=by
 unfold ixN;rw[if_neg (),if_pos ()];congr 1;omega
theorem jS {xs:aa}(h:xs≠[]):atI (xs.map V.int) (-1)=Zz (V.int (xs.getLast h)):=by
 unfold atI;have a:0<xs.9:=by cases xs with|nil=>exact absurd rfl h|cons _ _=>simp
 have e:=FS (n:=(xs.map V.int).9) (i:=1) () #v[af,a];have c:(-((1:Nat):Int))=-1:=rfl;rw[c]at e;rw[e];show (xs.map V.int)[(xs.map V.int).9-1]?=_;rw[aI,af,<-gi,mW h];rfl
theorem map_set (xs:aa)(i:Nat)(v:Int):(xs.map V.int).set i (V.int v)=(xs.set i v).map V.int:=by rw[List.map_set]
theorem tj {i j:Int}(a:-(2 ^ 60)<i)(c:i<2 ^ 60)(d:-(2 ^ 60)<j)(e:j<2 ^ 60):Builtin.Range.small i j (-1)=true:=by
 unfold Builtin.Range.small;simp only[Builtin.Range.rangeFitsLong,Builtin.Range.rangeSize,Bool.and_eq_true,Bool.or_eq_true,decide_eq_true_eq,beq_iff_eq,show ¬(-1:Int) > 0 by decide,if_false,Int.neg_neg,Int.ediv_one]
 split <;> omega
theorem tm {i j:Int}{n:Nat}(h:(i-j).toNat=n):Builtin.Range.rangeSize i j (-1)=n:=by
 unfold Builtin.Range.rangeSize;simp only[show ¬(-1:Int) > 0 by decide,if_false,Int.neg_neg,Int.ediv_one]
 split <;> omega
theorem oj {xs:aa}{i:Nat}{v:Int}(h:xs[i]?=Zz v):atI (xs.map V.int) (i:Int)=Zz (V.int v):=f8 (by rw[aI,h];rfl)
theorem Same.more {H a:Hp}{p:Addr}{o:HO}(e:Same H a)(h:H p=Zy):Same H (L2.upd a p o):=λb u q=>#v[aE (e_ q h),e b u q]
section
variable {κ:Type}[DecidableEq κ]
noncomputable def fO (kvs:List (κ×V)) (k:κ):Option V:=(kvs.find? λkv=>decide (kv.1=k)).map (·.2)
noncomputable def jn (kvs:List (κ×V)) (k:κ) (v:V):List (κ×V):=
 if (kvs.any λkv=>decide (kv.1=k))=true then kvs.map (λkv=>if kv.1=k then (kv.1,v) else kv) else kvs++[(k,v)]
theorem NM {p:κ×V}{r:List (κ×V)}{k:κ}(e:p.1=k):fO (p :: r) k=Zz p.2:=by simp[fO,Cp,e]
theorem NN {p:κ×V}{r:List (κ×V)}{k:κ}(e:¬p.1=k):fO (p :: r) k=fO r k:=by simp[fO,Cp,e]
theorem NO (a:List (κ×V))(k:κ)(v:V):(jn a k v).9<=a.9+1:=by
 unfold jn
 split
 ·rw[af];omega
 ·rw[b8,cP,Cq];omega
theorem KV.val {a:List (κ×V)}{vs:List (κ×Value)}(r:KV a vs)(k:κ):RelO (fO a k) (valueAt vs k):=by
 unfold KV at r
 induction r with
 | nil=>exact True.intro
 | @cons p q ps qs h t ih=>
  exists h,d,f;by_cases e:p.1=k
  ·have c:q.1=k:=d.symm.trans e;have b:valueAt (q :: qs) k=Zz q.2:=by simp[valueAt,Cp,c]
   rw[NM e,b];exact f
  ·have c:¬q.1=k:=λz=>e (d.trans z);have b:valueAt (q :: qs) k=valueAt qs k:=by simp[valueAt,Cp,c]
   rw[NN e,b];exact ih
theorem KV.any {a:List (κ×V)}{vs:List (κ×Value)}(r:KV a vs)(k:κ):(a.any λc=>decide (c.1=k))=vs.any λc=>decide (c.1=k):=by
 unfold KV at r
 induction r with
 | nil=>rfl
 | cons h t ih=>rw[vH,vH,ih,h.1]
theorem KV.repl {c:List (κ×V)}{vs:List (κ×Value)}(r:KV c vs)(k:κ){y:V}{u:Value}(f:RelV y u):
  KV (c.map λa=>if a.1=k then (a.1,y) else a) (vs.map λa=>if a.1=k then (a.1,u) else a):=by
 unfold KV at r ⊢
 induction r with
 | nil=>exact .nil
 | @cons p q ps qs h t ih=>
  rw[d9,d9];refine .cons ?_ ih;exists h,d,g;by_cases e:p.1=k
  ·rw[if_pos e,if_pos (d.symm.trans e)];exact#[d,f]
  ·rw[if_neg e,if_neg (λz=>e (d.trans z))];exact#[d,g]
theorem KV.put {a:List (κ×V)}{vs:List (κ×Value)}(r:KV a vs)(k:κ){y:V}{u:Value}(c:RelV y u):KV (jn a k y) (stored vs k u):=by
 unfold jn stored;rw[r.any k];by_cases e:(vs.any λd=>decide (d.1=k))=true
 ·rw[if_pos e,if_pos e];exact r.repl k c
 ·rw[if_neg e,if_neg e];exact Paired.snoc r #[rfl,c]
theorem KV.length {a:List (κ×V)}{vs:List (κ×Value)}(r:KV a vs):a.9=vs.9:=Paired.length r
end
theorem NP {P:Program}{w:World}{k:Key}{u:Value}(r:RelV (kV k) u):(jf P w).is k u=true:=by
 cases k with
 | inl i=>obtain⟨t,e⟩:=(show ∃t,u=Value.int i t from r);subst e;exact Mo P w i t
 | inr x=>obtain⟨t,e⟩:=(show ∃t,u=Value.str x t from r);subst e;exact Mp P w x t
section
variable {P:Program}{w:World}{H:Hp}{h:Heap}{a:Addr}
theorem NQ {u:HO}(ok:HOk P w H h)(e:Rd H a u):ObjOk P w H h a u:=e.ok ok
theorem NR {c:List (Key×V)}(ok:HOk P w H h)(e:Rd H a (.dK c)):c.9<=sizeLine/\(a == sysModules)=false/\∃d,KV c d/\h.DictOf (jf P w) a d:=
 show ObjOk P w H h a (.dK c) from NQ ok e
theorem NS {c:List (Key×V)}(ok:HOk P w H h)(e:H a=Zz (.dK c)):c.9<=sizeLine/\(a == sysModules)=false/\∃d,KV c d/\h.DictOf (jf P w) a d:=NR ok (.inl e)
end
section
variable {X:Cx}{Vz:aJ}{σ:St}{H:Hp}{s:Shared}{a:Addr}{y v:V}{u r:Value}{o:Option V}{A:Around}{E:aX}
theorem Inv.big (I:Inv X Vz σ H s):sysModules<s.7:=by
 have h:mainGlobals<s.7:=(I.mod.glob.keeps I.bk).lt;exact Nat.lt_trans () h
theorem NU {h':Heap}{t':Nat}{c:HO}(I:Inv X Vz σ H s)(f:Mut (H a))(hs:Heap.SameBut a s.heap h')(g:∃q,h'.get? a=Zz q)(d:ObjOk X.prog X.w (upd H a c) h' a c):
  Inv X Vz σ (upd H a c) { s with heap:=h',toks:=t' }:=
 I.write (x:=a) (e:=a) f (.inl rfl) (λb q h z=>(hs.2 b h).trans z) g d
theorem NV {P:Program}{w:World}{d:Hp}{h':Heap}{c:List (Key×V)}{vs:List (Key×Value)}(z:c.9<=sizeLine)(hd:(a == sysModules)=false)(rel:KV c vs)(dd:h'.DictOf (jf P w) a vs):
  ObjOk P w d h' a (.dK c):=#[z,hd,vs,rel,dd]
end
theorem NW {P:Program}{w:World}{H:Hp}(h:Heap)(a:sysModules<h.objs.size):ObjOk P w H (h.push { cls:=.type "dict",data:=.dict (List.toArray []) }) h.objs.size (.dK []):=
 #[aU _,beq_eq_false_iff_ne.mpr (Ne.symm (du a)),[],.nil,Heap.DictOf.new h]
def FT:TE:=λ_ H Q=>∀p,H p=Zy->Q (.ref p) (upd H p (.dK []))
section
variable {X:Cx}{pos:Pos}
theorem NX:PE X (.Dict [] [] pos) FT:=λc s σ H Q I h=>
 wpAny_Dict_empty #[.ref s.7,_,I.laid (a:=s.7) (o:=.dK []) (t':=s.toks) (λ_ _ q=>Heap.get?_push_of_some _ q) (aA _) (NW s.heap I.big),rfl,h _ (I.hok.fresh (aA _))]
end
structure M1 (X:Cx)(o:Expr)(m:Str)(apos:Pos)(e:Expr)(cpos:Pos):Prop where
 base:attributeBase o m X.env (eval o X.env)=eval o X.env
 few:((backTo cpos (starEach [e] X.env)).all (λx=>!x.1) && (backToKw cpos (keywordEach [] X.env)).all (λx=>x.1.isSome)
  && decide (([e]:List Expr).9+([]:List Keyword).9+(if ([]:List Keyword).isEmpty then 0 else 1)<30))=true
 line:(apos.endLine == cpos.line)=true
 trees:backTo cpos (starEach [e] X.env)=[(false,eval e X.env)]
structure M2 (X:Cx)(o:Expr)(m:Str)(apos:Pos)(e f:Expr)(cpos:Pos):Prop where
 base:attributeBase o m X.env (eval o X.env)=eval o X.env
 few:((backTo cpos (starEach [e,f] X.env)).all (λx=>!x.1) && (backToKw cpos (keywordEach [] X.env)).all (λx=>x.1.isSome)
  && decide (([e,f]:List Expr).9+([]:List Keyword).9+(if ([]:List Keyword).isEmpty then 0 else 1)<30))=true
 line:(apos.endLine == cpos.line)=true
 trees:backTo cpos (starEach [e,f] X.env)=[(false,eval e X.env),(false,eval f X.env)]
def Ends.drop (D:Ends)(i:Nat):Ends:={ nx:=λσ H=>D.nx (σ.set i Zy) H,rt:=D.rt,bk:=λσ H=>D.bk (σ.set i Zy) H,ct:=λσ H=>D.ct (σ.set i Zy) H }
open PySem PySem.Spec PySem.W PyProof.Rows Builtin Builtin.ObjectAttr Builtin.Getset_descriptor
theorem tq {K:ao}{a:Addr}{xs:List V}{g:TG}{tb:TS}{D:Ends}{σ:St}{H:Hp}(c:Nat->St->Hp->Prop)(e:c 0 σ H)(f:∀i σ H,i<=xs.9->c i σ H->SqL K H a xs)(hs:∀i v p σ H,xs[i]?=Zz v->c i σ H->H p=Zy->g (.ref p) σ (upd H p (.tup [.int i,v])) λd h=>tb { D with nx:=c (i+1),ct:=c (i+1),bk:=D.nx } d h)(hd:∀σ H,c xs.9 σ H->D.nx σ H):jO (Ite K a) g tb D σ H:=NK c e f hs hd
theorem NY {prog:Program}{w:World}{A:Around}{R:Result->Shared->Prop}{s:Shared}{y a i g:Expr}{d:Scope}{pos:Pos}{it z:Value}{env:Env}(I:Nat->Shared->Prop)(C:∀n s (E:aX),I n s->wpAny (model prog w) A (pyNext it) (λr e=>match r with
   | none=>R (.ok .next) e
   | some v=>wpAny (model prog w) A (letOwnedTupleGo a it v) (λ_ j=>wpAny (model prog w) A (assign a env v) (λ_ k=>wpAny (model prog w) A (isTrue g env (eval g env)) (λb f=>if b=true then wpAny (model prog w) A (eval y env) (λx o=>
     wpAny (model prog w) A (call (.builtin "list.append") [z,x]) (λ_ p=>∃m,m<n/\I m p) E o) E f else ∃m,m<n/\I m f) E k) E j) E e) E s)(n:Nat)(h:I n s):
  codeAny (model prog w) A (.compLoop (.ListComp y [#[a,i,[g],0]] d pos) 0 it z env) R s:=by
 refine codeAny_loop rfl I (λn s M=>?_) n h;show wpAny _ _ ((compTurn (.ListComp y [#[a,i,[g],0]] d pos) 0 it z env).onRaise (λx=>do noteFrame x env;theTreesLotGoes x)) _ _ s;refine wpAny_noted ?_;unfold compTurn;dsimp only[Lc];refine wpAny_bind (wpAny_standAt (wpAny_bind (wpAny_mono (C n s _ M) (λr e u=>?_) λ_ _ O=>O)))
 cases r with
 | none=>exact wpAny_pure u
 | some v=>
  refine wpAny_bind (thn u λ_ j F=>wpAny_bind (thn F λ_ k G=>wpAny_bind ?_));rw[List.forIn_cons,if_pos rfl];refine wpAny_bind (wpAny_bind (thn G λb f c=>wpAny_pure ?_));dsimp only;rw[List.forIn_nil];refine wpAny_pure ?_
  cases b with
  | true=>
   rw[if_pos rfl]at c ⊢;exact wpAny_bind (wpAny_bind (thn c λx o H=>wpAny_bind (thn H λ_ p J=>wpAny_pure (wpAny_pure #[rfl,J]))))
  | false=>
   rw[if_neg ()]at c ⊢;exact wpAny_pure #[rfl,c]
section
variable {X:Cx}{elt iter cnd:Expr}{x:Str}{px:Pos}{fv:List (Nat×Str)}{scope:Scope}{cl:List (Str×Addr)}{pos:Pos}{te:TE}{tt:TT}{wi:TI}
def AB (J:It)(fv:List (Nat×Str))(tt:TT)(te:TE)(Q:VK)(σ:St)(H1:Hp)(D:Addr):Prop:=∃W:Nat->Nat->Hp->Prop,(∃m,W 0 m (upd H1 D (.lst [])))/\∀i m H,W i m H->
 (J.stop i H/\Q (.ref D) H)\/(J.go i H/\∃N:Hp->Prop,(∀H',N H'->∃m',m'<m/\W (i+1) m' H')/\∀v H',J.yld i H v H'->tt (bst fv σ (Zz v)) H' λb Hb=>if b=true then te (bst fv σ (Zz v)) Hb λy H2=>∃ys,H2 D=Zz (.lst ys)/\ys.9<sizeLine/\N (upd H2 D (.lst (ys++[y]))) else N Hb)
def FW (fv:List (Nat×Str))(wi:TI)(tt:TT)(te:TE):TE:=λσ H Q=>wi σ H λJ H1=>∀D,H1 D=Zy->AB J fv tt te Q σ H1 D
theorem NZ {a:aJ}{σ:St}{H:Hp}{d:Shared}{it:Addr}{h:am}{tn:Nat->Heap->Prop}{J:It}{Q:VK}{E:aX}{RR:Value->Addr->Result->Shared->Prop}(hc:X.calm=true)(B:BlkOk X x fv scope cl)(y1:∀C s H h,PT (blk X x fv scope cl C s H h) cnd tt)(he:∀C s H h,PE (blk X x fv scope cl C s H h) elt te)(I:Inv X a σ H d)(T:Turn X.prog X.w X.K (.Name x px) J h it tn)(st:tn 0 d.heap)(hf:∀b∈h,dm X a H b)(rd:∀D,H D=Zy->∃W:Nat->Nat->Hp->Prop,(∃m,W 0 m (upd H D (.lst [])))/\∀i m H,W i m H->
   (J.stop i H/\Q (.ref D) H)\/(J.go i H/\∃N:Hp->Prop,(∀j,N j->∃R,R<m/\W (i+1) R j)/\∀v j,J.yld i H v j->tt (bst fv σ (Zz v)) j λb Hb=>if b=true then te (bst fv σ (Zz v)) Hb λy H2=>∃ys,H2 D=Zz (.lst ys)/\ys.9<sizeLine/\N (upd H2 D (.lst (ys++[y]))) else N Hb))(z1:∀D C s' j R,Inv X a σ j s'->dm X a j C->s'.heap.Ns C R->Q (.ref D) j->RR (.ref D) C (.ok .next) s'):
  wpAny (model X.prog X.w) X.A (newList []) (λx0 y0=>wpAny (model X.prog X.w) X.A (newFunctionEnv scope X.env.globals cl [] X.env.qual Zy .none (Zz X.env)) (λS z0=>
   codeAny (model X.prog X.w) X.A (.compStart (.ListComp elt [#[.Name x px,iter,[cnd],0]] scope pos) 0 (.ref it) x0 { S with scope:=relabel scope X.env }) (RR x0 S.locals) z0) E y0) E d:=by
 refine wpAny_newObj_type ?_ (by show 0<=sizeLine;exact aU _);have hD:H d.7=Zy:=I.hok.fresh (aA _);have I3:=I.lnew (ys:=[]) (its:=[]) (t':=d.toks) .nil (aU _);generalize Y:({ d with heap:=d.heap.push { cls:=.type "list",data:=.seq ([]:List Value).toArray },toks:=d.toks }:Shared)=f at I3;have u1:f.7=d.7+1:=by rw[<-Y];exact Heap.size_push ..
 have u0:∀b o,d.heap.get? b=Zz o->f.heap.get? b=Zz o:=λb o e=>by rw[<-Y];exact Heap.get?_push_of_some _ e
 have v0:∀b∈h,dm X a (upd H d.7 (.lst [])) b:=λb g=>by
  exists hf b g,f0,r;refine#[?_,r];exists T.obj 0 _ st b g,o,e,_;rw[aE (du (Heap.lt_size e))];exact f0
 have v1:∀b∈h,b<d.7:=λb g=>by
  exists T.obj 0 _ st b g,o,e,_;exact Heap.lt_size e
 have j1:tn 0 f.heap:=T.keep 0 _ _ st λb _ o e=>u0 b o e;exists rd _ hD,W,#[m0,w0],j0;refine wpAny_newFunctionEnv B.nocell (by intro y hy;simp at hy) (λk M O=>?_) B.kind;have k0:∀b∈h,b≠f.7:=λb g=>du #v[u1,pD (v1 b g)];have n0:∀b o,f.heap.get? b=Zz o->k.get? b=Zz o:=λb o e=>O.extBut b o (du (Heap.lt_size e)) (Heap.get?_push_of_some _ e);generalize Z:({ f with heap:=k,toks:=f.toks+([]:List (Str×Value)).9 }:Shared)=s4;have h4:s4.heap=k:=by rw[<-Z]
 have I4:Inv (blk X x fv scope cl f.7 f (upd H d.7 (.lst [])) h) [] (bst fv σ Zy) (upd H d.7 (.lst [])) s4:=
  FH B I3 v0 rfl k0 (by rw[<-Z]) (by rw[<-Z]) (λb o e=>#v[h4,n0 b o e]) #v[h4,M]
 have x1:tn 0 s4.heap:=by rw[h4];exact T.keep 0 _ _ j1 λb _ o e=>n0 b o e
 have F:∀{j:Hp},(∀b∈h,j b=Zy)->∀b∈h,dm (blk X x fv scope cl f.7 f (upd H d.7 (.lst [])) h) [] j b:=λ{j} hn b g=>by
  exists hf b g,_,f1,f2,f3,f4,f5;refine#[hn b g,k0 b g,λz=>?_,.inl g,λy c e=>f4 y c (B.sub y c e),λp hp=>absurd (show p∈([]:aJ) from hp) (by simp)];rcases bN.mp (I.stkSub b z) with q|q
  ·exact f1 q
  ·exact f2 q
 have U:codeAny (model X.prog X.w) X.A (.compLoop (.ListComp elt [#[.Name x px,iter,[cnd],0]] scope pos) 0 (.ref it) (.ref d.7) (compEnvC scope cl f.7 X.env)) (RR (.ref d.7) f.7) s4:=by
  refine NY (λn s'=>∃i j o,Inv (blk X x fv scope cl f.7 f (upd H d.7 (.lst [])) h) [] (bst fv σ o) j s'/\tn i s'.heap/\(∀b∈h,j b=Zy)/\W i n j) ?_ m0
   #[0,_,Zy,I4,x1,λb g=>(v0 b g).1,w0]
  rintro n s5 E' ⟨i,H5,o5,I5,st5,fr5,w5⟩
  rcases j0 i n H5 w5 with ⟨stop,q⟩|⟨go,N,hN,step⟩
  ·refine thn (T.done (blk X x fv scope cl f.7 f (upd H d.7 (.lst [])) h) rfl rfl rfl hc i [] s5 _ H5 _ I5 (F fr5) st5 stop) λr s6 G=>?_;exists G,hr,I6;subst hr;exists I6.loc,m6,k1,_;have J6:Inv X a σ H5 s6:=qW I I6.hok I6.bare hD u0 I6.base (I6.os.trans (by rw[<-Y])) hf;refine z1 _ _ s6 H5 m6 J6 ?_ k1 q;exact I3.fpOk (aA _) I6.free
  ·refine thn (T.item (blk X x fv scope cl f.7 f (upd H d.7 (.lst [])) h) rfl rfl rfl hc i [] s5 _ H5 _ I5 (F fr5) st5 go) λr s6 G=>?_;exists G,u,hr,h6;subst hr;refine thn h6 λ_ s7 G=>?_;exists G,v,H7,I7,r7,y7,P,g1;have m1:=I7.pinned (F g1) (T.obj _ _ P);refine FI B m1 r7 λs8 I8=>?_;have c8:=y1 _ _ _ _ _ s8 _ H7 _ I8 (step v H7 y7);refine wpAny_mono c8 (λbb sb G=>?_) λ_ _ z=>False.elim z;obtain⟨Hb,Ib,qb⟩:=G
   cases bb with
   | false=>
    rw[if_neg ()]at qb;show (if false=true then _ else _);rw[if_neg ()];exists hN _ qb,R,hm,w9;refine#[R,hm,i+1,_,Zz v,Ib.unpinned,T.keep _ _ _ P λb g o e=>(Ib.pin (b,o) (hH _ (hH _ (mj g e)))).1,λb g=>?_,w9];exists T.obj _ _ P b g,o,e,_;exact (Ib.pin (b,o) (hH _ (hH _ (mj g e)))).2.1
   | true=>
    rw[if_pos rfl]at qb;show (if true=true then _ else _);rw[if_pos rfl];have e8:=he _ _ _ _ _ sb _ Hb _ Ib qb;refine wpAny_mono e8 (λy s9 G=>?_) λ_ _ z=>False.elim z;exists G,yv,H9,I9,r9,ys,x2,hz,n9;have a9:=qX (E':=E') T (λ_ _ z=>z) P I9 r9 x2 hz n9 hN;refine wpAny_mono a9 (λ_ j2 G=>?_) λ_ _ z=>z;exists G,R,hm,y2,z2,u2,v2,w9;exact#[R,hm,i+1,y2,_,z2,u2,v2,w9]
 exact codeAny_compStart_list U (T.self _ 0 _ _ _ x1 U)
end
theorem tu {a:List (Nat×Str)}{c:TI}{d:TT}{e:TE}{σ:St}{H:Hp}{Q:VK}:FW a c d e σ H Q=c σ H λJ f=>∀D,f D=Zy->AB J a d e Q σ f D:=rfl
theorem ol:∀{ns:aa}{a:List Value},Vals (ns.map V.int) a->IntsAre a ns
 | [],a,h=>by
  cases h;exact .nil
 | n :: ns,a,h=>by
  cases h with
  | cons r rr=>
   exists r,t,rfl;exact .cons n t (ol rr)
theorem AC {a:Array (Int×Tok)}{ns:aa}(e:ns=a.toList.map (·.1)){j:Nat}(c:j<a.size):numAt a j∈ns:=by
 rw[e,numAt_eq];exact PySem.getD_mem (⇑c)
theorem AD {a:Array (Int×Tok)}{ns:aa}(e:ns=a.toList.map (·.1)){x:Int}(hx:x∈ns):∃j,j<a.size/\numAt a j=x:=by
 rw[e]at hx;exists mem_getD hx,i,hi,h;exact#[i,by simpa using hi,#v[numAt_eq,h]]
theorem FX {X:Cx}(o:X.calm=true):gX X (.builtin "min") (λj H Q=>∃p ns,j=[.ref p]/\SqL X.K H p (ns.map V.int)/\ns≠[]/\∀M,M∈ns->(∀a,a∈ns->M<=a)->Q (.int M) H):=by
 intro k s σ H j P Q I r h;exists h,p,ns,rfl,y,f,q;obtain⟨u,rfl,z⟩:=jL r
 cases z
 exists I.list y,C,F,pl,R;have hi:=ol F;exists hi.allInts.items,d,e;have c:ns=d.toList.map (·.1):=by rw[<-hi.numsOf,<-nums_intItems,<-e]
 have g:0<d.size:=by
  have m:=dw.mpr f;rw[c,af,Array.length_toList]at m;exact m
 have n:=pl.isList;rw[e]at n;refine min_intList (I.ok.hd o) n g λv S T G hk=>?_;exists intItems_at G,J,rfl;exists argBest_lt (numAt d) (d.size-1),U,O;refine#[.int _,H,I.kept hk,#[J,rfl],q _ (AC c ()) λx hx=>?_];exists AD c hx,i,hi,rfl;exact O i ()
theorem AE {X:Cx}(o:X.calm=true):gX X (.builtin "max") (λj H Q=>∃p ns,j=[.ref p]/\SqL X.K H p (ns.map V.int)/\ns≠[]/\∀M,M∈ns->(∀a,a∈ns->a<=M)->Q (.int M) H):=by
 intro k s σ H j P Q I r h;exists h,p,ns,rfl,y,f,q;obtain⟨u,rfl,z⟩:=jL r
 cases z
 exists I.list y,C,F,pl,R;have hi:=ol F;exists hi.allInts.items,d,e;have c:ns=d.toList.map (·.1):=by rw[<-hi.numsOf,<-nums_intItems,<-e]
 have g:0<d.size:=by
  have m:=dw.mpr f;rw[c,af,Array.length_toList]at m;exact m
 have n:=pl.isList;rw[e]at n;refine max_intList (I.ok.hd o) n g λv S T G hk=>?_;exists intItems_at G,J,rfl;exists argBest_gt (numAt d) (d.size-1),U,O;refine#[.int _,H,I.kept hk,#[J,rfl],q _ (AC c ()) λx hx=>?_];exists AD c hx,i,hi,rfl;exact O i ()
@[reducible] def ii (X:Cx) (x z:Str) (fv:List (Nat×Str)) (scope:Scope) (cl:List (Str×Addr)) (C:Addr) (s:Shared) (H:Hp) (fp:am):Cx where
 prog:=X.prog
 w:=X.w
 K:=X.K
 mg:=X.mg
 base:=X.base
 A:=X.A
 N:=x :: z :: fv.map (·.2)
 s₀:=s
 H₀:=H
 env:=compEnvC scope cl C X.env
 outer:=X.stack
 stack:=X.stack
 ex:=fp
 fn:=λ_=>false
 calm:=X.calm
 pn:=[]
 xe:=λ_ _=>False
def fm (fv:List (Nat×Str))(σ:St)(v v2:Option V):St:=v :: v2 :: fv.map λp=>(σ[p.1]?).getD Zy
structure BlkOk2 (X:Cx)(x z:Str)(fv:List (Nat×Str))(scope:Scope)(cl:List (Str×Addr)):Prop where
 clos:closureFor scope X.env=pure cl
 nocell:∀y∈scope.names,y.2≠.cell
 kind:scope.kind=.function
 names:∀y∈scope.names,y.2=.local->scope.names.lookup y.1=Zz .local
 here:scope.names.lookup x=Zz .local
 here2:scope.names.lookup z=Zz .local
 nd:(x :: z :: fv.map (·.2)).Nodup
 sub:∀y c,cl.lookup y=Zz c->X.env.cells.lookup y=Zz c
 has:∀y,((relabel scope X.env).names.lookup y=Zz .cell\/(relabel scope X.env).names.lookup y=Zz .free)->∃c,cl.lookup y=Zz c
 fvs:∀p∈fv,X.N[p.1]?=Zz p.2/\(X.env.scope.names.lookup p.2=Zz .cell\/X.env.scope.names.lookup p.2=Zz .free)/\
  ((relabel scope X.env).names.lookup p.2=Zz .cell\/(relabel scope X.env).names.lookup p.2=Zz .free)/\∃c,cl.lookup p.2=Zz c
section
variable {X:Cx}{elt iter:Expr}{x z:Str}{px pz:Pos}{tk:Nat}{tpos:Pos}{fv:List (Nat×Str)}{scope:Scope}{cl:List (Str×Addr)}{pos:Pos}{te:TE}{wi:TI}
theorem N8 {a:aJ}{σ:St}{H:Hp}{s:Shared}{f:am}{C:Addr}(B:BlkOk2 X x z fv scope cl)(I:Inv X a σ H s)(g:∀b∈f,dm X a H b)(hC:s.7<=C)(i:∀b∈f,b≠C):
  (ii X x z fv scope cl C s H f).Ok where
 mod:=I.ok.mod
 kind:=B.kind
 glob:=I.ok.glob
 blt:=I.ok.blt
 above:=hC
 inj:=λy k c m n=>I.ok.inj y k c (B.sub y c m) (B.sub k c n)
 has:=λy hy=>B.has y hy
 cab:=λy c h=>nomatch h
 hd:=I.ok.hd
 frames:=I.ok.frames
 stk:=.inl rfl
 exf:=λb d=>#[i b d,λy c e=>(g b d).2.2.2.2.1 y c (B.sub y c e)]
 bs:=I.bs
 bsz:=aQ I.ok.bsz I.sz
 noex:=λb o e d=>by
  exists g b d,_,_,_,p,_;rcases p with j|j
  ·exact I.ok.noex b o e j
  ·exact absurd (cI (Heap.lt_size e) (aQ I.ok.bsz j)) (ki _)
 exfs:=λb d hs=>by
  exists g b d,_,r,u,_;rcases bN.mp (I.stkSub b hs) with z|z
  ·exact r z
  ·exact u z
 funs:=I.stack
 frf:=I.stkFree
theorem N9 {fv:List (Nat×Str)}{σ:St}{o e:Option V}{j:Nat}{y:Str}{v:V}(f:(x :: z :: fv.map (·.2))[j+2]?=Zz y)(g:(fm fv σ o e)[j+2]?=Zz (Zz v)):∃p∈fv,p.2=y/\σ[p.1]?=Zz (Zz v):=by
 have a:(fv.map (·.2))[j]?=Zz y:=by simpa using f
 have d:(fv.map λp=>(σ[p.1]?).getD Zy)[j]?=Zz (Zz v):=by simpa [fm] using g
 rw[aI]at a d
 cases q:fv[j]? with
 | none=>rw[q]at a;cases a
 | some p=>
  rw[q]at a d;refine#[p,b4 q,Option.some.inj a,?_];have c:(σ[p.1]?).getD Zy=Zz v:=Option.some.inj d
  cases r:σ[p.1]? with
  | none=>rw[r]at c;cases c
  | some w=>rw[r]at c;exact congrArg Zz c
theorem N_ {a:aJ}{σ:St}{H:Hp}{s d:Shared}{g:am}{C:Addr}{m:bH}(B:BlkOk2 X x z fv scope cl)(I:Inv X a σ H s)(R:∀b∈g,dm X a H b)(hC:C=s.7)(h:∀b∈g,b≠C)(os:d.os=s.os)(f:d.gens=s.gens)(keep:∀b o,s.heap.get? b=Zz o->d.heap.get? b=Zz o)(ns:d.heap.Ns C m):
  Inv (ii X x z fv scope cl C s H g) [] (fm fv σ Zy Zy) H d:=by
 subst hC;refine#[N8 B I R (aA _) h,os,#v[f,I.bare],Un.kept keep,#[m,ns,λi y v S n Z=>?_],λy c e=>?_,I.hok.fresh (aA _),λy c e=>I.freeC y c (B.sub y c e),λp F=>absurd (show p∈([]:aJ) from F) (by simp),I.hok.kept keep,by simp[fm]]
 ·cases i with
  | zero=>simp[fm]at n
  | succ j=>
   cases j with
   | zero=>simp[fm]at n
   | succ j=>
   exists N9 S n,p,F,rfl,T;exists B.fvs p F,U,hk,G,c,P;exists I.loc,m0,_,Y;have J:Vis X.env.scope p.2:=hk.elim (λz=>.inr (.inl z)) λz=>.inr (.inr z);exists Y p.1 p.2 v U T J,u,r,l;refine#[u,r,.inr #[G,c,P,?_]];rcases l with ⟨z,_⟩|⟨_,c',M,o,O,hd⟩
   ·have Q:X.env.scope.names.lookup p.2=Zz .local:=z;rcases hk with k|k <;> (rw[k]at Q;cases Q)
   ·have:=B.sub p.2 c P;rw[M]at this;cases this;exact#[o,keep _ o O,hd]
 ·exists I.cell y c (B.sub y c e),v,o,O,hd;exact#[v,o,keep c o O,hd]
theorem Oa {s:Shared}{a:Hp}{c:am}{C:Addr}(f:X.calm=true)(B:BlkOk2 X x z fv scope cl):
  PG (ii X x z fv scope cl C s a c) (.Tuple [.Name x px,.Name z pz] tk tpos) (z_ X.K 2 (qI (gU 0) (qI (gU 1) zZ))):=by
 have d:(relabel scope X.env).names.lookup x=Zz .local:=lookup_relabel_local B.here;have e:(relabel scope X.env).names.lookup z=Zz .local:=lookup_relabel_local B.here2;exact jK (X:=ii X x z fv scope cl C s a c) f (f7 (cm (i:=0) B.nd rfl (.inl d) (.inr d)) (f7 (cm (i:=1) B.nd rfl (.inl e) (.inr e)) jJ))
theorem FY {a:aJ}{σ:St}{H:Hp}{d:Shared}{it:Addr}{h:am}{tn:Nat->Heap->Prop}{J:It}{Q:VK}{E:aX}{RR:Value->Addr->Result->Shared->Prop}(hc:X.calm=true)(B:BlkOk2 X x z fv scope cl)(he:∀C s H h,PE (ii X x z fv scope cl C s H h) elt te)(I:Inv X a σ H d)(T:Turn X.prog X.w X.K (.Tuple [.Name x px,.Name z pz] tk tpos) J h it tn)(st:tn 0 d.heap)(hf:∀b∈h,dm X a H b)(rd:∀D,H D=Zy->∃W:Nat->Nat->Hp->Prop,(∃m,W 0 m (upd H D (.lst [])))/\∀i m H,W i m H->
   (J.stop i H/\Q (.ref D) H)\/(J.go i H/\∃N:Hp->Prop,(∀f,N f->∃Z,Z<m/\W (i+1) Z f)/\∀v f,J.yld i H v f->∃q x1 S,v=.ref q/\SqT X.K f q [x1,S]/\te (fm fv σ (Zz x1) (Zz S)) f λy H2=>∃ys,H2 D=Zz (.lst ys)/\ys.9<sizeLine/\N (upd H2 D (.lst (ys++[y])))))(u1:∀D C s' f Z,Inv X a σ f s'->dm X a f C->s'.heap.Ns C Z->Q (.ref D) f->RR (.ref D) C (.ok .next) s'):
  wpAny (model X.prog X.w) X.A (newList []) (λx0 y0=>wpAny (model X.prog X.w) X.A (newFunctionEnv scope X.env.globals cl [] X.env.qual Zy .none (Zz X.env)) (λP z0=>
   codeAny (model X.prog X.w) X.A (.compStart (.ListComp elt [#[(.Tuple [.Name x px,.Name z pz] tk tpos),iter,[],0]] scope pos) 0 (.ref it) x0 { P with scope:=relabel scope X.env }) (RR x0 P.locals) z0) E y0) E d:=by
 refine wpAny_newObj_type ?_ (by show 0<=sizeLine;exact aU _);have hD:H d.7=Zy:=I.hok.fresh (aA _);have I3:=I.lnew (ys:=[]) (its:=[]) (t':=d.toks) .nil (aU _);generalize U:({ d with heap:=d.heap.push { cls:=.type "list",data:=.seq ([]:List Value).toArray },toks:=d.toks }:Shared)=g at I3;have v1:g.7=d.7+1:=by rw[<-U];exact Heap.size_push ..
 have u0:∀b o,d.heap.get? b=Zz o->g.heap.get? b=Zz o:=λb o e=>by rw[<-U];exact Heap.get?_push_of_some _ e
 have v0:∀b∈h,dm X a (upd H d.7 (.lst [])) b:=λb j=>by
  exists hf b j,f0,r;refine#[?_,r];exists T.obj 0 _ st b j,o,e,_;rw[aE (du (Heap.lt_size e))];exact f0
 have j1:∀b∈h,b<d.7:=λb j=>by
  exists T.obj 0 _ st b j,o,e,_;exact Heap.lt_size e
 have k1:tn 0 g.heap:=T.keep 0 _ _ st λb _ o e=>u0 b o e;exists rd _ hD,W,#[m0,w0],j0;refine wpAny_newFunctionEnv B.nocell (by intro y hy;simp at hy) (λk M O=>?_) B.kind;have k0:∀b∈h,b≠g.7:=λb j=>du #v[v1,pD (j1 b j)];have n0:∀b o,g.heap.get? b=Zz o->k.get? b=Zz o:=λb o e=>O.extBut b o (du (Heap.lt_size e)) (Heap.get?_push_of_some _ e);generalize Y:({ g with heap:=k,toks:=g.toks+([]:List (Str×Value)).9 }:Shared)=s4;have h4:s4.heap=k:=by rw[<-Y]
 have I4:Inv (ii X x z fv scope cl g.7 g (upd H d.7 (.lst [])) h) [] (fm fv σ Zy Zy) (upd H d.7 (.lst [])) s4:=
  N_ B I3 v0 rfl k0 (by rw[<-Y]) (by rw[<-Y]) (λb o e=>#v[h4,n0 b o e]) #v[h4,M]
 have y1:tn 0 s4.heap:=by rw[h4];exact T.keep 0 _ _ k1 λb _ o e=>n0 b o e
 have F:∀{f:Hp},(∀b∈h,f b=Zy)->∀b∈h,dm (ii X x z fv scope cl g.7 g (upd H d.7 (.lst [])) h) [] f b:=λ{f} hn b j=>by
  exists hf b j,_,f1,f2,f3,f4,f5;refine#[hn b j,k0 b j,λz'=>?_,.inl j,λy c e=>f4 y c (B.sub y c e),λp hp=>absurd (show p∈([]:aJ) from hp) (by simp)];rcases bN.mp (I.stkSub b z') with q|q
  ·exact f1 q
  ·exact f2 q
 have R:codeAny (model X.prog X.w) X.A (.compLoop (.ListComp elt [#[(.Tuple [.Name x px,.Name z pz] tk tpos),iter,[],0]] scope pos) 0 (.ref it) (.ref d.7) (compEnvC scope cl g.7 X.env)) (RR (.ref d.7) g.7) s4:=by
  refine As (λn s'=>∃i f o o2,Inv (ii X x z fv scope cl g.7 g (upd H d.7 (.lst [])) h) [] (fm fv σ o o2) f s'/\tn i s'.heap/\(∀b∈h,f b=Zy)/\W i n f) ?_ m0
   #[0,_,Zy,Zy,I4,y1,λb j=>(v0 b j).1,w0]
  rintro n s5 E' ⟨i,H5,o5,o6,I5,st5,fr5,w5⟩
  rcases j0 i n H5 w5 with ⟨stop,q⟩|⟨go,N,hN,step⟩
  ·refine thn (T.done (ii X x z fv scope cl g.7 g (upd H d.7 (.lst [])) h) rfl rfl rfl hc i [] s5 _ H5 _ I5 (F fr5) st5 stop) λr s6 G=>?_;exists G,hr,I6;subst hr;exists I6.loc,m6,g1,_;have J6:Inv X a σ H5 s6:=qW I I6.hok I6.bare hD u0 I6.base (I6.os.trans (by rw[<-U])) hf;refine u1 _ _ s6 H5 m6 J6 ?_ g1 q;exact I3.fpOk (aA _) I6.free
  ·refine thn (T.item (ii X x z fv scope cl g.7 g (upd H d.7 (.lst [])) h) rfl rfl rfl hc i [] s5 _ H5 _ I5 (F fr5) st5 go) λr s6 G=>?_;exists G,u,hr,h6;subst hr;refine thn h6 λ_ s7 G=>?_;exists G,v,H7,I7,r7,y7,z1,m1;have y2:=I7.pinned (F m1) (T.obj _ _ z1);exists step v H7 y7,q7,x1,S,ev,z2,u2;refine wpAny_mono (Oa (px:=px) (pz:=pz) (tk:=tk) (tpos:=tpos) hc B _ s7 _ H7 v u (λv2 f=>v2=fm fv σ (Zz x1) (Zz S)/\f=H7) y2 r7 #[q7,[x1,S],ev,z2,rfl,x1,[S],rfl,S,[],rfl,rfl,rfl,rfl]) (λ_ s8 G=>?_) λ_ _ z=>False.elim z;exists G,z3,H8,I8,j2,k2;subst j2 k2;have e8:=he _ _ _ _ _ s8 _ _ _ I8 u2;refine wpAny_mono e8 (λy s9 G=>?_) λ_ _ z=>False.elim z;exists G,yv,H9,I9,r9,ys,g2,hz,n9;have a9:=qX (E':=E') T (λ_ _ z=>z) z1 I9 r9 g2 hz n9 hN;refine wpAny_mono a9 (λ_ u3 G=>?_) λ_ _ z=>z;exists G,Z,hm,m2,n2,x3,y3,w9;exact#[Z,hm,i+1,m2,_,_,n2,x3,y3,w9]
 exact codeAny_compStart_list R (T.self _ 0 _ _ _ y1 R)
def om (K:ao)(J:It)(fv:List (Nat×Str))(te:TE)(Q:VK)(σ:St)(H1:Hp)(D:Addr):Prop:=∃W:Nat->Nat->Hp->Prop,(∃m,W 0 m (upd H1 D (.lst [])))/\∀i m H,W i m H->
 (J.stop i H/\Q (.ref D) H)\/(J.go i H/\∃N:Hp->Prop,(∀H',N H'->∃m',m'<m/\W (i+1) m' H')/\∀v H',J.yld i H v H'->∃q x1 x2,v=.ref q/\SqT K H' q [x1,x2]/\te (fm fv σ (Zz x1) (Zz x2)) H' λy H2=>∃ys,H2 D=Zz (.lst ys)/\ys.9<sizeLine/\N (upd H2 D (.lst (ys++[y]))))
def AF (K:ao)(fv:List (Nat×Str))(wi:TI)(te:TE):TE:=λσ H Q=>wi σ H λJ H1=>∀D,H1 D=Zy->om K J fv te Q σ H1 D
theorem tw {K:ao}{σ:St}{H:Hp}{Q:VK}:AF K fv wi te σ H Q=wi σ H λJ a=>∀D,a D=Zy->om K J fv te Q σ a D:=rfl
theorem FZ (i:X.calm=true)(B:BlkOk2 X x z fv scope cl)(hi:PI X (.Tuple [.Name x px,.Name z pz] tk tpos) iter wi)(j:∀C s H g,PE (ii X x z fv scope cl C s H g) elt te)(hs:∀v,foldedSetIterable iter X.env v=pure v:=by intro _;rfl):PE X (.ListComp elt [#[.Tuple [.Name x px,.Name z pz] tk tpos,iter,[],0]] scope pos) (AF X.K fv wi te):=by
 intro a s σ H Q I h;rw[eval_ListComp];refine wpAny_comprehension_free (use:=Zy) rfl hs B.clos B.kind B.names (thn (hi a s σ H _ I h) λv S k=>thn k λm U n=>?_);exists n,it,g,Y,J,Z,e,p,T,d,r,u;subst e;refine FY (RR:=λf C=>compPost (model X.prog X.w) X.A X.xe Zy (EP X a σ Q) f C) i B j p T d r u ?_;intro D C y F G M c O q;exact#[G,O,λh' P=>#[.ref D,F,M.turned (t':=y.toks) (λb o R e=>(P.2 b R).trans e) c.1 c.2.1 c.2.2.2.1 c.2.2.2.2.1 c.2.2.2.2.2,rfl,q]]
def tD (X:Cx)(scope:Scope)(cl:List (Str×Addr))(fv:List (Nat×Str)):Prop:=∀p∈fv,X.N[p.1]?=Zz p.2/\(X.env.scope.names.lookup p.2=Zz .cell\/X.env.scope.names.lookup p.2=Zz .free)/\
  ((relabel scope X.env).names.lookup p.2=Zz .cell\/(relabel scope X.env).names.lookup p.2=Zz .free)/\∃c,cl.lookup p.2=Zz c
theorem oo {X:Cx}{scope:Scope}{cl:List (Str×Addr)}:tD X scope cl []:=λ_ h=>nomatch h
theorem oq {X:Cx}{scope:Scope}{cl:List (Str×Addr)}{fv:List (Nat×Str)}(i:Nat)(y:Str)(d:X.N[i]?=Zz y)(e:X.env.scope.names.lookup y=Zz .cell\/X.env.scope.names.lookup y=Zz .free)(f:(relabel scope X.env).names.lookup y=Zz .cell\/(relabel scope X.env).names.lookup y=Zz .free)(g:∃c,cl.lookup y=Zz c)(r:tD X scope cl fv):tD X scope cl ((i,y) :: fv):=λp a=>by
 rcases bN.mp a with rfl|a
 ·exact#[d,e,f,g]
 ·exact r p a
theorem ot {X:Cx}{x z:Str}{fv:List (Nat×Str)}{scope:Scope}{cl:List (Str×Addr)}(clos:closureFor scope X.env=pure cl)(sub:∀y c,cl.lookup y=Zz c->X.env.cells.lookup y=Zz c)(fvs:tD X scope cl fv)(nd:(x :: z :: fv.map (·.2)).Nodup:=by decide)(kind:scope.kind=.function:=by rfl)(here:scope.names.lookup x=Zz .local:=by rfl)(here2:scope.names.lookup z=Zz .local:=by rfl)(nocell:∀y∈scope.names,y.2≠.cell:=by decide +kernel)(names:∀y∈scope.names,y.2=.local->scope.names.lookup y.1=Zz .local:=by decide +kernel)(has:((relabel scope X.env).names.all λp=>(p.2 != .cell && p.2 != .free) || (cl.lookup p.1).isSome)=true:=by rfl):BlkOk2 X x z fv scope cl:=
 #[clos,nocell,kind,names,here,here2,nd,sub,Au has,fvs]
end
def Itz (K:ao)(a b:Addr):It:=
 ⟨λi H=>∃xs ys x y,SqL K H a xs/\SqL K H b ys/\xs[i]?=Zz x/\ys[i]?=Zz y,λi H v H'=>∃p x y,H p=Zy/\v=.ref p/\H'=upd H p (.tup [x,y])/\(∀xs,SqL K H a xs->xs[i]?=Zz x)/\∀ys,SqL K H b ys->ys[i]?=Zz y,
  λi H=>∃xs ys,SqL K H a xs/\SqL K H b ys/\(xs.9<=i\/ys.9<=i)⟩
theorem Ob {P:Program}{w:World}{K:ao}{v0:List Expr}{tk:Nat}{tpos:Pos}(a b z TI TO G J:Addr)(D:ZipApart z TI TO G J a b):
  Turn P w K (.Tuple v0 tk tpos) (Itz K a b) [z,TI,TO,G,J] z (λi h=>IsZip h z TI TO .none/\IsPair h TI (.ref G) (.ref J)/\(∃u v,IsPair h TO u v)/\h.IsListIter G a i/\h.IsListIter J b i) where
 mem:=by simp
 obj:=λi h st c d=>by
  exists st,Q,f,#[u,v,j],#[o1,e1,c1,d1],#[o2,e2,c2,d2];simp only[bN,pE,or_false]at d;rcases d with rfl|rfl|rfl|rfl|rfl
  ·exact⟨_,Q,λv z=>by
    have z':Data.fields _=Data.cell v:=z
    cases z'⟩
  ·exact⟨_,f,λv z=>by
    have z':Data.seq _=Data.cell v:=z
    cases z'⟩
  ·exact⟨_,j,λv z=>by
    have z':Data.seq _=Data.cell v:=z
    cases z'⟩
  ·exact#[o1,e1,λv z=>by rw[d1]at z;cases z]
  ·exact#[o2,e2,λv z=>by rw[d2]at z;cases z]
 keep:=λi h h' st k=>by
  exists st,Q,f,#[u,v,j],h1,h2;exact#[k z (by simp) _ Q,k TI (by simp) _ f,#[u,v,k TO (by simp) _ j],h1.at λo q=>k G (by simp) o q,h2.at λo q=>k J (by simp) o q]
 item:=by
  intro X hP hw hK g i U s σ H E I Y st hg;subst hP hw hK;exists hg,xs,ys,x,y,R,S,hx,hy;exists I.list R,j0,Z,x0,x1;exists I.list S,k0,y0,z0,y1;exists Z.get hx,u1,z1,v1;exists y0.get hy,u2,j1,k1;exists st,Q,f,#[_,_,j],p,C;refine wpAny_pyNext_zip_item D Q f j p C x0.isList z0.isList (x:=u1) (y:=u2) (⇑z1) (⇑j1) λh1 ho n0 g1 m1 hT v2 hk=>?_;refine#[_,rfl,wpAny_letOwnedTupleGo_zip ho λh2 x2 F=>?_];have hp:H s.7=Zy:=I.hok.fresh (aA _);have y2:s.7≠z:=K6 (Heap.lt_size Q);have M:∀c o,c∉[z,TI,TO,G,J]->s.heap.get? c=Zz o->h2.get? c=Zz o:=λc o d q=>
   (F.2 c λe=>d (by simp[e])).trans (hk c o (λe=>d (by simp[e])) (λe=>d (by simp[e])) (λe=>d (by simp[e])) (λe=>d (by simp[e])) q)
  have z2:h2.get? s.7=Zz { cls:=.type "tuple",data:=.seq (List.toArray [u1,u2]) }:=(F.2 _ y2).trans hT;have O:∀c u,H c=Zz u->c∉[z,TI,TO,G,J]:=λc u q d=>by
   rw[(Y c d).1]at q;cases q
  have up:∀c,c<s.7->c≠s.7:=λc d=>du d;have I2:Inv X U σ (upd H s.7 (.tup [x,y])) { s with heap:=h2 }:=by
   refine I.step (g':=s.gens) (d':=s.drawn) (t':=s.toks) (ch:=[z,TI,TO,G,J]) (λc d=>?_) (λc o _ _ g q _=>M c o g q) (λc o _ _ g q _=>#[o.slots,M c o g q])
    (λc o _ q n=>#v[aE (up c (Heap.lt_size q)),n]) (λc o g q=>#[o,M c o g q]) (λc ys q=>#v[aE (e_ q hp),q]) (λc o v q=>#v[aE (e_ q hp),q])
    (λc ps q=>#[(List.toArray []),by rw[aE (e_ q hp),q];simp]) (λm hm=>?_) (λc v q=>?_) I.bare
   ·exists Y c d,f0,f1,f2,f3,f4,f5;exact#[f3,f1,f4,f5]
   ·exists hm,o,es,ep,q,r;refine#[o,es,ep,M _ o (λe=>?_) q,r];exact (Y _ e).2.1 rfl
   ·by_cases d:c=s.7
    ·subst d;rw[ak]at q;cases q;exact#[by show 2<=sizeLine;decide,[u1,u2],.cons v1 (.cons k1 .nil),#[_,z2,rfl,_,rfl]]
    ·rw[aE d]at q;refine (I.hok c v q).stay (λT o g r=>M T o ?_ r) (λT r=>#v[aE (e_ r hp),r]) λT ys r=>by rw[aE (e_ r hp)];exact r
     rcases g with e|e
     ·rw[e];exact O c v q
     ·exact O T _ e
  refine⟨.ref s.7,_,I2,rfl,#[_,x,y,hp,rfl,rfl,λzs u0=>#v[I.list_inj u0 R,hx],λzs u0=>#v[I.list_inj u0 S,hy]],
   #[x2,(F.2 TI D.TIz).trans (hk TI _ D.TIz D.TITO D.TIi1 D.TIi2 f),#[_,_,(F.2 TO D.TOz).trans n0],g1.at λo q=>(F.2 G D.i1z).trans q,m1.at λo q=>(F.2 J D.i2z).trans q],λc d=>?_⟩
  have lb:c<s.7:=by
   simp only[bN,pE,or_false]at d;rcases d with rfl|rfl|rfl|rfl|rfl
   ·exact Heap.lt_size Q
   ·exact Heap.lt_size f
   ·exact Heap.lt_size j
   ·exists p,_,q,_;exact Heap.lt_size q
   ·exists C,_,q,_;exact Heap.lt_size q
  rw[aE (up c lb)];exact (Y c d).1
 done:=by
  intro X hP hw hK g i U s σ H E I Y st hg;subst hP hw hK;exists hg,xs,ys,R,S,hx;exists I.list R,j0,Z,x0,x1;exists I.list S,k0,y0,z0,y1;exists st,Q,f,#[_,_,j],p,C;have j2:=Z.9;have g2:=y0.9;refine wpAny_pyNext_zip_end (I.ok.hd g) D Q f j p C x0.isList z0.isList (by rcases hx with e|e;exact .inl (by simp;omega);exact .inr (by simp;omega)) λh' eb=>#[rfl,?_]
  have M:∀c o,c∉[z,TI,TO,G,J]->s.heap.get? c=Zz o->h'.get? c=Zz o:=λc o d q=>eb c o (λe=>d (by simp[e])) (λe=>d (by simp[e])) (λe=>d (by simp[e])) (λe=>d (by simp[e])) q;refine I.step (g':=s.gens) (d':=s.drawn) (t':=s.toks) (ch:=[z,TI,TO,G,J]) (λc d=>?_) (λc o _ _ g q _=>M c o g q) (λc o _ _ g q _=>#[o.slots,M c o g q])
   (λc o _ q n=>n) (λc o g q=>#[o,M c o g q]) (λc ys q=>q) (λc o v q=>q) (λc ps q=>#[(List.toArray []),by rw[q];simp]) (λm hm=>?_) (λc v q=>?_) I.bare
  ·exists Y c d,f0,f1,f2,f3,f4,f5;exact#[f3,f1,f4,f5]
  ·exists hm,o,es,ep,q,r;exact#[o,es,ep,M _ o (λe=>(Y _ e).2.1 rfl) q,r]
  ·refine (I.hok c v q).stay (λT o g r=>M T o ?_ r) (λT r=>r) λT ys r=>r;have O:∀c u,H c=Zz u->c∉[z,TI,TO,G,J]:=λc u q d=>by
    rw[(Y c d).1]at q;cases q
   rcases g with e|e
   ·rw[e];exact O c v q
   ·exact O T _ e
 self:=λ_ _ _ _ _ st h=>wpAny_pyIter_zip st.1 h
section
variable {X:Cx}
def F1 (K:ao)(ta:TA):TI:=λσ H R=>ta σ H λvs H1=>∃a b xs ys,vs=[.ref a,.ref b]/\SqL K H1 a xs/\SqL K H1 b ys/\R (Itz K a b) H1
theorem jT {g:List Expr}{tk:Nat}{tpos:Pos}{a b:Expr}{C:TA}{p pos:Pos}(P:Gl X "zip")(Q:X.mg "zip" = Zy)(S:PA X [a,b] C)(hs:starEach [a,b] X.env=[(false,eval a X.env),(false,eval b X.env)]:=by rfl)(i:starEach [b] X.env=[(false,eval b X.env)]:=by rfl):
  PI X (.Tuple g tk tpos) (.Call (.Name "zip" p) [a,b] [] pos) (F1 X.K C):=by
 intro f s σ H R I h;refine Call_ (iP I P Q boot_zip (PyProof.Rows.callWith_type1 (thn (S pos f s σ H _ I h) λus d T=>?_) (by rw[hs,i]) (by rw[i];rfl)));exists T,vs,F,j,U,Y;exists Y,a,b,xs,ys,e,o,u,q;subst e
 cases U with
 | cons r rr=>
  cases rr with
  | cons r' rr=>
  cases rr
  cases r
  cases r'
  exists j.list o,G,Z,k,x0;exists j.list u,J,y0,m,z0;have a1:a<d.7:=by exists k.isList,_,e,_;exact Heap.lt_size e
  have a2:b<d.7:=by exists m.isList,_,e,_;exact Heap.lt_size e
  refine call_zip_2 k.isList m.isList λh1 M v x y z u0 hk=>?_;have I2:Inv X f σ F { d with heap:=h1 }:=j.kept (t':=d.toks) hk;refine wpAny_pyIter_zip M ?_;refine#[d.7+4,[d.7+4,d.7+2,d.7+3,d.7,d.7+1],_,_,F,rfl,I2,Ob a b _ _ _ _ _ (zipApart_new a1 a2),#[M,v,#[_,_,x],y,z],λc O=>?_,q];have n:d.7<=c:=by
   simp only[bN,pE,or_false]at O;rcases O with rfl|rfl|rfl|rfl|rfl <;> omega
  exact j.fpOk n (j.hok.fresh n)
end
theorem tE {K:ao}{d:TA}{σ:St}{H:Hp}{R:It->Hp->Prop}:F1 K d σ H R=d σ H λe c=>∃a b f g,e=[.ref a,.ref b]/\SqL K c a f/\SqL K c b g/\R (Itz K a b) c:=rfl
theorem tG {K:ao}{a b:Addr}{xs ys:List V}{k:List (Nat×Str)}{n:TE}{Q:VK}{σ:St}{o:Hp}{D:Addr}(c:cB)(x:c 0 (upd o D (.lst [])))(z:∀i H,i<=xs.9->i<=ys.9->c i H->SqL K H a xs/\SqL K H b ys)(hs:∀i d f p H,xs[i]?=Zz d->ys[i]?=Zz f->c i H->H p=Zy->n (fm k σ (Zz d) (Zz f)) (upd H p (.tup [d,f])) λy r=>∃g,r D=Zz (.lst g)/\g.9<sizeLine/\c (i+1) (upd r D (.lst (g++[y]))))(hd:∀H,c (min xs.9 ys.9) H->Q (.ref D) H):om K (Itz K a b) k n Q σ o D:=by
 refine#[λi m H=>m=min xs.9 ys.9-i/\i<=min xs.9 ys.9/\c i H,#[_,rfl,aU _,x],?_]
 rintro i m H ⟨rfl,hi,p⟩
 exists z i H () () p,h,j;by_cases hlt:i<min xs.9 ys.9
 ·have C:i<xs.9:=()
  have l2:i<ys.9:=()
  refine .inr #[#[xs,ys,xs[i],ys[i],h,j,aq C,aq l2],c (i+1),λF G=>#[min xs.9 ys.9-(i+1),(),rfl,hlt,G],λv F y=>?_];exists y,pa,s,u,I,J,M,O,P;subst J M;exact#[pa,s,u,rfl,.inl (.inl ak),hs i s u pa H (O xs h) (P ys j) p I]
 ·have e:i=min xs.9 ys.9:=()
  refine .inl #[#[xs,ys,h,j,()],?_];rw[e]at p;exact hd H p
section
variable {X:Cx}
theorem F5 (i:X.calm=true):gX X (.builtin "sum") (λd H Q=>∃(p:Addr)(ns:aa),d=[.ref p]/\SqL X.K H p (ns.map V.int)/\Q (.int ns.sum) H):=by
 intro f s σ H d x Q I r h;exists h,p,ns,rfl,j,q;obtain⟨u,rfl,k⟩:=jL r
 cases k
 exists I.list j,m,n,pl,y;have hi:=ol n;exists hi.allInts.items,a,e;have c:ns=a.toList.map (·.1):=by rw[<-hi.numsOf,<-nums_intItems,<-e]
 have g:=pl.isList;rw[e]at g;refine sum_intListG (I.ok.hd i) g λz C o hk=>?_;have v:preSum (numAt a) a.size=ns.sum:=by rw[preSum_eq,c,gS (by simp)]
 rw[v];exact#[.int _,H,I.kept hk,#[o,rfl],q]
end
section
variable {X:Cx}{elt iter cnd:Expr}{x:Str}{px:Pos}{fv:List (Nat×Str)}{scope:Scope}{cl:List (Str×Addr)}{pos:Pos}{te:TE}{tt:TT}{wi:TI}
theorem Oc {i:Nat}{y:Str}{g d:Pos}(R:X.calm=true)(B:BlkOk X x fv scope cl)(hi:PI X (.Name x px) iter wi)(m:∀C s H k,PT (blk X x fv scope cl C s H k) cnd tt)(S:∀C s H k,PE (blk X x fv scope cl C s H k) elt te)(U:X.N.Nodup)(n:X.N[i]?=Zz y)(hy:X.env.scope.names.lookup y=Zz .local)(p:swapsWith (.ListComp elt [#[.Name x px,iter,[cnd],0]] scope pos) (Zz (.Name y g)) d.line X.env=pure true:=by rfl)(hs:∀v,foldedSetIterable iter X.env v=pure v:=by intro _;rfl):
  PS X (.Assign [.Name y g] (.ListComp elt [#[.Name x px,iter,[cnd],0]] scope pos) d) (kD (FW fv wi tt te) (gU i)):=by
 intro c s σ H D I h;rw[exec_Assign_Name_used _ _ _ _ p];refine wpAny_bind (wpAny_standAt (wpAny_bind ?_));show wpAny _ X.A (do let _ <-comprehension (.ListComp elt [#[.Name x px,iter,[cnd],0]] scope pos) scope X.env _ (newList []) false (eval iter X.env) (Zz (assign (.Name y g) X.env))) _ _ s;refine wpAny_bind (wpAny_mono (wpAny_comprehension_free (use:=Zz (assign (.Name y g) X.env)) (Q:=λ_ j=>SP X c D .next j) rfl hs B.clos B.kind B.names
  (thn (hi c s σ H _ I h) λv s1 Y=>thn Y λZ s2 h2=>?_)) (λ_ j hq=>wpAny_pure (wpAny_pure hq)) λ_ _ e=>e)
 exists h2,it,k,tn,J,H2,e,I2,T,r,f2,rd;subst e;refine NZ (Q:=λx H1=>gU i x σ H1 D.nx) (RR:=λu C=>compPost (model X.prog X.w) X.A X.xe (Zz (assign (.Name y g) X.env)) (λ_ j=>SP X c D .next j) u C) R B m S I2 T r f2 rd ?_;intro P C j H' m' I' f hn q;show wpAny _ X.A (assign (.Name y g) X.env (.ref P)) _ _ _;refine wpAny_assign_Name (nG I' U n (.inl hy) (v:=.ref P) rfl (λz F G=>?_) (.inr hy));exists G,a,sb,ha;have M:C≠a:=by
  rcases ha with rfl|e
  ·exact f.2.1
  ·exact Ne.symm (f.2.2.2.2.1 _ _ e)
 exact#[m',hn.sameBut sb M,λh' O=>#[_,H',F.turned (t':=z.toks) (λb o hb e=>(O.2 b hb).trans e) f.1 f.2.1 f.2.2.2.1 f.2.2.2.2.1 f.2.2.2.2.2,q]]
end
theorem AG {K:ao}{a b:Addr}{xs ys:List V}{g:TG}{tb:TS}{D:Ends}{σ:St}{H:Hp}(c:Nat->St->Hp->Prop)(n:c 0 σ H)(o:∀i σ H,i<=xs.9->i<=ys.9->c i σ H->SqL K H a xs/\SqL K H b ys)(hs:∀i j k p σ H,xs[i]?=Zz j->ys[i]?=Zz k->c i σ H->H p=Zy->g (.ref p) σ (upd H p (.tup [j,k])) λd r=>tb { D with nx:=c (i+1),ct:=c (i+1),bk:=D.nx } d r)(hd:∀σ H,c (min xs.9 ys.9) σ H->D.nx σ H):jO (Itz K a b) g tb D σ H:=by
 refine#[λi m σ H=>m=min xs.9 ys.9-i/\i<=min xs.9 ys.9/\c i σ H,#[_,rfl,aU _,n],?_]
 rintro i m σ H ⟨rfl,hi,p⟩
 exists o i σ H () () p,f,h;by_cases hlt:i<min xs.9 ys.9
 ·have s:i<xs.9:=()
  have l2:i<ys.9:=()
  refine .inr #[#[xs,ys,xs[i],ys[i],f,h,aq s,aq l2],c (i+1),λu v z=>#[min xs.9 ys.9-(i+1),(),rfl,hlt,z],λx v y=>?_];exists y,pa,C,F,G,I,J,M,O;subst I J;exact hs i C F pa σ H (M xs f) (O ys h) p G
 ·have e:i=min xs.9 ys.9:=()
  rw[e]at p;exact .inl #[#[xs,ys,f,h,()],hd σ H p]
section
variable {prog:Program}{w:World}{A:Around}{R:Result->Shared->Prop}{I S:Addr}{fp wr:am}{n:Nat}{P:Nat->Value->Prop}{St:Nat->Heap->Prop}{bt:Nat->Nat->Bool}{d:List (Str×Value)}
theorem tH:(toString "max" ++ toString ".loop" : String) = "max.loop" := by decide
theorem AH (W:Walks prog w A.in1 I fp wr n P St)(C:CmpOf prog w A.in1 .Gt P bt)(r:S∉fp):∀(m i:Nat)(z:Shared)(u:Value)(c:Nat),n=i+1+m->St (i+1) z.heap->P (argBest bt i) u->
  z.heap.get? S=Zz { cls:=.type "list",dict:=Zy,data:=.seq (List.toArray [u,u]) c,slots:=(List.toArray []) }->
  (∀v g y,P (argBest bt (n-1)) v->(∀b o,b∉wr->b≠S->z.heap.get? b=Zz o->g.get? b=Zz o)->R (.ok (.ret v)) { z with heap:=g,toks:=y })->codeAny (model prog w) A (.builtin "max.loop" #[[.ref I,.none,.ref S],d]) R z
 | 0,i,z,u,c,hn,st,hp,eS,q=>by
  have F:S∉wr:=λh=>r (W.sub _ h);refine codeAny_builtin PySem.F.entry_max_loop ?_;rw[Around.under_plainId PySem.F.plain_max_loop _];show wpAny _ A.in1 (seqItems? (.ref S) >>= _) _ _ z;refine wpAny_bind (wpAny_seqItems eS rfl ?_);show wpAny _ A.in1 (tryCatch (pyNext (.ref I)) _ >>= _) _ _ z;have s:n=i+1:=hn;refine wpAny_bind (wpAny_tryCatch (W.done z _ _ #v[s,st] λg y kp=>?_));have a:=kp S _ F eS;show wpAny _ A.in1 (updateSeq S (λ_=>(List.toArray [])) >>= _) _ _ _;refine wpAny_bind (wpAny_updateSeq a rfl (wpAny_bind (wpAny_letGo (wpAny_pure (q u _ y #v[s,hp] λb o nb p e=>?_)))));exact (Heap.get?_update_other _ _ (Ne.symm p)).trans (kp b o nb e)
 | m+1,i,z,u,c,hn,st,hp,eS,q=>by
  have F:S∉wr:=λh=>r (W.sub _ h);refine codeAny_builtin PySem.F.entry_max_loop ?_;rw[Around.under_plainId PySem.F.plain_max_loop _];show wpAny _ A.in1 (seqItems? (.ref S) >>= _) _ _ z;refine wpAny_bind (wpAny_seqItems eS rfl ?_);show wpAny _ A.in1 (tryCatch (pyNext (.ref I)) _ >>= _) _ _ z;refine wpAny_bind (wpAny_tryCatch (W.item (i+1) z _ _ () st λv g y pv x kp=>?_));have a:=kp S _ F eS;show wpAny _ A.in1 (tryCatch (holding [v,v] (richCompare .Gt v u >>= _)) _ >>= _) _ _ _;refine wpAny_bind (wpAny_tryCatch (wpAny_holding (wpAny_bind (C (i+1) (argBest bt i) v u _ _ _ pv hp (wpAny_bind (wpAny_holding (wpAny_truthy_bool (wpAny_bind (wpAny_letGo (wpAny_pure ?_))))))))))
  cases hb:bt (i+1) (argBest bt i) with
  | true=>
   simp only[if_true];refine wpAny_bind (wpAny_updateSeq a rfl (wpAny_bind (wpAny_letGo ?_)));rw[tH];refine wpAny_pure #[plainId_quiet PySem.F.plain_max_loop _,AH W C r m (i+1) _ v _ () (W.frame _ _ _ x λb J o e=>(Heap.get?_update_other _ _ (λh:S=b=>r (h ▸ J))).trans e) (by simp only[argBest,hb,if_true];exact pv) (Heap.get?_update_self _ a rfl) λG H f j k=>?_];exact q G H f j λb o nb p e=>k b o nb p ((Heap.get?_update_other _ _ (Ne.symm p)).trans (kp b o nb e))
  | false=>
   simp only[Bool.false_eq_true,if_false];refine wpAny_bind (wpAny_letGo ?_);rw[tH];exact wpAny_pure #[plainId_quiet PySem.F.plain_max_loop _,AH W C r m (i+1) _ u c () x (by simp only[argBest,hb,Bool.false_eq_true,if_false];exact hp) a λG H f j k=>q G H f j λb o nb p e=>k b o nb p (kp b o nb e)]
theorem Od (W:Walks prog w A.in1 I fp wr n P St)(u:CmpOf prog w A.in1 .Gt P bt)(d:S∉fp){z:Shared}{f:Nat}{x:Value}{k:Str}(st:St 0 z.heap)(s:z.heap.get? S=Zz { cls:=.type "list",dict:=Zy,data:=.seq (List.toArray []) f,slots:=(List.toArray []) })(q:∀v g c,(n=0/\v=x)\/(0<n/\P (argBest bt (n-1)) v)->(∀b o,b∉wr->b≠S->z.heap.get? b=Zz o->g.get? b=Zz o)->R (.ok (.ret v)) { z with heap:=g,toks:=c }):codeAny (model prog w) A (.builtin "max.loop" #[[.ref I,.none,.ref S],[(k,x)]]) R z:=by
 have y:S∉wr:=λh=>d (W.sub _ h);refine codeAny_builtin PySem.F.entry_max_loop ?_;rw[Around.under_plainId PySem.F.plain_max_loop _];show wpAny _ A.in1 (seqItems? (.ref S) >>= _) _ _ z;refine wpAny_bind (wpAny_seqItems s rfl ?_);show wpAny _ A.in1 (tryCatch (pyNext (.ref I)) _ >>= _) _ _ z;by_cases n0:n=0
 ·refine wpAny_bind (wpAny_tryCatch (W.done z _ _ #v[n0,st] λg c kp=>?_));show wpAny _ A.in1 (rule _ >>= _) _ _ _;refine wpAny_bind (wpAny_rule ?_);exact wpAny_pure (q x g c (.inl #[n0,rfl]) λb o nb i e=>kp b o nb e)
 ·refine wpAny_bind (wpAny_tryCatch (W.item 0 z _ _ () st λv g c pv j kp=>?_));have a:=kp S _ y s;show wpAny _ A.in1 (updateSeq S (λ_=>(List.toArray [v,v])) >>= _) _ _ _;refine wpAny_bind (wpAny_updateSeq a rfl ?_);rw[tH];refine wpAny_pure #[plainId_quiet PySem.F.plain_max_loop _,AH W u d (n-1) 0 _ v _ () (W.frame _ _ _ j λb C o e=>(Heap.get?_update_other _ _ (λh:S=b=>d (h ▸ C))).trans e) pv (Heap.get?_update_self _ a rfl) λF G m p r=>?_];exact q F G m (.inr #[(),p]) λb o nb i e=>r b o nb i ((Heap.get?_update_other _ _ (Ne.symm i)).trans (kp b o nb e))
end
theorem Oe (a v:Value):argsOk "max" #[[a],[(Str.ofString "default",v)]]:=by unfold argsOk;kernel_rfl
theorem Of {prog:Program}{w:World}{A:Around}{E:aX}{s:Shared}{l:Addr}{xs:Array (Int×Tok)}{x:Value}{Q:aX}(h:A.handled=Zy)(k:s.heap.IsList l (intItems xs))(q:∀v a c,(xs.size=0/\v=x)\/(0<xs.size/\(intItems xs)[argBest (λi j=>decide (numAt xs i > numAt xs j)) (xs.size-1)]?=Zz v)->(∀b o,s.heap.get? b=Zz o->a.get? b=Zz o)->Q v { s with heap:=a,toks:=c }):
  wpAny (model prog w) A (call (.builtin "max") [.ref l] [(Str.ofString "default",x)]) Q E s:=by
 refine PyProof.Rows.kmk_tree PySem.F.kind_max PySem.F.plain_max PySem.F.entry_max (Oe _ _) ?_;show wpAny _ A.in1 (Builtin.Builtins.bindParams "max" ["key","default"] 0 #[[],[(Str.ofString "default",x)]] >>= _) _ _ s;refine wpAny_bind (wpAny_of_eq (show Builtin.Builtins.bindParams "max" ["key","default"] 0 #[[],[(Str.ofString "default",x)]]=pure [Zy,Zz x] from rfl) ?_);refine wpAny_bind (wpAny_pure (wpAny_bind (iter_intList k λg e st d f=>?_)));subst e;refine wpAny_bind (wpAny_newObj_type ?_);rw[tH];have W:=Walks.list (prog:=prog) (w:=w) (A:=A.in1) h _ l f (intItems xs);refine wpAny_pure #[plainId_quiet PySem.F.plain_max_loop _,Od W (CmpOf.ints_gt (numAt xs) (λ_ _=>intItems_at)) (λm=>ki _ (d _ m)) (W.frame _ _ _ st λb _ o e=>Heap.get?_push_of_some _ e) (Heap.get?_push_size _ rfl) λv a c n hk=>?_];refine q v a c (by simpa [intItems] using n) (old_kept (s:=s) (l:=l) λb o nb e=>?_);exact hk b o nb (du (Heap.lt_size e)) (Heap.get?_push_of_some _ e)
def F6 (K:ao)(t tk:TA):TE:=λσ H Q=>t σ H λvs H1=>tk σ H1 λzs H2=>∃p ns d,vs=[.ref p]/\zs=[.int d]/\SqL K H2 p (ns.map V.int)/\∀M,(ns=[]/\M=d)\/(M∈ns/\∀a∈ns,a<=M)->Q (.int M) H2
theorem Og {X:Cx}{p pos c:Pos}{e k:Expr}{t tk:TA}(T:X.calm=true)(U:Gl X "max")(Y:X.mg "max" = Zy)(Z:PA X [e] t)(o:PK X [#[Zz "default",k,c]] tk)(he:backTo pos (starEach [e] X.env)=(false,eval e X.env) :: backTo pos (starEach [] X.env):=by rfl)(y:(backTo pos (starEach [e] X.env)).any (·.1)=false:=by rfl)(j:(backToKw pos (keywordEach [#[Zz "default",k,c]] X.env)).all (·.1.isSome)=true:=by rfl)(z:(backToKw pos (keywordEach [#[Zz "default",k,c]] X.env)).filterMap (·.1)=[Str.ofString "default"]:=by rfl)(C:(backToKw pos (keywordEach [#[Zz "default",k,c]] X.env)).any (·.1.isNone)=false:=by rfl):
  PE X (.Call (.Name "max" p) [e] [#[Zz "default",k,c]] pos) (F6 X.K t tk):=by
 intro f s σ H Q I h;refine wpAny_Call_Name_kw (iP I U Y mn ?_ () ());refine PyProof.Rows.callWith_kw (thn (Z pos f s σ H _ I h) λus s1 F=>?_) he y j C;exists F,vs,H1,I1,r,q;refine thn (o pos f s1 σ H1 _ I1 q) λx0 s2 F=>?_;exists F,m,M,n,rz,q2;rw[z];exists q2,a,ns,d,rfl,rfl,hq,O;exists jL r,u,rfl,rx;exists jL rz,u',rfl,G;obtain⟨P,rfl⟩:=G
 cases rx
 exists n.list hq,y0,r',pl,hz;have hi:=ol r';exists hi.allInts.items,m,e;have g:ns=m.toList.map (·.1):=by rw[<-hi.numsOf,<-nums_intItems,<-e]
 have R:=pl.isList;rw[e]at R;refine Of (x:=.int d P) (n.ok.hd T) R λv h' tk J hk=>?_;rcases J with ⟨S,rfl⟩|⟨S,J⟩
 ·exact#[.int _,M,n.kept hk,#[P,rfl],O d (.inl #[by rw[g,lI];exact bD #v[Array.length_toList,S],rfl])]
 ·exists intItems_at J,tv,rfl;exists argBest_gt (numAt m) (m.size-1),g1,g2;refine#[.int _,M,n.kept hk,#[tv,rfl],O _ (.inr #[AC g (),λx hx=>?_])];exists AD g hx,i,hi,rfl;exact g2 i ()
theorem tI {K:ao}{t tk:TA}{σ:St}{H:Hp}{Q:VK}:F6 K t tk σ H Q=t σ H λe f=>tk σ f λg c=>∃p ns d,e=[.ref p]/\g=[.int d]/\SqL K c p (ns.map V.int)/\∀M,(ns=[]/\M=d)\/(M∈ns/\∀a∈ns,a<=M)->Q (.int M) c:=rfl
theorem tJ {K:ao}{neg:Bool}{x y:V}{H:Hp}{Q:VK}:rIn K neg x y H Q=∃p a,y=.ref p/\(SqL K H p a\/SqT K H p a)/\ie x=true/\a.all ie=true/\Q (.bl (if neg then !inV x a else inV x a)) H:=rfl
theorem Oh (n:Int)(ns:aa):inV (.int n) (ns.map V.int)=decide (n∈ns):=by
 unfold inV
 induction ns with
 | nil=>rfl
 | cons m ns ih=>
  rw[d9,vH,ih];have:eqV (.int m) (.int n)=decide (n=m):=by
   rw[Bool.eq_iff_iff];simp only[eqV,beq_iff_eq,decide_eq_true_eq];exact eq_comm
  rw[this];simp
open PySem
open PySem
open PySem
open PySem
open PySem
open PySem
open PySem
open PySem
open PySem
open PySem
inductive Tr where|lf|nd (l:Tr) (k:Nat) (r:Tr)
def Tr.ins (k:Nat):Tr->Option Tr
 | .lf=>Zz (.nd .lf k .lf)
 | .nd l m r=>match Nat.blt k m with
  | true=>match Tr.ins k l with|some l'=>Zz (.nd l' m r)|none=>Zy
  | false=>match Nat.blt m k with
   | true=>match Tr.ins k r with|some r'=>Zz (.nd l m r')|none=>Zy
   | false=>Zy
def Tr.all:ay->Tr->Bool
 | [],_=>true
 | k :: ks,t=>match t.ins k with|some t'=>Tr.all ks t'|none=>false
def Tr.mem (x:Nat):Tr->Prop
 | .lf=>False
 | .nd l k r=>x=k\/l.mem x\/r.mem x
section
variable {K:ao}{C:Addr}{m f:Str}{sp:Sp}{dvs:List V}{E:XK}{ta tv:TE}{t:TA}{σ:St}{H:Hp}{Q:VK}{D:Ends}
theorem tK:Ah K ta f σ H Q=ta σ H λx c=>∃a C dx fs v,x=.ref a/\c a=Zz (.ins C dx fs)/\Cls K C/\NoAttr K C f/\fs.lookup f=Zz v/\Q v c:=rfl
theorem tL:E4 K ta tv f D σ H=tv σ H λy d=>ta σ d λx c=>∃a C dx fs,x=.ref a/\c a=Zz (.ins C dx fs)/\Cls K C/\NoAttr K C f/\fs.9<1000/\D.nx σ (upd c a (.ins C dx (a7 f y fs))):=rfl
theorem tO:E_ C m sp dvs E ta t σ H Q=ta σ H λx c=>∃a dx fs,x=.ref a/\c a=Zz (.ins C dx fs)/\fs.lookup m=Zy/\t σ c λd e=>sp (x :: (d++dvs)) e Q E:=rfl
theorem tQ:Fa C sp dvs E t σ H Q=t σ H λc a=>∀x dx,a x=Zy->a dx=Zy->dx≠x->sp (.ref x :: (c++dvs)) (upd (upd a dx (.own x)) x (.ins C dx [])) (λv d=>v=.non/\Q (.ref x) d) E:=rfl
end
theorem tS {x:V}{vs:List V}{H:Hp}{Q:VK}:FA x vs H Q=∃l b a c,x=.ref l/\vs=[.ref b]/\H l=Zz (.lst a)/\H b=Zz (.lst c)/\a.9+c.9<=sizeLine/\Q .non (upd H l (.lst (a++c))):=rfl
@[reducible] def gZ (X:Cx) (x:Str) (fv:List (Nat×Str)) (scope:Scope) (cl:List (Str×Addr)) (C:Addr) (s:Shared) (H:Hp) (fp:am):Cx:=
 { blk X x fv scope cl C s H fp with env:={ compEnvC scope cl C X.env with cells:=(x,C+1) :: cl },fn:=λy=>y == x }
structure BlkOkC (X:Cx)(x:Str)(fv:List (Nat×Str))(scope:Scope)(cl:List (Str×Addr)):Prop where
 clos:closureFor scope X.env=pure cl
 one:∀n,cellsFrom n scope.names cl=(x,n) :: cl
 push:∀h,pushCells h scope.names=h.push { cls:=.type "cell",data:=.cell Zy }
 kind:scope.kind=.function
 names:∀y∈scope.names,y.2=.local->scope.names.lookup y.1=Zz .local
 here:(relabel scope X.env).names.lookup x=Zz .cell
 sub:∀y c,cl.lookup y=Zz c->X.env.cells.lookup y=Zz c
 has:∀y,y≠x->((relabel scope X.env).names.lookup y=Zz .cell\/(relabel scope X.env).names.lookup y=Zz .free)->∃c,cl.lookup y=Zz c
 nd:(x :: fv.map (·.2)).Nodup
 fvs:∀p∈fv,p.2≠x/\X.N[p.1]?=Zz p.2/\(X.env.scope.names.lookup p.2=Zz .cell\/X.env.scope.names.lookup p.2=Zz .free)/\
  ((relabel scope X.env).names.lookup p.2=Zz .cell\/(relabel scope X.env).names.lookup p.2=Zz .free)/\∃c,cl.lookup p.2=Zz c
theorem jo {x y:Str}{n c:Addr}{cl:List (Str×Addr)}(h:((x,n) :: cl).lookup y=Zz c):(y=x/\c=n)\/(y≠x/\cl.lookup y=Zz c):=by
 rw[Cn]at h
 cases e:y == x with
 | true=>rw[e]at h;cases h;exact .inl #[eq_of_beq e,rfl]
 | false=>rw[e]at h;exact .inr #[λz=>by rw[z]at e;simp at e,h]
theorem F7 {x y:Str}{n c:Addr}{cl:List (Str×Addr)}(ne:y≠x)(h:cl.lookup y=Zz c):((x,n) :: cl).lookup y=Zz c:=by
 rw[Cn,show (y == x)=false by simpa using ne];exact h
theorem Oi {x:Str}{n:Addr}{cl:List (Str×Addr)}:((x,n) :: cl).lookup x=Zz n:=by
 rw[Cn,show (x == x)=true by simp]
section
variable {X:Cx}{elt iter:Expr}{x:Str}{px:Pos}{fv:List (Nat×Str)}{scope:Scope}{cl:List (Str×Addr)}{pos:Pos}{te:TE}{wi:TI}
theorem Oj {a:aJ}{σ:St}{H:Hp}{s:Shared}{j:am}{C:Addr}(B:BlkOkC X x fv scope cl)(I:Inv X a σ H s)(k:∀b∈j,dm X a H b)(hC:s.7<=C)(m:∀b∈j,b≠C)(p:∀b∈j,b≠C+1):
  (gZ X x fv scope cl C s H j).Ok where
 mod:=I.ok.mod
 kind:=B.kind
 glob:=I.ok.glob
 blt:=I.ok.blt
 above:=hC
 inj:=λy z c g f=>by
  have i:∀{y:Str},cl.lookup y=Zz (C+1)->False:=λ{y} h=>by
   exists I.cell y _ (B.sub y _ h),v,o,r,_;exact absurd (Heap.lt_size r) (Nat.not_lt.mpr (Nat.le_succ_of_le hC))
  rcases jo g with ⟨rfl,rfl⟩|⟨n1,g⟩
  ·rcases jo f with ⟨rfl,_⟩|⟨u,f⟩
   ·rfl
   ·exact (i f).elim
  ·rcases jo f with ⟨_,e⟩|⟨u,f⟩
   ·rw[e]at g;exact (i g).elim
   ·exact I.ok.inj y z c (B.sub y c g) (B.sub z c f)
 has:=λy hy=>by
  by_cases e:y=x
  ·exact#[C+1,#v[e,Oi]]
  ·exists B.has y e hy,c,F;exact#[c,F7 e F]
 cab:=λy c hy h=>by
  have e:y=x:=eq_of_beq hy;rcases jo h with ⟨_,rfl⟩|⟨n,_⟩
  ·exact Nat.le_succ_of_le hC
  ·exact absurd e n
 hd:=I.ok.hd
 frames:=I.ok.frames
 stk:=.inl rfl
 exf:=λb d=>⟨m b d,λy c e=>by
  rcases jo e with ⟨_,rfl⟩|⟨_,e⟩
  ·exact Ne.symm (p b d)
  ·exact (k b d).2.2.2.2.1 y c (B.sub y c e)⟩
 bs:=I.bs
 bsz:=aQ I.ok.bsz I.sz
 noex:=λb o e d=>by
  exists k b d,_,_,_,G,_;rcases G with z|z
  ·exact I.ok.noex b o e z
  ·exact absurd (cI (Heap.lt_size e) (aQ I.ok.bsz z)) (ki _)
 exfs:=λb d hs=>by
  exists k b d,_,J,M,_;rcases bN.mp (I.stkSub b hs) with z|z
  ·exact J z
  ·exact M z
 funs:=I.stack
 frf:=I.stkFree
theorem Ol {a:aJ}{σ:St}{H:Hp}{s d:Shared}{g:am}{C:Addr}{m:bH}(B:BlkOkC X x fv scope cl)(I:Inv X a σ H s)(T:∀b∈g,dm X a H b)(hC:C=s.7)(h:∀b∈g,b≠C)(n:∀b∈g,b≠C+1)(os:d.os=s.os)(f:d.gens=s.gens)(keep:∀b o,s.heap.get? b=Zz o->d.heap.get? b=Zz o)(ns:d.heap.Ns C m)(U:d.heap.IsCell (C+1) Zy):
  Inv (gZ X x fv scope cl C s H g) [] (bst fv σ Zy) H d:=by
 subst hC;refine#[Oj B I T (aA _) h n,os,#v[f,I.bare],Un.kept keep,#[m,ns,λi y v Y Q h3=>?_],λy c e=>?_,I.hok.fresh (aA _),λy c e=>?_,λp F=>absurd (show p∈([]:aJ) from F) (by simp),I.hok.kept keep,by simp[bst]]
 ·cases i with
  | zero=>simp[bst]at Q
  | succ j=>
   exists At Y Q,p,F,rfl,Z;exists B.fvs p F,G,hN,hk,J,c,R;exists I.loc,m0,_,hl;have M:Vis X.env.scope p.2:=hk.elim (λz=>.inr (.inl z)) λz=>.inr (.inr z);exists hl p.1 p.2 v hN Z M,u,r,l;refine#[u,r,.inr #[J,c,F7 G R,?_]];rcases l with ⟨z,_⟩|⟨_,c',O,o,P,hd⟩
   ·have S:X.env.scope.names.lookup p.2=Zz .local:=z;rcases hk with k|k <;> (rw[k]at S;cases S)
   ·have:=B.sub p.2 c R;rw[O]at this;cases this;exact#[o,keep _ o P,hd]
 ·rcases jo e with ⟨_,rfl⟩|⟨_,e⟩
  ·exact#[Zy,U]
  ·exists I.cell y c (B.sub y c e),v,o,P,hd;exact#[v,o,keep c o P,hd]
 ·rcases jo e with ⟨_,rfl⟩|⟨_,e⟩
  ·exact I.hok.fresh (Cm _)
  ·exact I.freeC y c (B.sub y c e)
theorem Om {s:Shared}{g:Addr}{q:Str}{env:Env}{M:Model}{A:Around}{E:aX}{Q:Env->Shared->Prop}(one:∀n,cellsFrom n scope.names cl=(x,n) :: cl)(push:∀h,pushCells h scope.names=h.push { cls:=.type "cell",data:=.cell Zy })(h:Q { scope:=scope,locals:=s.7,globals:=g,cells:=(x,s.7+1) :: cl,qual:=q,func:=Zy,code:=env.code,frame:=env.frame,builtins:=env.builtins }
   { s with heap:=(s.heap.push { cls:=.type "dict",data:=.dict (List.toArray []) }).push { cls:=.type "cell",data:=.cell Zy } }):
  wpAny M A (newFunctionEnv scope g cl [] q Zy .none (Zz env)) Q E s:=by
 simp only[newFunctionEnv,Option.isSome_some,if_true];refine wpAny_bind (wpAny_alloc ?_);refine wpAny_bind (wpAny_layCells _ (λc kind a=>by cases hkc:kind == NameKind.cell <;> simp[hkc]) _ _ _ _ ?_);rw[show ({ s with heap:=s.heap.push { cls:=.type "dict",data:=.dict (List.toArray []) } }:Shared).7=s.7+1 from Heap.size_push ..];dsimp only;rw[one,push];rw[List.forIn_nil];exact wpAny_bind (wpAny_pure (wpAny_pure h))
theorem On {a:aJ}{σ:St}{H c:Hp}{s e:Shared}{d:am}{C:Addr}{o:Option V}{v:V}{u:Value}{E:aX}{Q:Unit->Shared->Prop}(B:BlkOkC X x fv scope cl)(I:Inv (gZ X x fv scope cl C s c d) a (bst fv σ o) H e)(r:RelV v u)(h:∀f,Inv (gZ X x fv scope cl C s c d) a (bst fv σ (Zz v)) H f->Q #[] f):
  wpAny (model X.prog X.w) X.A (assign (.Name x px) { compEnvC scope cl C X.env with cells:=(x,C+1) :: cl } u) Q E e:=
 wpAny_assign_Name (qF (X:=gZ X x fv scope cl C s c d) (i:=0) I B.nd rfl (.inr B.here) r h (.inl (by show (x == x)=true;simp)))
end
section
variable {X:Cx}{elt iter:Expr}{x:Str}{px:Pos}{fv:List (Nat×Str)}{scope:Scope}{cl:List (Str×Addr)}{pos:Pos}{te:TE}{wi:TI}
theorem F8 {d:aJ}{σ:St}{H:Hp}{f:Shared}{it:Addr}{j:am}{tn:Nat->Heap->Prop}{J:It}{Q:VK}{E:aX}{RR:Value->Addr->Result->Shared->Prop}(hc:X.calm=true)(B:BlkOkC X x fv scope cl)(he:∀C s H j,PE (gZ X x fv scope cl C s H j) elt te)(I:Inv X d σ H f)(T:Turn X.prog X.w X.K (.Name x px) J j it tn)(st:tn 0 f.heap)(hf:∀b∈j,dm X d H b)(rd:∀D,H D=Zy->∃W:Nat->Nat->Hp->Prop,(∃m,W 0 m (upd H D (.lst [])))/\∀i m H,W i m H->
   (J.stop i H/\Q (.ref D) H)\/(J.go i H/\∃N:Hp->Prop,(∀g,N g->∃U,U<m/\W (i+1) U g)/\∀v g,J.yld i H v g->te (bst fv σ (Zz v)) g λy H2=>∃ys,H2 D=Zz (.lst ys)/\ys.9<sizeLine/\N (upd H2 D (.lst (ys++[y])))))(j1:∀D C Y g U,Inv X d σ g Y->dm X d g C->Y.heap.Ns C U->Q (.ref D) g->RR (.ref D) C (.ok .next) Y):
  wpAny (model X.prog X.w) X.A (newList []) (λx0 y0=>wpAny (model X.prog X.w) X.A (newFunctionEnv scope X.env.globals cl [] X.env.qual Zy .none (Zz X.env)) (λM z0=>
   codeAny (model X.prog X.w) X.A (.compStart (.ListComp elt [#[.Name x px,iter,[],0]] scope pos) 0 (.ref it) x0 { M with scope:=relabel scope X.env }) (RR x0 M.locals) z0) E y0) E f:=by
 refine wpAny_newObj_type ?_ (by show 0<=sizeLine;exact aU _);have hD:H f.7=Zy:=I.hok.fresh (aA _);have I3:=I.lnew (ys:=[]) (its:=[]) (t':=f.toks) .nil (aU _);generalize P:({ f with heap:=f.heap.push { cls:=.type "list",data:=.seq ([]:List Value).toArray },toks:=f.toks }:Shared)=a at I3;have u0:a.7=f.7+1:=by rw[<-P];exact Heap.size_push ..
 have v0:∀b o,f.heap.get? b=Zz o->a.heap.get? b=Zz o:=λb o e=>by rw[<-P];exact Heap.get?_push_of_some _ e
 have j0:∀b∈j,dm X d (upd H f.7 (.lst [])) b:=λb k=>by
  exists hf b k,f0,r;refine#[?_,r];exists T.obj 0 _ st b k,o,e,_;rw[aE (du (Heap.lt_size e))];exact f0
 have k0:∀b∈j,b<f.7:=λb k=>by
  exists T.obj 0 _ st b k,o,e,_;exact Heap.lt_size e
 have k1:tn 0 a.heap:=T.keep 0 _ _ st λb _ o e=>v0 b o e;exists rd _ hD,W,#[m0,w0],n0;refine Om B.one B.push ?_;have x1:∀b∈j,b≠a.7:=λb k=>du #v[u0,pD (k0 b k)];have y1:∀b∈j,b≠a.7+1:=λb k=>du #v[u0,pD (pD (k0 b k))];generalize R:(a.heap.push { cls:=.type "dict",data:=.dict (List.toArray []) }).push { cls:=.type "cell",data:=.cell Zy }=h;have z1:∀b o,a.heap.get? b=Zz o->h.get? b=Zz o:=λb o e=>by rw[<-R];exact Heap.get?_push_of_some _ (Heap.get?_push_of_some _ e)
 have g1:h.Ns a.7 (λ_=>Zy):=by
  rw[<-R];exact (Heap.Ns.new a.heap (.type "dict")).keeps λb o e=>Heap.get?_push_of_some _ e
 have m1:h.IsCell (a.7+1) Zy:=by
  rw[<-R,show a.7+1=(a.heap.push { cls:=.type "dict",data:=.dict (List.toArray []) }).objs.size from (Heap.size_push ..).symm];exact#[{ cls:=.type "cell",data:=.cell Zy },Heap.get?_push_size _ rfl,rfl]
 generalize S:({ a with heap:=h }:Shared)=s4;have h4:s4.heap=h:=by rw[<-S]
 have I4:Inv (gZ X x fv scope cl a.7 a (upd H f.7 (.lst [])) j) [] (bst fv σ Zy) (upd H f.7 (.lst [])) s4:=
  Ol B I3 j0 rfl x1 y1 (by rw[<-S]) (by rw[<-S]) (λb o e=>#v[h4,z1 b o e]) #v[h4,g1] #v[h4,m1]
 have u1:tn 0 s4.heap:=by rw[h4];exact T.keep 0 _ _ k1 λb _ o e=>z1 b o e
 have F:∀{g:Hp},(∀b∈j,g b=Zy)->∀b∈j,dm (gZ X x fv scope cl a.7 a (upd H f.7 (.lst [])) j) [] g b:=λ{g} hn b k=>by
  exists hf b k,_,f1,f2,f3,f4,f5;refine#[hn b k,x1 b k,λz=>?_,.inl k,λy c e=>?_,λp hp=>absurd (show p∈([]:aJ) from hp) (by simp)]
  ·rcases bN.mp (I.stkSub b z) with q|q
   ·exact f1 q
   ·exact f2 q
  ·rcases jo e with ⟨_,rfl⟩|⟨_,e⟩
   ·exact Ne.symm (y1 b k)
   ·exact f4 y c (B.sub y c e)
 have O:codeAny (model X.prog X.w) X.A (.compLoop (.ListComp elt [#[.Name x px,iter,[],0]] scope pos) 0 (.ref it) (.ref f.7) { compEnvC scope cl a.7 X.env with cells:=(x,a.7+1) :: cl }) (RR (.ref f.7) a.7) s4:=by
  refine As (λn Y=>∃i g o,Inv (gZ X x fv scope cl a.7 a (upd H f.7 (.lst [])) j) [] (bst fv σ o) g Y/\tn i Y.heap/\(∀b∈j,g b=Zy)/\W i n g) ?_ m0
   #[0,_,Zy,I4,u1,λb k=>(j0 b k).1,w0]
  rintro n s5 E' ⟨i,H5,o5,I5,st5,fr5,w5⟩
  rcases n0 i n H5 w5 with ⟨stop,q⟩|⟨go,N,hN,step⟩
  ·refine thn (T.done (gZ X x fv scope cl a.7 a (upd H f.7 (.lst [])) j) rfl rfl rfl hc i [] s5 _ H5 _ I5 (F fr5) st5 stop) λr s6 G=>?_;exists G,hr,Z;subst hr;exists Z.loc,m6,x2,_;have J6:Inv X d σ H5 s6:=qW I Z.hok Z.bare hD v0 Z.base (Z.os.trans (by rw[<-P])) hf;refine j1 _ _ s6 H5 m6 J6 ?_ x2 q;exact I3.fpOk (aA _) Z.free
  ·refine thn (T.item (gZ X x fv scope cl a.7 a (upd H f.7 (.lst [])) j) rfl rfl rfl hc i [] s5 _ H5 _ I5 (F fr5) st5 go) λr s6 G=>?_;exists G,u,hr,h6;subst hr;refine thn h6 λ_ s7 G=>?_;exists G,v,H7,I7,r7,y7,v1,y2;have z2:=I7.pinned (F y2) (T.obj _ _ v1);refine On B z2 r7 λs8 I8=>?_;have e8:=he _ _ _ _ _ s8 _ H7 _ I8 (step v H7 y7);refine wpAny_mono e8 (λy s9 G=>?_) λ_ _ z=>False.elim z;exists G,yv,H9,I9,r9,ys,u2,hz,n9;have a9:=qX (E':=E') T (λ_ _ z=>z) v1 I9 r9 u2 hz n9 hN;refine wpAny_mono a9 (λ_ m2 G=>?_) λ_ _ z=>z;exists G,U,hm,v2,j2,k2,g2,w9;exact#[U,hm,i+1,v2,_,j2,k2,g2,w9]
 exact codeAny_compStart_list O (T.self _ 0 _ _ _ u1 O)
theorem F9 {i:Nat}{y:Str}{g d:Pos}(P:X.calm=true)(B:BlkOkC X x fv scope cl)(hi:PI X (.Name x px) iter wi)(R:∀C s H M,PE (gZ X x fv scope cl C s H M) elt te)(S:X.N.Nodup)(k:X.N[i]?=Zz y)(hy:X.env.scope.names.lookup y=Zz .local)(m:swapsWith (.ListComp elt [#[.Name x px,iter,[],0]] scope pos) (Zz (.Name y g)) d.line X.env=pure true:=by rfl)(hs:∀v,foldedSetIterable iter X.env v=pure v:=by intro _;rfl):
  PS X (.Assign [.Name y g] (.ListComp elt [#[.Name x px,iter,[],0]] scope pos) d) (kD (oe fv wi te) (gU i)):=by
 intro c s σ H D I h;rw[exec_Assign_Name_used _ _ _ _ m];refine wpAny_bind (wpAny_standAt (wpAny_bind ?_));show wpAny _ X.A (do let _ <-comprehension (.ListComp elt [#[.Name x px,iter,[],0]] scope pos) scope X.env _ (newList []) false (eval iter X.env) (Zz (assign (.Name y g) X.env))) _ _ s;refine wpAny_bind (wpAny_mono (wpAny_comprehension_free (use:=Zz (assign (.Name y g) X.env)) (Q:=λ_ j=>SP X c D .next j) rfl hs B.clos B.kind B.names
  (thn (hi c s σ H _ I h) λv s1 U=>thn U λY s2 Z=>?_)) (λ_ j hq=>wpAny_pure (wpAny_pure hq)) λ_ _ e=>e)
 exists Z,it,M,tn,J,H2,e,I2,T,n,f2,rd;subst e;refine F8 (Q:=λx H1=>gU i x σ H1 D.nx) (RR:=λp C=>compPost (model X.prog X.w) X.A X.xe (Zz (assign (.Name y g) X.env)) (λ_ j=>SP X c D .next j) p C) P B R I2 T n f2 rd ?_;intro O C j H' m' I' f hn q;show wpAny _ X.A (assign (.Name y g) X.env (.ref O)) _ _ _;refine wpAny_assign_Name (nG I' S k (.inl hy) (v:=.ref O) rfl (λr u z=>?_) (.inr hy));exists z,a,sb,ha;have F:C≠a:=by
  rcases ha with rfl|e
  ·exact f.2.1
  ·exact Ne.symm (f.2.2.2.2.1 _ _ e)
 exact#[m',hn.sameBut sb F,λh' G=>#[_,H',u.turned (t':=r.toks) (λb o hb e=>(G.2 b hb).trans e) f.1 f.2.1 f.2.2.2.1 f.2.2.2.2.1 f.2.2.2.2.2,q]]
theorem Oo (i:X.calm=true)(B:BlkOkC X x fv scope cl)(hi:PI X (.Name x px) iter wi)(j:∀C s H g,PE (gZ X x fv scope cl C s H g) elt te)(hs:∀v,foldedSetIterable iter X.env v=pure v:=by intro _;rfl):PE X (.ListComp elt [#[.Name x px,iter,[],0]] scope pos) (oe fv wi te):=by
 intro a s σ H Q I h;rw[eval_ListComp];refine wpAny_comprehension_free (use:=Zy) rfl hs B.clos B.kind B.names (thn (hi a s σ H _ I h) λv R k=>thn k λm S n=>?_);exists n,it,g,U,J,Y,e,p,T,d,r,u;subst e;refine F8 (RR:=λf C=>compPost (model X.prog X.w) X.A X.xe Zy (EP X a σ Q) f C) i B j p T d r u ?_;intro D C y z F G c M q;exact#[F,M,λZ O=>#[.ref D,z,G.turned (t':=y.toks) (λb o P e=>(O.2 b P).trans e) c.1 c.2.1 c.2.2.2.1 c.2.2.2.2.1 c.2.2.2.2.2,rfl,q]]
theorem AI (clos:closureFor scope X.env=pure cl)(sub:∀y c,cl.lookup y=Zz c->X.env.cells.lookup y=Zz c)(fvs:og X x scope cl fv)(one:∀n,cellsFrom n scope.names cl=(x,n) :: cl:=by intro _;rfl)(push:∀h,pushCells h scope.names=h.push { cls:=.type "cell",data:=.cell Zy }:=by intro _;rfl)(kind:scope.kind=.function:=by rfl)(here:(relabel scope X.env).names.lookup x=Zz .cell:=by rfl)(nd:(x :: fv.map (·.2)).Nodup:=by decide +kernel)(names:∀y∈scope.names,y.2=.local->scope.names.lookup y.1=Zz .local:=by decide +kernel)(has:((relabel scope X.env).names.all λp=>(p.2 != .cell && p.2 != .free) || (((x,0) :: cl).lookup p.1).isSome)=true:=by rfl):BlkOkC X x fv scope cl:=
 ⟨clos,one,push,kind,names,here,sub,λy ne hy=>by
  exists Au has y hy,c,h;rcases jo h with ⟨e,_⟩|⟨_,h⟩
  ·exact absurd e ne
  ·exact#[c,h],nd,fvs⟩
end
theorem Op {X:Cx}{K:ao}{e:Expr}{a:TE}{f:Str}{pos:Pos}(hK:X.K=K)(c:PE X e a)(d:attributeBase e f X.env (eval e X.env)=eval e X.env):PE X (.Attribute e f pos) (Ah K a f):=by subst hK;exact dQ c d
section
variable {X:Cx}{k:Nat}{f:Addr}{fd:FuncData}{ps:List Str}{sp:Sp}{x:Str}{p pos:Pos}{e:Expr}{es:List Expr}{t:TA}{CX:CXT}{ds:List Value}{dvs:List V}{E:XK}{i:Nat}
def F_ (i:Nat)(f:Addr)(sp:Sp)(dvs:List V)(E:XK)(t:TA):TE:=λσ H Q=>σ[i]?=Zz (Zz (.ref f))/\qT sp dvs E t σ H Q
theorem tT {σ:St}{H:Hp}{Q:VK}:F_ i f sp dvs E t σ H Q=(σ[i]?=Zz (Zz (.ref f))/\qT sp dvs E t σ H Q):=rfl
theorem Oq (F:FnOk X.prog X.w X.K X.mg X.base CX k f fd ps sp)(o:Room k X.A)(hk:PySem.W.keepIn X.K (.ref f)=true)(y:Binds X.K fd ps ds)(hd:Vals dvs ds)(hx:kI CX X E)(i:Nat)(z:PA X (e :: es) t)(C:X.N[i]?=Zz x:=by rfl)(G:Vis X.env.scope x:=by first|exact Or.inl rfl|exact Or.inr (Or.inl rfl)|exact Or.inr (Or.inr rfl))(c:(x == ("__debug__" : Str))=false:=by decide)(d:(x == ("__classdict__" : Str))=false:=by decide)(J:starEach (e :: es) X.env=(false,eval e X.env) :: starEach es X.env:=by rfl)(g:(backTo pos (starEach es X.env)).any (·.1)=false:=by rfl):
  PE X (.Call (.Name x p) (e :: es) [] pos) (F_ i f sp dvs E t):=by
 intro a s σ H Q I h;exists h,j,h;refine wpAny_Call_Name_kw (thn (Er C G c d a s σ H (λv M=>v=.ref f/\M=H) I #[_,j,rfl,rfl]) λu O P=>?_);exists P,v,R,m,S,T,U;subst T U
 cases S
 refine PySem.W.callWith_K (h₀:=X.base) m.ok.mod.kin hk (thn (z pos a O σ R _ m h) λY Z ⟨vs,H1,n,r,q⟩=>#[n.kIn,?_]) J g;exact Ak F o y hd hx n r q
end
open PySem
theorem AJ {X:Cx}{g d:Expr}{x z:Str}{px pz tpos pos:Pos}{tk:Nat}{p:List (Nat×Str)}{c:Scope}{cl:List (Str×Addr)}{U:TE}{Y:TI}{i:Nat}{y:Str}{m j:Pos}(hc:X.calm=true)(B:BlkOk2 X x z p c cl)(hi:PI X (.Tuple [.Name x px,.Name z pz] tk tpos) d Y)(he:∀C s H Z,PE (ii X x z p c cl C s H Z) g U)(hN:X.N.Nodup)(r:X.N[i]?=Zz y)(hy:X.env.scope.names.lookup y=Zz .local)(u:swapsWith (.ListComp g [#[.Tuple [.Name x px,.Name z pz] tk tpos,d,[],0]] c pos) (Zz (.Name y m)) j.line X.env=pure true:=by rfl)(hs:∀v,foldedSetIterable d X.env v=pure v:=by intro _;rfl):
  PS X (.Assign [.Name y m] (.ListComp g [#[.Tuple [.Name x px,.Name z pz] tk tpos,d,[],0]] c pos) j) (kD (AF X.K p Y U) (gU i)):=by
 intro f s σ H D I h;rw[exec_Assign_Name_used _ _ _ _ u];refine wpAny_bind (wpAny_standAt (wpAny_bind ?_));show wpAny _ X.A (do let _ <-comprehension (.ListComp g [#[.Tuple [.Name x px,.Name z pz] tk tpos,d,[],0]] c pos) c X.env _ (newList []) false (eval d X.env) (Zz (assign (.Name y m) X.env))) _ _ s;refine wpAny_bind (wpAny_mono (wpAny_comprehension_free (use:=Zz (assign (.Name y m) X.env)) (Q:=λ_ n=>SP X f D .next n) rfl hs B.clos B.kind B.names
  (thn (hi f s σ H _ I h) λv s1 h1=>thn h1 λx0 s2 h2=>?_)) (λ_ n hq=>wpAny_pure (wpAny_pure hq)) λ_ _ e=>e)
 exists h2,it,Z,tn,J,H2,e,I2,T,F,f2,rd;subst e;refine FY (Q:=λx H1=>gU i x σ H1 D.nx) (RR:=λG C=>compPost (model X.prog X.w) X.A X.xe (Zz (assign (.Name y m) X.env)) (λ_ n=>SP X f D .next n) G C) hc B he I2 T F f2 rd ?_;intro Dl C n H' m' I' k hn q;show wpAny _ X.A (assign (.Name y m) X.env (.ref Dl)) _ _ _;refine wpAny_assign_Name (nG I' hN r (.inl hy) (v:=.ref Dl) rfl (λM O P=>?_) (.inr hy));exists P,a,sb,ha;have R:C≠a:=by
  rcases ha with rfl|e
  ·exact k.2.1
  ·exact Ne.symm (k.2.2.2.2.1 _ _ e)
 exact#[m',hn.sameBut sb R,λh' S=>#[_,H',O.turned (t':=M.toks) (λb o hb e=>(S.2 b hb).trans e) k.1 k.2.1 k.2.2.2.1 k.2.2.2.2.1 k.2.2.2.2.2,q]]
def Ga:V->List V->Hp->VK->Prop:=λx vs H Q=>∃a kvs k v,x=.ref a/\vs=[kV k,v]/\H a=Zz (.dK kvs)/\kvs.9<=900/\(∀u,fO kvs k=Zz u->Q u H)/\(fO kvs k=Zy->Q v (upd H a (.dK (jn kvs k v))))
theorem tU {x:V}{vs:List V}{H:Hp}{Q:VK}:Ga x vs H Q=∃a c k v,x=.ref a/\vs=[kV k,v]/\H a=Zz (.dK c)/\c.9<=900/\(∀u,fO c k=Zz u->Q u H)/\(fO c k=Zy->Q v (upd H a (.dK (jn c k v)))):=rfl
theorem Os {X:Cx}:MtM X "dict.setdefault" Ga:=by
 intro n s σ H x S v T Q I o p h;obtain⟨a,c,k,y,rfl,rfl,e,U,r,u⟩:=h
 cases o
 cases p with
 | cons r1 rr=>
  cases rr with
  | cons r2 rr=>
   cases rr
   rename_i Y C;exists NS I.hok e,z,hd,F,rel,dd;refine call_meetsIn PySem.F.slot_dict_setdefault dd.typeIs PySem.F.entry_dict_setdefault (PySem.F.args_dict_setdefault_3 _ _ _) (kt_meets_setdefault (jf X.prog X.w) a (NP r1) hd C)
    #[F,dd,#v[<-rel.9,z],λG J=>?_,λM O i hs=>?_]
   ·have d:=rel.val k;rw[J]at d;obtain⟨f,g,j⟩:∃f,fO c k=Zz f/\RelV f G:=by
     cases g:fO c k with
     | none=>rw[g]at d;exact d.elim
     | some f=>rw[g]at d;exact#[f,rfl,d]
    exact#[f,H,I.tok _,j,r f g]
   ·have m:fO c k=Zy:=by
     have d:=rel.val k;rw[M]at d
     cases g:fO c k with
     | none=>rfl
     | some f=>rw[g]at d;exact d.elim
    have P:(jn c k y).9<=sizeLine:=by
     have:=NO c k y;exact dz (bO ())
    have R:∃q,O.get? a=Zz q:=let ⟨q,_,_,hq,_⟩:=i;#[q,hq]
    exact#[y,_,NU I #v[e,True.intro] hs R (NV P hd (rel.put k r2) i),r2,u m]
theorem tV {σ:St}{H:Hp}{Q:VK}:FT σ H Q=∀p,H p=Zy->Q (.ref p) (upd H p (.dK [])):=rfl
theorem tW {K:ao}{e g:TE}{h:V->V->Hp->VK->Prop}{f:Str}{D:Ends}{σ:St}{H:Hp}:E6 K e g h f D σ H=e σ H λx i=>∃a C dx fs v,x=.ref a/\i a=Zz (.ins C dx fs)/\Cls K C/\NoAttr K C f/\fs.lookup f=Zz v/\
 g σ i λy k=>h v y k λz j=>∃d c,j a=Zz (.ins C d c)/\c.9<1000/\D.nx σ (upd j a (.ins C d (a7 f z c))):=rfl
theorem tX {x y:V}{H:Hp}{Q:VK}:E7 x y H Q=∃i j,x=.int i/\y=.int j/\Q (.int (i+j)) H:=rfl
theorem Ot {a b c:TS}{D:Ends}{σ:St}{H:Hp}(h:∀t:TS,t=jI b c->jI a t D σ H):jI a (jI b c) D σ H:=h _ rfl
theorem Ou {a b c:TS}{D:Ends}{σ:St}{H:Hp}(h:∀t:TS,t=sL b c->jI a t D σ H):jI a (sL b c) D σ H:=h _ rfl
theorem Ov {t b:TS}{D:Ends}{σ:St}{H:Hp}(e:t=b)(h:b D σ H):t D σ H:=e ▸ h
end L2
namespace My
noncomputable def aO (xs:aa):aa:=(xs.reverse.dropWhile (· == 0)).reverse
theorem Ow:aO []=[]:=rfl
theorem AK (xs:aa):aO (xs++[0])=aO xs:=by
 unfold aO;rw[To];rfl
theorem AL (xs:aa){a:Int}(h:a≠0):aO (xs++[a])=xs++[a]:=by
 unfold aO;rw[To];have:([a].reverse++xs.reverse).dropWhile (· == 0)=a :: xs.reverse:=by
  show (a :: xs.reverse).dropWhile (· == 0)=_;rw[List.dropWhile_cons];simp[h]
 rw[this];simp
noncomputable def co (xs:aa) (k:Nat):Int:=xs.getD k 0
theorem fP (k:Nat):co [] k=0:=rfl
theorem aF {xs:aa}{k:Nat}(h:xs.9<=k):co xs k=0:=by
 unfold co;rw[az,iN h];rfl
theorem aP {xs:aa}{k:Nat}(h:k<xs.9):co xs k=xs[k]:=by
 unfold co;rw[az,aq h];rfl
theorem mo (xs:aa)(a:Int)(k:Nat):co (xs++[a]) k=if k=xs.9 then a else co xs k:=by
 by_cases h:k<xs.9
 ·rw[if_neg ()];unfold co;rw[az,az,cE h]
 ·by_cases h2:k=xs.9
  ·subst h2;rw[if_pos rfl];unfold co;rw[az,cQ (aA _)];simp
  ·rw[if_neg h2,aF (by simp;omega),aF ()]
theorem ou {P:aa->Prop}(d:P [])(e:∀xs a,P xs->P (xs++[a]))(xs:aa):P xs:=by
 have:∀c:aa,P c.reverse:=λc=>by
  induction c with
  | nil=>exact d
  | cons a r ih=>rw[List.reverse_cons];exact e _ _ ih
 have:=this xs.reverse
 rwa [List.reverse_reverse]at this
theorem cN (xs:aa)(k:Nat):co (aO xs) k=co xs k:=by
 refine ou (P:=λxs=>co (aO xs) k=co xs k) rfl (λxs a c=>?_) xs;by_cases h:a=0
 ·subst h;rw[AK,c,mo];by_cases h2:k=xs.9
  ·rw[if_pos h2,aF ()]
  ·rw[if_neg h2]
 ·rw[AL _ h]
def Nml (xs:aa):Prop:=∀a ys,xs=ys++[a]->a≠0
theorem cG (xs:aa):Nml (aO xs):=by
 refine ou (P:=λxs=>Nml (aO xs)) (λa c h=>?_) (λxs a d=>?_) xs
 ·rw[Ow]at h;simp at h
 ·by_cases h:a=0
  ·subst h;rw[AK];exact d
  ·rw[AL _ h];intro b c e;have:=List.append_inj' e rfl;have f:a=b:=by simpa using this.2
   rw[<-f];exact h
theorem Ox {xs:aa}(h:Nml xs):aO xs=xs:=by
 rcases vL xs with rfl|⟨c,a,rfl⟩
 ·rfl
 ·rw[vN]at *;exact AL _ (h a c rfl)
theorem g_ {xs:aa}(h:Nml xs){n:Nat}(d:∀k,n<=k->co xs k=0):xs.9<=n:=by
 rcases vL xs with rfl|⟨c,a,rfl⟩
 ·exact aU _
 ·rw[vN]at *;have e:=h a c rfl;by_cases hn:(c++[a]).9<=n
  ·exact hn
  ·have:=d c.9 (by simp at hn;omega);rw[mo,if_pos rfl]at this;exact absurd this e
theorem AM {xs ys:aa}(c:xs.9=ys.9)(h:∀k,k<xs.9->co xs k=co ys k):xs=ys:=by
 refine hZ c λk a d=>?_;have:=h k a;rw[aP a,aP d]at this;exact this
theorem jp {xs ys:aa}(hx:Nml xs)(hy:Nml ys)(h:∀k,co xs k=co ys k):xs=ys:=by
 have a:xs.9<=ys.9:=g_ hx λk hk=>by rw[h,aF hk]
 have l2:ys.9<=xs.9:=g_ hy λk hk=>by rw[<-h,aF hk]
 exact AM () λk _=>h k
theorem AN {xs ys:aa}(h:∀k,co xs k=co ys k):aO xs=aO ys:=
 jp (cG _) (cG _) λk=>by rw[cN,cN,h]
theorem ow (xs:aa):(aO xs).9<=xs.9:=g_ (cG _) λk hk=>by rw[cN,aF hk]
theorem Gb {xs:aa}{n:Nat}(i:n<=xs.9)(f:∀k,n<=k->co xs k=0)(g:n=0\/co xs (n-1)≠0):aO xs=xs.take n:=by
 have c:∀k,co (xs.take n) k=co xs k:=λk=>by
  by_cases hk:k<n
  ·unfold co;rw[az,az,vF hk]
  ·rw[aF (by simp;omega),f k ()]
 have nm:Nml (xs.take n):=λa h e=>by
  have j:h.9+1=n:=by
   have:=congrArg kl e;rw[bV,b8,mV]at this;omega
  rcases g with d|d
  ·omega
  ·have:=c (n-1);rw[e,mo,if_pos ()]at this;rw[this];exact d
 exact jp (cG _) nm λk=>by rw[cN,c]
end My
namespace My
noncomputable def ar:Nat->aL->Int
 | 0,_=>0
 | n+1,f=>ar n f+f n
theorem b7 {n:Nat}{f g:aL}(h:∀j,j<n->f j=g j):ar n f=ar n g:=by
 induction n with
 | zero=>rfl
 | succ n ih=>simp only[ar];rw[ih λj a=>h j (),h n ()]
theorem fQ {n:Nat}{f:aL}(h:∀j,j<n->f j=0):ar n f=0:=by
 induction n with
 | zero=>rfl
 | succ n ih=>simp only[ar];rw[ih λj a=>h j (),h n ()];rfl
def cz (xs:aa)(k j:Nat):Int:=if j<=k then co xs (k-j) else 0
def cv (one VC:aa)(l k:Nat):Int:=ar l λj=>co one j*cz VC k j
def aN (one VC:aa):aa:=aO ((aM (one.9+VC.9)).map λk=>cv one VC one.9 k)
theorem iT (n:Nat)(f:aL)(k:Nat):co ((aM n).map f) k=if k<n then f k else 0:=by
 by_cases h:k<n
 ·rw[if_pos h,aP (⇑h)];simp
 ·rw[if_neg h,aF (by simp;omega)]
theorem tY (one VC:aa)(k:Nat)(h:one.9+VC.9<=k+1):cv one VC one.9 k=0:=
 fQ λj a=>by
  unfold cz;rw[if_pos (),aF (xs:=VC) (),cX]
theorem Oy (one VC a:aa)(h:∀k,co a k=if k+1<one.9+VC.9 then cv one VC one.9 k else 0):aO a=aN one VC:=by
 refine AN λk=>?_;rw[h,iT];by_cases h1:k+1<one.9+VC.9
 ·rw[if_pos h1,if_pos ()]
 ·rw[if_neg h1];by_cases h2:k<one.9+VC.9
  ·rw[if_pos h2,tY _ _ _ ()]
  ·rw[if_neg h2]
def ij (one VC:aa):aa:=aO ((aM (max one.9 VC.9)).map λk=>co one k+co VC k)
def jq (one VC:aa):aa:=aO ((aM (max one.9 VC.9)).map λk=>co one k-co VC k)
theorem Oz (one VC a:aa)(h:∀k,co a k=co one k+co VC k):aO a=ij one VC:=by
 refine AN λk=>?_;rw[h,iT];by_cases h1:k<max one.9 VC.9
 ·rw[if_pos h1]
 ·rw[if_neg h1,aF (),aF ()];rfl
theorem AO (xs:aa)(k:Nat):co (xs.map λx=>-x) k=- co xs k:=by
 by_cases h:k<xs.9
 ·rw[aP (⇑h),aP h];simp
 ·rw[aF (by simp;omega),aF ()];rfl
theorem OA (one VC:aa):ij one (VC.map λx=>-x)=jq one VC:=by
 refine AN λk=>?_;rw[iT,iT,AO,af];rfl
theorem ox (xs:aa)(i k:Nat)(v:Int)(h:i<xs.9):co (xs.set i v) k=if k=i then v else co xs k:=by
 by_cases hk:k<xs.9
 ·rw[aP (⇑hk),List.getElem_set,aP hk];by_cases e:k=i
  ·rw[if_pos e,if_pos e.symm]
  ·rw[if_neg e,if_neg (Ne.symm e)]
 ·rw[aF (by simp;omega),if_neg (),aF ()]
end My
namespace My
noncomputable def val (n:Int):aa->Int
 | []=>0
 | c :: r=>c+n*val n r
noncomputable def hd (xs:aa):Int:=xs.headD 0
def cu (b:Int):aa->aa
 | []=>[]
 | c :: r=>(c+b*hd (cu b r)) :: cu b r
theorem kP (b:Int):∀a,(cu b a).9=a.9
 | []=>rfl
 | _ :: r=>by simp[cu,kP b r]
def ik (b:Int):Nat->aa->aa
 | 0,_=>[]
 | n+1,xs=>hd (cu b xs) :: ik b n (cu b xs).tail
def eJ (b:Int)(xs:aa):aa:=ik b xs.9 xs
theorem Gd (b x:Int):∀d,val x d=hd (cu b d)+(x-b)*val x (cu b d).tail
 | []=>by simp[val,cu,hd]
 | c :: r=>by
  have a:=Gd b x r
  cases e:cu b r with
  | nil=>
   rw[e]at a;simp only[hd,List.headD_nil,List.tail_nil,val,cX,pF]at a;simp only[val,cu,e,hd,List.headD_nil,Ld,Le,a,cX,pF]
  | cons h q=>
   rw[e]at a;simp only[hd,Ld,Le]at a;simp only[val,cu,e,hd,Ld,Le,a];simp only[jB,Int.sub_mul,pG];have:x*(x*val x q)-x*(b*val x q)=x*(x*val x q)-b*(x*val x q):=by
    rw[<-cA x b,cT x b,cA b x]
   omega
theorem Ge (b n:Int):∀(k:Nat)(a:aa),a.9=k->val n (ik b k a)=val (n+b) a
 | 0,a,h=>by
  have:a=[]:=bD h;subst this;rfl
 | k+1,a,h=>by
  show hd (cu b a)+n*val n (ik b k (cu b a).tail)=_;rw[Ge b n k _ (by rw[Lf,kP,h];rfl),Gd b (n+b) a];have:n+b-b=n:=()
  rw[this]
theorem AQ (b n:Int)(xs:aa):val n (eJ b xs)=val (n+b) xs:=Ge b n _ xs rfl
theorem Gf (b:Int):∀(k:Nat)(a:aa),(ik b k a).9=k
 | 0,_=>rfl
 | k+1,a=>by simp[ik,Gf b k]
theorem AR (b:Int)(xs:aa):(eJ b xs).9=xs.9:=Gf b _ xs
theorem Gg:∀(d:aa)(M:Int),(∀n,M<n->val n d=0)->∀x∈d,x=0
 | [],_,_,_,h=>nomatch h
 | c :: r,M,h,x,hx=>by
  have e:c=0:=by
   have a:=h (max M 0+c.8+1) ();simp only[val]at a;have hd:(max M 0+c.8+1)∣c:=#[-(val (max M 0+c.8+1) r),by rw[vO];omega]
   by_cases hz:c=0
   ·exact hz
   ·have:=iO.mpr hd;have:=jC () this;omega
  have f:∀n,max M 0<n->val n r=0:=λn g=>by
   have a:=h n ();simp only[val,e,i8]at a;rcases i9.mp a with z|z
   ·omega
   ·exact z
  rcases bN.mp hx with rfl|hx
  ·exact e
  ·exact Gg r _ f x hx
theorem Gh (n:Int):∀(a c:aa),a.9=c.9->val n (dX (· - ·) a c)=val n a-val n c
 | [],[],_=>rfl
 | x :: a,y :: c,h=>by
  have d:=Gh n a c (⇑h);simp only[List.zipWith_cons_cons,val,d,pG];omega
theorem Gi:∀(a c:aa),a.9=c.9->(∀d∈dX (· - ·) a c,d=0)->a=c
 | [],[],_,_=>rfl
 | x :: a,y :: c,h,hz=>by
  have f:=hz (x-y) (by simp);have e:=Gi a c (⇑h) λd hd=>hz d (by simp[hd]);rw[e,show x=y by omega]
theorem OB {xs ys:aa}(a:xs.9=ys.9)(h:∀n,val n xs=val n ys):xs=ys:=
 Gi xs ys a (Gg _ 0 λn _=>by rw[Gh n xs ys a,h n];omega)
end My
namespace My
def fI (b:Int)(zs:aa)(j:Nat):aa:=zs.take j++cu b (zs.drop j)
theorem OC (b:Int)(a:aa)(j:Nat):(fI b a j).9=a.9:=by
 unfold fI;rw[b8,kP,<-b8,Cr]
theorem OD (b:Int)(a:aa):fI b a 0=cu b a:=by simp[fI]
theorem Gj (b:Int)(c:aa)(h:c≠[]):fI b c (c.9-1)=c:=by
 rcases vL c with rfl|⟨d,a,rfl⟩
 ·exact absurd rfl h
 ·rw[vN];unfold fI;have e:(d++[a]).9-1=d.9:=by simp
  rw[e,List.take_left,List.drop_left];simp[cu,hd]
theorem OE (b:Int)(a:aa)(j:Nat)(h:j<a.9):(fI b a (j+1))[j]?=Zz a[j]:=by
 unfold fI;rw[cE (by rw[bV];omega),vF (),aq h]
theorem OF (b:Int)(a:aa)(j:Nat)(h:j+1<a.9):(fI b a (j+1))[j+1]?=Zz (hd (cu b (a.drop (j+1)))):=by
 unfold fI;rw[cQ (by rw[bV];omega)];have e:j+1-(a.take (j+1)).9=0:=by rw[bV];omega
 have c:0<(cu b (a.drop (j+1))).9:=by rw[kP,pu];omega
 rw[e]
 cases q:cu b (a.drop (j+1)) with
 | nil=>rw[q]at c;exact absurd c (by simp)
 | cons x r=>simp[hd]
theorem OG (b:Int)(a:aa)(j:Nat)(h:j<a.9):(fI b a (j+1)).set j (a[j]+b*hd (cu b (a.drop (j+1))))=fI b a j:=by
 unfold fI;rw[Tp h,pB,Tq _ _ (by rw[bV];omega)];have e:j-(a.take j).9=0:=by rw[bV];omega
 rw[e,Ct h];rfl
theorem OH (b:Int)(m:Nat)(a:aa)(h:a.9=m+1):ik b (m+1) a=hd (cu b a) :: ik b m (cu b a).tail/\cu b a=hd (cu b a) :: (cu b a).tail/\(cu b a).tail.9=m:=by
 refine#[rfl,?_,by rw[Lf,kP,h];rfl];have c:=kP b a
 cases q:cu b a with
 | nil=>rw[q,h]at c;simp at c
 | cons x r=>simp[hd]
theorem OI (b c:Int):ik b 1 [c]=[c]:=by simp[ik,cu,hd]
end My
namespace My
theorem eK {xs:aa}:Nml xs↔∀a,xs.getLast?=Zz a->a≠0:=by
 constructor
 ·intro h a e;rcases vL xs with rfl|⟨c,b,rfl⟩
  ·simp at e
  ·rw[vN]at *;rw[vP]at e;rw[<-Option.some.inj e];exact h b c rfl
 ·intro h a c e;exact h a (by rw[e,vP])
end My
namespace My
theorem OJ {t b s:Int}(n:b≠0)(hs:s=if b<0 then -((bT t.8 b.8:Nat):Int) else ((bT t.8 b.8:Nat):Int)):
  s≠0/\s.8=bT t.8 b.8/\t=s*t.fdiv s/\b=s*b.fdiv s/\1<=b.fdiv s/\bT (t.fdiv s).8 (b.fdiv s).8=1:=by
 have o:0<bT t.8 b.8:=Nat.gcd_pos_of_pos_right _ ();have sa:s.8=bT t.8 b.8:=by
  rw[hs];split
  ·rw[Co,dE]
  ·rw[dE]
 have a:s≠0:=by intro z;rw[z]at sa;simp at sa;omega
 have dt:s∣t:=iO.mp #v[sa,kq _ _];have db:s∣b:=iO.mp #v[sa,lJ _ _];exists dt,c,e;exists db,d,hd;have f:t.fdiv s=c:=by rw[e];exact lN c a
 have g:b.fdiv s=d:=by rw[hd];exact lN d a
 rw[f,g];refine#[a,sa,e,hd,?_,?_]
 ·by_cases hn:b<0
  ·rw[if_pos hn]at hs;have:s<0:=()
   rcases Int.lt_or_le 0 d with h|h
   ·omega
   ·have:=Ts (pH this) h;omega
  ·rw[if_neg hn]at hs;have:0<s:=()
   rcases Int.lt_or_le 0 d with h|h
   ·omega
   ·have:=Int.mul_nonpos_of_nonneg_of_nonpos (pH this) h;omega
 ·have i:t.8=s.8*c.8:=by rw[<-cc,<-e]
  have j:b.8=s.8*d.8:=by rw[<-cc,<-hd]
  have k:=sa;rw[i,j,Nat.gcd_mul_left]at k;have m:0<s.8:=()
  exact Cu m ()
theorem Gk {t s:Int}(a:s≠0)(h:t=s*t.fdiv s):(t.fdiv s).8<=t.8:=by
 have e:t.8=s.8*(t.fdiv s).8:=by rw[<-cc,<-h]
 rw[e];exact h_ _ ()
end My
namespace My
def pm (f g:aL)(k:Nat):Int:=ar (k+1) λj=>f j*g (k-j)
theorem jU (n:Nat)(f g:aL):ar n (λj=>f j+g j)=ar n f+ar n g:=by
 induction n with
 | zero=>rfl
 | succ n ih=>simp only[ar];rw[ih];omega
theorem eL (n:Nat)(c:Int)(f:aL):ar n (λj=>c*f j)=c*ar n f:=by
 induction n with
 | zero=>simp[ar]
 | succ n ih=>simp only[ar];rw[ih,jB]
theorem mq {n i:Nat}{f:aL}(hi:i<n)(h:∀j,j<n->j≠i->f j=0):ar n f=f i:=by
 induction n with
 | zero=>omega
 | succ n ih=>
  simp only[ar];by_cases e:i=n
  ·subst e;rw[fQ λj c=>h j () ()];omega
  ·rw[ih () λj c a=>h j () a,h n () (Ne.symm e)];omega
theorem oy (f g h:aL)(k:Nat):pm f (λj=>g j-h j) k=pm f g k-pm f h k:=by
 unfold pm;have:(λj=>f j*(g (k-j)-h (k-j)))=λj=>f j*g (k-j)+(-1)*(f j*h (k-j)):=by
  funext j;rw[pG];omega
 rw[this,jU,eL];omega
theorem OK (f g h:aL)(k:Nat):pm f (λj=>g j+h j) k=pm f g k+pm f h k:=by
 unfold pm;have:(λj=>f j*(g (k-j)+h (k-j)))=λj=>f j*g (k-j)+f j*h (k-j):=by
  funext j;rw[jB]
 rw[this,jU]
theorem oz (f g:aL)(c:Int)(k:Nat):pm f (λj=>c*g j) k=c*pm f g k:=by
 unfold pm;have:(λj=>f j*(c*g (k-j)))=λj=>c*(f j*g (k-j)):=by
  funext j;rw[<-cA,cT (f j) c,cA]
 rw[this,eL]
theorem OL (f g:aL)(c:Int)(k:Nat):pm (λj=>c*f j) g k=c*pm f g k:=by
 unfold pm;rw[<-eL];exact b7 λj _=>by rw[cA]
theorem AS {f g:aL}(h:∀j,g j=0)(k:Nat):pm f g k=0:=fQ λj _=>by rw[h];simp
theorem kQ {g d:aL}{m t:Nat}(a:∀j,m+1<=j->g j=0)(hd:∀j,t+1<=j->d j=0):pm g d (t+m)=g m*d t:=by
 unfold pm;rw[mq (i:=m) () λj e c=>?_]
 ·rw[show t+m-m=t by omega]
 ·by_cases h:j<m
  ·rw[hd (t+m-j) ()];simp
  ·rw[a j ()];simp
theorem oA {g d:aL}{m:Nat}(c:∀j,m+1<=j->g j=0)(f:g m≠0)(t:Nat):∀n,(∀j,t+n<=j->d j=0)->(∀k,t+m<=k->pm g d k=0)->∀j,t<=j->d j=0
 | 0,hd,_,j,a=>hd j ()
 | n+1,hd,hz,j,a=>by
  have top:=kQ (t:=t+n) c (λj a=>hd j ());rw[hz _ ()]at top;have h:d (t+n)=0:=by
   rcases i9.mp top.symm with z|z
   ·exact absurd z f
   ·exact z
  exact oA c f t n (λj a=>by
   by_cases e:j=t+n
   ·rw[e];exact h
   ·exact hd j ()) hz j a
def Div (one VC q:aa):Prop:=∀k,co one k=pm (co VC) (co q) k
theorem dG {xs:aa}(h:Nml xs)(c:xs≠[]):co xs (xs.9-1)≠0:=by
 rcases vL xs with rfl|⟨d,a,rfl⟩
 ·exact absurd rfl c
 ·rw[vN]at *;rw[show (d++[a]).9-1=d.9 by simp,mo,if_pos rfl];exact h a d rfl
theorem il {xs:aa}(j:Nat)(h:xs.9-1+1<=j):co xs j=0:=aF ()
theorem OM {one VC q r:aa}(e:Nml VC)(a:VC≠[])(f:Nml q)(h:Nml r)(i:Div one VC q)(n:Div one VC r):q=r:=by
 refine jp f h λk=>?_;have z:=oA (g:=co VC) (d:=λj=>co q j-co r j) (m:=VC.9-1) (λj c=>il j c) (dG e a) 0 (q.9+r.9)
  (λj c=>by show co q j-co r j=0;rw[aF (),aF ()];rfl) (λk _=>by rw[oy,<-i k,<-n k];omega) k ()
 have o:co q k-co r k=0:=z;omega
theorem ON {one VC q r l:aa}(i:Nml VC)(a:VC≠[])(n:l.9+1<=VC.9)(c:∀k,co one k=pm (co VC) (co q) k+co l k)(f:Div one VC r):
  (∀k,co l k=0)/\∀k,co r k=co q k:=by
 have z:=oA (g:=co VC) (d:=λj=>co r j-co q j) (m:=VC.9-1) (λj h=>il j h) (dG i a) 0 (q.9+r.9)
  (λj h=>by show co r j-co q j=0;rw[aF (),aF ()];rfl) (λk hk=>by
   rw[oy,<-f k,c k,aF (xs:=l) ()];omega)
 have e:∀k,co r k=co q k:=λk=>by
  have o:co r k-co q k=0:=z k ();omega
 refine#[λk=>?_,e];have p:=c k;have s:=f k;have:pm (co VC) (co r) k=pm (co VC) (co q) k:=by unfold pm;exact b7 λj _=>by rw[e]
 omega
theorem AT {one VC q:aa}(o:Nml VC)(e:VC≠[])(n:Nml one)(p:Nml q)(h:Div one VC q)(a:one≠[]):q≠[]/\one.9+1=q.9+VC.9:=by
 have c:q≠[]:=by
  intro z;have:=dG n a;rw[h,z]at this;exact this (AS (λj=>rfl) _)
 have lq:0<q.9:=dw.mpr c;have lo:0<VC.9:=dw.mpr e;have r:0<one.9:=dw.mpr a;refine#[c,?_];have top:=kQ (g:=co VC) (d:=co q) (m:=VC.9-1) (t:=q.9-1) (λj f=>il j f) (λj f=>il j f);rw[<-h]at top;have i:co one (q.9-1+(VC.9-1))≠0:=by
  rw[top];intro z;rcases i9.mp z with z|z
  ·exact dG o e z
  ·exact dG p c z
 have lt:q.9-1+(VC.9-1)<one.9:=by
  by_cases hlt:q.9-1+(VC.9-1)<one.9
  ·exact hlt
  ·exact absurd (aF ()) i
 have big:one.9<=q.9-1+(VC.9-1)+1:=g_ n λk hk=>by
  rw[h];refine fQ λj f=>?_;by_cases hjm:j<VC.9
  ·rw[aF (xs:=q) ()];simp
  ·rw[aF (xs:=VC) ()];simp
 omega
structure DivAt (one VC ans rest:aa)(low:Nat):Prop where
 la:ans.9+VC.9=one.9+1
 lr:rest.9=one.9
 eq:∀k,co one k=pm (co VC) (co ans) k+co rest k
 hi:∀k,low+(VC.9-1)<=k->co rest k=0
 lo:∀j,j<low->co ans j=0
theorem OO {one VC:aa}{n:Nat}(a:VC≠[])(c:n+VC.9=one.9+1):DivAt one VC (bZ n 0) one n where
 la:=by rw[pk];exact c
 lr:=rfl
 eq:=λk=>by
  rw[AS λj=>?_]
  ·omega
  ·unfold co;rw[az,lH]
   split <;> rfl
 hi:=λk hk=>aF (by have:=dw.mpr a;omega)
 lo:=λj _=>by
  unfold co;rw[az,lH]
  split <;> rfl
theorem OP {one VC a rest q:aa}{low:Nat}(h:Nml VC)(f:VC≠[])(D:DivAt one VC a rest (low+1))(i:Div one VC q):
  co rest (low+(VC.9-1))=co VC (VC.9-1)*(co q low-co a low):=by
 have e:∀k,co rest k=pm (co VC) (λj=>co q j-co a j) k:=λk=>by
  have n:=D.eq k;rw[oy,<-i k];omega
 have z:=oA (g:=co VC) (d:=λj=>co q j-co a j) (m:=VC.9-1) (λj c=>il j c) (dG h f) (low+1) (q.9+a.9)
  (λj c=>by show co q j-co a j=0;rw[aF (),aF ()];rfl) (λk hk=>#v[<-e,D.hi k ()])
 rw[e];exact kQ (λj c=>il j c) z
theorem OQ {one VC a rest c:aa}{low:Nat}{f:Int}(g:VC≠[])(D:DivAt one VC a rest (low+1))(d:low<a.9)(n:f*co VC (VC.9-1)=co rest (low+(VC.9-1)))(o:c.9=rest.9)(h:∀k,co c k=co rest k-if low<=k then f*co VC (k-low) else 0):DivAt one VC (a.set low f) c low where
 la:=by rw[py];exact D.la
 lr:=by rw[o];exact D.lr
 eq:=λk=>by
  have p:pm (co VC) (co (a.set low f)) k=pm (co VC) (co a) k+(if low<=k then f*co VC (k-low) else 0):=by
   have r:(co (a.set low f))=λj=>co a j+if j=low then f else 0:=by
    funext j
    rw[ox _ _ _ _ d];by_cases e:j=low
    ·rw[if_pos e,if_pos e,e,D.lo low ()];omega
    ·rw[if_neg e,if_neg e];omega
   rw[r,OK];congr 1;unfold pm;by_cases hk:low<=k
   ·rw[if_pos hk,mq (i:=k-low) () λj m g=>by show co VC j*(if k-j=low then f else 0)=0;rw[if_neg ()];simp];show co VC (k-low)*(if k-(k-low)=low then f else 0)=_;rw[if_pos (),cT]
   ·rw[if_neg hk];exact fQ λj m=>by show co VC j*(if k-j=low then f else 0)=0;rw[if_neg ()];simp
  rw[p,h,D.eq k];omega
 hi:=λk hk=>by
  rw[h];have lo:=dw.mpr g;by_cases e:k=low+(VC.9-1)
  ·rw[if_pos (),e,<-n,show low+(VC.9-1)-low=VC.9-1 by omega];omega
  ·rw[D.hi k ()];by_cases hl:low<=k
   ·rw[if_pos hl,aF (xs:=VC) ()];simp
   ·rw[if_neg hl];rfl
 lo:=λj m=>by
  rw[ox _ _ _ _ d,if_neg ()];exact D.lo j ()
end My
namespace My
theorem Gm {one VC a rest:aa}(D:DivAt one VC a rest 0)(c:∀k,co rest k=0):Div one VC a:=λk=>by rw[D.eq k,c k];omega
theorem OR {one VC a rest:aa}(e:Nml VC)(c:VC≠[])(D:DivAt one VC a rest 0)(q:aa)(f:Div one VC q):∀k,co rest k=0:=by
 have g:(rest.take (VC.9-1)).9+1<=VC.9:=by
  have:=dw.mpr c;rw[bV];omega
 have d:∀k,co (rest.take (VC.9-1)) k=co rest k:=λk=>by
  by_cases hk:k<VC.9-1
  ·unfold co;rw[az,az,vF hk]
  ·rw[aF (by simp;omega),D.hi k ()]
 have z:=(ON (q:=a) e c g (λk=>#v[d,D.eq k]) f).1;exact λk=>#v[<-d,z k]
theorem OS {one VC c rest q:aa}{low:Nat}(d:Nml VC)(a:VC≠[])(D:DivAt one VC c rest (low+1))(e:Div one VC q):
  (co rest (low+(VC.9-1))).fdiv (co VC (VC.9-1))*co VC (VC.9-1)=co rest (low+(VC.9-1)):=by
 rw[OP d a D e,lN _ (dG d a),cT]
theorem OT {one VC c:aa}(i:VC≠[])(p:Nml one)(f:one≠[])(la:c.9+VC.9=one.9+1)(h:Div one VC c):Nml c:=by
 have u:=dw.mpr f;have l2:=dw.mpr i;intro a o e;have r:c.9=o.9+1:=by rw[e];simp
 have top:=kQ (g:=co VC) (d:=co c) (m:=VC.9-1) (t:=c.9-1) (λj k=>il j k) (λj k=>il j k);rw[<-h,show c.9-1+(VC.9-1)=one.9-1 by omega]at top;have n:=dG p f;rw[top]at n;have s:co c (c.9-1)=a:=by rw[show c.9-1=o.9 by omega,e,mo,if_pos rfl]
 rw[s]at n;intro z;exact n (by rw[z];simp)
theorem cH:Nml []:=λa c e=>by simp at e
theorem oC {xs:aa}(h:Nml xs)(a:∀k,co xs k=0):xs=[]:=jp h cH λk=>by rw[a];rfl
theorem OU {VC:aa}:Div [] VC []:=λk=>(AS (f:=co VC) (g:=co []) (λ_=>rfl) k).symm
theorem tZ {xs:aa}:aO xs=[]↔∀k,co xs k=0:=by
 constructor
 ·intro h k;rw[<-cN,h];rfl
 ·intro h;exact oC (cG _) λk=>#v[cN,h k]
end My
namespace My
theorem fg (c:Int)(f:aa)(j:Nat):co (c :: f) j=if j=0 then c else co f (j-1):=by
 cases j with
 | zero=>rfl
 | succ j=>rw[if_neg ()];rfl
def oD (ys:aa):Prop:=hd ys≠0/\∀y∈ys,0<=y*hd ys
theorem Gn {n:Int}(d:0<=n)(c:Int):∀a:aa,(∀y∈a,0<=y*c)->0<=val n a*c
 | [],_=>by simp[val]
 | y :: a,h=>by
  have e:=Gn d c a λz f=>h z (dC _ f);have hy:=h y dU;simp only[val,vQ,cA];have:=Cv d e;omega
theorem OV {n:Int}(f:0<=n){ys:aa}(h:oD ys):val n ys≠0:=by
 cases ys with
 | nil=>exact absurd rfl h.1
 | cons c r=>
  exists h,a,d;have a:c≠0:=a;have d:∀y∈c :: r,0<=y*c:=d;have i:=Gn f c r λy hy=>d y (dC _ hy);intro z;have e:val n (c :: r)*c=c*c+n*(val n r*c):=by simp only[val,vQ,cA]
  rw[z,i_]at e;have p:=Cv f i;have q:0<c*c:=by
   rcases Cw a with g|g
   ·exact Int.mul_pos_of_neg_of_neg g g
   ·exact vU g g
  omega
theorem OW {xs:aa}{m n:Int}(a:m<=n)(h:oD (eJ m xs)):val n xs≠0:=by
 have:=OV (n:=n-m) () h
 rwa [AQ,show n-m+m=n by omega]at this
theorem OX {ys:aa}(a:hd ys≠0):oD ys↔(∀y∈ys,0<=y)\/(∀y∈ys,y<=0):=by
 have d:hd ys∈ys:=by
  cases ys with
  | nil=>exact absurd rfl a
  | cons c r=>exact dU
 constructor
 ·intro h;rcases Cw a with g|g
  ·refine .inr λy hy=>?_;have:=h.2 y hy;by_cases z:y<=0
   ·exact z
   ·have:=Int.mul_neg_of_pos_of_neg (show 0<y by omega) g;omega
  ·refine .inl λy hy=>?_;have:=h.2 y hy;by_cases z:0<=y
   ·exact z
   ·have:=Int.mul_neg_of_neg_of_pos (show y<0 by omega) g;omega
 ·rintro (h|h)
  ·exact#[a,λy hy=>Cv (h y hy) (h _ d)]
  ·exact#[a,λy hy=>Ts (h y hy) (h _ d)]
end My
namespace My
noncomputable def sh (g:aL) (j:Nat):Int:=if j=0 then 0 else g (j-1)
theorem kR (n:Nat)(f:aL):ar (n+1) f=f 0+ar n λj=>f (j+1):=by
 induction n with
 | zero=>simp[ar]
 | succ n ih=>
  rw[show ar (n+1+1) f=ar (n+1) f+f (n+1) from rfl,ih];simp only[ar];omega
theorem Go (f g:aL)(k:Nat):pm f (sh g) k=sh (pm f g) k:=by
 unfold sh;by_cases h:k=0
 ·subst h;rw[if_pos rfl];simp[pm,ar]
 ·rw[if_neg h];obtain⟨m,rfl⟩:∃m,k=m+1:=#[k-1,()]
  unfold pm;rw[show ar (m+1+1) (λj=>f j*if m+1-j=0 then 0 else g (m+1-j-1))=ar (m+1) (λj=>f j*if m+1-j=0 then 0 else g (m+1-j-1))+f (m+1)*(if m+1-(m+1)=0 then 0 else g (m+1-(m+1)-1)) from rfl];rw[if_pos (),cX,pF,show m+1-1=m by omega];exact b7 λj a=>by rw[if_neg (),show m+1-j-1=m-j by omega]
theorem OY {f g h:aL}(e:∀j,g j=h j)(k:Nat):pm f g k=pm f h k:=b7 λj _=>by rw[e]
theorem t_ {f g:aL}{t e:Nat}(a:∀j,t+1<=j->f j=0)(c:∀j,e<=j->g j=0)(k:Nat)(hk:t+e<=k):pm f g k=0:=
 fQ λj d=>by
  by_cases h:t+1<=j
  ·rw[a j h,i_]
  ·rw[c (k-j) (),cX]
noncomputable def ev (p:Int) (f:aL):Nat->Nat->Int
 | 0,_=>0
 | n+1,s=>f s+p*ev p f n (s+1)
theorem Gp (p a b:Int)(f g:aL):∀n s,ev p (λj=>a*f j-b*g j) n s=a*ev p f n s-b*ev p g n s
 | 0,_=>by simp[ev]
 | n+1,s=>by
  simp only[ev];rw[Gp p a b f g n (s+1),pG,jB,jB,<-cA p a,<-cA p b,cT p a,cT p b,cA,cA];omega
theorem ua (p:Int){K Z:aL}{e:Nat}(hK:∀j,e+1<=j->K j=0)(i:∀j,e<=j->Z j=0):
  ∃f:aL,(∀j,e<=j->f j=0)/\∀j,p*f j-sh f j=ev p K (e+1) 0*Z j-ev p Z (e+1) 0*K j:=by
 let c:=ev p K (e+1) 0
 let d:=ev p Z (e+1) 0
 let F:aL:=λj=>c*Z j-d*K j
 let v:aL:=λj=>ev p F (e+1-j) j
 have k:∀j,e+1<=j->F j=0:=λj g=>by show c*Z j-d*K j=0;rw[i j (),hK j g];simp
 have m:∀j,v j=F j+p*v (j+1):=λj=>by
  show ev p F (e+1-j) j=F j+p*ev p F (e+1-(j+1)) (j+1);by_cases h:j<=e
  ·rw[show e+1-j=(e-j)+1 by omega,show e+1-(j+1)=e-j by omega];rfl
  ·rw[show e+1-j=0 by omega,show e+1-(j+1)=0 by omega,k j ()];simp[ev]
 have n:v 0=0:=by
  show ev p (λj=>c*Z j-d*K j) (e+1) 0=0;rw[Gp];show c*d-d*c=0;rw[cT];omega
 refine#[λj=>- v (j+1),λj g=>?_,λj=>?_]
 ·show-ev p F (e+1-(j+1)) (j+1)=0;rw[show e+1-(j+1)=0 by omega];rfl
 ·show p*(- v (j+1))-sh (λj=>- v (j+1)) j=F j;have a:=m j;unfold sh;by_cases h:j=0
  ·subst h;rw[if_pos rfl];rw[n]at a;rw[vO];omega
  ·rw[if_neg h];show p*(- v (j+1))-(- v (j-1+1))=F j;rw[show j-1+1=j by omega,vO];omega
theorem AU (f:aL):∀n,∃j,∀i,i<n->(f i).8<=(f j).8
 | 0=>#[0,λi hi=>by omega]
 | n+1=>by
  exists AU f n,j,a;by_cases h:(f j).8<=(f n).8
  ·exact⟨n,λi hi=>by
    by_cases e:i=n
    ·rw[e];exact aA _
    ·exact aQ (a i ()) h⟩
  ·exact⟨j,λi hi=>by
    by_cases e:i=n
    ·rw[e];omega
    ·exact a i ()⟩
section
variable {p:Int}{K L:aL}{e t M:Nat}(he:1<=e)(hK:∀j,e+1<=j->K j=0)(kt:K e≠0)(hL:∀j,t+1<=j->L j=0)(lt:L t≠0)(hM:∀j,(pm L K j).8<=M)(hp:(ev p K (e+1) 0).8+M+1<p.8)
include he hK kt hL lt hM hp
theorem Gr {Z d:aL}{n:Nat}(o:∀j,e<=j->Z j=0)(g:∀j,e<=j->d j=0)(s:∀j,p*d j-sh d j=ev p K (e+1) 0*Z j-ev p Z (e+1) 0*K j)(u:∀j,(pm L Z j).8<=n):
  ∃b,(∀j,(pm L d j).8<=b)/\(ev p Z (e+1) 0).8<=b/\(p.8-1-M)*b<=(ev p K (e+1) 0).8*n:=by
 have r:∀j,p*pm L d j-sh (pm L d) j=ev p K (e+1) 0*pm L Z j-ev p Z (e+1) 0*pm L K j:=λj=>by
  rw[<-Go,<-oz,<-oz,<-oz,<-oy,<-oy];exact OY s j
 exists AU (pm L d) (t+e),f,k;have i:∀j,(pm L d j).8<=(pm L d f).8:=λj=>by
  by_cases h:j<t+e
  ·exact k j h
  ·rw[t_ hL g j ()];exact aU _
 have top:pm L K (e+t)=L t*K e:=kQ hL hK;have m:(ev p Z (e+1) 0).8<=(pm L d f).8:=by
  have a:=r (e+t);rw[t_ hL g (e+t) (),t_ hL o (e+t) (),top]at a;unfold sh at a;rw[if_neg ()]at a;have v:pm L d (e+t-1)=ev p Z (e+1) 0*(L t*K e):=by
   rw[cX,cX]at a;omega
  have b:=i (e+t-1);rw[v,cc,cc]at b;have c:1<=(L t).8*(K e).8:=ja (jD.mpr lt) (jD.mpr kt);exact aQ (iu _ c) b
 refine#[_,i,m,?_];have a:=r f;generalize x:(pm L d f).8=b at i m;have y:(sh (pm L d) f).8<=b:=by
  unfold sh;by_cases h:f=0
  ·rw[if_pos h];exact aU _
  ·rw[if_neg h];exact i _
 have z:(p*pm L d f).8=p.8*b:=by rw[cc,x]
 have C:(ev p K (e+1) 0*pm L Z f).8<=(ev p K (e+1) 0).8*n:=by rw[cc];exact d_ _ (u f)
 have F:(ev p Z (e+1) 0*pm L K f).8<=b*M:=by rw[cc];exact dY m (hM f)
 have G:p.8*b<=(ev p K (e+1) 0).8*n+b*M+b:=by
  rw[<-z,<-Int.sub_add_cancel (p*pm L d f) (sh (pm L d) f),a];exact aQ (i7 _ _) (lP (aQ (lQ _ _) (lP C F)) y)
 have H:(p.8-1-M)*b=p.8*b-b-b*M:=by rw[Nat.sub_mul,Nat.sub_mul,fU,fq M b]
 rw[H];exact Tt (Tt G)
theorem OZ (y:ev p K (e+1) 0≠0):∀(n:Nat)(Z:aL),(∀j,e<=j->Z j=0)->(∀j,(pm L Z j).8<=n)->∀j,Z j=0:=by
 intro n
 induction n using Cy with
 | _ n ih=>
  intro Z f r;by_cases hn0:n=0
  ·intro j;have z:=oA (g:=L) (d:=Z) (m:=t) hL lt 0 e (λj I=>f j ()) (λk _=>by have:=r k;omega);exact z j ()
  ·exists ua p hK f,s,c,u;exists Gr he hK kt hL lt hM hp f c u r,b,C,J,hs;have i:b<n:=by
    refine mX λo=>?_;have F:((ev p K (e+1) 0).8+1)*n<=(p.8-1-M)*b:=dY () o;rw[vJ]at F;omega
   have v:=ih b i s c C;have x:∀j,ev p K (e+1) 0*Z j=ev p Z (e+1) 0*K j:=λj=>by
    have a:=u j;rw[v j]at a;have G:sh s j=0:=by
     unfold sh;by_cases h:j=0
     ·rw[if_pos h]
     ·rw[if_neg h];exact v _
    rw[G,cX]at a;omega
   have H:ev p Z (e+1) 0=0:=by
    have a:=x e;rw[f e (aA _),cX]at a;exact (i9.mp a.symm).resolve_right kt
   intro j;have a:=x j;rw[H,i_]at a;exact (i9.mp a).resolve_left y
theorem O0:False:=by
 have c:∀n,ev p (λj=>if j=0 then (1:Int) else 0) (n+1) 0=1:=λn=>by
  have z:∀n s,ev p (λj=>if j=0 then (1:Int) else 0) n (s+1)=0:=λn=>by
   induction n with
   | zero=>intro s;rfl
   | succ n ih=>intro s;simp only[ev];rw[ih (s+1)];simp
  simp only[ev];rw[z n 0];simp
 have a:∀j,e<=j->(λj=>if j=0 then (1:Int) else 0) j=0:=λj r=>if_neg ();obtain⟨m,d⟩:=AU (pm L λj=>if j=0 then (1:Int) else 0) (t+e);have i:∀j,(pm L (λj=>if j=0 then (1:Int) else 0) j).8<=(pm L (λj=>if j=0 then (1:Int) else 0) m).8:=λj=>by
  by_cases h:j<t+e
  ·exact d j h
  ·rw[t_ hL a j ()];exact aU _
 by_cases h0:ev p K (e+1) 0=0
 ·exists ua p hK a,u,f,o;exists Gr he hK kt hL lt hM hp a f o i,b,v,k,hs;rw[h0]at hs;rw[c]at k;have g:1<=b:=k;have q:0<(p.8-1-M)*b:=ja () g;rw[Int.natAbs_zero,Lg]at hs;omega
 ·have:=OZ he hK kt hL lt hM hp h0 _ _ a i 0;simp at this
end
end My
namespace My
def Prm (q:Nat):Prop:=1<q/\∀m,m∣q->m=1\/m=q
theorem AV:∀n:Nat,1<n->∃q,q∣n/\Prm q:=by
 intro n
 induction n using Cy with
 | _ n ih=>
  intro h;by_cases p:∀m,m∣n->m=1\/m=n
  ·exact#[n,Nat.dvd_refl n,h,p]
  ·exists Classical.not_forall.mp p,m,a;have hd:m∣n:=Classical.byContradiction λz=>a λy=>absurd y z;have f:¬(m=1\/m=n):=λz=>a λ_=>z;have g:m≠0:=λz=>by rw[z]at hd;have:=Cz hd;omega
   have c:=jC () hd;exists ih m () (),q,d,e;exact#[q,Nat.dvd_trans d hd,e]
theorem Gs:Prm 2:=⟨(),λm a=>by
 have c:=jC () a;have d:m≠0:=λz=>by
  rw[z]at a;exact absurd (Cz a) ()
 omega⟩
theorem O8 {q:Nat}(a:Prm q){x y:Int}(h:(q:Int)∣x*y):(q:Int)∣x\/(q:Int)∣y:=by
 have c:q∣x.8*y.8:=by
  have:=iO.mpr h
  rwa [dE,cc]at this
 rcases a.2 (bT q x.8) (kq _ _) with z|z
 ·refine .inr ?_;have:q∣y.8:=Nat.Coprime.dvd_of_dvd_mul_left z c;exact iO.mp #v[dE,this]
 ·refine .inl ?_;have:q∣x.8:=by have:=lJ q x.8;rwa [z]at this
  exact iO.mp #v[dE,this]
theorem Gt {q:Int}{f:aL}(h:¬∀j,q∣f j):∃i,¬q∣f i/\∀j,j<i->q∣f j:=by
 obtain⟨n,c⟩:=Classical.not_forall.mp h
 induction n using Cy with
 | _ n ih=>
  by_cases z:∀j,j<n->q∣f j
  ·exact#[n,c,z]
  ·exists Classical.not_forall.mp z,j,a;have d:j<n:=Classical.byContradiction λy=>a λx=>absurd x y;exact ih j d λy=>a λ_=>y
theorem Gu {q:Int}{f:aL}:∀n,(∀j,j<n->q∣f j)->q∣ar n f
 | 0,_=>pI q
 | n+1,h=>Li (Gu n λj a=>h j ()) (h n ())
theorem Gv {q:Int}{f:aL}{i:Nat}:∀n,i<n->(∀j,j<n->j≠i->q∣f j)->q∣ar n f->q∣f i
 | 0,h,_,_=>by omega
 | n+1,hi,h,hs=>by
  have e:ar (n+1) f=ar n f+f n:=rfl;rw[e]at hs;by_cases z:i=n
  ·subst z;exact (Int.dvd_add_right (Gu i λj c=>h j () ())).mp hs
  ·have fn:=h n () ();exact Gv n () (λj c a=>h j () a) ((Int.dvd_add_left fn).mp hs)
theorem oE {q:Nat}(e:Prm q){f g:aL}(h:∀k,(q:Int)∣pm f g k):(∀j,(q:Int)∣f j)\/(∀j,(q:Int)∣g j):=by
 by_cases hf:∀j,(q:Int)∣f j
 ·exact .inl hf
 by_cases hg:∀j,(q:Int)∣g j
 ·exact .inr hg
 exfalso;exists Gt hf,a,m,c;exists Gt hg,b,n,d;have hs:=h (a+b);have:=Gv (i:=a) (a+b+1) () (λj p o=>by
  show (q:Int)∣f j*g (a+b-j);by_cases z:j<a
  ·exact fV (c j z) (kr _ _)
  ·exact fV (d (a+b-j) ()) (pJ _ _)) hs
 rw[show a+b-a=b by omega]at this;exact (O8 e this).elim m n
def iE (f:aL):Prop:=∀d:Nat,(∀j,(d:Int)∣f j)->d=1
theorem O9 {f g:aL}(c:iE f)(h:iE g):iE (pm f g):=λd hd=>by
 by_cases h1:d=1
 ·exact h1
 by_cases h0:d=0
 ·-- all numbers nought: then 2 divides them
  have z:∀k,((2:Nat):Int)∣pm f g k:=λk=>by
   have:=hd k;rw[h0]at this;have e:pm f g k=0:=Lj.mp (⇑this);rw[e];exact pI _
  rcases oE (q:=2) Gs z with y|y
  ·exact absurd (c 2 y) ()
  ·exact absurd (h 2 y) ()
 ·exists AV d (),q,i,a;have z:∀k,(q:Int)∣pm f g k:=λk=>fV (iw.mpr i) (hd k);rcases oE a z with y|y
  ·have:=c q y;have:=a.1;omega
  ·have:=h q y;have:=a.1;omega
theorem uc {f:aL}(o:iE f):∀(m:Nat),0<m->∀k:aL,(∀j,(m:Int)∣pm f k j)->∀j,(m:Int)∣k j:=by
 intro m
 induction m using Cy with
 | _ m ih=>
  intro x k hk;by_cases h1:m=1
  ·intro j;rw[h1];exact Int.one_dvd _
  exists AV m (),q,#[r,c],h;have p:=h.1;have n:0<r:=mY λz=>by rw[z]at c;omega
  have s:r<m:=by
   rw[c]
   calc r=1*r:=(fU r).symm
    _<q*r:=Tu p n
  have d:(m:Int)=(q:Int)*(r:Int):=by rw[c];exact fW q r
  have u:∀j,(q:Int)∣k j:=by
   rcases oE h (f:=f) (g:=k) λj=>fV #v[d,kr _ _] (hk j) with y|y
   ·have:=o q y;omega
   ·exact y
  have e:∀j,k j=q*(k j / q):=λj=>(vV (u j)).symm;have v:=ih r s n (λj=>k j / q) λj=>by
   have a:=hk j;have b:pm f k j=q*pm f (λj=>k j / q) j:=by
    rw[<-oz];refine b7 λi _=>?_;show f i*k (j-i)=f i*(q*(k (j-i) / q));rw[<-e]
   rw[b,d]at a;exact Tv () a
  intro j;rw[e j,d];exact Lk _ (v j)
end My
namespace My
noncomputable def bY:aa->aa->aa
 | [],ys=>ys
 | xs,[]=>xs
 | x :: xs,y :: ys=>(x+y) :: bY xs ys
theorem fo (n:Int):∀a c,val n (bY a c)=val n a+val n c
 | [],c=>by simp[bY,val]
 | x :: a,[]=>by simp[bY,val]
 | x :: a,y :: c=>by
  simp only[bY,val];rw[fo n a c,jB];omega
theorem be (n c:Int):∀a:aa,val n (a.map λx=>c*x)=c*val n a
 | []=>by simp[val]
 | x :: a=>by
  simp only[d9,val];rw[be n c a,jB,<-cA n c,cT n c,cA]
def bK:aa->aa->aa
 | [],_=>[]
 | c :: f,g=>bY (g.map λx=>c*x) (0 :: bK f g)
theorem dH (n:Int):∀f g,val n (bK f g)=val n f*val n g
 | [],g=>by simp[bK,val]
 | c :: f,g=>by
  simp only[bK];rw[fo,be];simp only[val];rw[dH n f g,vQ,cA];omega
theorem fX:∀(a c:aa)(k:Nat),co (bY a c) k=co a k+co c k
 | [],c,k=>by simp[bY,fP]
 | x :: a,[],k=>by simp[bY,fP]
 | x :: a,y :: c,k=>by
  simp only[bY];rw[fg,fg,fg];by_cases h:k=0
  ·simp[h]
  ·rw[if_neg h,if_neg h,if_neg h,fX a c]
theorem gJ:∀(f g:aa)(k:Nat),co (bK f g) k=pm (co f) (co g) k
 | [],g,k=>by
  rw[show bK [] g=[] from rfl,fP];exact (fQ λj _=>by rw[fP,i_]).symm
 | c :: f,g,k=>by
  simp only[bK];rw[fX,fg];have a:co (g.map λx=>c*x) k=c*co g k:=by
   by_cases h:k<g.9
   ·rw[aP (⇑h),aP h,ck]
   ·rw[aF (by simp;omega),aF (),cX]
  rw[a];unfold pm;rw[kR];have d:co (c :: f) 0=c:=rfl;rw[d,Lm];by_cases h:k=0
  ·subst h;rw[if_pos rfl];simp[ar]
  ·rw[if_neg h,gJ f g (k-1)];obtain⟨m,rfl⟩:∃m,k=m+1:=#[k-1,()]
   unfold pm;rw[show m+1-1=m by omega];congr 1;refine b7 λj e=>?_;rw[fg,if_neg (),show j+1-1=j by omega,show m+1-(j+1)=m-j by omega]
theorem ud (n:Int)(xs:aa):∀k,val n (xs++bZ k 0)=val n xs:=by
 intro k
 induction xs with
 | nil=>
  induction k with
  | zero=>rfl
  | succ k ih=>rw[hI]at *;rw[i6];simp only[val];rw[ih];simp[val]
 | cons x xs ih=>simp only[lU,val];rw[ih]
theorem ue (xs:aa)(k j:Nat):co (xs++bZ k 0) j=co xs j:=by
 by_cases h:j<xs.9
 ·unfold co;rw[az,az,cE h]
 ·rw[aF (xs:=xs) ()];unfold co;rw[az,cQ (),lH]
  split <;> rfl
theorem fJ {xs ys:aa}(h:∀n,val n xs=val n ys)(k:Nat):co xs k=co ys k:=by
 have e:xs++bZ ys.9 0=ys++bZ xs.9 0:=OB (by simp;omega) λn=>by rw[ud,ud,h]
 rw[<-ue xs ys.9 k,e,ue]
theorem f9 {xs ys:aa}(h:∀k,co xs k=co ys k)(n:Int):val n xs=val n ys:=by
 have e:xs++bZ ys.9 0=ys++bZ xs.9 0:=AM (by simp;omega) λk _=>by rw[ue,ue,h]
 rw[<-ud n xs ys.9,e,ud]
theorem iU {one VC q:aa}:Div one VC q↔∀n,val n one=val n VC*val n q:=by
 constructor
 ·intro h n;rw[<-dH];exact f9 (λk=>by rw[h k,gJ]) n
 ·intro h k;rw[<-gJ];exact fJ (λn=>by rw[h n,dH]) k
theorem Gx (p:Int)(xs:aa):∀n s,ev p (co xs) n s=val p ((xs.drop s).take n)
 | 0,s=>by simp[ev,val]
 | n+1,s=>by
  simp only[ev];rw[Gx p xs n (s+1)];by_cases h:s<xs.9
  ·rw[Ct h,Tw];simp only[val];rw[aP h]
  ·rw[aF (),Tz (),Tz ()];simp[val]
theorem O_ {p:Int}{M:Nat}{f a b g x y G qb U V:aa}{c h m:Int}(hp:2*(M:Int)+29<=p)(Y:iE (co f))(fn:Nml f)(P:f≠[])(c1:1<=c)(fs:∀z∈f,2*(c*z).8<=p.8)(Z:iE (co g))(Q:Nml g)(ha:Div a g x)(hb:Div b g y)(hM:(a≠[]/\Nml a/\∀z∈a,z.8<=M)\/(b≠[]/\Nml b/\∀z∈b,z.8<=M))(fa:Div a f G)(fb:Div b f qb)(m0:m≠0)(bz:∀n,val n U*val n a+val n V*val n b=m*val n g)(h1:1<=h)(fv:0<val p f)(hv:c*val p f=h*(val p g).8):
  f=g\/f=g.map λz=>-1*z:=by
 have va:=iU.mp ha;have vb:=iU.mp hb;have wa:=iU.mp fa;have wb:=iU.mp fb
 let W:=bY (bK U G) (bK V qb)
 have R:∀n,val n f*val n W=m*val n g:=λn=>by
  show val n f*val n (bY (bK U G) (bK V qb))=_;rw[fo,dH,dH,<-bz n,wa n,wb n,jB,ku,ku (val n V)]
 have dW:∀j,((m.8:Nat):Int)∣pm (co f) (co W) j:=λj=>by
  rw[<-gJ,fJ (ys:=g.map λz=>m*z) (λn=>by rw[dH,R,be]) j];have o:co (g.map λz=>m*z) j=m*co g j:=by
   by_cases h:j<g.9
   ·rw[aP (⇑h),aP h,ck]
   ·rw[aF (by simp;omega),aF (),cX]
  rw[o];exact fV (vW.mpr (vX m)) (kr _ _)
 have dk:=uc Y m.8 (jD.mpr m0) (co W) dW
 let k:=aO (W.map λz=>z / m)
 have r:∀n,val n g=val n f*val n k:=λn=>by
  have e:val n W=m*val n k:=by
   show _=m*val n (aO (W.map λz=>z / m));rw[f9 (cN _) n,<-be];refine f9 (λj=>?_) n;rw[ia];by_cases h:j<W.9
   ·rw[aP (xs:=W) h,aP (xs:=W.map _) (⇑h),ck];have z:=dk j;rw[aP h]at z;exact (vV (vW.mp z)).symm
   ·rw[aF (xs:=W) (),aF (xs:=W.map _) (by simp;omega)]
  have z:=R n;rw[e,ku]at z;exact (lV m0 z).symm
 have kn:Nml k:=cG _;have c2:c=h*(val p k).8:=by
  have z:=hv;rw[r p,cc,fW,Int.natAbs_of_nonneg (pH fv),cT,ku]at z;exact lV () z
 have cp:2*c<=p:=by
  have s:=dG fn P;have S:f.9-1<f.9:=by have:=dw.mpr P;omega
  rw[aP S]at s;have z:=fs _ (b_ S);rw[cc]at z;have z2:c.8<=c.8*f[f.9-1].8:=iu _ (jD.mpr s);omega
 have kc:((val p k).8:Int)<=c:=by
  rw[c2];have:(0:Int)<=((val p k).8:Int):=Int.natCast_nonneg _;have z:=CA h1 this;rw[eE]at z;exact z
 have T:∀(d w:aa),d≠[]->Nml d->(∀z∈d,z.8<=M)->(∀n,val n d=val n g*val n w)->k.9<=1:=λd w u v C vd=>by
  refine pC λh2=>?_
  let l:=aO (bK f w)
  have vl:∀n,val n d=val n l*val n k:=λn=>by
   show _=val n (aO (bK f w))*_;rw[f9 (cN _) n,dH,vd,r,cA,cT (val n k),cA]
  have s:l≠[]:=λz=>by
   have e:d=[]:=oC v λj=>by
    have:=fJ (xs:=d) (ys:=[]) (λn=>by rw[vl n,z];simp[val]) j;rw[this];rfl
   exact u e
  have ll:=dw.mpr s;have i:k≠[]:=dw.mp ();have dd:Div d l k:=iU.mpr vl;refine O0 (p:=p) (K:=co k) (L:=co l) (e:=k.9-1) (t:=l.9-1) (M:=M) () (λj F=>aF ()) (dG kn i) (λj F=>aF ()) (dG (cG _) s) (λj=>?_) ?_
  ·rw[<-dd j];by_cases F:j<d.9
   ·rw[aP F];exact C _ (b_ F)
   ·rw[aF ()];exact aU _
  ·rw[Gx,mZ,gS ()];omega
 have X:k.9<=1:=by
  rcases hM with ⟨u,v,C⟩|⟨u,v,C⟩
  ·exact T a x u v C va
  ·exact T b y u v C vb
 have cg:∀i:Int,(∀n,val n g=val n f*i)->∀j,co g j=i*co f j:=λi hk j=>by
  have o:co (f.map λz=>i*z) j=i*co f j:=by
   by_cases h:j<f.9
   ·rw[aP (xs:=f.map _) (⇑h),aP h,ck]
   ·rw[aF (xs:=f.map _) (by simp;omega),aF (),cX]
  rw[<-o];exact fJ (λn=>by rw[hk n,be,cT]) j
 have H:∀d:Int,(∀j,co g j=d*co f j)->d.8=1:=λd hd=>Z d.8 λj=>by
  rw[hd j];exact fV (vW.mpr (vX d)) (kr _ _)
 obtain⟨i,hk⟩:∃i:Int,∀n,val n g=val n f*i:=by
  generalize k=I at X r
  match I,X with
  | [],_=>exact#[0,λn=>by rw[r n];simp[val]]
  | [z],_=>exact#[z,λn=>by rw[r n];simp[val]]
  | _ :: _ :: _,h=>simp at h
 have J:=cg i hk;have x0:=H i J;have I:i=1\/i=-1:=()
 rcases I with rfl|rfl
 ·exact .inl (jp fn Q λj=>by rw[J j];omega)
 ·refine .inr (jp fn (λz ys e=>?_) λj=>?_)
  ·have O:=congrArg (vY λz=>-1*z) e;rw[ia,aR,jb]at O;have e2:(λz:Int=>-1*z) ∘ (λz:Int=>-1*z)=id:=funext λz=>by simp
   rw[e2,Ln]at O;have:=Q _ _ O;omega
  ·have o:co (g.map λz=>-1*z) j=-1*co g j:=by
    by_cases h:j<g.9
    ·rw[aP (xs:=g.map _) (⇑h),aP h,ck]
    ·rw[aF (xs:=g.map _) (by simp;omega),aF (),cX]
   rw[o,J j];omega
end My
namespace My
theorem Pa {p:Int}(n:0<p):∀(f g:aa),(∀x∈f,2*x.8<=p.8)->(∀x∈g,2*x.8<p.8)->val p f=val p g->∀k,co f k=co g k:=by
 have c:∀(x y s t:Int),2*x.8<=p.8->2*y.8<p.8->x+p*s=y+p*t->x=y/\s=t:=λx y s t hx hy h=>by
  have o:-p<=2*x/\2*x<=p:=by clear h hy;omega
  have v:-p<2*y/\2*y<p:=by clear h hx o;omega
  clear hx hy;have e:p*(s-t)=y-x:=by rw[pG];omega
  have z:s-t=0:=by
   rcases Int.lt_trichotomy (s-t) 0 with u|u|u
   ·have:=m_ (show s-t<=-1 by omega) (pH n);rw[e,vO,vE]at this;omega
   ·exact u
   ·have:=m_ (show 1<=s-t by omega) (pH n);rw[e,vE]at this;omega
  rw[z,cX]at e;exact#[(),()]
 have nil:∀g:aa,(∀x∈g,2*x.8<=p.8)->val p g=0->∀k,co g k=0:=by
  intro g
  induction g with
  | nil=>intro _ _ k;rfl
  | cons y g ih=>
   intro a h k;have r:y+p*val p g=0+p*0:=by
    have:val p (y :: g)=y+p*val p g:=rfl;rw[this]at h;rw[cX];omega
   obtain⟨d,i⟩:=c y 0 (val p g) 0 (a y (by simp)) (by simp;omega) r;rw[fg];by_cases z:k=0
   ·rw[if_pos z];exact d
   ·rw[if_neg z];exact ih (λx hx=>a x (by simp[hx])) i (k-1)
 intro f
 induction f with
 | nil=>
  intro g _ a h k;rw[nil g (λx hx=>dz (a x hx)) h.symm k];rfl
 | cons x f ih=>
  intro g j a h k
  cases g with
  | nil=>rw[nil (x :: f) j h k];rfl
  | cons y g=>
   obtain⟨d,i⟩:=c x y (val p f) (val p g) (j x (by simp)) (a y (by simp)) h;rw[fg,fg];by_cases z:k=0
   ·rw[if_pos z,if_pos z];exact d
   ·rw[if_neg z,if_neg z];exact ih g (λw m=>j w (by simp[m])) (λw m=>a w (by simp[m])) i (k-1)
theorem uf {p:Int}(n:1<=p):∀(f:aa),f≠[]->(∀x∈f,2*x.8<=p.8)->0<co f (f.9-1)->p ^ (f.9-1)<=2 ^ (f.9-1)*val p f/\0<val p f:=by
 intro f
 induction f with
 | nil=>intro h;exact absurd rfl h
 | cons x f ih=>
  intro _ g c;by_cases z:f=[]
  ·subst z;have e:val p [x]=x:=by simp[val]
   have a:0<x:=c;rw[e];exact#[by simp;omega,a]
  ·have o:=dw.mpr z;have a:0<co f (f.9-1):=by
    have:(x :: f).9-1=f.9:=by simp
    rw[this,fg,if_neg ()]at c;exact c
   obtain⟨i,r⟩:=ih z (λw j=>g w (by simp[j])) a;have hx:=g x (by simp);have e:val p (x :: f)=x+p*val p f:=rfl;have s:p*1<=p*val p f:=m_ () ();have k:p*val p f<=2*val p (x :: f):=by rw[e];omega
   refine#[?_,()];have m:(x :: f).9-1=f.9-1+1:=by simp;omega
   rw[m,lY,lY];have d:(0:Int)<=2 ^ (f.9-1):=Int.pow_nonneg ()
   calc p ^ (f.9-1)*p<=2 ^ (f.9-1)*val p f*p:=CA i ()
    _=2 ^ (f.9-1)*(p*val p f):=by rw[cA,cT (val p f) p]
    _<=2 ^ (f.9-1)*(2*val p (x :: f)):=m_ k d
    _=2 ^ (f.9-1)*2*val p (x :: f):=by rw[cA]
end My
namespace My
noncomputable def hx (x:Int) (g:aL):aL
 | 0=>g 0
 | d+1=>x*hx x g d+g (d+1)
def hs:aa->Nat->Int
 | []=>λd=>if d=0 then 1 else 0
 | x :: xs=>hx x (hs xs)
theorem AW:∀a:aa,hs a 0=1
 | []=>rfl
 | x :: a=>AW a
theorem AX (x y:Int)(g:aL):∀d,(x-y)*hx x (hx y g) d=x*hx x g d-y*hx y g d
 | 0=>by simp only[hx];rw[Int.sub_mul]
 | d+1=>by
  have f:=AX x y g d;simp only[hx];generalize hx x (hx y g) d=A at f ⊢;generalize hx x g d=a at f ⊢;generalize hx y g d=b at f ⊢;generalize g (d+1)=c;have e:(x-y)*(x*A+(y*b+c))=x*((x-y)*A)+(x-y)*(y*b+c):=by grind
  rw[e,f];grind
theorem AY (x y:Int)(g:aL):∀d,hx x (hx y g) d=hx y (hx x g) d
 | 0=>rfl
 | d+1=>by
  have a:=AY x y g d;have l:=AX x y g d;show x*hx x (hx y g) d+(y*hx y g d+g (d+1))=y*hx y (hx x g) d+(x*hx x g d+g (d+1))
  rw[<-a];generalize hx x (hx y g) d=A at l ⊢;grind
theorem oG {x:Int}{g h:aL}(e:∀d,g d=h d):∀d,hx x g d=hx x h d
 | 0=>e 0
 | d+1=>by simp only[hx];rw[oG e d,e]
theorem kS (y:Int):∀(a:aa)(d:Nat),hs (a++[y]) d=hx y (hs a) d
 | [],d=>rfl
 | x :: a,d=>by
  show hx x (hs (a++[y])) d=hx y (hx x (hs a)) d;rw[oG (kS y a) d,AY]
theorem Pb (x:Int)(xs:aa)(d:Nat):hs (x :: xs) d=hs (xs++[x]) d:=(kS x xs d).symm
theorem Pd (x y:Int)(xs:aa)(d:Nat):(y-x)*hs (x :: (xs++[y])) d=hs (xs++[y]) (d+1)-hs (x :: xs) (d+1):=by
 have a:hs (x :: (xs++[y])) d=hx x (hx y (hs xs)) d:=oG (kS y xs) d;have c:hs (xs++[y]) (d+1)=y*hx y (hs xs) d+hs xs (d+1):=kS y xs (d+1);have e:hs (x :: xs) (d+1)=x*hx x (hs xs) d+hs xs (d+1):=rfl;have l:=AX x y (hs xs) d;rw[a,c,e];generalize hx x (hx y (hs xs)) d=A at l ⊢;grind
def dd (f xs:aa):Int:=ar f.9 λj=>co f (j+(xs.9-1))*hs xs j
theorem oH (n:Nat)(f:aL):ar (n+1) f=ar n f+f n:=by
 induction n generalizing f with
 | zero=>simp[ar]
 | succ n ih=>
  rw[kR (n+1),ih λj=>f (j+1),kR n];omega
theorem AZ (f xs:aa)(x y:Int):(y-x)*dd f (x :: (xs++[y]))=dd f (xs++[y])-dd f (x :: xs):=by
 unfold dd;have a:(x :: (xs++[y])).9-1=xs.9+1:=by simp
 have l2:(xs++[y]).9-1=xs.9:=by simp
 have d:(x :: xs).9-1=xs.9:=by simp
 rw[a,l2,d,<-eL]
 cases hn:f.9 with
 | zero=>simp[ar]
 | succ n=>
  have e:∀j,(y-x)*(co f (j+(xs.9+1))*hs (x :: (xs++[y])) j)=co f (j+1+xs.9)*hs (xs++[y]) (j+1)+(-1)*(co f (j+1+xs.9)*hs (x :: xs) (j+1)):=λj=>by
   have h:=Pd x y xs j;rw[show j+(xs.9+1)=j+1+xs.9 by omega];generalize hs (x :: (xs++[y])) j=A at h ⊢;generalize co f (j+1+xs.9)=c;have:(y-x)*(c*A)=c*((y-x)*A):=by grind
   rw[this,h];grind
  have top:co f (n+(xs.9+1))=0:=aF ();rw[oH,top,i_,cX,pF,b7 λj _=>e j,jU,eL,kR n λj=>co f (j+xs.9)*hs (xs++[y]) j,kR n λj=>co f (j+xs.9)*hs (x :: xs) j,AW,AW];omega
theorem Pe (f xs:aa)(x:Int):dd f (x :: xs)=dd f (xs++[x]):=by
 unfold dd;rw[show (x :: xs).9=(xs++[x]).9 by simp];exact b7 λj _=>by rw[Pb]
theorem Gy {f xs:aa}(h:f.9<xs.9):dd f xs=0:=by
 unfold dd;exact fQ λj _=>by rw[aF (),i_]
theorem Gz (x:Int):∀d,hs [x] d=x ^ d
 | 0=>by rw[Int.pow_zero];rfl
 | d+1=>by
  show x*hs [x] d+(if d+1=0 then 1 else 0)=x ^ (d+1);rw[Gz x d,if_neg (),lY,pF,cT]
theorem GA (n:Int):∀f:aa,val n f=ar f.9 λj=>co f j*n ^ j
 | []=>rfl
 | a :: f=>by
  show val n (a :: f)=ar (f.9+1) λj=>co (a :: f) j*n ^ j;rw[kR];have e:∀j,co (a :: f) (j+1)*n ^ (j+1)=n*(co f j*n ^ j):=λj=>by
   rw[show co (a :: f) (j+1)=co f j from rfl,lY];grind
  rw[b7 λj _=>e j,eL,<-GA n f];show _=a*n ^ 0+n*val n f;simp[val]
theorem ug (f:aa)(x:Int):dd f [x]=val x f:=by
 rw[GA];unfold dd;exact b7 λj _=>by rw[Gz];rfl
theorem Pf (f xs:aa)(x n:Int):dd f (x :: (xs++[n]))=dd f ((xs++[x])++[n]):=by
 unfold dd;rw[show (x :: (xs++[n])).9=((xs++[x])++[n]).9 by simp];refine b7 λj _=>?_;congr 1;show hx x (hs (xs++[n])) j=_;rw[kS n (xs++[x]),oG (kS n xs),AY,oG (kS x xs)]
theorem GB (f xs:aa)(x n:Int):dd f (xs++[n])=dd f (xs++[x])+(n-x)*dd f ((xs++[x])++[n]):=by
 have h:=AZ f xs x n;rw[Pe f xs x,Pf]at h;omega
theorem Pg {f xs:aa}{x y:Int}(h:y≠x):(dd f (xs++[y])-dd f (x :: xs)).fdiv (y-x)=dd f (x :: (xs++[y])):=by
 rw[<-AZ];exact lN _ ()
def run (ps:aa)(a n:Nat):aa:=(ps.drop a).take n
theorem GC {ps:aa}{a:Nat}(h:a<ps.9)(n:Nat):run ps a (n+1)=ps[a] :: run ps (a+1) n:=by
 unfold run;rw[Ct h,Tw]
theorem A2 {ps:aa}{a n:Nat}(h:a+n<ps.9):run ps a (n+1)=run ps a n++[ps[a+n]]:=by
 unfold run;rw[cY,List.getElem?_drop,aq h];rfl
theorem GD {ps:aa}{a g:Nat}(h:a+g+1<ps.9):run ps a (g+2)=ps[a] :: (run ps (a+1) g++[ps[a+g+1]])/\run ps (a+1) (g+1)=run ps (a+1) g++[ps[a+g+1]]/\run ps a (g+1)=ps[a] :: run ps (a+1) g:=by
 have e:run ps (a+1) (g+1)=run ps (a+1) g++[ps[a+g+1]]:=by
  rw[A2 ()];simp only[show a+1+g=a+g+1 by omega]
 exact#[by rw[GC (),e],e,GC () g]
theorem Ph (f:aa){ps:aa}{a g:Nat}(h:a+g+1<ps.9)(c:ps[a+g+1]≠ps[a]):(dd f (run ps (a+1) (g+1))-dd f (run ps a (g+1))).fdiv (ps[a+g+1]-ps[a])=dd f (run ps a (g+2)):=by
 exists GD h,d,e,i;rw[d,e,i];exact Pg c
theorem uh (f:aa){ps:aa}(hd:∀i j (hi:i<ps.9) (r:j<ps.9),i≠j->ps[i]≠ps[j]){B:Nat}(c:∀i (h:i<ps.9),(val ps[i] f).8<=B):∀(n a:Nat),a+n<ps.9->(dd f (run ps a (n+1))).8<=2 ^ n*B
 | 0,a,h=>by
  rw[A2 h];show (dd f ([]++[ps[a+0]])).8<=_;rw[hI,ug]
  simpa using c a ()
 | n+1,a,h=>by
  have e:=uh f hd c n a ();have k:=uh f hd c n (a+1) ();exists GD (ps:=ps) (a:=a) (g:=n) (),m,o,p;have g:=AZ f (run ps (a+1) n) ps[a] ps[a+n+1];rw[<-m,<-o,<-p]at g;have ne:=hd (a+n+1) a () () ();have d:(dd f (run ps a (n+2))).8<=((ps[a+n+1]-ps[a])*dd f (run ps a (n+2))).8:=by
   rw[cc];exact h_ _ ()
  rw[g]at d;have:2 ^ (n+1)*B=2 ^ n*B+2 ^ n*B:=by rw[ko];grind
  show (dd f (run ps a (n+2))).8<=_;rw[this];exact aQ d (aQ (lQ _ _) (lP k e))
def rnd (f ps:aa)(g i:Nat):Int:=if i<g then dd f (run ps 0 (i+1)) else dd f (run ps (i-g) (g+1))
def mxR (f ps:aa)(g c i:Nat):Int:=if c<=i then rnd f ps (g+1) i else rnd f ps g i
theorem Pj {f ps:aa}{g i:Nat}(h:i<=g):rnd f ps (g+1) i=rnd f ps g i:=by
 unfold rnd;rw[if_pos ()];by_cases z:i<g
 ·rw[if_pos z]
 ·rw[if_neg z,show i-g=0 by omega,show i=g by omega]
theorem Pk {f ps:aa}{i:Nat}(h:i<ps.9):rnd f ps 0 i=val ps[i] f:=by
 unfold rnd;rw[if_neg (),Lm,A2 (show i+0<ps.9 from h)];show dd f ([]++[ps[i]])=_;rw[hI,ug]
theorem Pl {f ps:aa}{g i:Nat}(h:i<=g):rnd f ps g i=dd f (run ps 0 (i+1)):=by
 unfold rnd;by_cases z:i<g
 ·rw[if_pos z]
 ·rw[if_neg z,show i-g=0 by omega,show i=g by omega]
theorem Pm {f ps:aa}{g i:Nat}(j:g+1<=i)(hi:i<ps.9)(c:ps[i]≠ps[i-(g+1)]):(rnd f ps g i-rnd f ps g (i-1)).fdiv (ps[i]-ps[i-(g+1)])=rnd f ps (g+1) i:=by
 obtain⟨a,rfl⟩:∃a,i=a+g+1:=#[i-(g+1),()]
 have d:a+g+1-(g+1)=a:=()
 have e:a+g+1-g=a+1:=()
 have h:a+g+1-1-g=a:=()
 unfold rnd;rw[if_neg (),if_neg (),if_neg (),e,h];simp only[d]at c ⊢;exact Ph f hi c
end My
namespace My
abbrev Rw:=Nat->Int
def io (c:Nat):List Rw->(List Rw->Int)->Int
 | [],_=>0
 | r :: w,F=>(-1) ^ w.9*r c*F w+io c w λu=>F (r :: u)
def dt:ay->List Rw->Int
 | [],[]=>1
 | [],_ :: _=>0
 | c :: cs,l=>io c l (dt cs)
theorem A3 {c:Nat}:∀(w:List Rw){F G:List Rw->Int},(∀u,u.9+1=w.9->F u=G u)->io c w F=io c w G
 | [],_,_,_=>rfl
 | r :: w,F,G,h=>by
  rw[io,io,h w rfl,A3 w (F:=λu=>F (r :: u)) (G:=λu=>G (r :: u)) λu a=>h (r :: u) (by simp[a])]
theorem GE {c:Nat}:∀(w:List Rw),io c w (λ_=>0)=0
 | []=>rfl
 | r :: w=>by rw[io,GE w];simp
theorem GF {c:Nat}(x:Int):∀(w:List Rw)(F G:List Rw->Int),io c w (λu=>x*F u+G u)=x*io c w F+io c w G
 | [],_,_=>by simp[io]
 | r :: w,F,G=>by
  rw[io,io,io,GF x w (λu=>F (r :: u)) (λu=>G (r :: u))];generalize io c w (λu=>F (r :: u))=p;generalize io c w (λu=>G (r :: u))=q;generalize ((-1:Int) ^ w.9)=e;grind
theorem GG (a b:Nat):∀(w:List Rw)(F:List Rw->Int),io a w (λu=>io b u F)+io b w (λu=>io a u F)=0
 | [],_=>rfl
 | r :: w,F=>by
  have st:∀(a b:Nat),io a (r :: w) (λu=>io b u F)=(-1) ^ w.9*r a*io b w F+(-((-1) ^ w.9)*r b*io a w F+io a w λu=>io b u λv=>F (r :: v)):=λa b=>by
   rw[io];congr 1;rw[A3 w (G:=λu=>-((-1) ^ w.9)*r b*F u+io b u λv=>F (r :: v)) λu d=>?_]
   ·rw[GF]
   ·rw[io,<-d,lY];grind
  rw[st a b,st b a];have c:=GG a b w λu=>F (r :: u);generalize io a w (λu=>io b u λv=>F (r :: v))=p at c ⊢;generalize io b w (λu=>io a u λv=>F (r :: v))=q at c ⊢;grind
theorem GH (a b:Nat)(cs:ay)(l:List Rw):dt (a :: b :: cs) l=- dt (b :: a :: cs) l:=by
 have:=GG a b l (dt cs);have c:dt (a :: b :: cs) l=io a l (λu=>io b u (dt cs)):=rfl;have d:dt (b :: a :: cs) l=io b l (λu=>io a u (dt cs)):=rfl;omega
theorem A4 {j:Nat}:∀(a:ay)(l:List Rw),j∈a->dt (j :: a) l=0
 | [],_,h=>by simp at h
 | c :: a,l,h=>by
  by_cases z:j=c
  ·subst z;have:=GH j j a l;omega
  ·have d:j∈a:=by
    rcases bN.mp h with h|h
    ·exact absurd h z
    ·exact h
   rw[GH];have e:dt (c :: j :: a) l=io c l (λu=>dt (j :: a) u):=rfl;rw[e,A3 l (G:=λ_=>0) λu _=>A4 a u d,GE];rfl
def dot:aa->List Rw->Nat->Int
 | m :: ms,r :: rs,c=>m*r c+dot ms rs c
 | _,_,_=>0
theorem oI {ms:aa}:∀{rs:List Rw}{m:Int}{r:Rw}{c:Nat},ms.9=rs.9->dot (ms++[m]) (rs++[r]) c=dot ms rs c+m*r c:=by
 induction ms with
 | nil=>intro rs m r c h;cases rs with
  | nil=>simp[dot]
  | cons=>simp at h
 | cons x ms ih=>intro rs m r c h;cases rs with
  | nil=>simp at h
  | cons y rs=>
   have:=ih (rs:=rs) (m:=m) (r:=r) (c:=c) (⇑h);simp only[lU,dot];omega
def coE:List Rw->(List Rw->Int)->aa
 | [],_=>[]
 | r :: w,F=>(-1) ^ w.9*F w :: coE w λu=>F (r :: u)
theorem GI (c:Nat):∀(w:List Rw)(F:List Rw->Int),io c w F=dot (coE w F) w c
 | [],_=>rfl
 | r :: w,F=>by
  rw[io,coE,dot,GI c w];congr 1;grind
theorem GJ:∀(w:List Rw)(r:Rw)(F:List Rw->Int),∃a:aa,a.9=w.9/\coE (w++[r]) F=a++[F w]
 | [],r,F=>#[[],rfl,by simp[coE]]
 | x :: w,r,F=>by
  obtain⟨a,c,d⟩:=GJ w r λu=>F (x :: u);exact#[(-1) ^ (w++[r]).9*F (w++[r]) :: a,by simp[c],by rw[lU,coE,d];rfl]
theorem Po (w:List Rw)(r:Rw)(F:List Rw->Int):∃a:aa,a.9=w.9/\∀c,io c (w++[r]) F=dot a w c+F w*r c:=by
 exists GJ w r F,a,d,e;exact#[a,d,λc=>by rw[GI,e,oI d]]
theorem ui (a b:Int):∀(e f:aa)(d:List Rw),e.9=d.9->f.9=d.9->∃g:aa,g.9=d.9/\∀c,dot g d c=a*dot e d c+b*dot f d c
 | [],[],[],_,_=>#[[],rfl,λc=>by simp[dot]]
 | x :: e,y :: f,r :: d,h1,h2=>by
  exists ui a b e f d (⇑h1) (⇑h2),g,i,j;refine#[(a*x+b*y) :: g,by simp[i],λc=>?_];rw[dot,dot,dot,j c];grind
 | [],_ :: _,[],_,h=>by simp at h
 | _ :: _,_,[],h,_=>by simp at h
 | [],_,_ :: _,h,_=>by simp at h
 | _ :: _,[],_ :: _,_,h=>by simp at h
theorem Pp (rs:List Rw)(c:Nat):dot (bZ rs.9 0) rs c=0:=by
 induction rs with
 | nil=>rfl
 | cons r rs ih=>rw[cP,i6,dot,ih];simp
section
variable (rs:List Rw)(cs:ay)
def cr (i:Nat):ay:=(cs.take i).reverse
def mi (i:Nat):Int:=dt (cr cs i) (rs.take i)
def bo (i:Nat)(x:Rw)(j:Nat):Int:=dt (j :: cr cs i) (rs.take i++[x])
variable {rs cs}
theorem Pq {i:Nat}(h:i<cs.9):cr cs (i+1)=cs[i] :: cr cs i:=by
 unfold cr;rw[cY,aq h];simp
theorem kT {i l:Nat}(x:Rw)(h:l<i)(hi:l<cs.9):bo rs cs i x cs[l]=0:=by
 refine A4 _ _ ?_;unfold cr;rw[lZ,List.mem_take_iff_getElem];exact#[l,(),rfl]
theorem jr (i:Nat)(x:Rw):∃a:aa,a.9=(rs.take i).9/\∀j,bo rs cs i x j=dot a (rs.take i) j+mi rs cs i*x j:=by
 exists Po (rs.take i) x (dt (cr cs i)),a,c,d;exact#[a,c,d]
theorem mr {i:Nat}(a:i<rs.9)(c:i<cs.9):mi rs cs (i+1)=bo rs cs i rs[i] cs[i]:=by
 unfold mi bo;rw[Pq c,cY,aq a];rfl
theorem uj:mi rs cs 0=1:=rfl
theorem A6:∀(k:Nat),k<=rs.9->k<=cs.9->(∀i,i<=k->mi rs cs i≠0)->∀(c:aa),c.9=(rs.take k).9->(∀l (h:l<cs.9),l<k->dot c (rs.take k) cs[l]=0)->∀j,dot c (rs.take k) j=0
 | 0,_,_,_,c,hl,_,j=>by
  have:c=[]:=bD (⇑hl);subst this;simp[dot]
 | k+1,hr,hc,hm,c,hl,hz,j=>by
  have o:rs.take (k+1)=rs.take k++[rs[k]]:=by rw[cY,aq ()];rfl
  have lt:(rs.take k).9=k:=by rw[bV];omega
  rw[o,b8,lt]at hl;obtain⟨m0,m,rfl⟩:∃m0 m,c=m0++[m]:=by
   cases e:c.getLast? with
   | none=>rw[vZ]at e;subst e;simp at hl
   | some a=>exact#[_,a,(pL.mp e).choose_spec]
  have p:m0.9=(rs.take k).9:=by rw[lt];simpa using hl
  have u:∀j,dot (m0++[m]) (rs.take (k+1)) j=dot m0 (rs.take k) j+m*rs[k] j:=λj=>by rw[o,oI p]
  exists jr (rs:=rs) (cs:=cs) k rs[k],v,x,y;exists ui (mi rs cs k) (-m) m0 v (rs.take k) p x,r,z,C;have d:∀j,dot r (rs.take k) j=mi rs cs k*dot (m0++[m]) (rs.take (k+1)) j-m*bo rs cs k rs[k] j:=λj=>by
   rw[C j,u j,y j];grind
  have s:=A6 k () () (λi hi=>hm i ()) r z λl h g=>by
   rw[d,hz l h (),kT _ g];simp
  have F:=d cs[k];rw[s,hz k () (),<-mr () ()]at F;have f:m=0:=by
   have n:=hm (k+1) (aA _);have:m*mi rs cs (k+1)=0:=()
   rcases i9.mp this with h|h
   ·exact h
   ·exact absurd h n
  have G:=d j;rw[s,f]at G;have n:=hm k ();have:mi rs cs k*dot (m0++[0]) (rs.take (k+1)) j=0:=()
  rw[f];rcases i9.mp this with h|h
  ·exact absurd h n
  ·exact h
theorem Pr {i:Nat}(c:i<rs.9)(g:i<cs.9)(n:∀l,l<=i+1->mi rs cs l≠0)(x:Rw)(j:Nat):mi rs cs i*bo rs cs (i+1) x j=mi rs cs (i+1)*bo rs cs i x j-bo rs cs i x cs[i]*bo rs cs i rs[i] j:=by
 have d:rs.take (i+1)=rs.take i++[rs[i]]:=by rw[cY,aq c];rfl
 exists jr (rs:=rs) (cs:=cs) (i+1) x,as,o,p;exists jr (rs:=rs) (cs:=cs) i x,bs,b1,b2;exists jr (rs:=rs) (cs:=cs) i rs[i],ds,k,r;have e:(bs++[0]).9=(rs.take (i+1)).9:=by rw[d,b8,b8,b1];rfl
 have f:(ds++[mi rs cs i]).9=(rs.take (i+1)).9:=by rw[d,b8,b8,k];rfl
 exists ui (mi rs cs i) (- mi rs cs (i+1)) as (bs++[0]) (rs.take (i+1)) o e,s,u,v;exists ui 1 (bo rs cs i x cs[i]) s (ds++[mi rs cs i]) (rs.take (i+1)) u f,m,y,C;have a:∀j,dot m (rs.take (i+1)) j=mi rs cs i*bo rs cs (i+1) x j-mi rs cs (i+1)*bo rs cs i x j+bo rs cs i x cs[i]*bo rs cs i rs[i] j:=λj=>by
  rw[C j,v j,p j,b2 j,r j,d,oI b1,oI k];grind
 have:=A6 (i+1) c g n m y (λl h F=>by
  rw[a];by_cases z:l=i
  ·subst z;rw[kT x (pj _) h,<-mr c g];grind
  ·rw[kT x () h,kT x (show l<i by omega) h,kT rs[i] (show l<i by omega) h];simp) j
 rw[a]at this;omega
end
end My
namespace My
theorem GK {B Fb:Nat}{c:Nat}:∀(w:List Rw)(F:List Rw->Int),(∀u,u.9+1=w.9->(∀r∈u,r∈w)->(F u).8<=Fb)->(∀r∈w,(r c).8<=B)->(io c w F).8<=w.9*(B*Fb)
 | [],_,_,_=>by simp[io]
 | r :: w,F,h,hb=>by
  have g:=GK (B:=B) (Fb:=Fb) (c:=c) w (λu=>F (r :: u)) (λu a d=>h (r :: u) (by simp[a]) λx hx=>by
   rcases bN.mp hx with z|z
   ·rw[z];exact dU
   ·exact dC _ (d x z)) λx hx=>hb x (dC _ hx)
  have e:=h w rfl λx hx=>dC _ hx;have f:=hb r dU;rw[io,cP,gy,fU];have i:((-1:Int) ^ w.9*r c*F w).8<=B*Fb:=by
   rw[cc,cc,Lo];simp;exact dY f e
  have:=i7 ((-1:Int) ^ w.9*r c*F w) (io c w λu=>F (r :: u));omega
theorem A7 {B N:Nat}(e:1<=N*B):∀(a:ay)(l:List Rw),l.9<=N->(∀r∈l,∀c,(r c).8<=B)->(dt a l).8<=(N*B) ^ a.9
 | [],[],_,_=>by simp[dt]
 | [],_ :: _,_,_=>by simp[dt]
 | c :: a,l,hl,hb=>by
  have h:=GK (B:=B) (Fb:=(N*B) ^ a.9) (c:=c) l (dt a) (λu g f=>A7 e a u () λr d=>hb r (f r d)) λr d=>hb r d c;rw[dt,cP,ko];refine aQ h ?_;rw[fq ((N*B) ^ a.9) (N*B),gj];exact eh _ hl
theorem GL {us ws:aa}{j:Nat}:∀{R1 R2:List Rw},us.9=R1.9->dot (us++ws) (R1++R2) j=dot us R1 j+dot ws R2 j:=by
 induction us with
 | nil=>intro R1 R2 h;cases R1 with
  | nil=>simp[dot]
  | cons=>simp at h
 | cons x us ih=>intro R1 R2 h;cases R1 with
  | nil=>simp at h
  | cons y R1=>
   have:=ih (R1:=R1) (R2:=R2) (⇑h);simp only[lU,dot];omega
theorem GM {rs:List Rw}{e N:Nat}(v:∀r∈rs,∀J,e+N<=J->r J=0)(g:∀d:aa,d.9=rs.9->(∀J,e<=J->dot d rs J=0)->∀m∈d,m=0):∀i,i<=rs.9->∃cs:ay,cs.9=i/\cs.Nodup/\(∀c∈cs,e<=c/\c<e+N)/\∀l,l<=i->mi rs cs l≠0
 | 0,_=>#[[],rfl,l_,by simp,λl f=>by rw[show l=0 by omega,uj];decide]
 | i+1,hi=>by
  exists GM v g i (),cs,y,I,M,C;exists jr (rs:=rs) (cs:=cs) i rs[i],p,s,O;have F:rs=(rs.take i++[rs[i]])++rs.drop (i+1):=by
   conv=>lhs;rw[<-Cr (i+1) rs]
   rw[cY,aq ()];rfl
  have j:∀J,dot ((p++[mi rs cs i])++bZ (rs.drop (i+1)).9 0) rs J=bo rs cs i rs[i] J:=λJ=>by
   have n:dot ((p++[mi rs cs i])++bZ (rs.drop (i+1)).9 0) ((rs.take i++[rs[i]])++rs.drop (i+1)) J=bo rs cs i rs[i] J:=by
    rw[GL (by rw[b8,b8,s];rfl),oI s,Pp,O J];omega
   rw[<-F]at n;exact n
  by_cases o:∃J,e<=J/\bo rs cs i rs[i] J≠0
  ·exists o,J,P,u;have Q:J∉cs:=λS=>by
    exists cU.mp S,l,f,rfl;exact u (kT _ () f)
   have T:J<e+N:=by
    refine mX λh=>u ?_;rw[<-j J];have:∀(d:aa)(R:List Rw),(∀r∈R,r J=0)->dot d R J=0:=λd=>by
     induction d with
     | nil=>intro R _;cases R <;> rfl
     | cons m d ih=>intro R G;cases R with
      | nil=>rfl
      | cons r R=>rw[dot,G r dU,ih R λx hx=>G x (dC _ hx)];simp
    exact this _ _ λr U=>v r U J h
   have k:∀l,l<=i->cr (cs++[J]) l=cr cs l:=λl f=>by unfold cr;rw[List.take_append_of_le_length ()]
   have same:∀l,l<=i->mi rs (cs++[J]) l=mi rs cs l:=λl f=>by unfold mi;rw[k l f]
   refine#[cs++[J],by simp[y],?_,λc X=>?_,λl f=>?_]
   ·rw[jE];exact#[I,by simp,λa H b o=>by rw[bj.mp o];intro z;rw[z]at H;exact Q H]
   ·rcases a8.mp X with h|h
    ·exact M c h
    ·rw[bj.mp h];exact#[P,T]
   ·by_cases z:l<=i
    ·rw[same l z];exact C l z
    ·have:l=i+1:=()
     subst this;rw[mr () (by simp;omega)];have n:(cs++[J])[i]'(by simp;omega)=J:=by simp[y]
     have Y:bo rs (cs++[J]) i rs[i] J=bo rs cs i rs[i] J:=by unfold bo;rw[k i (aA _)]
     rw[n,Y];exact u
  ·have:=g ((p++[mi rs cs i])++bZ (rs.drop (i+1)).9 0) (by
    have:=congrArg kl F;rw[b8,b8]at this;rw[b8,b8,pk,s];exact this.symm) (λJ Z=>by
    rw[j J];by_cases z:bo rs cs i rs[i] J=0
    ·exact z
    ·exact absurd #[J,Z,z] o) (mi rs cs i) (by simp)
   exact absurd this (C i (aA _))
end My
namespace My
def prb (β:Rw->Nat):List Rw->Nat
 | []=>1
 | r :: w=>β r*prb β w
theorem GN {β:Rw->Nat}{c:Nat}:∀(w:List Rw)(C:Nat)(F:List Rw->Int),(∀u,u.9+1=w.9->(∀r∈u,r∈w)->(F u).8<=C*prb β u)->(∀r∈w,(r c).8<=β r)->(io c w F).8<=w.9*(C*prb β w)
 | [],_,_,_,_=>by simp[io]
 | r :: w,C,F,h,hb=>by
  have a:=GN (β:=β) (c:=c) w (C * β r) (λu=>F (r :: u)) (λu d e=>by
   have:=h (r :: u) (by simp[d]) λx hx=>by
    rcases bN.mp hx with z|z
    ·rw[z];exact dU
    ·exact dC _ (e x z)
   rw[prb,<-gj]at this;exact this) λx hx=>hb x (dC _ hx)
  have f:=h w rfl λx hx=>dC _ hx;have g:=hb r dU;rw[io,cP,gy,fU,prb];have i:((-1:Int) ^ w.9*r c*F w).8<=β r*(C*prb β w):=by
   rw[cc,cc,Lo];simp;exact dY g f
  have j:β r*(C*prb β w)=C*(β r*prb β w):=Nat.mul_left_comm _ _ _;have k:C * β r*prb β w=C*(β r*prb β w):=gj _ _ _;rw[j]at i;rw[k]at a;have:=i7 ((-1:Int) ^ w.9*r c*F w) (io c w λu=>F (r :: u));omega
theorem A8 {β:Rw->Nat}{N:Nat}(f:1<=N):∀(a:ay)(l:List Rw),l.9<=N->(∀r∈l,∀c,(r c).8<=β r)->(∀r∈l,1<=β r)->(dt a l).8<=N ^ a.9*prb β l
 | [],[],_,_,_=>by simp[dt,prb]
 | [],_ :: _,_,_,_=>by simp[dt]
 | c :: a,l,hl,hb,h1=>by
  have h:=GN (β:=β) (c:=c) l (N ^ a.9) (dt a) (λu g e=>A8 f a u () (λr d=>hb r (e r d)) λr d=>h1 r (e r d)) λr d=>hb r d c;rw[dt,cP,ko];refine aQ h ?_;rw[fq (N ^ a.9) N,gj];exact eh _ hl
theorem A9 (β:Rw->Nat):∀(a b:List Rw),prb β (a++b)=prb β a*prb β b
 | [],b=>by simp[prb]
 | r :: a,b=>by rw[lU,prb,prb,A9 β a b,gj]
theorem A_ {β:Rw->Nat}{B:Nat}:∀(a:List Rw),(∀r∈a,β r<=B)->prb β a<=B ^ a.9
 | [],_=>by simp[prb]
 | r :: a,h=>by
  rw[prb,cP,ko,fq];exact dY (A_ a λx hx=>h x (dC _ hx)) (h r dU)
end My
namespace My
def im (r:Nat)(p:Nat->Int->Int)(n:Int)(w:aL)(i:Nat):Int:=if i+1<r then p r n*w (i+1) else if i+1=r then-ar r (λj=>p j n*w j) else 0
def jV (r:Nat)(p:Nat->Int->Int)(n:Int)(w:aL):Nat->Nat->Int
 | 0=>w
 | m+1=>im r p (n+m) (jV r p n w m)
theorem GO (r:Nat)(p:Nat->Int->Int)(n:Int)(w:aL):∀m,jV r p n w (m+1)=jV r p (n+1) (im r p n w) m
 | 0=>by simp[jV]
 | m+1=>by
  have h:=GO r p n w m;show im r p (n+((m+1:Nat):Int)) (jV r p n w (m+1))=im r p (n+1+(m:Int)) _;rw[h,show n+((m+1:Nat):Int)=n+1+(m:Int) by omega]
def evU (r:Nat)(u:Nat->Int->Int)(n:Int)(w:aL):Int:=ar r λi=>u i n*w i
noncomputable def f_ (r:Nat) (p u:Nat->Int->Int) (i:Nat) (n:Int):Int:=p r n*(if i=0 then 0 else u (i-1) (n+1))-u (r-1) (n+1)*p i n
theorem GP (g:aL):∀s,ar (s+1) (λi=>if i=0 then 0 else g (i-1))=ar s g
 | 0=>by simp[ar]
 | s+1=>by
  have h:=GP g s;show ar (s+1) (λi=>if i=0 then 0 else g (i-1))+(if s+1=0 then 0 else g (s+1-1))=_;rw[h];simp[ar]
theorem Ps (n:Nat)(f g:aL):ar n (λj=>f j-g j)=ar n f-ar n g:=by
 have h:=jU n f (λj=>-1*g j);rw[eL]at h;have e:ar n (λj=>f j-g j)=ar n (λj=>f j+-1*g j):=b7 λj _=>by omega
 rw[e,h];omega
theorem Pt {r:Nat}(d:0<r)(p u:Nat->Int->Int)(n:Int)(w:aL):evU r (f_ r p u) n w=evU r u (n+1) (im r p n w):=by
 obtain⟨s,rfl⟩:∃s,r=s+1:=#[r-1,()]
 have a:evU (s+1) (f_ (s+1) p u) n w=p (s+1) n*ar (s+1) (λi=>if i=0 then 0 else u (i-1) (n+1)*w (i-1+1))-u s (n+1)*ar (s+1) (λi=>p i n*w i):=by
  rw[<-eL,<-eL,<-Ps];refine b7 λi _=>?_;unfold f_;by_cases h:i=0
  ·subst h;simp only[if_true,ma];grind
  ·rw[if_neg h,if_neg h,show i-1+1=i by omega,ma];grind
 have c:evU (s+1) u (n+1) (im (s+1) p n w)=p (s+1) n*ar s (λi=>u i (n+1)*w (i+1))+u s (n+1) * - ar (s+1) (λj=>p j n*w j):=by
  show ar s (λi=>u i (n+1)*im (s+1) p n w i)+u s (n+1)*im (s+1) p n w s=_;rw[<-eL];congr 1
  ·refine b7 λi hi=>?_;unfold im;rw[if_pos ()];grind
  ·unfold im;rw[if_neg (),if_pos rfl]
 rw[a,c,GP (λi=>u i (n+1)*w (i+1)) s];grind
def uIt (r:Nat)(p:Nat->Int->Int):Nat->Nat->Int->Int
 | 0=>λi _=>if i+1=r then 1 else 0
 | m+1=>f_ r p (uIt r p m)
theorem GQ {r:Nat}(a:0<r)(p:Nat->Int->Int):∀(m:Nat)(n:Int)(w:aL),evU r (uIt r p m) n w=jV r p n w m (r-1)
 | 0,n,w=>by
  show ar r (λi=>(if i+1=r then 1 else 0)*w i)=w (r-1);rw[mq (i:=r-1) () (λj c h=>by rw[if_neg ()];simp),if_pos ()];simp
 | m+1,n,w=>by
  show evU r (f_ r p (uIt r p m)) n w=_;rw[Pt a,GQ a p m,GO]
end My
open L2.V renaming int→V',ref→Z'
namespace My
open PySem PySem.Spec PyProof.Rows L2
open L2 renaming upd→Zx
open L2.SqL renaming of→Zw
open Option.some renaming inj→Zv
open PySem.Str renaming ofString→Zu
seal L2.PE L2.PS L2.PSs L2.PA
def zWP (u d:Bool):Array Lean.Term:=(("tU tV tW tX tK tL tO tQ tI tJ tE tw -_root_.L2.V.str.injEq tS tT tu +Aw q8 q9 q_ ra re rf rg rh rj rl rm rn ro rp rq a_c ry rA rB rC rD rE rF rG rH rJ rK rL rM rN rO rP rQ rR rS rT rV rW rX rY rZ r_ sf sj sm sn sr su sv sB sC sM -and_assoc sW sV sY sZ s_ tf sD sE sF sI sJ -Lc -TB -_root_.List.set_cons_zero -_root_.List.set_cons_succ -_root_.Option.some.injEq -_root_.L2.V.int.injEq -_root_.L2.V.bl.injEq -_root_.L2.V.ref.injEq -_root_.L2.V.ty.injEq -exists_eq_left' -exists_eq_left -exists_and_left -decide_eq_true_eq -lU -hI -mU -_root_.List.cons.injEq -and_true -true_and -_root_.Bool.not_eq_true' -decide_eq_false_iff_not -ite_true -ite_false -_root_.Bool.false_eq_true -if_true -if_false -cP -Cq -_root_.L2.start -d9 -vK -i6 -TC".splitOn " ").filter λx=>(u||!x.startsWith "+")&&(d||!x.startsWith "-")).toArray.map λx=>#[Lean.mkIdent (String.toName (String.ofList (x.toList.filter λc=>c≠'+'&&c≠'-')))]
local macro_rules | `(tactic| k_units)=>`(tactic| ((try dsimp only[$[$(zWP true false):term],*]);(try simp only[$[$(zWP true true):term],*])))
local macro_rules | `(tactic| k_typeOf)=>`(tactic| ((try dsimp only[$[$(zWP false false):term],*]);(try simp only[$[$(zWP false true):term],*])))
local macro_rules | `(tactic| w_left)=>`(tactic| ((try dsimp only);(try refine Ov (by assumption) ?_)))
local macro_rules | `(tactic| w_up)=>`(tactic| (w_left;(first|refine Ot λt e=>?_|refine Ou λt e=>?_|skip);(try dsimp only[Aw]);k_typeOf))
local macro_rules | `(tactic| w_on)=>`(tactic| exact⟨rfl,rfl,rfl,by decide +kernel,rfl,by decide +kernel,by decide +kernel⟩)
theorem Ba:FnScope ["numbers","size"] ["numbers"] (bh wl):=by w_on
theorem uk:FnScope ["one","other","answer","place","number"] ["one","other"] (bh wm):=by w_on
theorem Px:FnScope ["one","other"] ["one","other"] (bh wn):=by w_on
theorem mu:FnScope ["one","other","answer","low","number","place","factor"] ["one","other"] (bh wo):=by w_on
theorem ul:FnScope ["poly","by","answer","low","place"] ["poly","by"] (bh wq):=by w_on
theorem um:FnScope ["poly","n","answer","number"] ["poly","n"] (bh wu):=by w_on
theorem js:FnScope ["one","other","rest","steps","answer","low","top","factor","place","number"] ["one","other"] (bh wv):=by w_on
theorem gM:FnScope ["big","small","cut","ahead","behind","half","upper","lower","times","rest","further"] ["big","small"] (bh ww):=by w_on
theorem jt:FnScope ["one","other","big","small","pair","rest"] ["one","other"] (bh wx):=by w_on
theorem uo:FnScope ["poly","answer","number"] ["poly"] (bh wy):=by w_on
theorem Py:FnScope ["poly","number"] ["poly","number"] (bh wz):=by w_on
theorem PD:FnScope ["poly"] ["poly"] (bh wB):=by w_on
theorem oJ:FnScope ["number","base","answer","low"] ["number","base"] (bh wC):=by w_on
theorem PH:FnScope ["poly"] ["poly"] (bh wD):=by w_on
theorem oM:FnScope ["one","other","place","found"] ["one","other"] (bh wE):=by w_on
theorem uq:FnScope ["one","other","first","second","shared"] ["one","other"] (bh wF):=by w_on
theorem ur:FnScope ["polys","answer","poly"] ["polys"] (bh wG):=by w_on
theorem GR:FnScope ["poly","m","moved"] ["poly","m"] (bh wH):=by w_on
theorem GS:FnScope ["rule","poly"] ["rule"] (bh wI):=by w_on
theorem uu:FnScope ["rule","tops","moved","ahead","weight"] ["rule","tops"] (bh wJ):=by w_on
theorem jW:FnScope ["rule","far","order","start","tops","bottom","step"] ["rule","far"] (bh wK):=by w_on
theorem jX:FnScope ["row","table","columns","before","base","column","pivot","factor"] ["row","table","columns"] (bh wL):=by w_on
theorem kU:FnScope ["places","values","steps","gap","place","answer"] ["places","values"] (bh wM):=by w_on
theorem PJ:FnScope ["polys"] ["polys"] (bh wN):=by w_on
theorem Bb:FnScope ["vectors","columns","by_vector","by_column"] ["vectors","columns"] (bh wO):=by w_on
theorem Bc:FnScope ["polys","shared"] ["polys"] (bh wQ):=by w_on
theorem uv:FnScope ["vectors","span","vector","found"] ["vectors"] (bh wR):=by w_on
theorem PL:FnScope ["width","polys"] ["width","polys"] (bh wU):=by w_on
theorem uw:FnScope ["polys","shared"] ["polys"] (bh wV):=by w_on
theorem GT:FnScope ["vectors","weights","found"] ["vectors","weights"] (bh wW):=by w_on
theorem mv:FnScope ["one","other","width","vector_of","vectors","weights","number","left","right"] ["one","other","width","vector_of"] (bh wX):=by w_on
theorem Be:FnScope ["left","right","ahead","behind"] ["left","right"] (bh wY):=by w_on
theorem Bf:FnScope ["left","right","answer","top"] ["left","right"] (bh wZ):=by w_on
theorem PM:FnScope ["one","other"] ["one","other"] (bh w6):=by w_on
theorem PN:FnScope ["one","other"] ["one","other"] (bh w8):=by w_on
theorem PP:FnScope ["_law_script","_law_k"] ["_law_script","_law_k"] (bh w_):=by w_on
theorem mw:FnScope ["_law_one","_law_other","_law_rest"] ["_law_one","_law_other"] (bh xf):=by w_on
theorem jY:FnScope ["_law_script","_law_start","_law_order","_law_jumps","_law_found","_law_k","_law_cell","_law_poly","_law_m"] ["_law_script","_law_start","_law_order","_law_jumps"] (bh xi):=by w_on
theorem ux:FnScope ["_law_poly","_law_m","_law_found","_law_k"] ["_law_poly","_law_m"] (bh xk):=by w_on
theorem uy:FnScope ["_law_poly","_law_n","_law_found","_law_number"] ["_law_poly","_law_n"] (bh xm):=by w_on
theorem Bg:FnScope ["_law_top","_law_bottom","_law_by"] ["_law_top","_law_bottom"] (bh xn):=by w_on
theorem gr:FnScope ["_law_script","_law_start","_law_rule_here","_law_size","_law_cells","_law_found","_law_n","_law_last","_law_top","_law_bottom","_law_i","_law_one"] ["_law_script","_law_start","_law_rule_here"] (bh xo):=by w_on
theorem oN:FnScope ["_law_found","_law_order","_law_every","_law_poly","_law_number"] ["_law_found","_law_order"] (bh xq):=by w_on
theorem ju:FnScope ["_law_rule_here","_law_values_here","_law_size","_law_n","_law_top","_law_bottom","_law_i","_law_one"] ["_law_rule_here","_law_values_here"] (bh xr):=by w_on
theorem gO:FnScope ["_law_script","_law_way","_law_orders","_law_one","_law_other","_law_xs","_law_ys","_law_sums","_law_products","_law_handed","_law_k","_law_added_up","_law_multiplied_out"] ["_law_script"] (bh xu):=by w_on
theorem PQ:FnScope ["self","width"] ["self","width"] (bh xv):=by w_on
theorem GU:FnScope ["self","vector","number","place","mark"] ["self","vector","number","place"] (bh xw):=by w_on
theorem uz:FnScope ["self","place","table","number","row"] ["self","place"] (bh xx):=by w_on
theorem GW:FnScope ["self","vector","place","table"] ["self","vector","place"] (bh xy):=by w_on
theorem kW:FnScope ["self","vector","many","places","marks","place","row"] ["self","vector"] (bh xz):=by w_on
theorem my:FnScope ["self","vector","weights","column","answer","other","weight"] ["self","vector","weights"] (bh xC):=by w_on
theorem PR:FnScope ["self","vector","column"] ["self","vector","column"] (bh xD):=by w_on
theorem kX:FnScope ["self","vector","few","span","number","found","weights","weight"] ["self","vector","few"] (bh xE):=by w_on
theorem jv:FnScope ["self","vector","own","row","column","few","weights"] ["self","vector"] (bh xF):=by w_on
set_option genInjectivity false in
set_option genSizeOf false in
structure Fb (K:ao) (mg:bH) (n:Str) (s:Stmt) (ps:List Str) where
 ax:Addr
 dx:FuncData
 Fx:Fun K n n s ax dx
 mx:mg n=Zz (.ref ax)
 bx:Binds K dx ps []
set_option genInjectivity false in
set_option genSizeOf false in
structure Fc (K:ao) (n q:Str) (s:Stmt) (ps:List Str) where
 ax:Addr
 dx:FuncData
 Fx:Fun K n q s ax dx
 bx:Binds K dx ps []
set_option genInjectivity false in
set_option genSizeOf false in
structure Tx (K:ao) (mg:bH) where
 Ub:Fb K mg "trimmed" wl ["numbers"]
 Uf:Fb K mg "poly_plus" wm ["one","other"]
 UJ:Fb K mg "poly_less" wn ["one","other"]
 T7:Fb K mg "poly_times" wo ["one","other"]
 Ug:Fb K mg "shifted" wq ["poly","by"]
 Uh:Fb K mg "poly_value" wu ["poly","n"]
 Ua:Fb K mg "quotient" wv ["one","other"]
 UK:Fb K mg "shortened" ww ["big","small"]
 Ui:Fb K mg "divisor" wx ["one","other"]
 Uc:Fb K mg "content" wy ["poly"]
 Uj:Fb K mg "over" wz ["poly","number"]
 Ur:Fb K mg "upright" wB ["poly"]
 UL:Fb K mg "spread" wC ["number","base"]
 Us:Fb K mg "greatest_size" wD ["poly"]
 UM:Fb K mg "bare_common" wE ["one","other"]
 UN:Fb K mg "common" wF ["one","other"]
 Ut:Fb K mg "common_of" wG ["polys"]
 UO:Fb K mg "clear" wH ["poly","m"]
 T_:Fb K mg "order_of" wI ["rule"]
 UP:Fb K mg "further" wJ ["rule","tops"]
 Uu:Fb K mg "coords" wK ["rule","far"]
 Uv:Fb K mg "lowered" wL ["row","table","columns"]
 UQ:Fb K mg "through" wM ["places","values"]
 Uw:Fb K mg "greatest_degree" wN ["polys"]
 UR:Fb K mg "degree_bound" wO ["vectors","columns"]
 US:Fb K mg "cleared" wQ ["polys"]
 UT:Fb K mg "relation" wR ["vectors"]
 UU:Fb K mg "check_work" wU ["width","polys"]
 UV:Fb K mg "thinned" wV ["polys"]
 UW:Fb K mg "joined" wW ["vectors","weights"]
 Ux:Fb K mg "of_two" wX ["one","other","width","vector_of"]
 UE:Fb K mg "plus_vector" wY ["left","right"]
 UF:Fb K mg "times_vector" wZ ["left","right"]
 Um:Fb K mg "plus_rule" w6 ["one","other"]
 Uo:Fb K mg "times_rule" w8 ["one","other"]
 T8:Fb K mg "_law_cell_at" w_ ["_law_script","_law_k"]
 Uy:Fb K mg "_law_divisor" xf ["_law_one","_law_other"]
 Uz:Fb K mg "_law_rule" xi ["_law_script","_law_start","_law_order","_law_jumps"]
 UX:Fb K mg "_law_times" xk ["_law_poly","_law_m"]
 Uk:Fb K mg "_law_value" xm ["_law_poly","_law_n"]
 Ud:Fb K mg "_law_lowest" xn ["_law_top","_law_bottom"]
 UA:Fb K mg "_law_values" xo ["_law_script","_law_start","_law_rule_here"]
 UB:Fb K mg "_law_is_rule" xq ["_law_found","_law_order"]
 Ue:Fb K mg "_law_keeps" xr ["_law_rule_here","_law_values_here"]
 UC:Fb K mg "law" xu ["_law_script"]
 UY:Fc K "__init__" "Span.__init__" xv ["self","width"]
 UZ:Fc K "row_at" "Span.row_at" xw ["self","vector","number","place"]
 U1:Fc K "table_at" "Span.table_at" xx ["self","place"]
 U2:Fc K "lowered_at" "Span.lowered_at" xy ["self","vector","place"]
 U5:Fc K "only_choice" "Span.only_choice" xz ["self","vector"]
 U6:Fc K "failing_column" "Span.failing_column" xC ["self","vector","weights"]
 U3:Fc K "keep" "Span.keep" xD ["self","vector","column"]
 U7:Fc K "by_few" "Span.by_few" xE ["self","vector","few"]
 Uq:Fc K "take" "Span.take" xF ["self","vector"]
 Vn:Fc K "apart" "Span.apart" CL ["self"]
 T6:Addr
 Vd:mg "Span" = Zz (.ref T6)
 T5:Cls K T6
 Ve:Mk K T6 UY.ax
 Vf:Meth K T6 "row_at" UZ.ax
 Vg:Meth K T6 "table_at" U1.ax
 Vh:Meth K T6 "lowered_at" U2.ax
 Vo:Meth K T6 "only_choice" U5.ax
 Vp:Meth K T6 "failing_column" U6.ax
 Vi:Meth K T6 "keep" U3.ax
 Vr:Meth K T6 "by_few" U7.ax
 Vb:Meth K T6 "take" Uq.ax
 Vx:Meth K T6 "apart" Vn.ax
 UG:NoAttr K T6 "columns"
 Ul:NoAttr K T6 "kept"
 U9:NoAttr K T6 "place"
 Vj:NoAttr K T6 "tables"
 UH:NoAttr K T6 "width"
 T4:mg "len" = Zy
 Up:mg "list" = Zy
 U_:mg "enumerate" = Zy
 T9:mg "range" = Zy
 Vk:mg "reversed" = Zy
 U4:mg "max" = Zy
 UI:mg "abs" = Zy
 U8:mg "min" = Zy
 UD:mg "zip" = Zy
 Vl:mg "sum" = Zy
 Va:mg "isinstance" = Zy
 Vs:mg "bool" = Zy
 Vt:mg "int" = Zy
 Vm:{ t:Tok // mg "WINDOW" = Zz (.int 300 t) }
 Vu:{ t:Tok // mg "LONG" = Zz (.int 4000 t) }
 Vv:{ t:Tok // mg "GREATEST_WORK" = Zz (.int 32 t) }
 Vw:{ t:Tok // mg "START" = Zz (.int 97 t) }
def GX (K:ao):Sp:=λvs H Q _=>∃(a:Addr)(xs:aa),vs=[.ref a]/\SqL K H a (xs.map V')/\xs.9<=1000/\eI H Q ((aO xs).map V')
variable {P:Program}{w:World}{K:ao}{mg:bH}{base:Heap}(T:Tx K mg)
theorem uA:FnOk P w K mg base CX0 1 T.Ub.ax T.Ub.dx ["numbers"] (GX K):=by
 refine T.Ub.Fx.ok Ba (λz H Q E h=>?_) (λC A outer s H z Q E J h=>?_)
 ·exists h,a,c,rfl,_;rfl
 exists h,a,c,rfl,j,M,q;refine#[_,s!"ˁņȼʍ˂ḡɈ˧ʓʅʃʲɑ/Ē),ņʞēɅ̆#̛ȿÕÖɈ$",?_]
 w_up
 refine#[_,.inl j,?_];rw[af]
 w_up
 refine ig (λm σ o=>m<=c.9/\σ=[Zz (.ref a),Zz (.int (m:Int))]/\o=H/\∀k,m<=k->co c k=0) c.9 #[aA _,rfl,rfl,λk hk=>aF hk] ?_;have f:∀n:Nat,n<=c.9->aO c=c.take n->∃x,SqL K H a x/\∀p,H p=Zy->∃u,(SqL K (upd H p (.lst (fG x Zy (Zz (n:Int))))) p u\/SqT K (upd H p (.lst (fG x Zy (Zz (n:Int))))) p u)/\
   ∀l,upd H p (.lst (fG x Zy (Zz (n:Int)))) l=Zy->Q (.ref l) (upd (upd H p (.lst (fG x Zy (Zz (n:Int))))) l (.lst u)):=by
  intro n F e;refine#[_,j,λp v=>#[_,.inl (Zw ak),λr d=>?_]];rw[FM]at d ⊢;have G:((c.drop (HT.sIx c.9 0 Zy)).take (HT.sIx c.9 c.9 (Zz ((n:Nat):Int))-HT.sIx c.9 0 Zy))=aO c:=by
   rw[HT.sIx_nat,HT.sIx_none,mZ,e,Nat.min_eq_left F];rfl
  rw[G]at d ⊢;exact q r _ ((aB v _).trans (aB d _)) ((aB v _).free d) ak
 rintro m σ o ⟨hm,rfl,rfl,hz⟩
 cases m with
 | zero=>
  w_left;k_units
  rw[if_neg (by simp)];exact f 0 (aU _) (Gb (aU _) hz (.inl rfl))
 | succ m=>
  have I:((m+1:Nat):Int)-1=(m:Int):=()
  w_left;simp![I]
  rw[if_pos ()];refine#[_,j,_,iD (),?_]
  w_left;k_units
  refine bU (λh=>?_) (λh=>?_)
  ·refine#[λg y=>g=[Zz (Z' a),Zz (V' (m:Int))]/\y=o,?_,rfl,rfl]
   rintro g y ⟨rfl,rfl⟩
   refine#[m,pj _,(),rfl,rfl,λk hk=>?_];by_cases e:k=m
   ·rw[e,aP ()];exact h
   ·exact hz k ()
  ·exact f (m+1) hm (Gb hm hz (.inr (by show co c m≠0;rw[aP ()];exact h)))
def Bh (K:ao)(f:aa->aa->aa):Sp:=λvs H Q _=>∃(a b:Addr)(xs ys:aa),vs=[.ref a,.ref b]/\SqL K H a (xs.map V')/\SqL K H b (ys.map V')/\xs.9<=100/\ys.9<=100/\
 (∀x∈xs,Bd 60000 x)/\(∀y∈ys,Bd 60000 y)/\eI H Q ((f xs ys).map V')
theorem Bi (k:Nat):(bZ k [V' 0]).flatten=(bZ k (0:Int)).map V':=by
 induction k with
 | zero=>rfl
 | succ k ih=>rw[i6,vI,ih,i6];rfl
theorem PU (k j:Nat):co (bZ k 0) j=0:=by
 unfold co;rw[az,lH]
 split <;> rfl
theorem PV (xs:aa)(k j:Nat):co (xs++bZ k 0) j=co xs j:=by
 by_cases h:j<xs.9
 ·unfold co;rw[az,az,cE h]
 ·rw[aF (xs:=xs) ()];unfold co;rw[az,cQ (),lH]
  split <;> rfl
theorem Bj:FnOk P w K mg base CX0 2 T.Uf.ax T.Uf.dx ["one","other"] (Bh K ij):=by
 refine T.Uf.Fx.ok uk (λvs H Q E h=>?_) (λv0 A outer s H vs Q E hr h=>?_)
 ·exists h,a,b,xs,f,rfl,_;rfl
 exists h,a,b,xs,f,rfl,hA,I,la,lb,_,_,q;refine#[_,s!"ɰĔɛ°̆ʄ*ĕ̇ʃ˃ʍɨé êɹ˩4Ĕ˪9Ĕ̜ë̝ìɘí²˓îɐïðñˬ",?_]
 w_up
 refine#[_,.inl hA,λl hl=>#[(),λp hp=>?_]];have G:=aB hl (.lst (xs.map V'));have x:=aB hp (.lst [V' 0]);refine#[_,.inl ((G.trans x).seq I),_,.inl ((G.trans x).seq hA),_,ak,?_];rw[af,af,Bi];obtain⟨k,hk⟩:∃k:Nat,((f.9:Int)-(xs.9:Int)).toNat=k:=#[_,rfl]
 rw[hk];have u0:k<=100:=()
 refine#[(),(),dz (bO (by simp;omega)),λp1 hp1=>?_];have J:=aB hp1 (.lst ((bZ k (0:Int)).map V'));refine#[_,J _ _ (x _ _ ak),_,ak,dz (bO (by simp;omega)),λu y=>?_];rw[<-aR];have M:=(G.trans (x.trans J)).trans (aB y (.lst ((xs++bZ k 0).map V')));have O:=(G.trans (x.trans J)).free y;have h4:upd (upd (upd (upd H l (.lst (xs.map V'))) p (.lst [V' 0])) p1 (.lst ((bZ k (0:Int)).map V'))) u (.lst ((xs++bZ k 0).map V')) u=_:=ak;generalize upd (upd (upd (upd H l (.lst (xs.map V'))) p (.lst [V' 0])) p1 (.lst ((bZ k (0:Int)).map V'))) u (.lst ((xs++bZ k 0).map V'))=H4 at M h4 ⊢
 w_up
 refine#[_,M.seq I,?_];obtain⟨R,c⟩:∃R:Nat->L2.St->Hp->Prop,∀i σ n,R i σ n↔∃(g:aa)(S U:Option V),σ=[Zz (Z' a),Zz (Z' b),Zz (Z' u),S,U]/\n u=Zz (.lst (g.map V'))/\g.9=xs.9+k/\
  (∀j,co g j=co xs j+if j<i then co f j else 0)/\Same H n:=#[_,λ_ _ _=>Iff.rfl]
 refine tq R ((c _ _ _).mpr #[_,Zy,Zy,rfl,h4,by simp,λj=>by rw[PV,if_neg ()];omega,M]) (λi σ n _ z=>by exists (c i σ n).mp z,_,_,_,_,_,_,_,z5;exact z5.seq I) ?_ ?_
 ·intro i v pt σ n X o Y;exists (c _ _ _).mp o,g,S,U,rfl,Z,lz,d,sz;have hi:i<f.9:=by have:=(aZ.mp X).1;rw[af]at this;exact this
  rw[aI,aq hi]at X;obtain rfl:V' f[i]=v:=Zv X;have s5:=aB Y (.tup [V' i,V' f[i]])
  w_left;k_units
  refine#[_,SqT.of ak,rfl,?_]
  w_left;k_units
  have m:i<g.9:=()
  have C:=s5 _ _ Z;refine#[_,Zw C,_,iD m,_,rfl,_,C,i,jR #v[af,m],(c _ _ _).mpr #[g.set i (g[i]+f[i]),_,_,rfl,by rw[ak,map_set],#v[py,lz],λj=>?_,(sz.trans s5).more O]];rw[ox _ _ _ _ m];by_cases e:j=i
  ·subst e;have:=d j;rw[if_neg (),aP m]at this;rw[if_pos rfl,if_pos (),aP hi];omega
  ·rw[if_neg e,d j];by_cases hj:j<i
   ·rw[if_pos hj,if_pos ()]
   ·rw[if_neg hj,if_neg ()]
 ·intro σ n o;exists (c _ _ _).mp o,g,S,U,rfl,Z,lz,d,sz;rw[af]at d
  w_left;k_units
  refine#[u,g,rfl,Zw Z,(),λr x0 y0 F z0=>?_];refine q r x0 (sz.trans y0) (sz.free F) ?_;rw[z0,Oz xs f g λj=>by rw[d j];by_cases hj:j<f.9;rw[if_pos hj];rw[if_neg hj,aF (xs:=f) ()]]
theorem PX:FnOk P w K mg base CX0 3 T.UJ.ax T.UJ.dx ["one","other"] (Bh K jq):=by
 refine T.UJ.Fx.ok Px (λI H Q E h=>?_) (λJ A outer s H I Q E M h=>?_)
 ·exists h,a,b,F,e,rfl,_;rfl
 exists h,a,b,F,e,rfl,O,G,la,lb,ba,bb,q;refine#[_,s!"˓ĖɁƧ ėĘęɩ̈˭ɜȿ$",?_]
 w_up
 refine#[#[_,G],λC hC=>?_];obtain⟨k,c⟩:∃k:cB,∀i d,k i d↔d C=Zz (.lst (((e.take i).map λx=>-x).map V'))/\Same H d:=#[_,λ_ _=>Iff.rfl]
 refine ff k ((c _ _).mpr #[ak,aB hC _]) (λi d _ z=>((c i d).mp z).2.seq G) ?_ ?_
 ·intro i v d m n;exists (c _ _).mp n,j,f;have hi:i<e.9:=by have:=(aZ.mp m).1;rw[af]at this;exact this
  rw[aI,aq hi]at m;obtain rfl:V' e[i]=v:=Zv m
  w_left;simp![bst]
  refine#[_,j,#v[af,af,bV,bO ()],(c _ _).mpr #[?_,f.more hC]];rw[ak,Tp hi,aR,aR];rfl
 ·intro d n;exists (c _ _).mp n,j,f;rw[af,fy]at j;refine#[a,C,F,e.map λx=>-x,rfl,f.seq O,Zw j,la,#v[af,lb],ba,λy hy=>?_,λr o p g u=>q r o (f.trans p) (f.free g) ?_]
  ·exists bC.mp hy,x,hx,rfl;exact (bb x hx).neg
  ·rw[u,OA]
theorem PY (ys:aa):aN [] ys=[]:=tZ.mpr λk=>by
 rw[iT];split <;> rfl
theorem Bk (xs:aa):aN xs []=[]:=tZ.mpr λk=>by
 rw[iT]
 split
 ·exact fQ λj _=>by unfold cz;split <;> simp[fP]
 ·rfl
theorem iV:FnOk P w K mg base CX0 2 T.T7.ax T.T7.dx ["one","other"] (Bh K aN):=by
 refine T.T7.Fx.ok mu (λvs H Q E h=>?_) (λj0 A outer s H vs Q E hr h=>?_)
 ·exists h,a,b,xs,c,rfl,_;rfl
 exists h,a,b,xs,c,rfl,X,Y,la,lb,ba,bb,q;refine#[_,s!"ˮʓʍɑ³ʓ˃ʧɺGɰ×ɛĕ̇ʃʵʍ˃%ɨé êʄ˩4×˪9×̜ɞé êɹ˩@×˪C×̜ëɉʵɓɾìɦɘɱí²˓îɐïðñˬ",?_]
 w_up
 refine#[_,.inl X,?_];rw[af];have nil:aN xs c=[]->0<=sizeLine/\∀(p:Addr),H p=Zy->Q (Z' p) (upd H p (HO.lst [])):=λe=>#[aU _,λp Z=>q p _ (aB Z _) Z (by rw[ak,e];rfl)]
 refine bU (λh=>nil ?_) (λh=>#[_,.inl Y,?_])
 ·rw[bD (show xs.9=0 by omega)];exact PY c
 rw[af];refine bU (λO=>nil ?_) (λO=>?_)
 ·rw[bD (show c.9=0 by omega)];exact Bk xs
 w_up
 refine#[(),λp Z=>?_];have s1:=aB Z (.lst [V' 0]);refine#[_,.inl (s1.seq X),_,.inl (s1.seq Y),_,ak,?_];rw[af,af,Bi];obtain⟨k,hk⟩:∃k:Nat,((xs.9:Int)+(c.9:Int)-1).toNat=k:=#[_,rfl]
 rw[hk];refine#[(),(),dz (bO (by simp;omega)),λy R=>?_];have s4:=s1.trans (aB R (.lst ((bZ k (0:Int)).map V')));have x0:=s1.free R;have h4:upd (upd H p (.lst [V' 0])) y (.lst ((bZ k (0:Int)).map V')) y=_:=ak;generalize upd (upd H p (.lst [V' 0])) y (.lst ((bZ k (0:Int)).map V'))=H4 at s4 h4 ⊢
 w_up
 refine#[_,s4.seq X,?_];obtain⟨Pv,n⟩:∃Pv:Nat->L2.St->Hp->Prop,∀l σ g,Pv l σ g↔∃(f:aa)(r1 r2 C F:Option V),σ=[Zz (Z' a),Zz (Z' b),Zz (Z' y),r1,r2,C,F]/\g y=Zz (.lst (f.map V'))/\f.9=k/\
  (∀j,co f j=if j+1<xs.9+c.9 then cv xs c l j else 0)/\Same H g:=#[_,λ_ _ _=>Iff.rfl]
 refine tq Pv ((n _ _ _).mpr #[_,Zy,Zy,Zy,Zy,rfl,h4,by simp,λj=>by rw[PU];split <;> rfl,s4]) (λi σ g _ z=>by exists (n i σ g).mp z,_,_,_,_,_,_,_,_,_,z5;exact z5.seq X) ?_ ?_
 ·intro l v pt σ g G m I;exists (n _ _ _).mp m,f,r1,r2,C,F,rfl,J,M,d,sz;have hi:l<xs.9:=by have:=(aZ.mp G).1;rw[af]at this;exact this
  rw[aI,aq hi]at G;obtain rfl:V' xs[l]=v:=Zv G;have S:=aB I (.tup [V' l,V' xs[l]])
  w_left;k_units
  refine#[_,SqT.of ak,rfl,?_]
  w_left;k_units
  have s6:=sz.trans S;have o:=S _ _ J;generalize upd g pt (.tup [V' l,V' xs[l]])=H5 at s6 o ⊢;refine#[_,s6.seq Y,?_];obtain⟨Pw,u⟩:∃Pw:Nat->L2.St->Hp->Prop,∀j σ g,Pw j σ g↔∃(f:aa)(C F:Option V),σ=[Zz (Z' a),Zz (Z' b),Zz (Z' y),Zz (V' l),Zz (V' xs[l]),C,F]/\g y=Zz (.lst (f.map V'))/\f.9=k/\
   (∀t,co f t=(if t+1<xs.9+c.9 then cv xs c l t else 0)+if l<=t/\t<l+j then xs[l]*co c (t-l) else 0)/\Same H g:=#[_,λ_ _ _=>Iff.rfl]
  refine tq Pw ((u _ _ _).mpr #[f,_,_,rfl,o,M,λt=>by rw[d t,if_neg (show ¬(l<=t/\t<l+0) by omega)];omega,s6]) (λi σ g _ z=>by exists (u i σ g).mp z,_,_,_,_,_,_,_,z5;exact z5.seq Y) ?_ ?_
  ·intro j v pt σ g G m I;exists (u _ _ _).mp m,f,C,F,rfl,J,M,d,sz;have hj:j<c.9:=by have:=(aZ.mp G).1;rw[af]at this;exact this
   rw[aI,aq hj]at G;obtain rfl:V' c[j]=v:=Zv G;have S:=aB I (.tup [V' j,V' c[j]])
   w_left;k_units
   refine#[_,SqT.of ak,rfl,?_];have y0:(l:Int)+(j:Int)=((l+j:Nat):Int):=rfl
   w_left;simp![y0]
   have x:l+j<f.9:=()
   have o:=S _ _ J;refine#[_,Zw o,_,iD x,(ba _ (b_ hi)).fits (bb _ (b_ hj)) (),_,rfl,_,o,l+j,jR #v[af,x],(u _ _ _).mpr #[f.set (l+j) (f[l+j]+xs[l]*c[j]),_,_,rfl,by rw[ak,map_set],#v[py,M],λt=>?_,(sz.trans S).more x0]];rw[ox _ _ _ _ x];by_cases e:t=l+j
   ·subst e;have:=d (l+j);rw[if_neg (show ¬(l<=l+j/\l+j<l+j) by omega),aP x]at this;rw[if_pos (show l+j=l+j from rfl),if_pos (show l<=l+j/\l+j<l+(j+1) by omega),show l+j-l=j by omega,aP hj];omega
   ·rw[if_neg e,d t];by_cases h3:l<=t/\t<l+j
    ·rw[if_pos h3,if_pos (show l<=t/\t<l+(j+1) by omega)]
    ·rw[if_neg h3,if_neg (show ¬(l<=t/\t<l+(j+1)) by omega)]
  ·intro σ g m;exists (u _ _ _).mp m,f,C,F,rfl,J,M,d,sz;rw[af]at d;refine (n _ _ _).mpr #[f,_,_,_,_,rfl,J,M,λt=>?_,sz];rw[d t];have e:cv xs c (l+1) t=cv xs c l t+co xs l*cz c t l:=rfl;rw[e,aP hi];unfold cz;by_cases h1:t+1<xs.9+c.9
   ·rw[if_pos h1,if_pos h1];by_cases O:l<=t
    ·rw[if_pos O];by_cases h3:t<l+c.9
     ·rw[if_pos #[O,h3]]
     ·rw[if_neg (),aF (xs:=c) (),cX]
    ·rw[if_neg (),if_neg O,cX]
   ·rw[if_neg h1,if_neg h1,if_neg ()];rfl
 ·intro σ g m;exists (n _ _ _).mp m,f,r1,r2,C,F,rfl,J,M,d,sz;rw[af]at d
  w_left;k_units
  refine#[y,f,rfl,Zw J,(),λr z0 u0 U v0=>q r z0 (sz.trans u0) (sz.free U) ?_];rw[v0,Oy xs c f d]
theorem dy {xs:aa}{P:Int->Prop}(h:∀x∈xs,P x)(a:P 0)(j:Nat):P (co xs j):=by
 by_cases z:j<xs.9
 ·rw[aP z];exact h _ (b_ z)
 ·rw[aF ()];exact a
theorem dg {xs:aa}{P:Int->Prop}(h:∀j,P (co xs j)):∀x∈xs,P x:=λx hx=>by
 exists cU.mp hx,k,hk,rfl;rw[<-aP hk];exact h k
theorem oO {xs:aa}(h:xs=[]\/co xs (xs.9-1)≠0):Nml xs:=by
 refine eK.mpr λx hx=>?_;rcases h with rfl|h
 ·simp at hx
 ·have a:xs.9≠0:=by intro z;rw[bD z]at hx;simp at hx
  rw[aP ()]at h;rw[gi,aq ()]at hx;rw[<-Zv hx];exact h
theorem oP (xs:aa):Nml (xs++[1]):=eK.mpr λx hx=>by rw[vP]at hx;rw[<-Zv hx];decide
theorem fK {c:Int}(h:c≠0):Nml [c]:=eK.mpr λx hx=>by simp at hx;omega
theorem Bl {M N:Nat}{ys:aa}(hy:∀y∈ys,y.8<=N):∀xs:aa,(∀x∈xs,x.8<=M)->∀j,(co (bK xs ys) j).8<=xs.9*(M*N)
 | [],_,j=>by simp[bK,fP]
 | x :: xs,h,j=>by
  have a:co (ys.map λz=>x*z) j=x*co ys j:=by
   by_cases h:j<ys.9
   ·rw[aP #v[af,h],aP h,ck]
   ·rw[aF (by rw[af];omega),aF (xs:=ys) ()];simp
  have c:(x*co ys j).8<=M*N:=by
   rw[cc];refine dY (h x (by simp)) ?_;by_cases z:j<ys.9
   ·rw[aP z];exact hy _ (b_ z)
   ·rw[aF ()];exact aU _
  have d:(co (0 :: bK xs ys) j).8<=xs.9*(M*N):=by
   rw[fg]
   split
   ·exact aU _
   ·exact Bl hy xs (λy hy=>h y (by simp[hy])) _
  have e:co (bK (x :: xs) ys) j=x*co ys j+co (0 :: bK xs ys) j:=by rw[bK,fX,a]
  rw[e,cP,gy,fU];have:=i7 (x*co ys j) (co (0 :: bK xs ys) j);omega
theorem jZ {xs ys:aa}{k l c:Nat}(hx:∀x∈xs,Bd k x)(hy:∀y∈ys,Bd l y)(a:xs.9<=2 ^ c)(j:Nat):Bd (k+l+c) (pm (co xs) (co ys) j):=by
 rw[<-gJ];have d:=Bl (M:=2 ^ k-1) (N:=2 ^ l-1) (ys:=ys) (λy h=>by have:y.8<2 ^ l:=hy y h;omega) xs (λx h=>by have:x.8<2 ^ k:=hx x h;omega) j;have i:=eo k;have e:=eo l;have f:=eo c;have g:(2 ^ k-1)*(2 ^ l-1)<2 ^ k*2 ^ l:=by
  refine cx (d_ _ (Nat.sub_le _ 1)) ?_;exact Tu () e
 show (co (bK xs ys) j).8<2 ^ (k+l+c);rw[dN,dN];refine cx d ?_;refine cx (eh _ a) ?_;rw[fq (2 ^ k*2 ^ l)];exact Lp g f
theorem kY {xs ys ws:aa}(nx:Nml xs)(c:Nml ys)(a:Nml ws)(h:∀j,co ws j=pm (co xs) (co ys) j):ws.9<=xs.9+ys.9-1:=by
 by_cases x0:xs=[]
 ·rw[oC a λk=>by rw[h k,x0];exact fQ λj _=>by rw[fP];simp];exact aU _
 by_cases w0:ws=[]
 ·rw[w0];exact aU _
 have:=(AT nx x0 a c (one:=ws) (q:=ys) h w0).2;omega
theorem GY {n m:Nat}{f:aL}(h:n<=m)(a:∀j,n<=j->j<m->f j=0):ar m f=ar n f:=by
 induction m with
 | zero=>rw[show n=0 by omega]
 | succ m ih=>
  by_cases e:n=m+1
  ·rw[e]
  ·simp only[ar];rw[ih () λj c d=>a j c (),a m () ()];omega
theorem Bm (xs ys:aa)(k:Nat):pm (co xs) (co ys) k=cv xs ys xs.9 k:=by
 have c:pm (co xs) (co ys) k=ar (k+1) λj=>co xs j*cz ys k j:=by
  unfold pm;exact b7 λj f=>by unfold cz;rw[if_pos ()]
 have d:ar (k+1+xs.9) (λj=>co xs j*cz ys k j)=ar (k+1) λj=>co xs j*cz ys k j:=
  GY () λj a _=>by unfold cz;rw[if_neg ()];simp
 have e:ar (k+1+xs.9) (λj=>co xs j*cz ys k j)=ar xs.9 λj=>co xs j*cz ys k j:=
  GY () λj a _=>by rw[aF a];simp
 rw[c,<-d,e];rfl
theorem cW {xs ys:aa}(hx:Nml xs)(hy:Nml ys)(h:∀n,val n xs=val n ys):xs=ys:=jp hx hy λk=>fJ h k
theorem oQ (xs ys:aa)(k:Nat):co (aN xs ys) k=pm (co xs) (co ys) k:=by
 unfold aN;rw[cN,iT,Bm]
 split
 ·rfl
 ·rw[tY _ _ _ ()]
theorem Bn (xs ys:aa)(k:Nat):co (ij xs ys) k=co xs k+co ys k:=by
 unfold ij;rw[cN,iT]
 split
 ·rfl
 ·rw[aF (xs:=xs) (),aF (xs:=ys) ()];rfl
theorem GZ (n:Int)(xs ys:aa):val n (aN xs ys)=val n xs*val n ys:=by
 rw[<-dH];exact f9 (λk=>by rw[oQ,gJ]) n
theorem G0 (n:Int)(xs ys:aa):val n (ij xs ys)=val n xs+val n ys:=by
 rw[<-fo];exact f9 (λk=>by rw[Bn,fX]) n
theorem G5 (xs ys:aa):Nml (ij xs ys):=cG _
theorem G6 (xs ys:aa):(ij xs ys).9<=max xs.9 ys.9:=aQ (ow _) (by simp)
theorem Bo (xs ys:aa)(hy:ys≠[]):(aN xs ys).9<=xs.9+ys.9-1:=by
 have h:=dw.mpr hy;refine g_ (cG _) λk hk=>?_;show co (aN xs ys) k=0;rw[oQ,Bm,tY _ _ _ ()]
def PZ (ps f:aa):Prop:=f.9<=ps.9/\Nml f/\ps.9<=60/\(∀i j (hi:i<ps.9) (hj:j<ps.9),i≠j->ps[i]≠ps[j])/\(∀p∈ps,Bd 40 p)/\∀p∈ps,Bd 10000 (val p f)
theorem P1 {m i:Nat}{g h:aL}(hi:i<m)(e:∀j,j<m->j≠i->h j=g j):((aM m).map g).set i (h i)=(aM m).map h:=by
 refine hZ (by simp) λj d a=>?_;have c:j<m:=by simpa using a
 rw[List.getElem_set,ck,ck,jc]
 split
 ·rename_i z;rw[z]
 ·rename_i z;exact (e j c (Ne.symm z)).symm
theorem Br {m i:Nat}{g:aL}(hi:i<m):((aM m).map g)[i]?=Zz (g i):=by
 rw[aI,iy hi];rfl
theorem G7 {m:Nat}{g h:aL}(e:∀j,j<m->g j=h j):(aM m).map g=(aM m).map h:=fB λj a=>e j (dj.mp a)
def P2 (K:ao):Sp:=λvs H Q _=>∃(A B:Addr)(ps f:aa),vs=[.ref A,.ref B]/\SqL K H A (ps.map V')/\SqL K H B ((ps.map λp=>val p f).map V')/\PZ ps f/\eI H Q (f.map V')
theorem P3:FnOk P w K mg base CX0 3 T.UQ.ax T.UQ.dx ["places","values"] (P2 K):=by
 refine T.UQ.Fx.ok kU (λvs H Q E h=>?_) (λk1 A outer s H vs Q E hr h=>?_)
 ·exists h,A,B,u,f,rfl,_;rfl
 exists h,A,B,u,f,rfl,hA,hB,#[lf,nf,x2,x0,bp,bv],q;refine#[_,s!"ɰËȼ̆ɹɨƨɻɖ#˄$˅Ë˔ɞòɻʋ˄%ʋɓ̉˰9Ë˔ó*´ʃʶ̊ʶʃɘɇʃʅ̊ʅʃɘ̋ôɉɘ²ˆËˇɨòɻʋ˄̉̉˰9Ëȼɲ@ËɧĖɐėĘę˱ˉɄ@#I˯ʅ̊ɭ$#I#ʶ̊$ʎɾ",?_]
 w_up
 refine#[_,.inl hB,λS nS=>?_];have u0:=aB nS (.lst ((u.map λp=>val p f).map V'));have e0:(u.map λp=>val p f)=(aM u.9).map (rnd f u 0):=by
  refine hZ (by simp) λi h1 h2=>?_;rw[ck,ck,jc,Pk (⇑h1)]
 rw[e0]at u0 ⊢;have eS:=ak (H:=H) (a:=S) (o:=.lst (((aM u.9).map (rnd f u 0)).map V'));generalize Zx H S (.lst (((aM u.9).map (rnd f u 0)).map V'))=H1 at u0 eS ⊢;have lR:∀g:aL,(((aM u.9).map g).map V').9=u.9:=λg=>by simp
 obtain⟨m,hm⟩:∃m,u.9=m:=#[_,rfl]
 w_up
 refine#[_,.inl (Zw eS),(),(),by rw[lR];omega,by rw[lR];omega,?_];rw[lR];obtain⟨X,C⟩:∃X:Nat->L2.St->Hp->Prop,∀i σ J,X i σ J↔∃r3 O:Option V,σ=[Zz (Z' A),Zz (Z' B),Zz (Z' S),r3,O,Zy]/\J S=Zz (.lst (((aM u.9).map (rnd f u i)).map V'))/\Same H J:=#[_,λ_ _ _=>Iff.rfl]
 refine iC X ((C _ _ _).mpr #[Zy,Zy,rfl,eS,u0]) ?_ ?_
 ·intro i σ H2 hi G;exists (C _ _ _).mp G,r3,O,rfl,M,s2;have e1:(1:Int)+(i:Int)-1=(i:Int):=()
  w_left;simp![e1]
  clear e1;refine#[_,.inl (Zw M),(),(),?_];rw[lR];refine#[tj () () () (),u.9-1-i,tm (),?_];obtain⟨Pw,U⟩:∃Pw:Nat->L2.St->Hp->Prop,∀t σ J,Pw t σ J↔∃r:Option V,σ=[Zz (Z' A),Zz (Z' B),Zz (Z' S),Zz (V' (1+(i:Int))),r,Zy]/\J S=Zz (.lst (((aM u.9).map (mxR f u i (u.9-t))).map V'))/\Same H J:=#[_,λ_ _ _=>Iff.rfl]
  refine oi Pw ((U _ _ _).mpr #[O,rfl,?_,s2]) ?_ ?_
  ·rw[M,G7 (h:=mxR f u i (u.9-0)) λj hj=>by unfold mxR;rw[if_neg ()]]
  ·intro t σ H3 ht G;exists (U _ _ _).mp G,r,rfl,F,s3;obtain⟨pl,Y⟩:∃pl,u.9-t=pl+1:=#[u.9-t-1,()]
   rw[Y]at F;have I:pl<u.9:=()
   have ne:=x0 pl (pl-(i+1)) I () ();have g1:mxR f u i (pl+1) pl=rnd f u i pl:=by unfold mxR;rw[if_neg ()]
   have g2:mxR f u i (pl+1) (pl-1)=rnd f u i (pl-1):=by unfold mxR;rw[if_neg ()]
   have b1:=bp _ (b_ I);have b2:=bp _ (b_ (show pl-(i+1)<u.9 by omega));have ep:(u.9:Int)-1+(t:Int) * -1=(pl:Int):=()
   have y0:(pl:Int)-1=((pl-1:Nat):Int):=()
   have z0:(pl:Int)-(1+(i:Int))=((pl-(i+1):Nat):Int):=()
   w_left;simp![ep,y0,z0]
   clear ep y0 z0;refine#[_,Zw F,_,oj (Br I),_,Zw F,_,oj (Br (show pl-1<u.9 by omega)),_,rfl,_,rfl,_,s3.seq hA,_,iD I,_,s3.seq hA,_,iD (show pl-(i+1)<u.9 by omega),_,rfl,_,rfl,(),cI (b1.sub b2) (fu () ()),_,F,pl,jR #v[lR,I],(U _ _ _).mpr #[_,rfl,?_,s3.more nS]];rw[ak,g1,g2,Pm () I ne,map_set,show u.9-(t+1)=pl by omega];have hs:=P1 (m:=u.9) (i:=pl) (g:=mxR f u i (pl+1)) (h:=mxR f u i pl) I λj _ hj=>by
    unfold mxR;by_cases z:pl<=j
    ·rw[if_pos z,if_pos ()]
    ·rw[if_neg z,if_neg ()]
   rw[<-hs];congr 3;unfold mxR;rw[if_pos (aA _)]
  ·intro σ H3 G;exists (U _ _ _).mp G,r,rfl,F,s3;refine (C _ _ _).mpr #[_,_,rfl,?_,s3];rw[F,G7 λj hj=>?_];unfold mxR;by_cases z:u.9-(u.9-1-i)<=j
   ·rw[if_pos z]
   ·rw[if_neg z,Pj ()]
 intro σ H2 G;exists (C _ _ _).mp G,r3,O,rfl,M,s2;clear G C X eS u0
 w_up
 refine#[aU _,λR0 n0=>?_];have v0:=aB n0 (.lst []);have j0:=ak (H:=H2) (a:=R0) (o:=.lst []);generalize Zx H2 R0 (.lst [])=H3 at v0 j0 ⊢;have lt:∀i (h:i<u.9),(val u[i] f).8<=2 ^ 10000:=λi h=>dz (bv _ (b_ h))
 w_up
 refine#[_,.inl (Zw (v0 _ _ M)),(),(),?_];rw[lR];refine#[tj () () () (),u.9,tm (),?_];obtain⟨X,C⟩:∃X:Nat->L2.St->Hp->Prop,∀t σ J,X t σ J↔∃(O:Option V)(R:Addr)(a:aa),σ=[Zz (Z' A),Zz (Z' B),Zz (Z' S),r3,O,Zz (Z' R)]/\J R=Zz (.lst (a.map V'))/\H R=Zy/\Nml a/\a.9<=t/\(∀x∈a,Bd (10100+60*t) x)/\(∀n,val n a=dd f (u.take (u.9-t)++[n]))/\Same H2 J:=#[_,λ_ _ _=>Iff.rfl]
 refine oi X ((C _ _ _).mpr #[O,R0,[],rfl,j0,s2.free n0,cH,aA _,λx hx=>by simp at hx,λn=>?_,v0]) ?_ ?_
 ·rw[Gy (by rw[b8,bV];simp;omega)];rfl
 ·intro t σ H4 ht G;exists (C _ _ _).mp G,O,R,a,rfl,eR,nR,na,la,ba,va,s4;obtain⟨pl,Y⟩:∃pl,u.9-t=pl+1:=#[u.9-t-1,()]
  have I:pl<u.9:=()
  have ep:(u.9:Int)-1+(t:Int) * -1=(pl:Int):=()
  have x1:=(s2.trans s4).seq hA;have y1:=s4 _ _ M;have g1:rnd f u ((u.9:Int)-1).toNat pl=dd f (run u 0 (pl+1)):=Pl ();have b1:=bp _ (b_ I);have bc:Bd 10061 (dd f (run u 0 (pl+1))):=by
   have h:=uh f x0 lt pl 0 ();refine cx h ?_;rw[<-dN];exact pM () ()
  have st:∀n,dd f (u.take pl++[n])=dd f (run u 0 (pl+1))+(n-u[pl])*dd f (u.take (pl+1)++[n]):=λn=>by
   have e1:u.take (pl+1)=u.take pl++[u[pl]]:=by rw[cY,aq I];rfl
   have e2:run u 0 (pl+1)=u.take (pl+1):=by unfold run;rw[mZ]
   rw[e2,e1];exact GB f (u.take pl) u[pl] n
  generalize dd f (run u 0 (pl+1))=c at g1 bc st;rw[Y]at va;have k0:∀y∈[-u[pl],1],Bd 41 y:=λy hy=>by
   simp only[bN,pE,or_false]at hy;rcases hy with rfl|rfl
   ·exact b1.neg.mono ()
   ·exact Bd.one ()
  have bm:∀k,Bd (10147+60*t) (co (aN a [-u[pl],1]) k):=λk=>by
   rw[oQ];exact (jZ (c:=6) ba k0 (aQ la ()) k).mono ()
  have bn:∀k,Bd (10100+60*(t+1)) (co (ij (aN a [-u[pl],1]) [c]) k):=λk=>by
   rw[Bn];refine ((bm k).add (dy (P:=λv=>Bd (10147+60*t) v) (λv hv=>?_) (Bd.zero _) k)).mono ();rw[bj.mp hv];exact bc.mono ()
  have lm:=Bo a [-u[pl],1] (by simp);have y2:(aN a [-u[pl],1]).9<=t+1:=by simp at lm;omega
  w_left;simp![ep]
  refine#[_,x1,_,iD I,_,rfl,(),λq1 m1=>?_];have w1:=aB m1 (.lst [V' (-u[pl]),V' 1]);refine#[R,q1,a,[-u[pl],1],rfl,Zw (w1 _ _ eR),Zw ak,(),by simp,λx hx=>(ba x hx).mono (),λy hy=>(k0 y hy).mono (),λR1 H5 s5 z2 z1=>?_];have Z:=w1.trans s5;refine#[_,Zw (Z _ _ y1),_,oj (Br I),(),λq2 m2=>?_];rw[g1];have w2:=aB m2 (.lst [V' c]);refine#[R1,q2,aN a [-u[pl],1],[c],rfl,Zw (w2 _ _ z1),Zw ak,(),by simp,dg λk=>(bm k).mono (),λy hy=>#v[bj.mp hy,bc.mono ()],λR2 H6 s6 u1 v1=>?_];have j1:=Z.trans (w2.trans s6);refine (C _ _ _).mpr #[_,R2,_,rfl,v1,s2.free (s4.free (Z.free (w2.free u1))),G5 _ _,?_,dg bn,λn=>?_,s4.trans j1]
  ·have:=G6 (aN a [-u[pl],1]) [c];simp at this;omega
  ·rw[G0,GZ,va,show u.9-(t+1)=pl by omega,st n];have e1:val n [-u[pl],1]=n-u[pl]:=by simp[val];omega
   have e2:val n [c]=c:=by simp[val]
   rw[e1,e2];generalize dd f (u.take (pl+1)++[n])=d;grind
 intro σ H4 G;exists (C _ _ _).mp G,O,R,a,rfl,eR,nR,na,la,ba,va,s4;have e:a=f:=cW na nf λn=>by
  rw[va,gB,List.take_zero,hI,ug]
 rw[e]at eR
 w_left;k_units
 exact q R H4 (s2.trans s4) nR eR
theorem Bs {X:Cx}{K:ao}(hK:X.K=K):gX X (.type "list") (λc H Q=>∃p a,c=[.ref p]/\(SqL K H p a\/SqT K H p a)/\∀l,H l=Zy->Q (.ref l) (upd H l (.lst a))):=by subst hK;exact kK
theorem G8 {X:Cx}{K:ao}(hK:X.K=K):gX X (.builtin "len") (λc H Q=>∃p a,c=[.ref p]/\(SqL K H p a\/SqT K H p a)/\Q (.int (a.9:Nat)) H):=by subst hK;exact bJ
theorem oR {X:Cx}{K:ao}(hK:X.K=K):IxR X (qU K):=by subst hK;exact bE
theorem ip {X:Cx}{K:ao}(hK:X.K=K):IxR X (Am K):=by subst hK;exact df
structure LL (K:ao)(H:Hp)(as:am)(ps:ac):Prop where
 len:as.9=ps.9
 get:∀(i:Nat)(a:Addr)(p:aa),as[i]?=Zz a->ps[i]?=Zz p->SqL K H a (p.map V')
theorem LL.same {K:ao}{H c:Hp}{as:am}{ps:ac}(h:LL K H as ps)(s:Same H c):LL K c as ps:=#[h.len,λi a p d e=>s.seq (h.get i a p d e)]
theorem LL.nth {K:ao}{H:Hp}{as:am}{ps:ac}(h:LL K H as ps){i:Nat}{v:V}(d:(as.map Z')[i]?=Zz v):∃a p,v=.ref a/\as[i]?=Zz a/\ps[i]?=Zz p/\SqL K H a (p.map V'):=by
 rw[aI]at d;exists de.mp d,a,c,rfl;have hi:=(aZ.mp c).1;have e:i<ps.9:=by rw[<-h.len];exact hi
 exact#[a,ps[i],rfl,c,aq e,h.get i a _ c (aq e)]
theorem LL.lastAt {K:ao}{H:Hp}{as:am}{ps:ac}(h:LL K H as ps)(c:ps≠[]):∃a p,atI (as.map Z') (-1)=Zz (.ref a)/\as.getLast?=Zz a/\ps.getLast?=Zz p/\SqL K H a (p.map V'):=by
 have j:ps.9≠0:=λz=>c (bD z);have d:as.9-1<as.9:=by have:=h.len;omega
 have f:as.9-1<ps.9:=by have:=h.len;omega
 refine#[as[as.9-1],ps[as.9-1],?_,?_,?_,h.get (as.9-1) _ _ (aq d) (aq f)]
 ·have e:=FS (n:=(as.map Z').9) (i:=1) () (by rw[af];omega);have g:(-((1:Nat):Int))=-1:=rfl;rw[g]at e;unfold atI;rw[e];show (as.map Z')[(as.map Z').9-1]?=_;rw[aI,af,aq d];rfl
 ·rw[gi,aq d]
 ·rw[gi,<-h.len,aq f]
def dL (p:aa):PyData:=.list (p.map PyData.int)
theorem G9 {K:ao}{H:Hp}:∀(as:am)(c:ac),LL K H as c->DVs K H (as.map Z') (c.map dL)
 | [],[],_=>.nil
 | a :: as,p :: c,h=>.cons (DV.ints (h.get 0 a p rfl rfl)) (G9 as c #[by have:=h.len;simpa using this,λi b r d e=>h.get (i+1) b r (⇑d) (⇑e)])
 | [],_ :: _,h=>by have:=h.len;simp at this
 | _ :: _,[],h=>by have:=h.len;simp at this
theorem uB {K:ao}{H:Hp}{R:Addr}{as:am}{ps:ac}(a:SqL K H R (as.map Z'))(h:LL K H as ps):DV K H (.ref R) (.list (ps.map dL)):=.lst a (G9 as ps h)
theorem G_ (ps:ac):PyData.eqv (.list (ps.map dL)) (.list (ps.map dL))=true:=by
 have h:∀ps:ac,PyData.eqvAll (ps.map dL) (ps.map dL)=true:=λps=>by
  induction ps with
  | nil=>rfl
  | cons p ps ih=>simp[PyData.eqvAll,PyData.eqv,Ay,dL,ih]
 simp[PyData.eqv,h]
theorem Hj (ps:ac):PyData.canLay0 (.list (ps.map dL))=true:=by
 have h:∀ps:ac,PyData.canLayAll0 (ps.map dL)=true:=λps=>by
  induction ps with
  | nil=>rfl
  | cons p ps ih=>simp[PyData.canLayAll0,PyData.canLay0,Az,dL,ih]
 simp[PyData.canLay0,h]
def dr (row:aa)(tb:ac)(cs:ay):Nat->Int×aa
 | 0=>(1,row)
 | i+1=>(co (tb.getD i []) (cs.getD i 0),dX (λx y=>(co (tb.getD i []) (cs.getD i 0)*x-co (dr row tb cs i).2 (cs.getD i 0)*y).fdiv (dr row tb cs i).1) (dr row tb cs i).2 (tb.getD i []))
structure LowOk (row:aa)(tb:ac)(cs:ay):Prop where
 len:tb.9<=cs.9
 few:row.9<=60
 wid:∀b∈tb,b.9=row.9
 col:∀c∈cs,c<row.9
 bb:∀b∈tb,∀y∈b,Bd 4000 y
 ne:∀i,i<tb.9->(dr row tb cs i).1≠0/\Bd 4000 (dr row tb cs i).1
 br:∀i,i<tb.9->∀x∈(dr row tb cs i).2,Bd 4000 x
theorem oS {row:aa}{tb:ac}{cs:ay}(h:LowOk row tb cs):∀i,i<=tb.9->(dr row tb cs i).2.9=row.9
 | 0,_=>rfl
 | i+1,hi=>by
  have a:=oS h i ();have c:(tb.getD i []).9=row.9:=by
   rw[az,aq ()];exact h.wid _ (b_ _)
  show (dX _ _ _).9=_;rw[ni,a,c,Nat.min_self]
theorem mz {xs:aa}{i:Nat}(h:i<xs.9):atI (xs.map V') (i:Int)=Zz (V' (co xs i)):=by rw[iD h,aP h]
def P4 (K:ao):Sp:=λvs H Q _=>∃(R Tb Cl:Addr)(row:aa)(ts:am)(tb:ac)(cs:ay),vs=[.ref R,.ref Tb,.ref Cl]/\SqL K H R (row.map V')/\SqL K H Tb (ts.map Z')/\LL K H ts tb/\SqL K H Cl ((cs.map λc:Nat=>(c:Int)).map V')/\LowOk row tb cs/\
 ∀(R':Addr)(H':Hp),Same H H'->(R'=R/\tb=[]\/H R'=Zy/\H' R'=Zz (.lst ((dr row tb cs tb.9).2.map V')))->SqL K H' R' ((dr row tb cs tb.9).2.map V')->Q (.ref R') H'
theorem Hk:FnOk P w K mg base CX0 1 T.Uv.ax T.Uv.dx ["row","table","columns"] (P4 K):=by
 refine T.Uv.Fx.ok jX (λvs H Q E h=>?_) (λu0 A outer s H vs Q E hr h=>?_)
 ·exists h,R,Tb,Cl,row,O,tb,a,rfl,_;rfl
 exists h,R,Tb,Cl,row,O,tb,a,rfl,hR,hT,hL,hC,ok,q;refine#[_,s!"ɿ¿ʇ%ɨ̌,ʏ˩9¿˪@¿˫ʨ¿ʇɊɘɾɂ˲¿ʇʅɾɂ'Ě)(̞ɪɪɸÙCƩɬÙQƪɬÙ4ƫɬÚ̌(ʩ$K*´ʃɦɉȿɦɓɈɘ¿ɢɲ4¿ʇɱɅȿ",?_]
 have v0:=hL.len
 w_up
 obtain⟨S,f⟩:∃S:Nat->L2.St->Hp->Prop,∀i σ o,S i σ o↔∃(k:Addr)(U X Y Z:Option V),σ=[Zz (Z' k),Zz (Z' Tb),Zz (Z' Cl),Zz (V' (dr row tb a i).1),U,X,Y,Z]/\(k=R/\i=0\/H k=Zy/\o k=Zz (.lst ((dr row tb a i).2.map V')))/\SqL K o k ((dr row tb a i).2.map V')/\Same H o:=#[_,λ_ _ _=>Iff.rfl]
 w_up
 refine#[_,hT,_,hC,AG (xs:=O.map Z') (ys:=(a.map λc:Nat=>(c:Int)).map V') S ((f _ _ _).mpr #[R,Zy,Zy,Zy,Zy,rfl,.inl #[rfl,rfl],hR,Same.refl _]) (λi σ o _ _ z=>by exists (f i σ o).mp z,_,_,_,_,_,_,_,_,z;exact#[z.seq hT,z.seq hC]) ?_ ?_]
 ·intro i v1 v2 p σ H1 e1 e2 hp np;exists (f _ _ _).mp hp,k,U,X,Y,Z,rfl,dR,d,s1;rw[aI]at e1;exists de.mp e1,t,ht,rfl;have hi:i<tb.9:=by have:=(aZ.mp ht).1;omega
  have m:i<a.9:=by have:=ok.len;omega
  rw[aI,aI,aq m]at e2;obtain rfl:V' (a[i]:Int)=v2:=Zv e2;have J:=hL.get i t _ ht (aq hi);have ll:=oS ok i ();have lb:=ok.wid _ (b_ hi);have lc:=ok.col _ (b_ m);have eb:tb.getD i []=tb[i]:=by rw[az,aq hi];rfl
  have ec:a.getD i 0=a[i]:=by rw[az,aq m];rfl
  have st:dr row tb a (i+1)=(co tb[i] a[i],dX (λx y=>(co tb[i] a[i]*x-co (dr row tb a i).2 a[i]*y).fdiv (dr row tb a i).1) (dr row tb a i).2 tb[i]):=by rw[dr,eb,ec]
  exists ok.ne i hi,n0,nb;have br:=ok.br i hi;have bb:=ok.bb _ (b_ hi);have u:=aB np (.tup [Z' t,V' (a[i]:Int)]);generalize dr row tb a i=L at d ll st n0 nb br ⊢;exists L,bf,e;dsimp only at d ll st n0 nb br ⊢;generalize tb[i]=b at J lb st bb;generalize a[i]=c at e2 lc st u ⊢;have few:=ok.few;have C:=s1.trans u
  w_left;k_units
  refine#[_,SqT.of ak,rfl,_,_,rfl,_,_,rfl,rfl,_,rfl,_,_,rfl,C.seq J,_,mz (),_,_,rfl,u.seq d,_,mz (),_,rfl,_,u.seq d,_,C.seq J,λD M=>?_];have F:=C.seq J;have G:=u.seq d;generalize Zx H1 p (.tup [Z' t,V' (c:Int)])=H2 at C u F G M ⊢;have x0:Bd 4000 (co b c):=dy (P:=λv=>Bd 4000 v) bb (Bd.zero _) c;have y0:Bd 4000 (co e c):=dy (P:=λv=>Bd 4000 v) br (Bd.zero _) c;obtain⟨Pc,g⟩:∃Pc:cB,∀j n,Pc j n↔n D=Zz (.lst (((dX (λx y=>(co b c*x-co e c*y).fdiv bf) e b).take j).map V'))/\Same H2 n:=#[_,λ_ _=>Iff.rfl]
  refine tG (xs:=e.map V') (ys:=b.map V') Pc ((g _ _).mpr #[ak,aB M _]) (λi n _ _ y=>by exists (g i n).mp y,_,y;exact#[y.seq G,y.seq F]) ?_ ?_
  ·intro j w1 w2 r n f1 f2 hc nr;exists (g _ _).mp hc,I,k2;rw[aI]at f1 f2;exists de.mp f1,x,hx,rfl;exists de.mp f2,y,hy,rfl;have u2:=aB nr (.tup [V' x,V' y]);have bx:=br x (b4 hx);have z0:=bb y (b4 hy)
   w_left;simp![fm,eG]
   have hj:j<e.9:=(aZ.mp hx).1;refine#[x0.fits bx (),y0.fits z0 (),n0,cI nb (fu () ()),_,u2 _ _ I,?_,(g _ _).mpr #[?_,(k2.trans u2).more M]]
   ·rw[af,bV];exact bO ()
   ·have hz:(dX (λx y=>(co b c*x-co e c*y).fdiv bf) e b)[j]?=Zz ((co b c*x-co e c*y).fdiv bf):=by
     rw[Lq,hx,hy]
    rw[ak,cY,hz,aR];rfl
  intro n hc;exists (g _ _).mp hc,I,k2;rw[gS #v[ni,af,af,aA _]]at I;refine (f _ _ _).mpr ?_;rw[st];exact#[D,_,_,_,_,rfl,.inr #[C.free M,I],Zw I,C.trans k2]
 intro σ H1 hp;exists (f _ _ _).mp hp,k,U,X,Y,Z,rfl,dR,d,s1;have hn:min (O.map Z').9 ((a.map λc:Nat=>(c:Int)).map V').9=tb.9:=by
  have:=ok.len;simp;omega
 rw[hn]at d dR
 w_left;k_units
 refine q k H1 s1 ?_ d;rcases dR with ⟨z1,z2⟩|z
 ·exact .inl #[z1,bD z2]
 ·exact .inr z
def Hl (K:ao):Sp:=λvs H Q _=>∃(a:Addr)(xs:aa)(n:Int)(k l:Nat),vs=[.ref a,.int n]/\SqL K H a (xs.map V')/\xs.9<=64/\(∀x∈xs,Bd k x)/\Bd l n/\k+l*100<=60000000/\Q (.int (val n xs)) H
theorem uC (n:Int)(xs:aa)(i:Nat)(h:i<xs.9):val n (xs.drop (xs.9-1-i))=val n (xs.drop (xs.9-i))*n+xs[xs.9-1-i]:=by
 rw[Ct (),show xs.9-1-i+1=xs.9-i by omega];simp only[val];rw[cT];omega
theorem Bt:FnOk P w K mg base CX0 1 T.Uh.ax T.Uh.dx ["poly","n"] (Hl K):=by
 refine T.Uh.Fx.ok um (λx H Q E h=>?_) (λy A outer s H x Q E F h=>?_)
 ·exists h,a,c,n,k,l,rfl,_;rfl
 exists h,a,c,n,k,l,rfl,p,G,hk,u,I,q;refine#[_,s!"ɰěʞɨŇ ňʄ˅ěȼ̍ě˳ɦɉɈɓɅɉ",?_]
 k_units
 refine#[_,p,?_];obtain⟨j,d⟩:∃j:Nat->L2.St->Hp->Prop,∀i σ f,j i σ f↔(∃r,σ=[Zz (Z' a),Zz (V' n),Zz (V' (val n (c.drop (c.9-i)))),r])/\Bd (k+(l+1)*i) (val n (c.drop (c.9-i)))/\f=H:=#[_,λ_ _ _=>Iff.rfl]
 refine FR j ((d _ _ _).mpr #[#[Zy,by simp[val]],by simp[val,Bd.zero],rfl]) (λi σ f _ z=>#v[((d i σ f).mp z).2.2,p]) ?_ ?_
 ·intro i v σ f hi m o;exists (d _ _ _).mp o,#[r,rfl],g,rfl;rw[af]at hi m;rw[aI,aq ()]at m;obtain rfl:V' c[c.9-1-i]=v:=Zv m
  k_units
  have hx:Bd k c[c.9-1-i]:=hk _ (b_ _);have e:c.9-(i+1)=c.9-1-i:=()
  have C:(l+1)*i<=l*64+64:=by have:=d_ (l+1) (by omega:i<=64);omega
  refine#[g.fits u (),(d _ _ _).mpr #[#[_,by rw[e,uC n c i hi]],?_,rfl]];rw[e,uC n c i hi];refine ((g.mul u).add (hx.mono (by omega:k<=k+(l+1)*i+l))).mono ?_;rw[jF];omega
 ·intro σ f o;obtain⟨⟨r,rfl⟩,_,rfl⟩:=(d _ _ _).mp o
  k_units
  rw[af,gB,mZ];exact q
def KB (a:Addr)(H H':Hp):Prop:=∀y o,y≠a->H y=Zz o->H' y=Zz o
theorem KB.on {a:Addr}{H c d:Hp}(k:KB a H c)(s:Same c d):KB a H d:=λy o n e=>s _ _ (k y o n e)
theorem KB.set {a:Addr}{H c:Hp}{o:HO}(k:KB a H c):KB a H (Zx c a o):=λy o n e=>#v[aE n,k y o n e]
theorem KB.of {a:Addr}{H c:Hp}(s:Same H c):KB a H c:=λy o _ e=>s y o e
theorem KB.free {a p:Addr}{H c:Hp}{o:HO}(k:KB a H c)(h:c a=Zz o)(n:c p=Zy):H p=Zy/\p≠a:=by
 have d:p≠a:=λz=>by rw[z,h]at n;cases n
 refine#[?_,d]
 cases e:H p with
 | none=>rfl
 | some u=>rw[k p u d e]at n;cases n
noncomputable def jx (w:Int) (Kp Cl:Addr) (pl:Int) (Tb:Addr):List (Str×V):=[(Zu "width",.int w),(Zu "kept",.ref Kp),(Zu "columns",.ref Cl),(Zu "place",.int pl),(Zu "tables",.ref Tb)]
def Hm (C:Addr):Sp:=λvs H Q _=>∃(x dx:Addr)(w:Int),vs=[.ref x,.int w]/\H x=Zz (.ins C dx [])/\
 ∀(Kp Cl Tb:Addr)(H':Hp),(∀y o,y≠x->H y=Zz o->H' y=Zz o)->H Kp=Zy->H Cl=Zy->H Tb=Zy->Kp≠Cl->Kp≠Tb->Cl≠Tb->H' x=Zz (.ins C dx (jx w Kp Cl 97 Tb))->H' Kp=Zz (.lst [])->H' Cl=Zz (.lst [])->H' Tb=Zz (.dK [])->Q .non H'
theorem Hn:FnOk P w K mg base CX0 1 T.UY.ax T.UY.dx ["self","width"] (Hm T.T6):=by
 refine T.UY.Fx.ok PQ (λvs H Q E h=>?_) (λx0 A outer s H vs Q E hr h=>?_)
 ·exists h,x,dx,w,rfl,_;rfl
 exists h,x,dx,w,rfl,hx,q;refine#[_,s!"'Û˗ 'Ûȿɺ 'Ûȿɺ 'Ûȿ̟Ƭ ƭɠ /ÛȿƮ ",?_]
 have k0:KB x H H:=KB.of (Same.refl H)
 w_up
 refine#[_,_,_,hx,T.T5,T.UH,(),?_];have g:=k0.set (o:=.ins T.T6 dx (a7 (Zu "width") (V' w) []));have i:=ak (H:=H) (a:=x) (o:=.ins T.T6 dx (a7 (Zu "width") (V' w) []));generalize Zx H x (.ins T.T6 dx (a7 (Zu "width") (V' w) []))=C at g i ⊢
 w_up
 refine#[(),λc n1=>?_];have F:=aB n1 (.lst []);exists g.free i n1,m1,j;refine#[_,_,_,F _ _ i,T.T5,T.Ul,by show 1<1000;decide,?_];have k:=(g.on F).set (o:=.ins T.T6 dx (a7 (Zu "kept") (Z' c) (a7 (Zu "width") (V' w) [])));have m:=ak (H:=Zx C c (.lst [])) (a:=x) (o:=.ins T.T6 dx (a7 (Zu "kept") (Z' c) (a7 (Zu "width") (V' w) [])));have n:Zx (Zx C c (.lst [])) x (.ins T.T6 dx (a7 (Zu "kept") (Z' c) (a7 (Zu "width") (V' w) []))) c=Zz (.lst []):=by rw[aE j];exact ak
 generalize Zx (Zx C c (.lst [])) x (.ins T.T6 dx (a7 (Zu "kept") (Z' c) (a7 (Zu "width") (V' w) [])))=p at k m n ⊢;clear g i n1 F
 w_up
 refine#[(),λd f=>?_];have r:=aB f (.lst []);exists k.free m f,m2,G;have I:c≠d:=λz=>by rw[<-z,n]at f;cases f
 refine#[_,_,_,r _ _ m,T.T5,T.UG,by show 2<1000;decide,?_];have Y:=(k.on r).set (o:=.ins T.T6 dx (a7 (Zu "columns") (Z' d) (a7 (Zu "kept") (Z' c) (a7 (Zu "width") (V' w) []))));have Z:=ak (H:=Zx p d (.lst [])) (a:=x) (o:=.ins T.T6 dx (a7 (Zu "columns") (Z' d) (a7 (Zu "kept") (Z' c) (a7 (Zu "width") (V' w) []))));have e3:Zx (Zx p d (.lst [])) x (.ins T.T6 dx (a7 (Zu "columns") (Z' d) (a7 (Zu "kept") (Z' c) (a7 (Zu "width") (V' w) [])))) c=Zz (.lst []):=by rw[aE j];exact r _ _ n
 have f3:Zx (Zx p d (.lst [])) x (.ins T.T6 dx (a7 (Zu "columns") (Z' d) (a7 (Zu "kept") (Z' c) (a7 (Zu "width") (V' w) [])))) d=Zz (.lst []):=by rw[aE G];exact ak
 generalize Zx (Zx p d (.lst [])) x (.ins T.T6 dx (a7 (Zu "columns") (Z' d) (a7 (Zu "kept") (Z' c) (a7 (Zu "width") (V' w) []))))=u at Y Z e3 f3 ⊢;clear k m f r n
 w_up
 refine#[_,_,_,Z,T.T5,T.U9,by show 3<1000;decide,?_];have J:=Y.set (o:=.ins T.T6 dx (a7 (Zu "place") (V' 97) (a7 (Zu "columns") (Z' d) (a7 (Zu "kept") (Z' c) (a7 (Zu "width") (V' w) [])))));have M:=ak (H:=u) (a:=x) (o:=.ins T.T6 dx (a7 (Zu "place") (V' 97) (a7 (Zu "columns") (Z' d) (a7 (Zu "kept") (Z' c) (a7 (Zu "width") (V' w) [])))));have O:=(aE (H:=u) (o:=.ins T.T6 dx (a7 (Zu "place") (V' 97) (a7 (Zu "columns") (Z' d) (a7 (Zu "kept") (Z' c) (a7 (Zu "width") (V' w) []))))) j).trans e3;have R:=(aE (H:=u) (o:=.ins T.T6 dx (a7 (Zu "place") (V' 97) (a7 (Zu "columns") (Z' d) (a7 (Zu "kept") (Z' c) (a7 (Zu "width") (V' w) []))))) G).trans f3;generalize Zx u x (.ins T.T6 dx (a7 (Zu "place") (V' 97) (a7 (Zu "columns") (Z' d) (a7 (Zu "kept") (Z' c) (a7 (Zu "width") (V' w) [])))))=G4 at J M O R ⊢
 w_up
 intro S e;have y:=aB e (.dK []);exists J.free M e,m5,d5;have U:c≠S:=λz=>by rw[<-z,O]at e;cases e
 have X:d≠S:=λz=>by rw[<-z,R]at e;cases e
 refine#[_,_,_,y _ _ M,T.T5,T.Vj,by show 4<1000;decide,?_];refine q c d S _ (J.on y).set m1 m2 m5 I U X ?_ #v[aE j,y _ _ O] #v[aE G,y _ _ R] #v[aE d5,ak];rw[ak];rfl
def cC (w:Nat)(vec:ac)(num:Nat)(pl:Int):aa:=vec.map (val pl)++(aM (w+1)).map λo=>if o=num then 1 else 0
def P5 (K:ao)(C:Addr):Sp:=λvs H Q _=>∃(x dx Kp Cl Tb Vc:Addr)(pc:Int)(w num:Nat)(pl:Int)(as:am)(vec:ac),vs=[.ref x,.ref Vc,.int (num:Int),.int pl]/\H x=Zz (.ins C dx (jx w Kp Cl pc Tb))/\SqL K H Vc (as.map Z')/\LL K H as vec/\w<=20/\vec.9<=20/\Bd 40 pl/\(∀p∈vec,p.9<=60/\∀c∈p,Bd 1000 c)/\eI H Q ((cC w vec num pl).map V')
theorem Ho:FnOk P w K mg base CX0 2 T.UZ.ax T.UZ.dx ["self","vector","number","place"] (P5 K T.T6):=by
 refine T.UZ.Fx.ok GU (λY H Q E h=>?_) (λZ A outer s H Y Q E hr h=>?_)
 ·exists h,x,dx,Kp,Cl,Tb,Vc,pc,w,g,pl,as,vec,rfl,_;rfl
 exists h,x,dx,Kp,Cl,Tb,Vc,pc,w,g,pl,as,vec,rfl,hx,O,R,w20,x0,C,bv,q;refine#[_,s!"˘9̠+Ĝ̡ʈɴʌKĝʓ˗ɆʪƯɢɅ*°ˋ4ưʫɈʉĞɐğĠġ˵ɘ",?_]
 have lv:=R.len
 w_up
 refine#[_,_,_,hx,T.T5,T.UH,_,rfl,_,rfl,(),(),λD S=>?_];rw[show ((w:Int)+1).toNat=w+1 by omega];obtain⟨e,c⟩:∃e:cB,∀j d,e j d↔d D=Zz (.lst (((aM j).map λo:Nat=>if o=g then (1:Int) else 0).map V'))/\Same H d:=#[_,λ_ _=>Iff.rfl]
 refine sO e ((c _ _).mpr #[ak,aB S _]) ?_ ?_
 ·intro j d hj f;exists (c _ _).mp f,F,u;have e0:(0:Int)+(j:Int)=(j:Int):=i8 _;have nx:∀v:Int,v=(if j=g then (1:Int) else 0)->∃G,d D=Zz (.lst G)/\G.9<sizeLine/\e (j+1) (Zx d D (.lst (G++[V' v]))):=λv I=>by
   refine#[_,F,#v[af,af,gC,bO ()],(c _ _).mpr #[?_,u.more S]];rw[ak,fZ,aR,aR,I];rfl
  w_left;simp![bst,e0,eG]
  refine bU (λz=>nx 1 (by rw[if_pos ()])) (λz=>nx 0 (by rw[if_neg ()]))
 intro H1 f;exists (c _ _).mp f,eD,k;clear f c e;refine#[#[_,k.seq O],λU m=>?_];obtain⟨e,c⟩:∃e:cB,∀j d,e j d↔d U=Zz (.lst (((vec.map (val pl)).take j).map V'))/\Same H1 d:=#[_,λ_ _=>Iff.rfl]
 refine ff (xs:=as.map Z') e ((c _ _).mpr #[ak,aB m _]) (λi d _ y=>by exists (c i d).mp y,_,y;exact (k.trans y).seq O) ?_ ?_
 ·intro j v d I f;exists (c _ _).mp f,F,u;exists R.nth I,a,p,rfl,ha,J,sq;have hj:j<vec.9:=(aZ.mp J).1;obtain⟨b1,b2⟩:=bv p (b4 J)
  w_left;simp![bst,eG]
  refine#[a,p,pl,1000,40,rfl,(k.trans u).seq sq,(),b2,C,(),_,F,?_,(c _ _).mpr #[?_,u.more m]]
  ·rw[af,bV];exact bO ()
  ·rw[ak,cY,aI,J,aR];rfl
 intro H2 f;exists (c _ _).mp f,n,M;rw[af,lv,gS #v[af,aA _]]at n;refine#[U,rfl,D,rfl,_,n,_,M _ _ eD,?_,λr X=>?_]
 ·rw[af,af,af,af,gC];exact dz (bO ())
 ·refine q r _ ((k.trans M).trans (aB X _)) ((k.trans M).free X) ?_;rw[ak];unfold cC;rw[aR]
def dgL (p:aa):Int:=((p.9-1:Nat):Int)
def iW (ps:ac)(M:Int):Prop:=(ps.map dgL=[]/\M=0)\/(M∈ps.map dgL/\∀a∈ps.map dgL,a<=M)
def P6 (K:ao):Sp:=λvs H Q _=>∃(A:Addr)(as:am)(ps:ac),vs=[.ref A]/\SqL K H A (as.map Z')/\LL K H as ps/\ps.9<=60/\∀M H',Same H H'->iW ps M->Q (.int M) H'
theorem Hq:FnOk P w K mg base CX0 1 T.Uw.ax T.Uw.dx ["polys"] (P6 K):=by
 refine T.Uw.Fx.ok PJ (λz H Q E h=>?_) (λC A outer s H z Q E X h=>?_)
 ·exists h,A,as,f,rfl,_;rfl
 exists h,A,as,f,rfl,m,n,F,q;refine#[_,s!"ɅƱ̎̈ȿK:ŉ̢ʋ:Ŋɶɍʄ%ɭ$Ʋ%Ƴ",?_];have G:=n.len
 k_units
 refine#[#[_,m],λD o=>?_];obtain⟨g,c⟩:∃g:cB,∀j d,g j d↔d D=Zz (.lst (((f.map dgL).take j).map V'))/\Same H d:=#[_,λ_ _=>Iff.rfl]
 refine ff (xs:=as.map Z') g ((c _ _).mpr #[ak,aB o _]) (λi d _ y=>by exists (c i d).mp y,_,y;exact y.seq m) ?_ ?_
 ·intro j v d I k;exists (c _ _).mp k,J,r;exists n.nth I,a,p,rfl,Y,u,O;have Z:j<f.9:=(aZ.mp u).1
  simp![bst,eG]
  refine#[_,.inl (r.seq O),?_];have e:(if 0 > ((p.map V').9:Int)-1 then 0 else ((p.map V').9:Int)-1)=dgL p:=by unfold dgL;rw[af];split <;> omega
  try rw[e]
  refine#[_,J,?_,(c _ _).mpr #[?_,r.more o]]
  ·rw[af,bV];exact bO ()
  ·rw[ak,cY,aI,u,aR];rfl
 intro R k;exists (c _ _).mp k,x,S;rw[af,G,gS #v[af,aA _]]at x;exact#[D,rfl,_,Zw x,λM U=>q M R S U]
theorem Bu {X:Cx}{K:ao}{c l:Expr}{a:TE}(hK:X.K=K)(d:PE X l a):PI X c l (Ad K a):=by subst hK;exact cV d
structure VL (K:ao)(H:Hp)(vs:am)(qs:au):Prop where
 len:vs.9=qs.9
 get:∀(i:Nat)(v:Addr)(q:ac),vs[i]?=Zz v->qs[i]?=Zz q->∃as,SqL K H v (as.map Z')/\LL K H as q
noncomputable def iF (q:ac) (cs:ay):ac:=cs.map λc=>q.getD c []
noncomputable def iG (qs:au) (c:Nat):ac:=qs.map λq=>q.getD c []
theorem kZ {α β:Type}{Φ:α->β->Prop}{rs:List α}{L:List β}{r:α}(h:∀(t:Nat)(r:α)(p:β),rs[t]?=Zz r->L[t]?=Zz p->Φ r p)(e:∀p,L[rs.9]?=Zz p->Φ r p):∀(t:Nat)(c:α)(p:β),(rs++[r])[t]?=Zz c->L[t]?=Zz p->Φ c p:=λt c p a d=>by
 by_cases hi:t<rs.9
 ·rw[cE hi]at a;exact h t c p a d
 ·rw[cQ ()]at a;have:t-rs.9=0:=by have:=(aZ.mp a).1;simp at this;omega
  rw[this]at a;have f:t=rs.9:=()
  cases Zv a
  rw[f]at d;exact e p d
theorem iX {α:Type}{xs:List α}{i:Nat}{d:α}(h:i<xs.9):xs[i]?=Zz (xs.getD i d):=by
 rw[az,aq h];rfl
def P8 (K:ao):Sp:=λvs H Q _=>∃(A B:Addr)(us:am)(qs:au)(cs:ay),vs=[.ref A,.ref B]/\SqL K H A (us.map Z')/\VL K H us qs/\SqL K H B ((cs.map λc:Nat=>(c:Int)).map V')/\qs≠[]/\qs.9<=20/\cs.9<=20/\(∀q∈qs,∀c∈cs,c<q.9)/\
 ∀(bv bc:aa)(m N:Int)(H':Hp),Same H H'->bv.9=qs.9->bc.9=cs.9->(∀(i:Nat)(b:Int)(q:ac),bv[i]?=Zz b->qs[i]?=Zz q->iW (iF q cs) b)->(∀(i:Nat)(b:Int)(c:Nat),bc[i]?=Zz b->cs[i]?=Zz c->iW (iG qs c) b)->m∈bv->(∀b∈bv,m<=b)->N=(if bc.sum<bv.sum-m then bc.sum else bv.sum-m)->Q (.int N) H'
theorem P9:FnOk P w K mg base CX0 2 T.UR.ax T.UR.dx ["vectors","columns"] (P8 K):=by
 refine T.UR.Fx.ok Bb (λvs H Q E h=>?_) (λn0 A outer s H vs Q E hr h=>?_)
 ·exists h,A,B,us,o,J,rfl,_;rfl
 exists h,A,B,us,o,J,rfl,hA,hV,hB,q0,x1,y1,hw,q;refine#[_,s!"'ŋ)+ Ģʀ,ƴʫȿʉŌɐōŎŏɥˋ(Ƶ˙ģɶ˭̤Ɉȿɂ$Őɢ'ŋ)4 Ģʀ(ƶʫɈʉŌɐōŎŏɥˋ(Ʒ˙ģɶ˭̤˗ɂ$ŐɢɅ:Ĥ̦ʋ:őɢŒœʏ:Ŕ̦ʏ#:őɢŒœ˚$",?_]
 have lu:=hV.len
 w_up
 refine#[#[_,hA],λD nD=>?_];obtain⟨X,a⟩:∃X:cB,∀j k,X j k↔∃bv:aa,k D=Zz (.lst (bv.map V'))/\bv.9=j/\(∀(i:Nat)(b:Int)(q:ac),bv[i]?=Zz b->o[i]?=Zz q->iW (iF q J) b)/\Same H k:=#[_,λ_ _=>Iff.rfl]
 refine ff (xs:=us.map Z') X ((a _ _).mpr #[[],ak,rfl,λi b q e=>by simp at e,aB nD _]) (λi k _ y=>by exists (a i k).mp y,_,_,_,_,y;exact y.seq hA) ?_ ?_
 ·intro j v k hv Y;exists (a _ _).mp Y,bv,k1,k2,k3,O;rw[aI]at hv;exists de.mp hv,u,hu,rfl;have hj:j<o.9:=by have:=(aZ.mp hu).1;omega
  have x0:o[j]?=Zz o[j]:=aq hj;exists hV.get j u _ hu x0,as,sA,lA;have z0:=hw _ (b_ hj)
  w_left;simp![bst,eG]
  generalize o[j]=qv at lA z0 x0;refine#[#[_,O.seq hB],λD1 C=>?_];obtain⟨Pi,d⟩:∃Pi:cB,∀i f,Pi i f↔∃g:am,f D1=Zz (.lst (g.map Z'))/\g.9=i/\(∀(t:Nat)(r:Addr)(p:aa),g[t]?=Zz r->(iF qv J)[t]?=Zz p->SqL K H r (p.map V'))/\Same k f:=#[_,λ_ _=>Iff.rfl]
  refine ff (xs:=(J.map λc:Nat=>(c:Int)).map V') Pi ((d _ _).mpr #[[],ak,rfl,λt r p e=>by simp at e,aB C _]) (λi f _ y=>by exists (d i f).mp y,_,_,_,_,y;exact (O.trans y).seq hB) ?_ ?_
  ·intro i v f F hi;exists (d _ _).mp hi,g,m1,G,m3,x;rw[aI,aI]at F;exists de.mp F,z,hz,rfl;exists de.mp hz,c,n,rfl;have R:=z0 c (b4 n);have I:c<as.9:=by have:=lA.len;omega
   have z1:i<J.9:=(aZ.mp n).1
   w_left;simp![bst,eG]
   refine#[_,(O.trans x).seq sA,Z' as[c],f8 (by rw[aI,aq I];rfl),_,m1,#v[af,bO ()],(d _ _).mpr #[g++[as[c]],by rw[ak,aR];rfl,by simp[G],kZ m3 λp S=>?_,x.more C]];rw[G]at S;unfold iF at S;rw[aI,n]at S;obtain rfl:=Zv S;exact lA.get c _ _ (aq I) (iX R)
  intro f hi;exists (d _ _).mp hi,g,m1,G,m3,x;rw[af,af]at G;have hR:LL K f g (iF qv J):=#[by unfold iF;rw[af];exact G,λt r p e1 e2=>(O.trans x).seq (m3 t r p e1 e2)]
  refine#[D1,g,_,rfl,Zw m1,hR,by unfold iF;rw[af];omega,λM H2 s2 hM=>#[_,s2 _ _ (x _ _ k1),#v[af,bO ()],(a _ _).mpr #[bv++[M],by rw[ak,aR];rfl,by simp[k2],?_,(O.trans (x.trans s2)).more nD]]];refine kZ (Φ:=λb q=>iW (iF q J) b) k3 λq hq=>?_;rw[k2,x0]at hq;obtain rfl:=Zv hq;exact hM
 intro H1 Y;exists (a _ _).mp Y,bv,k1,k2,k3,O;rw[af,lu]at k2;clear Y a X
 w_up
 refine#[#[_,O.seq hB],λD2 u0=>?_];obtain⟨X,a⟩:∃X:cB,∀j k,X j k↔∃Z:aa,k D2=Zz (.lst (Z.map V'))/\Z.9=j/\(∀(i:Nat)(b:Int)(c:Nat),Z[i]?=Zz b->J[i]?=Zz c->iW (iG o c) b)/\Same H1 k:=#[_,λ_ _=>Iff.rfl]
 refine ff (xs:=(J.map λc:Nat=>(c:Int)).map V') X ((a _ _).mpr #[[],ak,rfl,λi b q e=>by simp at e,aB u0 _]) (λi k _ y=>by exists (a i k).mp y,_,_,_,_,y;exact (O.trans y).seq hB) ?_ ?_
 ·intro j v k hv Y;exists (a _ _).mp Y,Z,c1,c2,c3,c4;rw[aI,aI]at hv;exists de.mp hv,z,hz,rfl;exists de.mp hz,c,n,rfl;have hj:j<J.9:=(aZ.mp n).1;have U:=O.trans c4
  w_left;simp![bst,eG]
  refine#[#[_,U.seq hA],λD1 C=>?_];obtain⟨Pi,d⟩:∃Pi:cB,∀i f,Pi i f↔∃g:am,f D1=Zz (.lst (g.map Z'))/\g.9=i/\(∀(t:Nat)(r:Addr)(p:aa),g[t]?=Zz r->(iG o c)[t]?=Zz p->SqL K H r (p.map V'))/\Same k f:=#[_,λ_ _=>Iff.rfl]
  refine ff (xs:=us.map Z') Pi ((d _ _).mpr #[[],ak,rfl,λt r p e=>by simp at e,aB C _]) (λi f _ y=>by exists (d i f).mp y,_,_,_,_,y;exact (U.trans y).seq hA) ?_ ?_
  ·intro i v f F hi;exists (d _ _).mp hi,g,m1,G,m3,x;rw[aI]at F;exists de.mp F,u,hu,rfl;have v0:i<o.9:=by have:=(aZ.mp hu).1;omega
   have y0:o[i]?=Zz o[i]:=aq v0;exists hV.get i u _ hu y0,as,sA,lA;have R:=hw _ (b_ v0) c (b4 n);generalize o[i]=qv at lA R y0;have I:c<as.9:=by have:=lA.len;omega
   w_left;simp![bst,eG]
   refine#[_,(U.trans x).seq sA,Z' as[c],f8 (by rw[aI,aq I];rfl),_,m1,#v[af,bO ()],(d _ _).mpr #[g++[as[c]],by rw[ak,aR];rfl,by simp[G],kZ m3 λp S=>?_,x.more C]];rw[G]at S;unfold iG at S;rw[aI,y0]at S;obtain rfl:=Zv S;exact lA.get c _ _ (aq I) (iX R)
  intro f hi;exists (d _ _).mp hi,g,m1,G,m3,x;rw[af,lu]at G;have hR:LL K f g (iG o c):=#[by unfold iG;rw[af];exact G,λt r p e1 e2=>(U.trans x).seq (m3 t r p e1 e2)]
  refine#[D1,g,_,rfl,Zw m1,hR,by unfold iG;rw[af];omega,λM H2 s2 hM=>#[_,s2 _ _ (x _ _ c1),#v[af,bO ()],(a _ _).mpr #[Z++[M],by rw[ak,aR];rfl,by simp[c2],?_,(c4.trans (x.trans s2)).more u0]]];refine kZ (Φ:=λb c=>iW (iG o c) b) c3 λu1 hq=>?_;rw[c2,n]at hq;obtain rfl:=Zv hq;exact hM
 intro H2 Y;exists (a _ _).mp Y,Z,c1,c2,c3,c4;rw[af,af]at c2;have j0:bv≠[]:=λz=>by rw[z]at k2;exact q0 (bD k2.symm)
 w_up
 exact#[bv,Zw (c4 _ _ k1),bv,Zw (c4 _ _ k1),j0,λm hm k0=>#[Z,Zw c1,q bv Z m _ H2 (O.trans c4) k2 c2 k3 c3 hm k0 rfl]]
structure LH (H:Hp)(as:am)(ps:ac):Prop where
 len:as.9=ps.9
 get:∀(i:Nat)(a:Addr)(p:aa),as[i]?=Zz a->ps[i]?=Zz p->H a=Zz (.lst (p.map V'))
theorem LH.ll {K:ao}{H:Hp}{as:am}{ps:ac}(h:LH H as ps):LL K H as ps:=#[h.len,λi a p c d=>Zw (h.get i a p c d)]
theorem LH.same {H c:Hp}{as:am}{ps:ac}(h:LH H as ps)(s:Same H c):LH c as ps:=#[h.len,λi a p d e=>s _ _ (h.get i a p d e)]
theorem LH.nil (H:Hp):LH H [] []:=#[rfl,λi a p c _=>by simp at c]
theorem LH.snoc {H:Hp}{as:am}{ps:ac}{a:Addr}{p:aa}(h:LH H as ps)(e:H a=Zz (.lst (p.map V'))):LH H (as++[a]) (ps++[p]):=by
 refine#[by simp[h.len],λi b r c d=>?_];by_cases z:i<as.9
 ·rw[cE z]at c;rw[cE #v[<-h.len,z]]at d;exact h.get i b r c d
 ·rw[cQ ()]at c;rw[cQ (by rw[<-h.len];omega),<-h.len]at d;have f:i-as.9=0:=by
   rcases Lr (i-as.9) with y|y
   ·exact y
   ·rw[iN (by simp;omega)]at c;cases c
  rw[f]at c d;simp at c d;rw[<-c,<-d];exact e
theorem LH.set {H:Hp}{as:am}{ps:ac}{a:Addr}{p:aa}(h:LH H as ps)(e:H a=Zz (.lst (p.map V')))(i:Nat):LH H (as.set i a) (ps.set i p):=by
 refine#[by simp[h.len],λj b r c d=>?_];by_cases z:i=j
 ·subst z;have f:i<as.9:=by have:=(aZ.mp c).1;simpa using this
  rw[vD f]at c;rw[vD #v[<-h.len,f]]at d;rw[<-Zv c,<-Zv d];exact e
 ·rw[pi z]at c d;exact h.get j b r c d
theorem LH.upd {H:Hp}{as:am}{ps:ac}{b:Addr}{o:HO}(h:LH H as ps)(n:b∉as):LH (Zx H b o) as ps:=⟨h.len,λi a p c d=>by
 rw[aE (λz=>n #v[<-z,b4 c])];exact h.get i a p c d⟩
theorem LH.mem {H:Hp}{as:am}{ps:ac}(h:LH H as ps){a:Addr}(c:a∈as):∃p:aa,H a=Zz (.lst (p.map V')):=by
 exists cU.mp c,i,hi,e;have d:i<ps.9:=by rw[<-h.len];exact hi
 exact#[ps[i],h.get i a ps[i] #v[<-e,aq hi] (aq d)]
theorem LH.notin {H:Hp}{as:am}{ps:ac}(h:LH H as ps){a:Addr}(c:H a=Zy):a∉as:=λz=>by
 exists h.mem z,p,e;rw[c]at e;cases e
def dS (w:Nat)(Vy:au)(cs:ay)(p:Int):Nat->ac
 | 0=>[]
 | n+1=>dS w Vy cs p n++[(dr (cC w (Vy.getD n []) n p) (dS w Vy cs p n) cs n).2]
def fY (w:Nat)(Vy:au)(cs:ay)(p:Int)(n:Nat):aa:=(dr (cC w (Vy.getD n []) n p) (dS w Vy cs p n) cs n).2
theorem fh (w:Nat)(Vy:au)(cs:ay)(p:Int):∀n,(dS w Vy cs p n).9=n
 | 0=>rfl
 | n+1=>by rw[dS,b8,fh w Vy cs p n];rfl
def Piv (w:Nat)(Vy:au)(cs:ay)(p:Int)(n:Nat):Prop:=∀i,i<n->co (fY w Vy cs p i) (cs.getD i 0)≠0
def VecAt (H:Hp)(M:am)(u:Addr)(q:ac):Prop:=∃as:am,H u=Zz (.lst (as.map Z'))/\LH H as q/\u∉M/\∀a∈as,a∉M
def TabAt (H:Hp)(M:am)(w:Nat)(Vy:au)(cs:ay)(e:Key×V):Prop:=∃(p:Int)(ta:Addr)(n:Nat)(rs:am),e=(.inl p,.ref ta)/\ta∈M/\H ta=Zz (.lst (rs.map Z'))/\LH H rs (dS w Vy cs p n)/\n<=Vy.9/\Piv w Vy cs p n/\∀r∈rs,r∉M
structure Spn {K:ao}{mg:bH}(T:Tx K mg)(H:Hp)(x dx Kp Cl Tb:Addr)(us:am)(kvs:List (Key×V))(M:am)(w:Nat)(Vy:au)(cs:ay)(pl:Int):Prop where
 hx:H x=Zz (.ins T.T6 dx (jx w Kp Cl pl Tb))
 hK:H Kp=Zz (.lst (us.map Z'))
 hC:H Cl=Zz (.lst ((cs.map λc:Nat=>(c:Int)).map V'))
 hT:H Tb=Zz (.dK kvs)
 lk:us.9=Vy.9
 lc:cs.9=Vy.9
 vec:∀(i:Nat)(u:Addr)(q:ac),us[i]?=Zz u->Vy[i]?=Zz q->VecAt H M u q
 tab:∀e∈kvs,TabAt H M w Vy cs e
 inj:∀e∈kvs,∀e'∈kvs,e.2=e'.2->e.1=e'.1
 mem:x∈M/\Kp∈M/\Cl∈M/\Tb∈M
 out:∀e∈kvs,e.2≠.ref Kp/\e.2≠.ref Cl
 ne:Kp≠Cl
 al:∀a∈M,∃o,H a=Zz o
def KX (M:am)(H H':Hp):Prop:=∀y o,y∉M->H y=Zz o->H' y=Zz o
theorem LH.kx {H c:Hp}{as:am}{ps:ac}{M:am}(h:LH H as ps)(k:KX M H c)(n:∀a∈as,a∉M):LH c as ps:=#[h.len,λi a p d e=>k _ _ (n a (b4 d)) (h.get i a p d e)]
theorem VecAt.same {H a:Hp}{M:am}{u:Addr}{q:ac}(h:VecAt H M u q)(s:Same H a):VecAt a M u q:=by
 exists h,as,c,d,e,f;exact#[as,s _ _ c,d.same s,e,f]
theorem TabAt.same {H a:Hp}{M:am}{w:Nat}{Vy:au}{cs:ay}{e:Key×V}(h:TabAt H M w Vy cs e)(s:Same H a):TabAt a M w Vy cs e:=by
 exists h,p,c,n,d,f,g,i,j,k;exact#[p,c,n,d,f,g,s _ _ i,j.same s,k]
section
variable {K:ao}{mg:bH}{T:Tx K mg}{H H':Hp}{x dx Kp Cl Tb:Addr}{us:am}{kvs:List (Key×V)}{M:am}{w:Nat}{Vy:au}{cs:ay}{pl:Int}
theorem Spn.same (S:Spn T H x dx Kp Cl Tb us kvs M w Vy cs pl)(s:Same H H'):Spn T H' x dx Kp Cl Tb us kvs M w Vy cs pl:=
 #[s _ _ S.hx,s _ _ S.hK,s _ _ S.hC,s _ _ S.hT,S.lk,S.lc,λi u q c d=>(S.vec i u q c d).same s,λe f=>(S.tab e f).same s,S.inj,S.mem,S.out,S.ne,λa g=>by exists S.al a g,o,e;exact#[o,s _ _ e]]
theorem Spn.put {p:Int}{D:Addr}(S:Spn T H x dx Kp Cl Tb us kvs M w Vy cs pl)(f:H D=Zy)(hn:∀e∈kvs,e.1≠.inl p):
  Spn T (Zx (Zx H D (.lst [])) Tb (.dK (kvs++[(.inl p,.ref D)]))) x dx Kp Cl Tb us (kvs++[(.inl p,.ref D)]) (D :: M) w Vy cs pl:=by
 exists S.mem,Z,m2,m3,m4;have u:=aB f (.lst []);have g:∀{y:Addr}{o:HO},H y=Zz o->(∀z,o≠.dK z)->Zx (Zx H D (.lst [])) Tb (.dK (kvs++[(.inl p,.ref D)])) y=Zz o:=λ{y o} e hz=>by
  have:y≠Tb:=λz=>by rw[z,S.hT]at e;cases e;exact hz _ rfl
  rw[aE this];exact u _ _ e
 have O:∀{y:Addr}{o:HO},H y=Zz o->y≠D:=λ{y o} e z=>by rw[z,f]at e;cases e
 have dT:D≠Tb:=λz=>by rw[z,S.hT]at f;cases f
 have U:∀{as:am}{k:ac},LH H as k->LH (Zx (Zx H D (.lst [])) Tb (.dK (kvs++[(.inl p,.ref D)]))) as k:=λh=>#[h.len,λi a G P Q=>g (h.get i a G P Q) (λz y=>nomatch y)]
 have m:∀{as:am}{k:ac},LH H as k->(∀a∈as,a∉M)->∀a∈as,a∉D :: M:=λ{as k} h n a I z=>by
  rcases bN.mp z with z|z
  ·exists cU.mp I,i,hi,rfl;have:=h.get i _ _ (aq hi) (aq #v[<-h.len,hi]);exact O this z
  ·exact n a I z
 refine#[g S.hx (λz y=>nomatch y),g S.hK (λz y=>nomatch y),g S.hC (λz y=>nomatch y),ak,S.lk,S.lc,λi v q P Q=>?_,λe c=>?_,λe c X d z=>?_,#[.tail _ Z,.tail _ m2,.tail _ m3,.tail _ m4],λe c=>?_,S.ne,λa I=>?_]
 ·exists S.vec i v q P Q,as,j,s,C,J;refine#[as,g j (λz y=>nomatch y),U s,λz=>?_,m s J];rcases bN.mp z with z|z
  ·exact O j z
  ·exact C z
 ·rcases a8.mp c with c|c
  ·exists S.tab e c,G,R,n,Y,j,s,C,J,h5,h6,h7;exact#[G,R,n,Y,j,.tail _ s,g C (λz y=>nomatch y),U J,h5,h6,m J h7]
  ·rw[bj.mp c];exact#[p,D,0,[],rfl,.head _,#v[aE dT,ak],LH.nil _,aU _,λi hi=>by omega,λr hr=>by simp at hr]
 ·have F:∀e∈kvs,e.2≠.ref D:=λe c z=>by
   exists S.tab e c,G,R,n,Y,j,s,C,_;rw[j]at z;have:R=D:=by injection z
   exact O C this
  rcases a8.mp c with c|c <;> rcases a8.mp d with d|d
  ·exact S.inj e c X d z
  ·rw[bj.mp d]at z ⊢;exact absurd z (F e c)
  ·rw[bj.mp c]at z ⊢;exact absurd z.symm (F X d)
  ·rw[bj.mp c,bj.mp d]
 ·rcases a8.mp c with c|c
  ·exact S.out e c
  ·rw[bj.mp c];refine#[λz=>?_,λz=>?_]
   ·injection z with z;rw[z,S.hK]at f;cases f
   ·injection z with z;rw[z,S.hC]at f;cases f
 ·by_cases z:a=Tb
  ·rw[z];exact#[_,ak]
  ·rw[aE z];rcases bN.mp I with y|y
   ·rw[y];exact#[_,ak]
   ·exists S.al a y,o,e;exact#[o,u _ _ e]
theorem Spn.row {p:Int}{c R:Addr}{n:Nat}{rs:am}(S:Spn T H x dx Kp Cl Tb us kvs M w Vy cs pl)(C:(Sum.inl p,Z' c)∈kvs)(F:H c=Zz (.lst (rs.map Z')))(G:LH H rs (dS w Vy cs p n))(f:∀r∈rs,r∉M)(X:n<Vy.9)(Y:Piv w Vy cs p (n+1))(Z:H R=Zz (.lst ((fY w Vy cs p n).map V')))(O:R∉M):
  Spn T (Zx H c (.lst ((rs++[R]).map Z'))) x dx Kp Cl Tb us kvs M w Vy cs pl:=by
 exists S.tab _ C,p0,x0,n0,y0,g1,g2,g3,_;have P:c∈M:=by injection g1 with _ z;injection z with z;rw[z];exact g2
 have kx:KX M H (Zx H c (.lst ((rs++[R]).map Z'))):=λy o ny e=>by
  have d:y≠c:=λz=>ny #v[z,P];rw[aE d];exact e
 have o:=S.out _ C;have Q:∀{y:Addr}{u:HO},H y=Zz u->(∀z,u≠.lst z)->Zx H c (.lst ((rs++[R]).map Z')) y=Zz u:=λ{y u} e hz=>by
  rw[aE (λz=>by rw[z,F]at e;cases e;exact hz _ rfl)];exact e
 refine#[Q S.hx (λz y=>nomatch y),?_,?_,Q S.hT (λz y=>nomatch y),S.lk,S.lc,λi v q e1 e2=>?_,λe g=>?_,S.inj,S.mem,S.out,S.ne,λa ha=>?_]
 ·rw[aE (λz=>o.1 (by rw[z]))];exact S.hK
 ·rw[aE (λz=>o.2 (by rw[z]))];exact S.hC
 ·exists S.vec i v q e1 e2,as,k,I,m,s;exact#[as,kx _ _ m k,I.kx kx s,m,s]
 ·by_cases z:e.2=.ref c
  ·have ek:=S.inj _ g _ C z;have ee:e=(.inl p,.ref c):=Prod.ext ek z;rw[ee];refine#[p,c,n+1,rs++[R],rfl,P,ak,?_,X,Y,λr hr=>?_]
   ·exact (G.kx kx f).snoc (kx _ _ O Z)
   ·rcases a8.mp hr with h|h
    ·exact f r h
    ·rw[bj.mp h];exact O
  ·exists S.tab e g,p',j,n',J,k,I,m,s,h5,h6,U;have d:j≠c:=λy=>z (by rw[k,y]);exact#[p',j,n',J,k,I,#v[aE d,m],s.kx kx U,h5,h6,U]
 ·by_cases z:a=c
  ·rw[z];exact#[_,ak]
  ·rw[aE z];exact S.al a ha
end
def KW (x Kp Cl Tb:Addr)(kvs:List (Key×V))(H H':Hp):Prop:=∀y o,y≠x->y≠Kp->y≠Cl->y≠Tb->(∀e∈kvs,e.2≠Z' y)->H y=Zz o->H' y=Zz o
theorem Spn.kx {K:ao}{mg:bH}{T:Tx K mg}{H c:Hp}{x dx f g i:Addr}{us:am}{a:List (Key×V)}{M:am}{w:Nat}{Vy:au}{cs:ay}{pl:Int}(S:Spn T H x dx f g i us a M w Vy cs pl)(k:KW x f g i a H c):KX M H c:=λy o j e=>by
 exists S.mem,m,r,s,u;have d:∀{z:Addr},z∈M->y≠z:=λ{z} v h=>j #v[h,v];refine k y o (d m) (d r) (d s) (d u) (λC F z=>?_) e;exists S.tab C F,p,J,n,O,G,I,_;rw[G]at z;injection z with z;exact j #v[<-z,I]
structure TBd (w:Nat)(Vy:au)(cs:ay)(p:Int):Prop where
 w20:w<=20
 bp:Bd 40 p
 low:∀n,n<Vy.9->Piv w Vy cs p n->LowOk (cC w (Vy.getD n []) n p) (dS w Vy cs p n) cs
 vec:∀q∈Vy,q.9<=20/\∀f∈q,f.9<=60/\∀c∈f,Bd 1000 c
theorem P_ {K:ao}{H:Hp}{a:Addr}{c:List (Key×V)}(h:H a=Zz (.dK c)):tyV K "dict" (.ref a) H:=.inr (.inr (.inl #[rfl,.inl #[_,h]]))
def Qa {K:ao}{mg:bH}(T:Tx K mg):Sp:=λvs H Q _=>∃(x dx Kp Cl Tb:Addr)(us:am)(kvs:List (Key×V))(M:am)(w:Nat)(Vy:au)(cs:ay)(pl p:Int),vs=[.ref x,.int p]/\Spn T H x dx Kp Cl Tb us kvs M w Vy cs pl/\TBd w Vy cs p/\kvs.9<=900/\Vy.9<=20/\
 ∀(H':Hp)(kvs':List (Key×V))(M':am),Spn T H' x dx Kp Cl Tb us kvs' M' w Vy cs pl->KW x Kp Cl Tb kvs H H'->(∀a∈M,a∈M')->(∀a∈M',a∈M\/H a=Zy)->kvs'.9<=kvs.9+1->(∀e∈kvs',e∈kvs\/∀a,e.2=Z' a->H a=Zy)->
  (∀(ta:Addr)(rs:am),ta∈M'->H' ta=Zz (.lst (rs.map Z'))->LH H' rs (dS w Vy cs p Vy.9)->Piv w Vy cs p Vy.9->Q (.ref ta) H')/\(¬Piv w Vy cs p Vy.9->Q .non H')
theorem Qb {c:List (Key×V)}{k:Key}(h:fO c k=Zy):(∀e∈c,e.1≠k)/\∀v,jn c k v=c++[(k,v)]:=by
 have a:∀e∈c,e.1≠k:=λe d z=>by
  unfold fO at h;rw[Option.map_eq_none_iff,List.find?_eq_none]at h;exact h e d (by simp[z])
 refine#[a,λv=>?_];unfold jn;rw[if_neg];rw[List.any_eq_true]
 rintro ⟨e,d,z⟩
 exact a e d (⇑z)
theorem Qc {a:List (Key×V)}{k:Key}{u:V}(h:fO a k=Zz u):(k,u)∈a:=by
 unfold fO at h;exists de.mp h,e,c,rfl;have d:=List.find?_some c;have f:=List.mem_of_find?_eq_some c;have:e.1=k:=by simpa using d
 rw[<-this];exact f
theorem Hr:FnOk P w K mg base CX0 3 T.U1.ax T.U1.dx ["self","place"] (Qa T):=by
 refine T.U1.Fx.ok uz (λvs H Q E h=>?_) (λm2 A outer s H vs Q E hr h=>?_)
 ·exists h,x,dx,Y,Z,Tb,us,g,M,w,Vy,k,pl,p,rfl,_;rfl
 exists h,x,dx,Y,Z,Tb,us,g,M,w,Vy,k,pl,p,rfl,S,B,l9,n2,q;refine#[_,s!"mȽ+ĥȼnƸƹƺƻɴȺ,#ɺ$˛x˄̧Ɇɿĥȼ˄ʑĥɧŕɐŖŗŘɥʮř0ŚɋśɥɊɴ̋ʖɹȺ+ʬ̨ɊɘɊɴ̋ɂʧ̩̪ɉʩʎɉ",?_]
 obtain⟨J,hJ⟩:∃J:Nat->L2.St->Hp->Prop,∀m σ U,J m σ U↔∃(v:Addr)(n:Nat)(C:am)(c:List (Key×V))(I:am)(r3 r4:Option V),σ=[Zz (Z' x),Zz (V' p),Zz (Z' v),r3,r4]/\Spn T U x dx Y Z Tb us c I w Vy k pl/\(Sum.inl p,Z' v)∈c/\U v=Zz (.lst (C.map Z'))/\LH U C (dS w Vy k p n)/\n<=Vy.9/\Piv w Vy k p n/\(∀r∈C,r∉I)/\KW x Y Z Tb g H U/\(∀a∈M,a∈I)/\(∀a∈I,a∈M\/H a=Zy)/\c.9<=g.9+1/\(∀e∈c,e∈g\/∀a,e.2=Z' a->H a=Zy)/\m=Vy.9-n:=#[_,λ_ _ _=>Iff.rfl]
 w_left;refine gq (λσ U=>∃m,J m σ U) ?_ ?_
 ·w_left;k_units
  refine#[_,_,_,S.hx,T.T5,T.Vj,_,rfl,P_ S.hT,aU _,λD X=>#[Tb,rfl,g,.inl p,rfl,aB X _ _ _ S.hT,l9,λu hu=>?_,λhn=>?_]]
  ·have u1:=aB X (.lst []);have he:=Qc hu;exists S.tab _ he,p',v,n,C,h1,h2,h3,h4,h5,h6,h7;injection h1 with z1 z2;injection z1 with z1;subst z1 z2;exact#[_,(hJ _ _ _).mpr #[v,n,C,g,M,Zy,Zy,rfl,S.same u1,he,u1 _ _ h3,h4.same u1,h5,h6,h7,λy o _ _ _ _ _ e=>u1 _ _ e,λ_ h=>h,λ_ h=>.inl h,(),λ_ h=>.inl h,rfl]]
  ·exists Qb hn,k1,m1;rw[m1];have f:=S.put X k1;have dT:D≠Tb:=λz=>by rw[z,S.hT]at X;cases X
   refine#[_,(hJ _ _ _).mpr #[D,0,[],_,D :: M,Zy,Zy,rfl,f,by simp,#v[aE dT,ak],LH.nil _,aU _,λi hi=>by omega,λr hr=>by simp at hr,λy o _ _ _ d _ e=>?_,λa h=>.tail _ h,λa h=>?_,by simp,λe h=>?_,rfl]]
   ·rw[aE d];exact aB X _ _ _ e
   ·rcases bN.mp h with z|z
    ·exact .inr #v[z,X]
    ·exact .inl z
   ·rcases a8.mp h with z|z
    ·exact .inl z
    ·rw[bj.mp z];exact .inr λa y=>by injection y with y;rw[<-y];exact X
 rintro σ H1 ⟨m,hm⟩
 w_up
 refine ig J m hm ?_;clear hm;intro m σ H2 hm;exists (hJ _ _ _).mp hm,v,n,C,c,I,r3,r4,rfl,f,he,j,F,nk,pv,x0,kx,ms,mf,y0,tk,rfl;have u0:(C.map Z').9=n:=by rw[af,F.len,fh]
 have x2:(us.map Z').9=Vy.9:=by rw[af];exact f.lk
 exists q H2 c I f kx ms mf y0 tk,q1,q2;exists f.tab _ he,_,x3,_,_,g1,g2,_;have tM:v∈I:=by injection g1 with _ z;injection z with z;rw[z];exact g2
 w_left;k_units
 refine#[_,.inl (Zw j),_,_,_,f.hx,T.T5,T.Ul,_,rfl,Y,rfl,_,.inl (Zw f.hK),?_];rw[u0,x2];refine bU (λz=>?_) (λz=>?_)
 ·have hn:n<Vy.9:=()
  have hu:n<us.9:=by have:=f.lk;omega
  have x1:Vy[n]?=Zz Vy[n]:=aq hn;exists f.vec n _ _ (aq hu) x1,as,v1,v2,v3,v4;have ek:Vy.getD n []=Vy[n]:=by rw[az,x1];rfl
  exists B.vec _ (b_ hn),b1,b2;have lo:=B.low n hn pv;have v0:n<k.9:=by have:=f.lc;omega
  refine#[J (Vy.9-(n+1)),λy3 U z=>#[_,(),z],_,.inl (Zw j),_,_,f.hx,rfl,_,_,_,f.hx,T.T5,T.Ul,_,rfl,Y,rfl,?_];rw[u0];refine#[_,Zw f.hK,Z' us[n],f8 (by rw[aI,aq hu];rfl),x,dx,Y,Z,Tb,us[n],pl,w,n,p,as,Vy[n],rfl,f.hx,Zw v1,v2.ll,B.w20,b1,B.bp,b2,λR H3 s3 nR eR=>?_];have S3:=f.same s3;rw[<-ek]at eR;refine#[_,_,_,S3.hx,T.T5,T.UG,_,rfl,R,v,Z,_,C,_,k,rfl,Zw eR,Zw (s3 _ _ j),(F.same s3).ll,Zw S3.hC,lo,λO H4 s4 dR y2=>?_];have S4:=S3.same s4;have G:=s3.trans s4;rw[fh]at dR y2;have u2:H4 O=Zz (.lst ((fY w Vy k p n).map V'))/\H2 O=Zy:=by
   rcases dR with ⟨z1,z2⟩|⟨z1,z2⟩
   ·have n0:n=0:=by have:=fh w Vy k p n;rw[z2]at this;exact this.symm
    subst n0;rw[z1];exact#[s4 _ _ eR,nR]
   ·exact#[z2,s3.free z1]
  exists u2,j0,j2;have ll:=oS lo n #v[fh,aA _];have y1:=lo.col _ (b_ v0);refine#[_,_,_,S4.hx,T.T5,T.UG,_,rfl,Z,rfl,_,Zw S4.hC,V' (k[n]:Int),f8 (by rw[aI,aI,aq v0];rfl),O,rfl,_,_,rfl,Zw j0,_,mz (show k[n]<(fY w Vy k p n).9 by unfold fY;rw[ll];exact y1),?_];have ec:k.getD n 0=k[n]:=by rw[az,aq v0];rfl
  have j1:KW x Y Z Tb g H H4:=λy o a1 a2 a3 a4 a5 e=>G _ _ (kx y o a1 a2 a3 a4 a5 e);have k0:O∉I:=λz=>by exists f.al _ z,o,e;rw[j2]at e;cases e
  w_left;k_units
  refine bU (λz0=>?_) (λz0=>?_)
  ·exact (q H4 c I S4 j1 ms mf y0 tk).2 λhp=>hp n hn #v[ec,z0]
  have hp1:Piv w Vy k p (n+1):=λi hi=>by
   by_cases z:i<n
   ·exact pv i z
   ·rw[show i=n by omega,ec];exact z0
  have S5:=S4.row he (G _ _ j) (F.same G) x0 hn hp1 j0 k0;have k2:∀r∈C++[O],r∉I:=λr hr=>by
   rcases a8.mp hr with h|h
   ·exact x0 r h
   ·rw[bj.mp h];exact k0
  have kt:KX I H4 (Zx H4 v (.lst ((C++[O]).map Z'))):=λy o ny e=>by
   have d:y≠v:=λz=>ny #v[z,tM];rw[aE d];exact e
  have et:(C++[O]).map Z'=C.map Z'++[Z' O]:=by rw[aR];rfl
  rw[et]at S5 kt;refine#[gn (Zw (G _ _ j)),_,G _ _ j,#v[u0,bO ()],(hJ _ _ _).mpr #[v,n+1,C++[O],c,I,_,_,rfl,S5,he,by rw[ak,et],?_,(),hp1,k2,λy o a1 a2 a3 a4 a5 e=>?_,ms,mf,y0,tk,rfl]]
  ·exact ((F.same G).kx kt x0).snoc (kt _ _ k0 j0)
  ·have e4:=j1 y o a1 a2 a3 a4 a5 e;have d:y≠v:=λz=>by
    rcases tk _ he with h|h
    ·exact a5 _ h (by rw[z])
    ·rw[z,h v rfl]at e;cases e
   rw[aE d];exact e4
 ·have e:n=Vy.9:=()
  rw[e]at F pv;exact q1 v C tM j F pv
def dZ (w:Nat)(Vy:au)(cs:ay)(q:ac)(p:Int):aa:=(dr (cC w q Vy.9 p) (dS w Vy cs p Vy.9) cs Vy.9).2
theorem VecAt.kx {H a:Hp}{M:am}{u:Addr}{q:ac}(h:VecAt H M u q)(k:KX M H a):VecAt a M u q:=by
 exists h,as,e,f,c,d;exact#[as,k _ _ c e,f.kx k d,c,d]
theorem VecAt.more {H:Hp}{M M':am}{u:Addr}{q:ac}(h:VecAt H M u q)(f:∀a∈M',a∈M\/H a=Zy):VecAt H M' u q:=by
 exists h,as,d,c,g,j;have ne:∀{y:Addr}{o:HO},H y=Zz o->y∉M->y∉M':=λ{y o} e n z=>by
  rcases f y z with h|h
  ·exact n h
  ·rw[h]at e;cases e
 refine#[as,d,c,ne d g,λa k=>?_];exists cU.mp k,i,hi,rfl;exact ne (c.get i _ _ (aq hi) (aq #v[<-c.len,hi])) (j _ (b_ hi))
def Qd {K:ao}{mg:bH}(T:Tx K mg):Sp:=λvs H Q _=>∃(x dx Kp Cl Tb Vc:Addr)(us:am)(kvs:List (Key×V))(M:am)(w:Nat)(Vy:au)(cs:ay)(pl p:Int)(q:ac),vs=[.ref x,.ref Vc,.int p]/\Spn T H x dx Kp Cl Tb us kvs M w Vy cs pl/\TBd w Vy cs p/\kvs.9<=900/\Vy.9<=20/\VecAt H M Vc q/\q.9<=20/\(∀f∈q,f.9<=60/\∀c∈f,Bd 1000 c)/\(Piv w Vy cs p Vy.9->LowOk (cC w q Vy.9 p) (dS w Vy cs p Vy.9) cs)/\
 ∀(H':Hp)(kvs':List (Key×V))(M':am),Spn T H' x dx Kp Cl Tb us kvs' M' w Vy cs pl->KW x Kp Cl Tb kvs H H'->(∀a∈M,a∈M')->(∀a∈M',a∈M\/H a=Zy)->kvs'.9<=kvs.9+1->(∀e∈kvs',e∈kvs\/∀a,e.2=Z' a->H a=Zy)->
  (∀R:Addr,R∉M'->H' R=Zz (.lst ((dZ w Vy cs q p).map V'))->Piv w Vy cs p Vy.9->Q (.ref R) H')/\(¬Piv w Vy cs p Vy.9->Q .non H')
theorem Hs:FnOk P w K mg base CX0 4 T.U2.ax T.U2.dx ["self","vector","place"] (Qd T):=by
 refine T.U2.Fx.ok GW (λvs H Q E h=>?_) (λz0 A outer s H vs Q E u h=>?_)
 ·exists h,x,dx,m,n,v,Vc,C,d,M,w,Vy,f,pl,p,q,rfl,_;rfl
 exists h,x,dx,m,n,v,Vc,C,d,M,w,Vy,f,pl,p,q,rfl,S,B,l9,F,hV,G,bq,lo,g;refine#[_,s!"ɿƼȼʮŜ0ŝɁõŞˬʗöɓ̏`ʒɃŕɁõ ŖŗŘɥʮř0ŚɁõśʯ#̧ʏʖʬ",?_]
 w_up
 refine#[dx,_,S.hx,rfl,x,dx,m,n,v,C,d,M,w,Vy,f,pl,p,rfl,S,B,l9,F,λH1 a I c kx ms mf lk tk=>#[λta rs tM J O pv=>?_,λnp=>?_]]
 ·obtain⟨as,v1,v2,v3,v4⟩:=hV.kx (S.kx kx)
  w_up
  rw[if_neg (λz=>nomatch z)];have U:(C.map Z').9=Vy.9:=by rw[af];exact c.lk
  refine#[_,_,c.hx,rfl,_,_,_,c.hx,T.T5,T.Ul,_,rfl,m,rfl,_,.inl (Zw c.hK),?_];rw[U];refine#[x,dx,m,n,v,Vc,pl,w,Vy.9,p,as,q,rfl,c.hx,Zw v1,v2.ll,B.w20,G,B.bp,bq,λR H3 j nR X=>?_];have Y:=c.same j;refine#[_,_,_,Y.hx,T.T5,T.UG,_,rfl,R,ta,n,_,rs,_,f,rfl,Zw X,Zw (j _ _ J),(O.same j).ll,Zw Y.hC,lo pv,λr H4 Z dR x0=>?_];have S4:=Y.same Z;rw[fh]at dR x0;have k:H4 r=Zz (.lst ((dZ w Vy f q p).map V'))/\H1 r=Zy:=by
   rcases dR with ⟨z1,z2⟩|⟨z1,z2⟩
   ·have n0:Vy.9=0:=by have:=fh w Vy f p Vy.9;rw[z2]at this;exact this.symm
    unfold dZ;rw[n0]at X ⊢;rw[z1];exact#[Z _ _ X,nR]
   ·exact#[z2,j.free z1]
  have y0:r∉I:=λz=>by exists c.al _ z,o,e;rw[k.2]at e;cases e
  exact (g H4 a I S4 (λy o a1 a2 a3 a4 a5 e=>Z _ _ (j _ _ (kx y o a1 a2 a3 a4 a5 e))) ms mf lk tk).1 r y0 k.1 pv
 ·w_left;k_units
  exact (g H1 a I c kx ms mf lk tk).2 np
def eN (qs:au)(ws:ac)(c:Nat):Nat->aa
 | 0=>[]
 | n+1=>ij (eN qs ws c n) (aN ((qs.getD n []).getD c []) (ws.getD n []))
theorem mem_getD {α:Type}{xs:List α}{i:Nat}{d:α}(h:i<xs.9):xs.getD i d∈xs:=#v[az,aq h,b_ _]
structure FcOk (w:Nat)(qs:au)(ws:ac):Prop where
 len:ws.9=qs.9
 few:qs.9<=20
 w20:w<=20
 wid:∀q∈qs,q.9=w
 bq:∀q∈qs,∀f∈q,f.9<=40/\∀c∈f,Bd 1000 c
 bw:∀f∈ws,f.9<=40/\∀c∈f,Bd 20000 c
theorem Bv {w:Nat}{a:au}{ws:ac}{c:Nat}(o:FcOk w a ws)(e:c<w):∀n,n<=a.9->(eN a ws c n).9<=80/\∀x∈eN a ws c n,Bd (21010+n) x
 | 0,_=>#[aU _,λx hx=>by simp[eN]at hx]
 | n+1,hn=>by
  exists Bv o e n (),r,f;have d:(a.getD n [])∈a:=mem_getD ();have g:(ws.getD n [])∈ws:=mem_getD (by have:=o.len;omega);have s:=o.wid _ d;have h:((a.getD n []).getD c [])∈a.getD n []:=mem_getD ();exists o.bq _ d _ h,i,j;exists o.bw _ g,u,m;have y:(aN ((a.getD n []).getD c []) (ws.getD n [])).9<=80:=by
   by_cases z:ws.getD n []=[]
   ·rw[z,Bk];exact aU _
   ·have:=Bo ((a.getD n []).getD c []) (ws.getD n []) z;omega
  have p:∀k,Bd 21006 (co (aN ((a.getD n []).getD c []) (ws.getD n [])) k):=λk=>by
   rw[oQ];exact jZ (c:=6) j m (aQ i ()) k
  refine#[aQ (G6 _ _) (),dg λk=>?_];show Bd _ (co (ij _ _) k);rw[Bn];exact (dy (P:=λv=>Bd (21010+n) v) f (Bd.zero _) k).add ((p k).mono ())
def Qe {K:ao}{mg:bH}(T:Tx K mg):Sp:=λvs H Q _=>∃(x dx Kp Cl Tb Vc Wt:Addr)(us:am)(kvs:List (Key×V))(M:am)(w:Nat)(Vy:au)(cs:ay)(pl:Int)(q:ac)(ad:am)(ws:ac),vs=[.ref x,.ref Vc,.ref Wt]/\Spn T H x dx Kp Cl Tb us kvs M w Vy cs pl/\VecAt H M Vc q/\SqL K H Wt (ad.map Z')/\LL K H ad ws/\FcOk w (Vy++[q]) ws/\
 ∀H',Same H H'->(∀c:Nat,c<w->c∉cs->eN (Vy++[q]) ws c (Vy.9+1)≠[]->(∀c',c'<c->c'∉cs->eN (Vy++[q]) ws c' (Vy.9+1)=[])->Q (.int (c:Int)) H')/\((∀c,c<w->c∉cs->eN (Vy++[q]) ws c (Vy.9+1)=[])->Q .non H')
theorem Qf:FnOk P w K mg base CX0 4 T.U6.ax T.U6.dx ["self","vector","weights"] (Qe T):=by
 refine T.U6.Fx.ok my (λvs H Q E h=>?_) (λy3 A outer s H vs Q E hr h=>?_)
 ·exists h,x,dx,Kp,Cl,Tb,g,Wt,F,y1,M,w,Vy,Y,pl,q,ad,Z,rfl,_;rfl
 exists h,x,dx,Kp,Cl,Tb,g,Wt,F,y1,M,w,Vy,Y,pl,q,ad,Z,rfl,S,hV,hW,lW,o,x0;refine#[_,s!"ʹʬ˅áȼʗƽɓɴƾ/ƿGʑáˇɨ˖ɒ°ɴIɹʏ˩@á˪Cá˫ɲ9áɧĖɐėĘęɄ9ʢˉɥɊɾ̋ˎ$/ɯiɔ9$ʧɓʒ`",?_]
 w_up
 refine#[_,_,_,S.hx,T.T5,T.UH,_,rfl,_,rfl,by have:=o.w20;omega,by have:=o.w20;omega,?_];rw[i5];have w20:=o.w20;obtain⟨Pv,j⟩:∃Pv:Nat->L2.St->Hp->Prop,∀i σ I,Pv i σ I↔∃r3 r4 r5 r6:Option V,σ=[Zz (Z' x),Zz (Z' g),Zz (Z' Wt),r3,r4,r5,r6]/\Same H I/\∀c,c<i->c∉Y->eN (Vy++[q]) Z c (Vy.9+1)=[]:=#[_,λ_ _ _=>Iff.rfl]
 refine iC Pv ((j _ _ _).mpr #[Zy,Zy,Zy,Zy,rfl,Same.refl _,λc C=>by omega]) ?_ ?_
 ·intro i σ H1 hi hp;exists (j _ _ _).mp hp,r3,r4,r5,r6,rfl,s1,hz;have e0:(0:Int)+(i:Int)=(i:Int):=i8 _;have S1:=S.same s1;have fl:((Y.map λc:Nat=>(c:Int)).map V').all ie=true:=by simp[ie]
  w_up
  rw[e0];refine#[_,_,_,S1.hx,T.T5,T.UG,_,rfl,Cl,rfl,_,.inl (Zw S1.hC),rfl,fl,?_];rw[Oh];have J:((i:Int)∈Y.map λc:Nat=>(c:Int))↔i∈Y:=by
   rw[bC];constructor
   ·rintro ⟨c,C,e⟩
    rw[show i=c by omega];exact C
   ·intro h;exact#[i,h,rfl]
  refine bU (λz=>?_) (λz=>?_)
  ·have z1:=J.mp (⇑z);refine (j _ _ _).mpr #[_,_,_,_,rfl,s1,λc C O=>?_];by_cases y:c=i
   ·rw[y]at O;exact absurd z1 O
   ·exact hz c () O
  have y0:i∉Y:=λh=>z (by simpa using J.mpr h)
  w_up
  refine#[aU _,λA0 j1=>?_];have u0:=aB j1 (.lst []);have z0:=ak (H:=H1) (a:=A0) (o:=.lst []);generalize Zx H1 A0 (.lst [])=H2 at u0 z0 ⊢;have S2:=S1.same u0
  w_up
  refine#[_,_,_,S2.hx,T.T5,T.Ul,_,rfl,(),λq1 m1=>?_];have u1:=aB m1 (.lst [Z' g]);refine#[Kp,rfl,_,u1 _ _ S2.hK,_,ak,?_,λq2 m2=>?_]
  ·rw[af];have:=S.lk;have:=o.few;simp at this;exact dz (bO (by simp;omega))
  have u2:=aB m2 (.lst (F.map Z'++[Z' g]));have R:=ak (H:=Zx H2 q1 (.lst [Z' g])) (a:=q2) (o:=.lst (F.map Z'++[Z' g]));have s2:=s1.trans (u0.trans (u1.trans u2));have eA:=(u1.trans u2) _ _ z0;generalize Zx (Zx H2 q1 (.lst [Z' g])) q2 (.lst (F.map Z'++[Z' g]))=H3 at R s2 eA ⊢;have lk:=S.lk;have few:=o.few;rw[b8]at few;simp only[cP,Cq]at few;have lq:(Vy++[q]).9=Vy.9+1:=by simp
  have v0:=kZ (Φ:=λu qv=>VecAt H M u qv) (L:=Vy++[q]) (rs:=F) (r:=g) (λt u qv e1 R=>by
   have ht:t<Vy.9:=by have:=(aZ.mp e1).1;omega
   rw[cE ht]at R;exact S.vec t u qv e1 R) (λqv R=>by
   rw[cQ (),show F.9-Vy.9=0 by omega]at R
   cases Zv R
   exact hV)
  have j0:H3 q2=Zz (.lst ((F++[g]).map Z')):=by rw[R,aR];rfl
  obtain⟨Pz,m⟩:∃Pz:Nat->L2.St->Hp->Prop,∀n σ I,Pz n σ I↔∃(An:Addr)(r5 r6:Option V),σ=[Zz (Z' x),Zz (Z' g),Zz (Z' Wt),Zz (V' (i:Int)),Zz (Z' An),r5,r6]/\I An=Zz (.lst ((eN (Vy++[q]) Z i n).map V'))/\Same H3 I:=#[_,λ_ _ _=>Iff.rfl]
  refine#[_,Zw j0,_,s2.seq hW,AG (xs:=(F++[g]).map Z') (ys:=ad.map Z') Pz ((m _ _ _).mpr #[A0,r5,r6,rfl,eA,Same.refl _]) (λn σ I _ _ y=>by exists (m n σ I).mp y,_,_,_,_,_,y;exact#[Zw (y _ _ j0),(s2.trans y).seq hW]) ?_ ?_]
  ·intro n v1 v2 pr σ H4 e1 e3 U k1;exists (m _ _ _).mp U,An,t5,t6,rfl,G,s4;rw[aI]at e1;exists de.mp e1,u,hu,rfl;have O:n<(Vy++[q]).9:=by have:=(aZ.mp hu).1;simp at this ⊢;omega
   exists lW.nth e3,a,f,rfl,ha,hf,x2;have y2:(Vy++[q])[n]?=Zz ((Vy++[q]).getD n []):=iX O;exists v0 n u _ hu y2,as,v1,v2,v3,v4;have k0:=mem_getD (d:=([]:ac)) O;have p:=o.wid _ k0;have n0:i<as.9:=by rw[v2.len,p];exact hi
   exists Bv o hi n (),b1,b2;have z2:=b4 hf;exists o.bw _ z2,c1,c2;have j2:=mem_getD (d:=([]:aa)) (show i<((Vy++[q]).getD n []).9 by rw[p];exact hi);exists o.bq _ k0 _ j2,d1,d2;have k2:Z.getD n []=f:=by rw[az,hf];rfl
   have v:=v2.get i _ _ (aq n0) (iX (d:=[]) (show i<((Vy++[q]).getD n []).9 by rw[p];exact hi));have st:eN (Vy++[q]) Z i (n+1)=ij (eN (Vy++[q]) Z i n) (aN (((Vy++[q]).getD n []).getD i []) f):=by rw[eN,k2]
   exists Bv o hi (n+1) (),g1,g2;have w1:=aB k1 (.tup [Z' u,Z' a]);have X:=s2.trans (s4.trans w1);generalize ((Vy++[q]).getD n []).getD i []=pq at d1 d2 v st;have bm:∀k,Bd 21006 (co (aN pq f) k):=λk=>by
    rw[oQ];exact jZ (c:=6) d2 c2 (aQ d1 ()) k
   have lm:(aN pq f).9<=80:=by
    by_cases z:f=[]
    ·rw[z,Bk];exact aU _
    ·have:=Bo pq f z;omega
   w_left;k_units
   refine#[_,SqT.of ak,rfl,_,_,rfl,_,_,rfl,rfl,?_];refine#[u,rfl,_,Zw (X _ _ v1),Z' as[i],f8 (by rw[aI,aq n0];rfl),as[i],a,pq,f,rfl,Zw (X _ _ v),X.seq x2,(),(),λc C=>(d2 c C).mono (),λc C=>(c2 c C).mono (),λR1 H5 s5 z3 n2=>?_];refine#[An,R1,_,_,rfl,Zw (s5 _ _ (w1 _ _ G)),Zw n2,(),(),λc C=>(b2 c C).mono (),dg λk=>(bm k).mono (),λR2 H6 s6 u3 x3=>?_];exact (m _ _ _).mpr #[R2,_,_,rfl,by rw[x3,st],s4.trans (w1.trans (s5.trans s6))]
  intro σ H4 U;exists (m _ _ _).mp U,An,t5,t6,rfl,G,s4;have x1:min ((F++[g]).map Z').9 (ad.map Z').9=Vy.9+1:=by
   have h1:=lW.len;have h2:=o.len;rw[lq]at h2;simp;omega
  rw[x1]at G
  w_left;k_units
  refine#[_,.inl (Zw G),?_];rw[af];refine bU (λz=>?_) (λz=>?_)
  ·exact (x0 H4 (s2.trans s4)).1 i hi y0 (λy=>by rw[y]at z;simp at z) hz
  ·refine (j _ _ _).mpr #[_,_,_,_,rfl,s2.trans s4,λc C O=>?_];by_cases y:c=i
   ·rw[y];exact bD ()
   ·exact hz c () O
 intro σ H1 hp;obtain⟨r3,r4,r5,r6,rfl,s1,hz⟩:=(j _ _ _).mp hp
 w_left;k_units
 exact (x0 H1 s1).2 hz
theorem uD {row:aa}{tb:ac}{cs:ay}{c:Nat}:∀i,i<=cs.9->dr row tb (cs++[c]) i=dr row tb cs i
 | 0,_=>rfl
 | i+1,h=>by
  have e:(cs++[c]).getD i 0=cs.getD i 0:=by rw[az,az,cE ()]
  rw[dr,dr,uD i (),e]
theorem uE {w:Nat}{Vy:au}{cs:ay}{q:ac}{c:Nat}{p:Int}(a:cs.9=Vy.9):∀n,n<=Vy.9->dS w (Vy++[q]) (cs++[c]) p n=dS w Vy cs p n
 | 0,_=>rfl
 | n+1,h=>by
  have e:(Vy++[q]).getD n []=Vy.getD n []:=by rw[az,az,cE ()]
  rw[dS,dS,uE a n (),e,uD n ()]
theorem Ht {w:Nat}{Vy:au}{cs:ay}{q:ac}{c:Nat}{p:Int}{n:Nat}(d:cs.9=Vy.9)(h:n<=Vy.9)(f:Piv w Vy cs p n):Piv w (Vy++[q]) (cs++[c]) p n:=λi hi=>by
 have e:(Vy++[q]).getD i []=Vy.getD i []:=by rw[az,az,cE ()]
 have g:(cs++[c]).getD i 0=cs.getD i 0:=by rw[az,az,cE ()]
 have a:=f i hi;unfold fY at a ⊢;rw[uE d i (),e,uD i (),g];exact a
section
variable {K:ao}{mg:bH}{T:Tx K mg}{H:Hp}{x dx Kp Cl Tb:Addr}{us:am}{kvs:List (Key×V)}{M:am}{w:Nat}{Vy:au}{cs:ay}{pl:Int}
theorem Spn.keep {d:Addr}{q:ac}{c:Nat}(S:Spn T H x dx Kp Cl Tb us kvs M w Vy cs pl)(G:VecAt H M d q):
  Spn T (Zx (Zx H Kp (.lst ((us++[d]).map Z'))) Cl (.lst (((cs++[c]).map λc:Nat=>(c:Int)).map V'))) x dx Kp Cl Tb (us++[d]) kvs M w (Vy++[q]) (cs++[c]) pl:=by
 exists S.mem,Z,I,J,m4;have kx:KX M H (Zx (Zx H Kp (.lst ((us++[d]).map Z'))) Cl (.lst (((cs++[c]).map λc:Nat=>(c:Int)).map V'))):=λy o k e=>by
  have f:y≠Cl:=λz=>k #v[z,J];have g:y≠Kp:=λz=>k #v[z,I];rw[aE f,aE g];exact e
 have m:∀{y:Addr}{u:HO},H y=Zz u->(∀z,u≠.lst z)->Zx (Zx H Kp (.lst ((us++[d]).map Z'))) Cl (.lst (((cs++[c]).map λc:Nat=>(c:Int)).map V')) y=Zz u:=λ{y u} e r=>by
  have f:y≠Cl:=λz=>by rw[z,S.hC]at e;cases e;exact r _ rfl
  have g:y≠Kp:=λz=>by rw[z,S.hK]at e;cases e;exact r _ rfl
  rw[aE f,aE g];exact e
 refine#[m S.hx (λz y=>nomatch y),#v[aE S.ne,ak],ak,m S.hT (λz y=>nomatch y),by simp[S.lk],by simp[S.lc],?_,λe s=>?_,S.inj,S.mem,S.out,S.ne,λa O=>?_]
 ·refine kZ (Φ:=λu qv=>VecAt _ M u qv) (λt u qv v h=>?_) λqv h=>?_
  ·have P:t<Vy.9:=by have:=(aZ.mp v).1;have:=S.lk;omega
   rw[cE P]at h;exact (S.vec t u qv v h).kx kx
  ·rw[cQ (by have:=S.lk;omega),show us.9-Vy.9=0 by have:=S.lk;omega]at h
   cases Zv h
   exact G.kx kx
 ·exists S.tab e s,p,i,n,Q,j,R,U,X,C,Y,F;have o:=S.out e s;have f:i≠Cl:=λz=>o.2 (by rw[j,z]);have g:i≠Kp:=λz=>o.1 (by rw[j,z]);refine#[p,i,n,Q,j,R,#v[aE f,aE g,U],?_,by simp;omega,Ht S.lc C Y,F];rw[uE S.lc n C];exact X.kx kx F
 ·by_cases z1:a=Cl
  ·rw[z1];exact#[_,ak]
  ·rw[aE z1];by_cases z2:a=Kp
   ·rw[z2];exact#[_,ak]
   ·rw[aE z2];exact S.al a O
theorem Spn.go {pl':Int}(S:Spn T H x dx Kp Cl Tb us kvs M w Vy cs pl):Spn T (Zx H x (.ins T.T6 dx (jx w Kp Cl pl' Tb))) x dx Kp Cl Tb us kvs M w Vy cs pl':=by
 have kx:KX M H (Zx H x (.ins T.T6 dx (jx w Kp Cl pl' Tb))):=λy o h e=>by
  have d:y≠x:=λz=>h #v[z,S.mem.1];rw[aE d];exact e
 have c:∀{y:Addr}{u:HO},H y=Zz u->(∀C d f,u≠.ins C d f)->Zx H x (.ins T.T6 dx (jx w Kp Cl pl' Tb)) y=Zz u:=λ{y u} e j=>by
  have d:y≠x:=λz=>by rw[z,S.hx]at e;cases e;exact j _ _ _ rfl
  rw[aE d];exact e
 refine#[ak,c S.hK (λ_ _ _ y=>nomatch y),c S.hC (λ_ _ _ y=>nomatch y),c S.hT (λ_ _ _ y=>nomatch y),S.lk,S.lc,λi u q k m=>(S.vec i u q k m).kx kx,λe r=>?_,S.inj,S.mem,S.out,S.ne,λa s=>?_]
 ·exists S.tab e r,p,v,n,F,G,I,J,O,P,Q,g;exact#[p,v,n,F,G,I,c J (λ_ _ _ y=>nomatch y),O.kx kx g,P,Q,g]
 ·by_cases z:a=x
  ·rw[z];exact#[_,ak]
  ·rw[aE z];exact S.al a s
theorem Spn.more {D:Addr}{o:HO}(S:Spn T H x dx Kp Cl Tb us kvs M w Vy cs pl)(m:H D=Zy):Spn T (Zx H D o) x dx Kp Cl Tb us kvs (D :: M) w Vy cs pl:=by
 exists S.mem,s,C,F,G;have u:=aB m o;have I:∀{y:Addr}{o:HO},H y=Zz o->y≠D:=λ{y o} e z=>by rw[z,m]at e;cases e
 have out:∀{y:Addr}{o:HO},H y=Zz o->y∉M->y∉D :: M:=λ{y o} e n z=>by
  rcases bN.mp z with z|z
  ·exact I e z
  ·exact n z
 have c:∀{as:am}{r:ac},LH H as r->(∀a∈as,a∉M)->∀a∈as,a∉D :: M:=λ{as r} h n a d=>by
  exists cU.mp d,i,hi,rfl;exact out (h.get i _ _ (aq hi) (aq #v[<-h.len,hi])) (n _ d)
 refine#[u _ _ S.hx,u _ _ S.hK,u _ _ S.hC,u _ _ S.hT,S.lk,S.lc,λi v q J O=>?_,λe P=>?_,S.inj,#[.tail _ s,.tail _ C,.tail _ F,.tail _ G],S.out,S.ne,λa d=>?_]
 ·exists S.vec i v q J O,as,f,g,k,j;exact#[as,u _ _ f,g.same u,out f k,c g j]
 ·exists S.tab e P,p,Q,n,R,f,g,k,j,U,X,Y;exact#[p,Q,n,R,f,.tail _ g,u _ _ k,j.same u,U,X,c j Y]
 ·rcases bN.mp d with z|z
  ·rw[z];exact#[_,ak]
  ·exists S.al a z,Z,e;exact#[Z,u _ _ e]
theorem Spn.other {D:Addr}{o:HO}(S:Spn T H x dx Kp Cl Tb us kvs M w Vy cs pl)(j:D∈M)(n1:D≠x)(k:D≠Kp)(m:D≠Cl)(r:D≠Tb)(s:∀e∈kvs,e.2≠.ref D):Spn T (Zx H D o) x dx Kp Cl Tb us kvs M w Vy cs pl:=by
 have kx:KX M H (Zx H D o):=λy u C e=>by
  have d:y≠D:=λz=>C #v[z,j];rw[aE d];exact e
 refine#[#v[aE (Ne.symm n1),S.hx],#v[aE (Ne.symm k),S.hK],#v[aE (Ne.symm m),S.hC],#v[aE (Ne.symm r),S.hT],S.lk,S.lc,λi v q F G=>(S.vec i v q F G).kx kx,λe c=>?_,S.inj,S.mem,S.out,S.ne,λa I=>?_]
 ·exists S.tab e c,p,f,n,J,g,O,P,Q,R,U,h;have d:f≠D:=λz=>s e c (by rw[g,z]);exact#[p,f,n,J,g,O,#v[aE d,P],Q.kx kx h,R,U,h]
 ·by_cases z:a=D
  ·rw[z];exact#[_,ak]
  ·rw[aE z];exact S.al a I
end
theorem KX.trans {M M':am}{H c d:Hp}(k:KX M H c)(g:KX M' c d)(i:∀a∈M',a∈M\/H a=Zy):KX M H d:=λy o f e=>by
 refine g y o (λz=>?_) (k y o f e);rcases i y z with h|h
 ·exact f h
 ·rw[h]at e;cases e
theorem k_ {M M' M2:am}{H d:Hp}(k:KX M H d)(f:∀a∈M',a∈M\/H a=Zy)(c:∀a∈M2,a∈M'\/d a=Zy):∀a∈M2,a∈M\/H a=Zy:=λa g=>by
 rcases c a g with h|h
 ·exact f a h
 ·by_cases z:a∈M
  ·exact .inl z
  ·refine .inr ?_
   cases e:H a with
   | none=>rfl
   | some o=>rw[k a o z e]at h;cases h
def Qg {K:ao}{mg:bH}(T:Tx K mg):Sp:=λvs H Q _=>∃(x dx Kp Cl Tb Vc:Addr)(us:am)(kvs:List (Key×V))(M:am)(w:Nat)(Vy:au)(cs:ay)(pl:Int)(q:ac)(c N:Nat),vs=[.ref x,.ref Vc,.int (c:Int)]/\Spn T H x dx Kp Cl Tb us kvs M w Vy cs pl/\VecAt H M Vc q/\Vy.9<20/\kvs.9+N+1<=900/\(∀t:Nat,t<=N->TBd w (Vy++[q]) (cs++[c]) (pl+(t:Int)))/\Piv w (Vy++[q]) (cs++[c]) (pl+(N:Int)) (Vy.9+1)/\
 ∀(H':Hp)(kvs':List (Key×V))(M':am)(t:Nat),t<=N->Spn T H' x dx Kp Cl Tb (us++[Vc]) kvs' M' w (Vy++[q]) (cs++[c]) (pl+(t:Int))->Piv w (Vy++[q]) (cs++[c]) (pl+(t:Int)) (Vy.9+1)->KX M H H'->(∀a∈M,a∈M')->(∀a∈M',a∈M\/H a=Zy)->kvs'.9<=kvs.9+t+1->Q .non H'
theorem Hu:FnOk P w K mg base CX0 4 T.U3.ax T.U3.dx ["self","vector","column"] (Qg T):=by
 refine T.U3.Fx.ok PR (λvs H Q E h=>?_) (λy0 A outer s H vs Q E hr h=>?_)
 ·exists h,x,dx,g,i,G,k,n,u,M,w,Vy,p,pl,q,c,N,rfl,_;rfl
 exists h,x,dx,g,i,G,k,n,u,M,w,Vy,p,pl,q,c,N,rfl,S,hV,z0,l9,B,pN,x0;refine#[_,s!"˶ɴɹ˶ɴʏ/ʝ=öʮŜ0ŝɋŞɥʚˌ/ǀȿ%ǁ",?_]
 have lk:=S.lk;have lc:=S.lc
 w_up
 refine#[_,_,_,S.hx,T.T5,T.Ul,_,rfl,gn (Zw S.hK),g,rfl,_,S.hK,#v[af,bO ()],?_];have I:Zx H g (.lst (n.map Z'++[Z' k])) x=Zz (.ins T.T6 dx (jx w g i pl G)):=by
  rw[aE (zU S.hx S.hK (λz=>nomatch z))];exact S.hx
 have v:Zx H g (.lst (n.map Z'++[Z' k])) i=Zz (.lst ((p.map λc:Nat=>(c:Int)).map V')):=by
  rw[aE (Ne.symm S.ne)];exact S.hC
 w_up
 refine#[_,_,_,I,T.T5,T.UG,_,rfl,gn (Zw v),i,rfl,_,v,#v[af,af,bO ()],?_];have S1:=S.keep (c:=c) hV;have eu:(n++[k]).map Z'=n.map Z'++[Z' k]:=by rw[aR];rfl
 have ec:((p++[c]).map λc:Nat=>(c:Int)).map V'=(p.map λc:Nat=>(c:Int)).map V'++[V' (c:Int)]:=by rw[aR,aR];rfl
 rw[eu,ec]at S1;have O:KX M H (Zx (Zx H g (.lst (n.map Z'++[Z' k]))) i (.lst ((p.map λc:Nat=>(c:Int)).map V'++[V' (c:Int)]))):=λy o ny e=>by
  have d1:y≠i:=λz=>ny #v[z,S.mem.2.2.1];have d2:y≠g:=λz=>ny #v[z,S.mem.2.1];rw[aE d1,aE d2];exact e
 generalize Zx (Zx H g (.lst (n.map Z'++[Z' k]))) i (.lst ((p.map λc:Nat=>(c:Int)).map V'++[V' (c:Int)]))=H1 at S1 O ⊢;clear I v;have C:(Vy++[q]).9=Vy.9+1:=by simp
 w_up
 obtain⟨J,hJ⟩:∃J:Nat->L2.St->Hp->Prop,∀m σ H',J m σ H'↔∃(t:Nat)(f:List (Key×V))(M':am),σ=[Zz (Z' x),Zz (Z' k),Zz (V' (c:Int))]/\t<=N/\m=N-t/\Spn T H' x dx g i G (n++[k]) f M' w (Vy++[q]) (p++[c]) (pl+(t:Int))/\KX M H H'/\(∀a∈M,a∈M')/\(∀a∈M',a∈M\/H a=Zy)/\f.9<=u.9+t:=#[_,λ_ _ _=>Iff.rfl]
 refine ig J N ((hJ _ _ _).mpr #[0,u,M,rfl,aU _,(),by rw[show pl+((0:Nat):Int)=pl by omega];exact S1,O,λ_ h=>h,λ_ h=>.inl h,()]) ?_;intro m σ H2 hm;obtain⟨t,f,M',rfl,tN,rfl,R,j,ms,U,l2⟩:=(hJ _ _ _).mp hm
 w_left;k_units
 refine#[dx,_,R.hx,rfl,_,_,_,R.hx,T.T5,T.U9,_,rfl,x,dx,g,i,G,n++[k],f,M',w,Vy++[q],p++[c],_,pl+(t:Int),rfl,R,B t tN,(),by rw[C];omega,λH3 r M3 X Y Z F l3 u0=>#[λta rs tM v0 j0 pv=>?_,λnp=>?_]]
 ·show if Z' ta=V.non then _ else Q V.non H3
  rw[if_neg (λz=>nomatch z)];rw[C]at pv;exact x0 H3 r M3 t tN X pv (j.trans (R.kx Y) U) (λa h=>Z a (ms a h)) (k_ j U F) ()
 ·show if V.non=V.non then _ else Q V.non H3
  rw[if_pos rfl];rw[C]at np;have tl:t<N:=by
   rcases Ls t N with h|h
   ·exact h
   ·rw[show t=N by omega]at np;exact absurd pN np
  refine#[J (N-(t+1)),λk0 H' z=>#[_,(),z],_,_,_,X.hx,T.T5,T.U9,_,rfl,_,rfl,_,_,X.hx,by show 5<1000;decide,(hJ _ _ _).mpr #[t+1,r,M3,rfl,tl,rfl,?_,?_,λa h=>Z a (ms a h),k_ j U F,()]]
  ·have S4:=X.go (pl':=pl+((t+1:Nat):Int));have e:a7 (Zu "place") (V' (pl+(t:Int)+1)) (jx w g i (pl+(t:Int)) G)=jx w g i (pl+((t+1:Nat):Int)) G:=by
    rw[show pl+((t+1:Nat):Int)=pl+(t:Int)+1 by omega];rfl
   rw[e];exact S4
  ·refine (j.trans (R.kx Y) U).trans (M':=M3) (λy o ny e=>?_) (k_ j U F);have d:y≠x:=λz=>ny #v[z,X.mem.1];rw[aE d];exact e
theorem mB (a:Int):(if a<0 then -a else a)=((a.8:Nat):Int):=by split <;> omega
theorem Qh {a b u0 u1 l0 l1 s:Int}(hs:s=1\/s=-1)(hd:u0*l1-u1*l0=s):bT (u0*a+u1*b).8 (l0*a+l1*b).8=bT a.8 b.8:=by
 have c:∀{x y p q r t:Int},((bT x.8 y.8:Nat):Int)∣p*x+q*y:=λ{x y p q r t}=>by
  have f:((bT x.8 y.8:Nat):Int)∣x:=nj.mpr (kq _ _);have g:((bT x.8 y.8:Nat):Int)∣y:=nj.mpr (lJ _ _);exact Li (fV f (pJ _ _)) (fV g (pJ _ _))
 have d:s*s=1:=by rcases hs with rfl|rfl <;> rfl
 refine Lt (v_ ?_ ?_) (v_ ?_ ?_)
 ·refine nj.mp ?_;have e:a=(s*l1)*(u0*a+u1*b)+(-(s*u1))*(l0*a+l1*b):=by
   have:(s*l1)*(u0*a+u1*b)+(-(s*u1))*(l0*a+l1*b)=s*(u0*l1-u1*l0)*a:=by grind
   rw[this,hd,d,eE]
  conv=>rhs;rw[e]
  exact c (r:=0) (t:=0)
 ·refine nj.mp ?_;have e:b=(-(s*l0))*(u0*a+u1*b)+(s*u0)*(l0*a+l1*b):=by
   have:(-(s*l0))*(u0*a+u1*b)+(s*u0)*(l0*a+l1*b)=s*(u0*l1-u1*l0)*b:=by grind
   rw[this,hd,d,eE]
  conv=>rhs;rw[e]
  exact c (r:=0) (t:=0)
 ·exact nj.mp (c (r:=0) (t:=0))
 ·exact nj.mp (c (r:=0) (t:=0))
structure Lh (a0 b0 x y P Q R S:Nat)(s:Int):Prop where
 hs:s=1\/s=-1
 det:(P:Int)*S-Q*R=s
 hx:s*(P*a0-Q*b0)=(x:Int)
 hy:s*(S*b0-R*a0)=(y:Int)
 xh:2 ^ 150<=x
 yx:y<=x
 hP:P<=a0+b0+1
 hQ:Q<=a0+b0+1
theorem Lh.sizes {a0 b0 x y P Q R S:Nat}{s:Int}(h:Lh a0 b0 x y P Q R S s):S*x+Q*y=a0/\R*x+P*y=b0:=by
 have a:s*s=1:=by rcases h.hs with z|z <;> rw[z] <;> rfl
 have c:(S:Int)*x+Q*y=a0:=by
  rw[<-h.hx,<-h.hy];have:(S:Int)*(s*(P*a0-Q*b0))+Q*(s*(S*b0-R*a0))=s*(P*S-Q*R)*a0:=by grind
  rw[this,h.det,a,eE]
 have d:(R:Int)*x+P*y=b0:=by
  rw[<-h.hx,<-h.hy];have:(R:Int)*(s*(P*a0-Q*b0))+P*(s*(S*b0-R*a0))=s*(P*S-Q*R)*b0:=by grind
  rw[this,h.det,a,eE]
 exact#[by exact_mod_cast c,by exact_mod_cast d]
theorem Lh.few {a0 b0 x y P Q R S:Nat}{s:Int}(h:Lh a0 b0 x y P Q R S s):R<=a0+b0+1/\S<=a0+b0+1/\x<=a0+b0:=by
 exists h.sizes,c,d;have a:1<=x:=aQ (eo 150) h.xh;have e:R<=R*x:=iu _ a;have f:S<=S*x:=iu _ a;refine#[(),(),?_];by_cases z:S=0
 ·by_cases z2:R=0
  ·have:=h.det;rw[z,z2]at this;rcases h.hs with y|y <;> rw[y]at this <;> simp at this
  ·have:x<=R*x:=h_ _ ();omega
 ·have:x<=S*x:=h_ _ ();omega
theorem Lh.step {a0 b0 x y P Q R S:Nat}{s:Int}(h:Lh a0 b0 x y P Q R S s)(hy:2 ^ 150<=y):Lh a0 b0 y (x % y) R S (P+x / y*R) (Q+x / y*S) (-s):=by
 exists h.few,a,c,_;have ex:(x:Int)=(x / y:Nat)*(y:Int)+(x % y:Nat):=by exact_mod_cast (CB x y).symm
 refine#[by rcases h.hs with z|z <;> simp[z],?_,?_,?_,hy,dz (nn _ (by have:=eo 150;omega)),a,c]
 ·have:=h.det
  push_cast
  generalize ((x / y:Nat):Int)=t;grind
 ·rw[<-h.hy];grind
 ·have d:=h.hx;have f:=h.hy;have e:((x % y:Nat):Int)=x-(x / y:Nat)*y:=()
  rw[e,<-d,<-f]
  push_cast
  generalize ((x / y:Nat):Int)=t;grind
theorem Lh.less {a b x y P Q R S c:Nat}{s:Int}(h:Lh (a / 2 ^ c) (b / 2 ^ c) x y P Q R S s)(H:2 ^ (c+299)<=a)(i:a<2 ^ (c+300))(j:b<=a)(hy:y<2 ^ 150):((-s*R)*(a:Int)+(s*S)*b).8<a:=by
 exists h.sizes,n,o;have d:=eo c;have I:a / 2 ^ c<2 ^ 300:=by rw[TD d,<-dN,km 300 c];exact i
 have b3:b / 2 ^ c<=a / 2 ^ c:=TF j;have J:(2:Nat) ^ 300=2 ^ 150*2 ^ 150:=by rw[<-dN]
 have p:S<2 ^ 150:=by
  refine mX λz=>?_;have:=dY z h.xh;omega
 have u:R<2 ^ 150:=by
  refine mX λz=>?_;have:=dY z h.xh;omega
 have f:(a:Int)=(a / 2 ^ c:Nat)*(2 ^ c:Nat)+(a % 2 ^ c:Nat):=by exact_mod_cast (CB a (2 ^ c)).symm
 have g:(b:Int)=(b / 2 ^ c:Nat)*(2 ^ c:Nat)+(b % 2 ^ c:Nat):=by exact_mod_cast (CB b (2 ^ c)).symm
 have k:a % 2 ^ c<2 ^ c:=nn _ d;have m:b % 2 ^ c<2 ^ c:=nn _ d;have e:(-s*R)*(a:Int)+(s*S)*b=(y:Int)*(2 ^ c:Nat)+(s*(S*(b % 2 ^ c:Nat))-s*(R*(a % 2 ^ c:Nat))):=by
  rw[<-h.hy];generalize a % 2 ^ c=k at f k ⊢;generalize b % 2 ^ c=m at g m ⊢;generalize ((a / 2 ^ c:Nat):Int)=A at f ⊢;generalize ((b / 2 ^ c:Nat):Int)=M at g ⊢;generalize ((2 ^ c:Nat):Int)=C at f g ⊢;rw[f,g];grind
 rw[e];have v:((y:Int)*(2 ^ c:Nat)).8<=2 ^ 150*2 ^ c:=by
  rw[cc,dE,dE];exact eh _ (dz hy)
 have sz:∀t r:Nat,t<2 ^ 150->r<2 ^ c->(s*((t:Int)*(r:Int))).8<=2 ^ 150*2 ^ c:=λt r n o=>by
  rw[cc,cc,dE,dE];have:s.8=1:=by rcases h.hs with z|z <;> rw[z] <;> rfl
  rw[this,fU];exact dY (dz n) (dz o)
 have F:=sz S (b % 2 ^ c) p m;have G:=sz R (a % 2 ^ c) u k;have big:4*(2 ^ 150*2 ^ c)<=2 ^ (c+299):=by
  have:(4:Nat)*(2 ^ 150*2 ^ c)=2 ^ (c+152):=by
   rw[show c+152=2+(150+c) by omega,dN,dN]
  rw[this];exact fu () ()
 have pos:0<2 ^ 150*2 ^ c:=ja (eo _) d;generalize 2 ^ 150*2 ^ c=Z at v F G big pos;have:=i7 ((y:Int)*(2 ^ c:Nat)) (s*(S*(b % 2 ^ c:Nat))-s*(R*(a % 2 ^ c:Nat)));have:=lQ (s*(S*(b % 2 ^ c:Nat))) (s*(R*(a % 2 ^ c:Nat)));omega
def Qi:Sp:=λvs H Q _=>∃(a b:Nat),vs=[.int (a:Int),.int (b:Int)]/\b<=a/\4000<Builtin.Int.intBits (a:Int)/\Bd 1000000 (a:Int)/\∀(c d:Nat)(r:Addr)(H':Hp),Same H H'->H' r=Zz (.tup [.int (c:Int),.int (d:Int)])->bT c d=bT a b->d<a->Q (.ref r) H'
theorem Qj:FnOk P w K mg base CX0 1 T.UK.ax T.UK.dx ["big","small"] Qi:=by
 refine T.UK.Fx.ok gM (λvs H Q E h=>?_) (λz0 A outer s H vs Q E hr h=>?_)
 ·exists h,a,b,rfl,_;rfl
 exists h,a,b,rfl,u,ha,g,q;refine#[_,s!"ɰt˷÷şŠšŢȿ̟ţ ŤɠɿtɛťȿɉʑtɛťɈɉˆtɛǂ%ʺ̟ţ Ťɠ%ʨ˸ʼ˲˸ʼ˛ŦɘɾɆ̐tɛ´ɓɘɀat˷ɓɦ̑ɘɿ˸ɘʑ˸ʘɀr˸qʋɣ̫ɦ̑˝ʋɣ̫ɦ̑˝$ʨ˸ʊɲQ˸ʰɅq#˼ʈɦɣ̫ȿɦɣ̫Ɉ$#˼ʈɦ˝ȿɦ˝Ɉ̬",?_]
 obtain⟨bl,C,j,F⟩:∃bl:Nat,Builtin.Int.intBits (a:Int)=bl/\2 ^ (bl-1)<=a/\a<2 ^ bl:=by
  refine#[_,rfl,?_,?_]
  ·refine pC λz=>?_;have:=Av (i:=(a:Int)) (k:=Builtin.Int.intBits (a:Int)-1) #v[dE,z];omega
  ·have:=(intBits_le_iff (m:=Builtin.Int.intBits (a:Int)) (x:=(a:Int))).mp (aA _);rw[dE]at this;exact this
 rw[C]at ha;have v0:4000<=bl:=()
 obtain⟨c,hc⟩:∃c,bl=c+300:=#[bl-300,()]
 have ea:(a:Int) / 2 ^ c=((a / 2 ^ c:Nat):Int):=by push_cast;rfl
 have eb:(b:Int) / 2 ^ c=((b / 2 ^ c:Nat):Int):=by push_cast;rfl
 have c0:=eo c;have f:2 ^ 299<=a / 2 ^ c:=by
  rw[Nat.le_div_iff_mul_le c0,<-dN];rw[hc,show c+300-1=299+c by omega]at j;exact j
 have G:a / 2 ^ c<2 ^ 300:=by
  rw[TD c0,<-dN,km 300 c,<-hc];exact F
 have n:b / 2 ^ c<=a / 2 ^ c:=TF u;have p1:(2:Nat) ^ 150<=2 ^ 299:=fu () ()
 w_up
 rw[C,show ((bl:Nat):Int)-300=(c:Int) by omega]
 w_up
 refine#[(),?_];rw[i5,ea]
 w_up
 refine#[(),?_];rw[i5,eb]
 w_up
 refine#[#[(),()],#[(),(),()],?_];obtain⟨hf,I,M⟩:∃hf:Nat,(1:Int)*2 ^ ((300:Int) / 2).toNat=(hf:Int)/\hf=2 ^ 150:=#[2 ^ 150,(),rfl]
 rw[I];clear I
 w_up
 refine#[(),λU0 n0=>?_];have u0:=aB n0 (.tup [V' 1,V' 0]);have e0:=ak (H:=H) (a:=U0) (o:=.tup [V' 1,V' 0]);generalize Zx H U0 (.tup [V' 1,V' 0])=H0 at u0 e0 ⊢
 w_up
 refine#[(),λL0 n1=>?_];have u1:=aB n1 (.tup [V' 0,V' 1]);have e1:=ak (H:=H0) (a:=L0) (o:=.tup [V' 0,V' 1]);have f1:=u1 _ _ e0;have s1:=u0.trans u1;generalize Zx H0 L0 (.tup [V' 0,V' 1])=H1 at s1 e1 f1 ⊢;clear u0 u1 e0 n0 n1;generalize x0:a / 2 ^ c=a0 at f G n ⊢;generalize y0:b / 2 ^ c=b0 at n ⊢;have O:(2:Nat) ^ 302=4*2 ^ 300:=by rw[show (302:Nat)=2+300 by rfl,dN]
 have bk:∀{k:Nat},k<=a0+b0+1->Bd 302 (k:Int):=λ{k} hk=>by
  show k<2 ^ 302;omega
 have bs:∀{k:Nat}{t:Int},k<=a0+b0+1->(t=1\/t=-1)->Bd 302 (t*(k:Int)):=λ{k t} hk ht=>by
  rcases ht with rfl|rfl
  ·rw[eE];exact bk hk
  ·rw[show (-1:Int)*k=-k by omega];exact (bk hk).neg
 clear O
 w_up
 obtain⟨J,hJ⟩:∃J:Nat->L2.St->Hp->Prop,∀m σ X,J m σ X↔∃(x y P Q R S:Nat)(s:Int)(U L:Addr)(r8 r9 Y:Option V),σ=[Zz (V' (a:Int)),Zz (V' (b:Int)),Zz (V' (c:Int)),Zz (V' (x:Int)),Zz (V' (y:Int)),Zz (V' (hf:Int)),Zz (Z' U),Zz (Z' L),r8,r9,Y]/\m=y/\Lh a0 b0 x y P Q R S s/\X U=Zz (.tup [V' (s*P),V' (-s*Q)])/\X L=Zz (.tup [V' (-s*R),V' (s*S)])/\Same H X:=#[_,λ_ _ _=>Iff.rfl]
 refine ig J b0 ((hJ _ _ _).mpr #[a0,b0,1,0,0,1,1,U0,L0,Zy,Zy,Zy,rfl,rfl,#[.inl rfl,by simp,by simp,by simp,aQ p1 f,n,(),()],by rw[f1];rfl,by rw[e1];rfl,s1]) ?_;intro m σ H2 hm;exists (hJ _ _ _).mp hm,x,y,P',Q',R',S',d,U,L,r8,r9,Y,rfl,rfl,e,eU,Z,s2;exists e.few,g1,g2,g3;have r:-d=1\/-d=-1:=by rcases e.hs with z|z <;> simp[z]
 w_left;k_units
 refine bU (λz=>?_) (λz=>?_)
 ·have zy:2 ^ 150<=m:=by rw[<-M];exact_mod_cast z
  have m0:m≠0:=by have:=eo 150;omega
  have ef:(x:Int).fdiv (m:Int)=((x / m:Nat):Int):=by rw[Ck _ ()];exact_mod_cast rfl
  have er:(x:Int)-((x / m:Nat):Int)*(m:Int)=((x % m:Nat):Int):=by
   have:(x:Int)=(x / m:Nat)*(m:Int)+(x % m:Nat):=by exact_mod_cast (CB x m).symm
   omega
  have st:=e.step zy;have yx:=e.yx;have bx:Bd 302 (((x / m:Nat)):Int):=bk (aQ (Nat.div_le_self _ _) ());have bm:Bd 302 (m:Int):=bk ();rw[ef];refine#[J (x % m),λj0 X h=>#[_,nn _ (),h],(),cI (show ((m:Nat):Int).8<2 ^ 302 from bm) (fu () ()),bx.fits bm (),_,SqT.of eU,_,rfl,_,SqT.of Z,_,rfl,_,rfl,bx.fits (bs g1 r) (),_,rfl,_,SqT.of eU,_,rfl,_,SqT.of Z,_,rfl,_,rfl,bx.fits (bs g2 e.hs) (),_,rfl,(),λp np=>?_];have w1:=aB np (.tup [V' (d*P'-((x / m:Nat):Int)*(-d*R')),V' (-d*Q'-((x / m:Nat):Int)*(d*S'))]);rw[er];refine (hJ _ _ _).mpr #[m,x % m,R',S',_,_,_,L,p,_,_,_,rfl,rfl,st,?_,?_,s2.trans w1]
  ·rw[w1 _ _ Z];simp
  ·rw[ak];congr 4
   ·push_cast
    generalize ((x / m:Nat):Int)=t;grind
   ·push_cast
    generalize ((x / m:Nat):Int)=t;congr 2;grind
 ·have zy:m<2 ^ 150:=by rw[<-M];exact mX λy=>z (by exact_mod_cast y)
  have bb:Bd 1000000 (b:Int):=cx (show (b:Int).8<=(a:Int).8 by omega) g;have ls:((-d*R')*(a:Int)+(d*S')*b).8<a:=by
   rw[<-x0,<-y0]at e;refine e.less ?_ ?_ u zy
   ·rw[show c+299=bl-1 by omega];exact j
   ·rw[<-hc];exact F
  have bP:=bs e.hP e.hs;have bQ:=bs e.hQ r;refine#[_,SqT.of eU,_,rfl,_,rfl,bP.fits g (),_,SqT.of eU,_,rfl,_,rfl,bQ.fits bb (),_,SqT.of Z,_,rfl,_,rfl,(bs g1 r).fits g (),_,SqT.of Z,_,rfl,_,rfl,(bs g2 e.hs).fits bb (),(),λp np=>?_];rw[mB,mB];refine q _ _ p _ (s2.trans (aB np _)) ak ?_ ls
  ·have:=Qh (a:=(a:Int)) (b:=(b:Int)) (u0:=d*P') (u1:=-d*Q') (l0:=-d*R') (l1:=d*S') (s:=d) e.hs (by
    have h1:=e.det;have h2:d*d=1:=by rcases e.hs with z|z <;> rw[z] <;> rfl
    grind)
   rw[this,dE,dE]
def Qk:Sp:=λvs H Q _=>∃a b:Int,vs=[.int a,.int b]/\Bd 1000000 b/\∀H',Same H H'->Q (.int (bT a.8 b.8:Nat)) H'
theorem Bw:FnOk P w K mg base CX0 2 T.Ui.ax T.Ui.dx ["one","other"] Qk:=by
 refine T.Ui.Fx.ok jt (λO H Q E h=>?_) (λR A outer s H O Q E S h=>?_)
 ·exists h,a,b,rfl,_;rfl
 exists h,a,b,rfl,U,q;refine#[_,s!"ɰ̒˼ʄɿ̒˼ɹ˛i÷şŠšŢɓ̟ǃ ǄɠɆʑ·ɧǅɁǆ ǇǈǉɄ4ɒe̝$ɰ̒ɣɘɇɲ4̒ɣɘɇ˛Äɓɑˆ·̝̓ɰ̒ɓɲ4̒ɾɅɉ",?_]
 w_left;simp![mB]
 obtain⟨J,o⟩:∃J:Nat->L2.St->Hp->Prop,∀m σ g,J m σ g↔∃(x y:Nat)(p:Option V),σ=[Zz (V' a),Zz (V' b),Zz (V' (x:Int)),Zz (V' (y:Int)),p,Zy]/\m=y/\bT x y=bT a.8 b.8/\Bd 1000000 (y:Int)/\Same H g:=#[_,λ_ _ _=>Iff.rfl]
 refine ig J b.8 ((o _ _ _).mpr #[a.8,b.8,Zy,rfl,rfl,rfl,by show ((b.8:Nat):Int).8<_;rw[dE];exact U,Same.refl _]) ?_;intro m σ X C;obtain⟨x,y,p,rfl,rfl,f,j,F⟩:=(o _ _ _).mp C
 w_up
 refine bU (λz=>?_) (λz=>?_)
 ·have m0:m≠0:=λy=>by rw[y]at z;revert z;decide
  have Y:(x:Int) % (m:Int)=((x % m:Nat):Int):=by exact_mod_cast rfl
  rw[Y]
  w_up
  refine#[λe g=>∃G,G<m/\J G e g,λe g h=>h,(),m,x % m,rfl,dz (nn _ ()),by exact_mod_cast z,j,λc d r n Z I u hd=>#[r,rfl,_,SqT.of I,_,rfl,r,rfl,_,SqT.of I,_,rfl,d,hd,(o _ _ _).mpr #[c,d,_,rfl,rfl,?_,?_,F.trans Z]]]
  ·rw[u,<-f,wc m,<-Lu,wc]
  ·exact cx (show (d:Int).8<=(m:Int).8 by omega) j
 ·clear C o J;refine ig (λk σ n=>∃(x y:Nat)(r:Option V),σ=[Zz (V' a),Zz (V' b),Zz (.int x),Zz (.int y),p,r]/\n=X/\k=y/\bT x y=bT a.8 b.8) m #[x,m,Zy,rfl,rfl,rfl,f] ?_
  rintro k σ n ⟨x,y,r,rfl,rfl,rfl,f⟩
  w_left;k_units
  refine bU (λh=>?_) (λh=>?_)
  ·refine#[λe M=>e=[Zz (V' a),Zz (V' b),Zz (V' k),Zz (V' ((x:Int) % (k:Int))),p,Zz (V' ((x:Int) % (k:Int)))]/\M=n,?_,(),rfl,rfl]
   rintro e M ⟨rfl,rfl⟩
   refine#[x % k,nn _ (),k,x % k,_,by rw[<-Int.natCast_emod],rfl,rfl,?_];rw[wc k,<-Lu,wc];exact f
  ·have h0:k=0:=()
   subst h0;rw[Nat.gcd_zero_right]at f;rw[f];exact q n F
def Hv (K:ao)(_:Addr):Sp:=λvs H Q _=>∃(a b:Addr)(one VC:aa)(k l:Nat),vs=[.ref a,.ref b]/\SqL K H a (one.map V')/\SqL K H b (VC.map V')/\one.9<=64/\VC.9<=64/\Nml one/\Nml VC/\
 (∀x∈one,Bd k x)/\(∀y∈VC,Bd l y)/\k<=100000/\l<=8995/\
 ((VC=[]/\False)\/(VC≠[]/\((∃q,Nml q/\Div one VC q/\eI H Q (q.map V'))\/((∀q,¬Div one VC q)/\∀H',Same H H'->Q .non H'))))
theorem HB {k:Nat}{x d:Int}(h:Bd k x)(hd:d≠0):Bd (k+1) (x.fdiv d):=by
 unfold Bd at *;have e:=Int.fmod_add_mul_fdiv x d;have r:(x.fmod d).8<d.8:=by
  rcases Cw hd with g|g
  ·have i:=TJ (-x) (show 0 < -d by omega);have j:=Int.fmod_lt_of_pos (-x) (show 0 < -d by omega);rw[Int.neg_fmod_neg]at i j;omega
  ·have i:=TJ x g;have j:=Int.fmod_lt_of_pos x g;omega
 have a:(d*x.fdiv d).8=d.8*(x.fdiv d).8:=cc _ _;have s:d.8*(x.fdiv d).8<2 ^ k+d.8:=by
  rw[<-a,show d*x.fdiv d=x-x.fmod d by clear a r h hd;omega];exact cx (lQ _ _) (Nat.add_lt_add h r)
 have n:1<=d.8:=jD.mpr hd;clear e a r h;generalize d.8=f at *;generalize (x.fdiv d).8=c at *;rw[ko];by_cases z:c<=1
 ·have:=eo k;omega
 ·have m:f*2<=f*c:=d_ _ ();have o:c<=f*c:=h_ _ n;omega
theorem uF:FnOk P w K mg base CX0 3 T.Ua.ax T.Ua.dx ["one","other"] (Hv K T.Ua.ax):=by
 refine T.Ua.Fx.ok js (λvs H Q E h=>?_) (λj1 A outer s H vs Q E hr h=>?_)
 ·exists h,a,b,one,VC,k,l,rfl,_;rfl
 exists h,a,b,one,VC,k,l,rfl,hA,Z,la,lb,no,nt,bk,bl,hk,hl,q;refine#[_,s!"̨˃ɑøGɰ¸ȼ̆ʄɿ¸ȼ:ŉ̢ɖʈʃʍ˃ʌʑ¸ɛĕ̇ɓɨòɻʋɓ̉̉˰@¸ȼʨ¸ȼʶʃʵɾ˃ɇ˲¸ɛ´ɱɊɈɼʗÄɦʊɊɈɼɱɆɅ̩'óʊôɘɾ²/ɞé êɹ˩d¸˪a¸̜ëɉʵɾ̑ìɦʊʘē²ʗiɏʢîɐïðñˬ$ʧ`ʒɘ",?_]
 w_up
 refine#[_,.inl Z,?_];rw[af];refine bU (λh0=>?_) (λh0=>?_)
 ·rcases q with ⟨_,q⟩|⟨hn,_⟩
  ·exact q.elim
  ·exact absurd (bD ()) hn
 have c:VC≠[]:=by intro z;rw[z]at h0;simp at h0
 have q:=(q.resolve_left λz=>c z.1).2;have lo:=dw.mpr c
 w_up
 refine#[_,.inl hA,λR nR=>?_];have s1:=aB nR (.lst (one.map V'))
 w_up
 refine#[_,.inl (s1.seq hA),_,.inl (s1.seq Z),?_];rw[af,af];obtain⟨n,hn⟩:∃n:Nat,(if (one.9:Int)-(VC.9:Int)+1 > 0 then (one.9:Int)-(VC.9:Int)+1 else 0)=(n:Int):=#[one.9+1-VC.9,by split <;> omega]
 have k0:n=one.9+1-VC.9:=by split at hn <;> omega
 rw[hn];clear hn
 w_up
 refine#[(),λp np=>#[_,ak,?_]];have O:=aB np (.lst [V' 0]);rw[Bi,i5];refine#[(),(),dz (bO (by simp;omega)),λm nA=>?_];have s3:=aB nA (.lst ((bZ n (0:Int)).map V'));have sG:=s1.trans (O.trans s3);have gR:=s3 _ _ (O _ _ (ak (H:=H) (a:=R) (o:=.lst (one.map V'))));have gA:upd (upd (upd H R (.lst (one.map V'))) p (.lst [V' 0])) m (.lst ((bZ n (0:Int)).map V')) m=_:=ak;have z0:R≠m:=e_ (O _ _ (ak (H:=H) (a:=R) (o:=.lst (one.map V')))) nA;have fA:=(s1.trans O).free nA;generalize upd (upd (upd H R (.lst (one.map V'))) p (.lst [V' 0])) m (.lst ((bZ n (0:Int)).map V'))=G at sG gR gA ⊢;clear s1 O s3 nA np
 w_up
 refine#[(),(),tj () () () (),n,tm (),?_];have u0:∀(rest d:aa)(r1 r2 r3 F I:Option V)(g:Hp),(∀q,Div one VC q->∀k,co rest k=0)->((∀k,co rest k=0)->Div one VC d/\Nml d)->g R=Zz (.lst (rest.map V'))->g m=Zz (.lst (d.map V'))->Same H g->rest.9<=64->
   GX K [Z' R] g (λx H1=>∃p,x=Z' p/\∃x,(SqL K H1 p x\/SqT K H1 p x)/\if 0<(x.9:Int) then Q V.non H1 else Q (Z' m) H1) E0:=by
  intro rest d r1 r2 r3 F I g e1 e2 hR y J lr;refine#[R,rest,rfl,Zw hR,(),λf H2 O nf ef=>#[f,rfl,_,.inl (Zw ef),?_]];rw[af];refine bU (λh=>?_) (λh=>?_)
  ·rcases q with ⟨q0,_,hd,_⟩|⟨_,q⟩
   ·have:=tZ.mpr (e1 q0 hd);rw[this]at h;simp at h
   ·exact q _ (J.trans O)
  ·have tz:aO rest=[]:=bD ();exists e2 (tZ.mp tz),d1,d2;rcases q with ⟨q0,n0,hd,q⟩|⟨q,_⟩
   ·rw[OM nt c n0 d2 hd d1]at q;exact q m _ (J.trans O) fA (O _ _ y)
   ·exact absurd d1 (q d)
 by_cases hc:one.9+1<VC.9
 ·have n0:n=0:=()
  subst n0;refine oi (λi σ g=>σ=[Zz (Z' a),Zz (Z' b),Zz (Z' R),Zz (V' ((0:Nat):Int)),Zz (Z' m),Zy,Zy,Zy,Zy,Zy]/\g=G) #[rfl,rfl] (λi σ g hi=>by omega) ?_
  rintro σ g ⟨rfl,rfl⟩
  w_left;k_units
  refine u0 one [] Zy Zy Zy Zy Zy g (λq hq k=>?_) (λhz=>?_) gR gA sG la
  ·by_cases X:one=[]
   ·rw[X];rfl
   ·by_cases hq':Nml q
    ·exists AT nt c no hq' hq X,y1,y2;have:=dw.mpr y1;omega
    ·obtain⟨y1,y2⟩:=AT (q:=aO q) nt c no (cG q) (λk=>by rw[hq k];unfold pm;exact b7 λj _=>by rw[cN]) X;have:=dw.mpr y1;omega
  ·have X:=oC no hz;rw[X];exact#[OU,cH]
 have x1:n+VC.9=one.9+1:=()
 clear k0 hc;have r:co VC (VC.9-1)=VC.getLast c:=by
  rw[aP (),CC]
 have l0:VC.getLast c≠0:=by rw[<-r];exact dG nt c
 have v0:Bd l (VC.getLast c):=bl _ (List.getLast_mem c);obtain⟨Pv,S⟩:∃Pv:Nat->L2.St->Hp->Prop,∀i σ g,Pv i σ g↔∃(d rest:aa)(r1 r2 r3 F I:Option V),σ=[Zz (Z' a),Zz (Z' b),Zz (Z' R),Zz (V' (n:Int)),Zz (Z' m),r1,r2,r3,F,I]/\g R=Zz (.lst (rest.map V'))/\g m=Zz (.lst (d.map V'))/\
  DivAt one VC d rest (n-i)/\(∀x∈rest,Bd (k+(l+2)*i) x)/\Same H g:=#[_,λ_ _ _=>Iff.rfl]
 refine oi Pv ((S _ _ _).mpr #[_,one,Zy,Zy,Zy,Zy,Zy,rfl,gR,gA,OO c x1,λx hx=>(bk x hx).mono (),sG]) ?_ ?_
 ·intro i σ g hi hp;exists (S _ _ _).mp hp,d,rest,r1,r2,r3,F,I,rfl,hR,y,D,hb,J;obtain⟨low,j0⟩:∃low,n-i=low+1:=#[n-i-1,()]
  rw[j0]at D;have ei:(n:Int)-1+(i:Int) * -1=(low:Int):=()
  have ix:(low:Int)+(VC.9:Int)-1=((low+(VC.9-1):Nat):Int):=()
  have k1:=D.lr;have v1:=D.la;have x0:low+(VC.9-1)<rest.9:=()
  have g1:(l+2)*i<=(l+2)*64:=d_ _ ()
  w_left;simp![ei]
  clear ei;refine#[_,.inl (J.seq Z),?_];rw[af];simp only[ix];clear ix;refine#[_,Zw hR,_,iD x0,?_];have ct:co rest (low+(VC.9-1))=rest[low+(VC.9-1)]:=aP x0;have bt:=hb _ (b_ x0);generalize rest[low+(VC.9-1)]=tp at ct bt ⊢;have bf:=HB bt l0;refine#[_,J.seq Z,_,jS c,tp,rfl,_,rfl,l0,cI v0 (fu () ()),_,J.seq Z,_,jS c,_,rfl,bf.fits v0 (),?_]
  w_left;k_units
  refine bU (λh=>?_) (λh=>?_)
  ·rcases q with ⟨q0,_,hd,_⟩|⟨_,q⟩
   ·have z:=OS nt c D hd;rw[ct,r]at z;exact absurd z h
   ·exact q _ J
  have hf:tp.fdiv (VC.getLast c)*VC.getLast c=tp:=by simpa using h
  generalize tp.fdiv (VC.getLast c)=f at hf bf ⊢;refine#[_,y,low,jR (by rw[af];omega),?_];rw[map_set];have s5:=J.more fA (o:=.lst ((d.set low f).map V'));have R5:=(aE z0:upd g m (.lst ((d.set low f).map V')) R=g R).trans hR;have A5:upd g m (.lst ((d.set low f).map V')) m=_:=ak;generalize upd g m (.lst ((d.set low f).map V'))=H5 at s5 R5 A5 ⊢;refine#[_,s5.seq Z,?_];obtain⟨Pw,C⟩:∃Pw:Nat->L2.St->Hp->Prop,∀j σ Y,Pw j σ Y↔∃(M:aa)(F I:Option V),σ=[Zz (Z' a),Zz (Z' b),Zz (Z' R),Zz (V' (n:Int)),Zz (Z' m),Zz (V' (low:Int)),Zz (V' tp),Zz (V' f),F,I]/\Y R=Zz (.lst (M.map V'))/\Y m=Zz (.lst ((d.set low f).map V'))/\M.9=rest.9/\
   (∀u,co M u=co rest u-if low<=u/\u<low+j then f*co VC (u-low) else 0)/\Same H Y:=#[_,λ_ _ _=>Iff.rfl]
  refine tq Pw ((C _ _ _).mpr #[rest,_,_,rfl,R5,A5,rfl,λu=>by rw[if_neg ()];omega,s5]) (λj σ Y _ z=>by exists (C j σ Y).mp z,_,_,_,_,_,_,_,_,z5;exact z5.seq Z) ?_ ?_
  ·intro j v pt σ Y hv y0 z1;exists (C _ _ _).mp y0,M,F,I,rfl,xR,xA,xl,xc,xs;have hj:j<VC.9:=by have:=(aZ.mp hv).1;rw[af]at this;exact this
   rw[aI,aq hj]at hv;obtain rfl:V' VC[j]=v:=Zv hv;have st:=aB z1 (.tup [V' j,V' VC[j]]);have u1:(low:Int)+(j:Int)=((low+j:Nat):Int):=rfl
   w_left;k_units
   refine#[_,SqT.of ak,rfl,?_]
   w_left;simp![u1]
   have U:low+j<M.9:=()
   have yR:=st _ _ xR;have yA:=st _ _ xA;refine#[_,Zw yR,_,iD U,bf.fits (bl _ (b_ hj)) (),_,rfl,_,yR,low+j,jR #v[af,U],(C _ _ _).mpr #[M.set (low+j) (M[low+j]-f*VC[j]),_,_,rfl,by rw[ak,map_set],#v[aE (Ne.symm z0),yA],#v[py,xl],λu=>?_,(xs.trans st).more nR]];rw[ox _ _ _ _ U];by_cases e:u=low+j
   ·subst e;have z:=xc (low+j);rw[if_neg (show ¬(low<=low+j/\low+j<low+j) by omega),aP U]at z;rw[if_pos (show low+j=low+j from rfl),if_pos (show low<=low+j/\low+j<low+(j+1) by omega),show low+j-low=j by omega,aP hj];omega
   ·rw[if_neg e,xc u];by_cases h3:low<=u/\u<low+j
    ·rw[if_pos h3,if_pos (show low<=u/\u<low+(j+1) by omega)]
    ·rw[if_neg h3,if_neg (show ¬(low<=u/\u<low+(j+1)) by omega)]
  ·intro σ Y y0;exists (C _ _ _).mp y0,M,F,I,rfl,xR,xA,xl,xc,xs;rw[af]at xc;have D':DivAt one VC (d.set low f) M low:=OQ c D () #v[r,ct,hf] xl λu=>by
    rw[xc u];by_cases h3:low<=u
    ·rw[if_pos h3];by_cases h4:u<low+VC.9
     ·rw[if_pos #[h3,h4]]
     ·rw[if_neg (),aF (xs:=VC) (),cX]
    ·rw[if_neg (),if_neg h3]
   refine (S _ _ _).mpr #[_,M,_,_,_,_,_,rfl,xR,xA,by rw[show n-(i+1)=low by omega];exact D',λx hx=>?_,xs];exists cU.mp hx,u,hu,rfl;have eu:=xc u;rw[aP hu,aP (show u<rest.9 by omega)]at eu;have b1:=hb _ (b_ (show u<rest.9 by omega));have b2:Bd (k+(l+2)*i+1+l) (if low<=u/\u<low+VC.9 then f*co VC (u-low) else 0):=by
    split
    ·rcases Ls (u-low) VC.9 with z|z
     ·rw[aP z];exact bf.mul (bl _ (b_ z))
     ·rw[aF z,cX];exact Bd.zero _
    ·exact Bd.zero _
   rw[eu];have e2:(l+2)*(i+1)=(l+2)*i+(l+2):=jF _ _;exact ((b1.mono ()).sub b2).mono ()
 ·intro σ g hp;exists (S _ _ _).mp hp,d,rest,r1,r2,r3,F,I,rfl,hR,y,D,hb,J;rw[gB]at D
  w_left;k_units
  refine u0 rest d r1 r2 r3 F I g (λq hq=>OR nt c D q hq) (λhz=>#[Gm D hz,?_]) hR y J (by have:=D.lr;omega);by_cases X:one=[]
  ·have:d.9=0:=by have:=D.la;rw[X]at this;simp at this;omega
   rw[bD this];exact cH
  ·exact OT c no X D.la (Gm D hz)
theorem HC {n:Nat}(h:n<=5000):n<sizeLine:=cx h ()
noncomputable def ai (xs:aa):Nat:=xs.foldl (λg x=>bT x.8 g) 0
theorem uG (xs:aa)(x:Int):ai (xs++[x])=bT x.8 (ai xs):=by unfold ai;rw[List.foldl_append];rfl
theorem uH {b:Nat}(c:0<b):∀a:aa,(∀x∈a,x.8<b)->ai a<b:=λa=>by
 refine ou (P:=λa=>(∀x∈a,x.8<b)->ai a<b) (λ_=>c) (λa x d h=>?_) a;rw[uG];by_cases z:x.8=0
 ·rw[z,Nat.gcd_zero_left];exact d λy hy=>h y (by simp[hy])
 ·exact cx (Nat.gcd_le_left _ ()) (h x (by simp))
theorem gP (xs:aa):∀x∈xs,((ai xs:Nat):Int)∣x:=by
 refine ou (P:=λxs=>∀x∈xs,((ai xs:Nat):Int)∣x) (by simp) (λxs y a x hx=>?_) xs;rw[uG];rcases a8.mp hx with z|z
 ·exact fV (iw.mpr (lJ _ _)) (a x z)
 ·rw[bj.mp z];exact we.mp (iw.mpr (kq _ _))
theorem iY (d:Nat)(xs:aa):(∀x∈xs,(d:Int)∣x)->d∣ai xs:=by
 refine ou (P:=λxs=>(∀x∈xs,(d:Int)∣x)->d∣ai xs) (λ_=>Nat.dvd_zero d) (λxs y a h=>?_) xs;rw[uG];refine v_ ?_ (a λx hx=>h x (by simp[hx]));exact iw.mp (we.mpr (h y (by simp)))
def Ql (K:ao):Sp:=λvs H Q _=>∃(a:Addr)(xs:aa),vs=[.ref a]/\SqL K H a (xs.map V')/\(∀x∈xs,Bd 900000 x)/\∀H',Same H H'->Q (.int (ai xs:Nat)) H'
theorem uI:FnOk P w K mg base CX0 3 T.Uc.ax T.Uc.dx ["poly"] (Ql K):=by
 refine T.Uc.Fx.ok uo (λm H Q E h=>?_) (λn A outer s H m Q E o h=>?_)
 ·exists h,a,xs,rfl,_;rfl
 exists h,a,xs,rfl,k,p,q;refine#[_,s!"ˁĦʞ̭ɗ+Ħȼ̔Ħɧħ̮ĨĩĪˏɹɅɈ",?_]
 k_units
 refine#[#[_,k],?_];obtain⟨e,c⟩:∃e:Nat->L2.St->Hp->Prop,∀i σ d,e i σ d↔∃r:Option V,σ=[Zz (Z' a),Zz (V' (ai (xs.take i):Nat)),r]/\Same H d:=#[_,λ_ _ _=>Iff.rfl]
 refine jQ (xs:=xs.map V') e ((c _ _ _).mpr #[_,rfl,Same.refl _]) (λi σ d _ z=>by exists (c i σ d).mp z,_,_,z;exact z.seq k) ?_ ?_
 ·intro i v σ d f g;exists (c _ _ _).mp g,r,rfl,j;have hi:i<xs.9:=by have:=(aZ.mp f).1;rw[af]at this;exact this
  rw[aI,aq hi]at f;obtain rfl:V' xs[i]=v:=Zv f;have u:xs.take (i+1)=xs.take i++[xs[i]]:=by rw[cY,aq hi];rfl
  k_units
  refine#[_,_,rfl,?_,λC y=>(c _ _ _).mpr #[Zz (V' xs[i]),?_,j.trans y]]
  ·have:Bd 900000 ((ai (xs.take i):Nat):Int):=by
    show ((ai (xs.take i):Nat):Int).8<2 ^ 900000;rw[dE];exact uH (eo _) _ λx hx=>p x (gD hx)
   exact this.mono ()
  ·rw[u,uG,dE]
 ·intro σ d g;exists (c _ _ _).mp g,r,rfl,j;rw[af,fy]
  k_units
  exact q _ j
def Qm (K:ao):Sp:=λvs H Q _=>∃(a:Addr)(xs:aa)(c:Int),vs=[.ref a,.int c]/\SqL K H a (xs.map V')/\xs.9<=5000/\c≠0/\c.8<2 ^ 9000/\eI H Q ((xs.map λx=>x.fdiv c).map V')
theorem Bx:FnOk P w K mg base CX0 1 T.Uj.ax T.Uj.dx ["poly","number"] (Qm K):=by
 refine T.Uj.Fx.ok Py (λp H Q E h=>?_) (λr A outer s H p Q E G h=>?_)
 ·exists h,a,xs,c,rfl,_;rfl
 exists h,a,xs,c,rfl,n,I,u,y,q;refine#[_,s!"Ʌˋ,ĜʫȿK*´˗",?_]
 k_units
 refine#[#[_,n],λC hC=>?_];obtain⟨f,d⟩:∃f:cB,∀i g,f i g↔g C=Zz (.lst (((xs.take i).map λx=>x.fdiv c).map V'))/\Same H g:=#[_,λ_ _=>Iff.rfl]
 refine ff (xs:=xs.map V') f ((d _ _).mpr #[by rw[ak];rfl,aB hC _]) (λi o _ z=>((d i o).mp z).2.seq n) ?_ ?_
 ·intro i v o j k;exists (d _ _).mp k,e,m;have hi:i<xs.9:=by have:=(aZ.mp j).1;rw[af]at this;exact this
  rw[aI,aq hi]at j;obtain rfl:V' xs[i]=v:=Zv j
  simp![bst,eG]
  have F:xs.take (i+1)=xs.take i++[xs[i]]:=by rw[cY,aq hi];rfl
  refine#[u,y,_,e,HC (by simp;omega),(d _ _).mpr #[?_,m.more hC]];rw[ak,F,aR,aR];rfl
 intro J k;exists (d _ _).mp k,e,m;rw[af,fy]at e;exact q C _ m hC e
def di (xs:aa):aa:=if xs≠[]/\co xs (xs.9-1)<0 then xs.map λx=>-x else xs
def Qn (K:ao):Sp:=λvs H Q _=>∃(a:Addr)(xs:aa),vs=[.ref a]/\SqL K H a (xs.map V')/\xs.9<=1000/\eI H Q ((di xs).map V')
theorem HD:FnOk P w K mg base CX0 1 T.Ur.ax T.Ur.dx ["poly"] (Qn K):=by
 refine T.Ur.Fx.ok PD (λy H Q E h=>?_) (λF A outer s H y Q E I h=>?_)
 ·exists h,a,xs,rfl,_;rfl
 exists h,a,xs,rfl,e,g,q;refine#[_,s!"ʴ̄ʍ˧=x˞ʧʳȿKɜȿʒ̆ʄ",?_]
 w_up
 refine#[_,.inl e,?_];rw[af];unfold di at q;have lst:¬(xs≠[]/\co xs (xs.9-1)<0)->∃x,(SqL K H a x\/SqT K H a x)/\∀l,H l=Zy->Q (Z' l) (upd H l (HO.lst x)):=λh=>by
  rw[if_neg h]at q;exact#[_,.inl e,λl g=>q l _ (aB g _) g ak]
 refine bU (λh=>?_) (λh=>lst λz=>?_)
 ·have d:xs≠[]:=by intro z;rw[z]at h;simp at h
  refine#[_,e,_,jS d,?_]
  w_left;k_units
  have r:co xs (xs.9-1)=xs.getLast d:=by rw[aP (),CC]
  refine bU (λj=>?_) (λj=>lst λz=>j #v[<-r,z.2]);rw[if_pos #[d,#v[r,j]]]at q;refine#[#[_,e],λC hC=>?_];obtain⟨k,c⟩:∃k:cB,∀i m,k i m↔m C=Zz (.lst (((xs.take i).map λx=>-x).map V'))/\Same H m:=#[_,λ_ _=>Iff.rfl]
  refine ff (xs:=xs.map V') k ((c _ _).mpr #[by rw[ak];rfl,aB hC _]) (λi u _ z=>((c i u).mp z).2.seq e) ?_ ?_
  ·intro i v u n o;exists (c _ _).mp o,f,p;have hi:i<xs.9:=by have:=(aZ.mp n).1;rw[af]at this;exact this
   rw[aI,aq hi]at n;obtain rfl:V' xs[i]=v:=Zv n
   w_left;simp![bst,eG]
   have G:xs.take (i+1)=xs.take i++[xs[i]]:=by rw[cY,aq hi];rfl
   refine#[_,f,bO (by simp;omega),(c _ _).mpr #[?_,p.more hC]];rw[ak,G,aR,aR];rfl
  intro J o;exists (c _ _).mp o,f,p;rw[af,fy]at f;exact q C _ p hC f
 ·have:0<xs.9:=dw.mpr z.1;omega
def Qo (K:ao):Sp:=λvs H Q _=>∃(a:Addr)(xs:aa),vs=[.ref a]/\SqL K H a (xs.map V')/\xs≠[]/\xs.9<=1000/\∀(M:Nat) H',Same H H'->(∀x∈xs,x.8<=M)->(∃x∈xs,x.8=M)->Q (.int (M:Int)) H'
theorem HE:FnOk P w K mg base CX0 1 T.Us.ax T.Us.dx ["poly"] (Qo K):=by
 refine T.Us.Fx.ok PH (λu H Q E h=>?_) (λF A outer s H u Q E I h=>?_)
 ·exists h,a,xs,rfl,_;rfl
 exists h,a,xs,rfl,p,e,J,q;refine#[_,s!"Ʌ:ī̢̈ȿK˼ʄ$",?_]
 simp![mB]
 refine#[#[_,p],λC hC=>?_];obtain⟨f,c⟩:∃f:cB,∀i g,f i g↔g C=Zz (.lst (((xs.take i).map λx=>((x.8:Nat):Int)).map V'))/\Same H g:=#[_,λ_ _=>Iff.rfl]
 refine ff (xs:=xs.map V') f ((c _ _).mpr #[by rw[ak];rfl,aB hC _]) (λi r _ z=>((c i r).mp z).2.seq p) ?_ ?_
 ·intro i v r j k;exists (c _ _).mp k,d,m;have hi:i<xs.9:=by have:=(aZ.mp j).1;rw[af]at this;exact this
  rw[aI,aq hi]at j;obtain rfl:V' xs[i]=v:=Zv j
  simp![bst,eG,mB]
  have G:xs.take (i+1)=xs.take i++[xs[i]]:=by rw[cY,aq hi];rfl
  refine#[_,d,bO (by simp;omega),(c _ _).mpr #[?_,m.more hC]];rw[ak,G,aR,aR];rfl
 intro O k;exists (c _ _).mp k,d,m;rw[af,fy]at d;refine#[C,rfl,_,Zw d,by simpa using e,λM n o=>?_];exists bC.mp n,x,hx,rfl;exact q _ _ m (λy hy=>by have:=o _ (bC.mpr #[y,hy,rfl]);omega) #[x,hx,rfl]
def Qp (K:ao):Sp:=λvs H Q _=>∃(n b:Int)(k:Nat),vs=[.int n,.int b]/\0<n/\2 ^ k*n<b ^ k/\k<=900/\29<=b/\b.8<2 ^ 9000/\
 ∀f:aa,val b f=n->(∀x∈f,2*x.8<=b.8)->f≠[]->0<co f (f.9-1)->f.9<=900->eI H Q (f.map V')
theorem Qq:FnOk P w K mg base CX0 1 T.UL.ax T.UL.dx ["number","base"] (Qp K):=by
 refine T.UL.Fx.ok oJ (λR H Q E h=>?_) (λS A outer s H R Q E hr h=>?_)
 ·exists h,n,b,k,rfl,_;rfl
 exists h,n,b,J,rfl,U,nb,k9,u,bb,q;refine#[_,s!"ɰùˇ˛Äȿɑɿù̓˗˿i*ŧ%ɓɈɆ/Ē)4ùȼɈēG˶ɉ˚ɲ(ùɛ´ʃȿɓɈɅɉ",?_]
 w_up
 refine#[aU _,λf y=>?_]
 w_up
 refine ig (λm σ j=>∃(a:Int)(ds:aa)(k:Nat)(r:Option V),m=a.8/\σ=[Zz (V' a),Zz (V' b),Zz (Z' f),r]/\j f=Zz (.lst (ds.map V'))/\Same H j/\0<=a/\2 ^ k*a<b ^ k/\ds.9+k<=J/\(∀x∈ds,2*x.8<=b.8)/\(0<a\/ds≠[]/\0<co ds (ds.9-1))/\∀rest,val b rest=a->val b (ds++rest)=n) n.8 ?_ ?_
 ·exact#[n,[],J,Zy,rfl,rfl,ak,aB y _,(),nb,by simp,by simp,.inl U,λrest h=>h]
 rintro m σ j ⟨a,ds,k,r,rfl,rfl,hz,sz,h0,hk,hl,hb,hp,hv⟩
 w_left;k_units
 refine bU (λh=>?_) (λh=>?_)
 ·have hn:a≠0:=by simpa using h
  refine#[λo g=>∃low t:Int,o=[Zz (V' t),Zz (V' b),Zz (Z' f),Zz (V' low)]/\g=upd j f (.lst ((ds++[low]).map V'))/\a=low+b*t/\2*low.8<=b.8/\0<=t,?_,(),?_]
  ·rintro o g ⟨low,t,rfl,rfl,c,d,p⟩
   have tb:b*t<=2*a:=by
    by_cases z:t=0
    ·rw[z];omega
    ·have C:b*1<=b*t:=m_ () ();generalize b*t=X at C c ⊢;omega
   have tn:t<a:=by
    by_cases z:t=0
    ·omega
    ·have O:29*t<=b*t:=CA u p;omega
   obtain⟨e,rfl⟩:∃e,k=e+1:=⟨k-1,by
    by_cases z:k=0
    ·rw[z]at hk;simp at hk;omega
    ·omega⟩
   refine#[t.8,(),t,rfl,ds++[low],e,_,rfl,ak,sz.more y,p,?_,by simp;omega,λx hx=>?_,?_,λrest F=>?_]
   ·rw[lY,lY]at hk;have e1:2 ^ e*(b*t)<=2 ^ e*(2*a):=m_ tb (Int.pow_nonneg ());have e2:(2:Int) ^ e*(2*a)=2 ^ e*2*a:=by grind
    have Y:(2 ^ e*t)*b<b ^ e*b:=by
     have:(2:Int) ^ e*(b*t)=(2 ^ e*t)*b:=by grind
     omega
    exact Int.lt_of_mul_lt_mul_right Y ()
   ·rcases a8.mp hx with z|z
    ·exact hb x z
    ·rw[bj.mp z];exact d
   ·by_cases z:t=0
    ·refine .inr #[by simp,?_];rw[show (ds++[low]).9-1=ds.9 by simp,mo,if_pos rfl];rw[z,cX]at c;omega
    ·exact .inl ()
   ·rw[pB];refine hv ([low]++rest) ?_;show low+b*val b rest=a;rw[F,c]
  ·obtain⟨M,G⟩:∃M:L2.St->Hp->Prop,∀σ g,M σ g↔∃low t:Int,σ=[Zz (V' a),Zz (V' b),Zz (Z' f),Zz (V' low)]/\g=j/\a=low+b*t/\2*low.8<=b.8/\0<=t:=#[_,λ_ _=>Iff.rfl]
   have m1:=Int.emod_nonneg a (show b≠0 by omega);have m2:=Int.emod_lt_of_pos a (show 0<b by omega);have m3:=Int.emod_add_mul_ediv a b;have Z:=Int.ediv_nonneg h0 (show 0<=b by omega);have I:=bb;clear hk bb nb
   w_left;refine gq M ?_ ?_
   ·w_left;k_units
    refine#[.inl #[(),()],bU (λh2=>(G _ _).mpr #[_,a / b+1,rfl,rfl,?_,(),()]) (λh2=>(G _ _).mpr #[_,a / b,rfl,rfl,(),(),Z])];rw[jB,vE];omega
   ·intro σ g hm;obtain⟨low,t,rfl,rfl,c,d,p⟩:=(G _ _).mp hm
    w_left;k_units
    have et:(a-low).fdiv b=t:=by
     rw[show a-low=b*t by omega];exact lN _ ()
    rw[et];refine#[gn (Zw hz),_,hz,bO (by simp;omega),(),I,by rw[aR];rfl,c,d,p]
 ·have e0:a=0:=by simpa using h
  subst e0;rcases hp with z|⟨C,O⟩
  ·omega
  have v:=hv [] rfl;rw[mU]at v;exact q ds v hb C O () f _ sz y hz
structure Two (a b g:aa)(G:Nat):Prop where
 na:Nml a
 nb:Nml b
 a0:a≠[]
 b0:b≠[]
 la:a.9<=40
 lb:b.9<=40
 ba:∀z∈a,Bd 5000 z
 bb:∀z∈b,Bd 5000 z
 pg:iE (co g)
 ng:Nml g
 lg:g.9<=40
 up:0<co g (g.9-1)
 bG:Bd 4480 (G:Int)
 da:∃x,Div a g x
 db:∃y,Div b g y
 bz:∃(U V:aa)(m:Int),m≠0/\(∀z∈g,m.8*z.8<=G)/\∀n,val n U*val n a+val n V*val n b=m*val n g
theorem HF {p:Int}(c:1<=p){a:aa}(na:Nml a)(a0:a≠[])(h:∀z∈a,2*z.8<=p.8):val p a≠0:=by
 have d:=dG na a0;rcases Cw d with g|g
 ·have e:∀j,co (a.map λz=>-1*z) j=-1*co a j:=λj=>by
   by_cases h:j<a.9
   ·rw[aP (xs:=a.map _) (⇑h),aP h,ck]
   ·rw[aF (xs:=a.map _) (by simp;omega),aF (),cX]
  have:=(uf c (a.map λz=>-1*z) (⇑a0) (λx hx=>by
   exists bC.mp hx,z,f,rfl;have:=h z f;omega) (by rw[af,e];omega)).2
  rw[be]at this;omega
 ·have:=(uf c a a0 h g).2;omega
theorem HG {p:Int}(c:1<=p):∀a:aa,(∀z∈a,2*z.8<=p.8)->(val p a).8<p.8 ^ a.9
 | [],_=>by simp[val]
 | x :: a,h=>by
  have i:=HG c a λz d=>h z (by simp[d]);have hx:=h x (by simp);have e:val p (x :: a)=x+p*val p a:=rfl;rw[e,cP,ko];have m:p.8*((val p a).8+1)<=p.8*p.8 ^ a.9:=d_ _ i;rw[CD,md,fq _ (p.8 ^ a.9)]at m;have n:(p*val p a).8=p.8*(val p a).8:=cc _ _;have f:1<=p.8:=jD.mpr ();refine cI (cx (i7 _ _) ?_) m;rw[n];clear n m i e h c;generalize p.8=pn at *;generalize x.8=g at *;omega
theorem few {p L:Nat}(a:29<=p)(h:p ^ L<2 ^ L*p ^ 40):L<=52:=by
 refine pC λg=>?_;obtain⟨r,rfl⟩:∃r,L=52+r:=#[L-52,()]
 have c:p ^ (52+r)=p ^ 40*(p ^ 12*p ^ r):=by rw[<-dN,<-dN];congr 1;omega
 have d:(2:Nat) ^ (52+r)=2 ^ 52*2 ^ r:=dN 2 52 r;have i:29 ^ 12<=p ^ 12:=nv a 12;have e:2 ^ r<=p ^ r:=nv () r;have f:2 ^ 52*2 ^ r<=p ^ 12*p ^ r:=dY () e;rw[c,d,fq (2 ^ 52*2 ^ r)]at h;exact absurd h (Nat.not_lt.mpr (d_ (p ^ 40) f))
theorem Qr {p:Nat}(a:29<=p){n:Nat}(h:n<p ^ 40):2 ^ 60*n<p ^ 60:=by
 have c:p ^ 60=p ^ 20*p ^ 40:=by rw[<-dN]
 have d:29 ^ 20<=p ^ 20:=nv a 20;have e:2 ^ 60*n<29 ^ 20*p ^ 40:=by
  refine cx (eh n (show 2 ^ 60<=29 ^ 20 by decide)) (Lp h ())
 rw[c];exact cI e (eh _ d)
theorem HH (f:aL)(c:Int)(j:Nat):pm f (λi=>if i=0 then c else 0) j=c*f j:=by
 unfold pm;rw[mq (i:=j) () λi hi a=>?_]
 ·show f j*(if j-j=0 then c else 0)=_;rw[if_pos (gB j),cT]
 ·show f i*(if j-i=0 then c else 0)=0;rw[if_neg (),cX]
theorem Qs {a b g:aa}{G:Nat}(i:Two a b g G){p:Int}{M:Nat}(hp:2*(M:Int)+29<=p)(hM:(∀z∈a,z.8<=M)\/(∀z∈b,z.8<=M)):
  (0<bT (val p a).8 (val p b).8/\bT (val p a).8 (val p b).8<p.8 ^ 40)/\∀f:aa,val p f=(bT (val p a).8 (val p b).8:Nat)->(∀x∈f,2*x.8<=p.8)->f≠[]->0<co f (f.9-1)->
   f.9<=60/\0<ai f/\Nml (f.map λx=>x.fdiv (ai f))/\(∀qa qb,Div a (f.map λx=>x.fdiv (ai f)) qa->Div b (f.map λx=>x.fdiv (ai f)) qb->f.map (λx=>x.fdiv (ai f))=g)/\(2*(G:Int)+1<=p->f.map (λx=>x.fdiv (ai f))=g):=by
 exists i.bz,U,V,m,m0,hG,bz;exists i.da,x,hx;exists i.db,y,hy;have vx:=iU.mp hx;have vy:=iU.mp hy;have u:∃d:aa,(val p d≠0/\(val p d).8<p.8 ^ 40)/\(bT (val p a).8 (val p b).8)∣(val p d).8:=by
  have pw:∀d:aa,d.9<=40->(∀z∈d,z.8<=M)->(val p d).8<p.8 ^ 40:=λd hd n=>
   cI (HG () d λz T=>by have:=n z T;omega) (fu () hd)
  rcases hM with h|h
  ·exact#[a,#[HF () i.na i.a0 λz n=>by have:=h z n;omega,pw a i.la h],kq _ _]
  ·exact#[b,#[HF () i.nb i.b0 λz n=>by have:=h z n;omega,pw b i.lb h],lJ _ _]
 exists u,d,#[d0,dl],dd;have I:0<bT (val p a).8 (val p b).8:=mY λz=>by
  rw[z]at dd;exact d0 (Int.natAbs_eq_zero.mp (Cz dd))
 have X:=jC (jD.mpr d0) dd;refine#[#[I,cx X dl],λf Y fs f0 Q=>?_];have fl:f.9<=60:=by
  have t:=(uf () f f0 fs Q).1;rw[Y]at t;have e:(p.8:Int)=p:=()
  have t':p.8 ^ (f.9-1)<=2 ^ (f.9-1)*bT (val p a).8 (val p b).8:=by
   have:((p.8 ^ (f.9-1):Nat):Int)<=((2 ^ (f.9-1)*bT (val p a).8 (val p b).8:Nat):Int):=by
    rw[CF,fW,CF,e];exact t
   exact Int.ofNat_le.mp this
  have:=few (p:=p.8) (L:=f.9-1) () (cx t' (Lp () (eo _)));omega
 have hl:f.9-1<f.9:=by have:=dw.mpr f0;omega
 have o:0<ai f:=mY λz=>by
  have:=gP f _ (b_ hl);rw[z]at this;have:=Lj.mp (⇑this);rw[aP hl,this]at Q;omega
 have c0:((ai f:Nat):Int)≠0:=()
 have fz:∀z∈f,((ai f:Nat):Int)*z.fdiv (ai f:Nat)=z:=λz n=>by
  exists gP f z n,t,Z;rw[Z,lN _ c0]
 have R:∀j,co f j=((ai f:Nat):Int)*co (f.map λx=>x.fdiv (ai f:Nat)) j:=λj=>by
  by_cases r:j<f.9
  ·rw[aP r,aP (xs:=f.map _) (⇑r),ck];exact (fz _ (b_ r)).symm
  ·rw[aF (),aF (xs:=f.map _) (by simp;omega),cX]
 have vf:val p f=((ai f:Nat):Int)*val p (f.map λx=>x.fdiv (ai f:Nat)):=by
  rw[<-be];refine f9 (λj=>?_) p;rw[R j];by_cases r:j<f.9
  ·rw[aP (xs:=(f.map _).map _) (⇑r),ck,aP (xs:=f.map _) (⇑r)]
  ·rw[aF (xs:=f.map _) (by simp;omega),aF (xs:=(f.map _).map _) (by simp;omega),cX]
 have x0:∀z∈f.map (λx=>x.fdiv (ai f:Nat)),2*(((ai f:Nat):Int)*z).8<=p.8:=λz n=>by
  exists bC.mp n,x,hx,rfl;rw[fz x hx];exact fs x hx
 have J:(f.map λx=>x.fdiv (ai f:Nat)).9=f.9:=af _;have s:0<co (f.map λx=>x.fdiv (ai f:Nat)) (f.9-1):=by
  rw[R]at Q;exact CG Q ()
 have fp:iE (co (f.map λx=>x.fdiv (ai f:Nat))):=λe he=>by
  have:e*ai f∣ai f:=iY _ f λz n=>by
   exists cU.mp n,j,r,rfl;rw[<-aP r,R j,fW,cT];exact Lk _ (he j)
  exists this,t,Z;have:ai f*1=ai f*(e*t):=by rw[md,<-gj,fq _ e];exact Z
  have:=Cu o this;exact (TK this.symm)
 generalize j0:(f.map λx=>x.fdiv (ai f:Nat))=v at *;generalize ai f=c at *;have O:v≠[]:=dw.mp ();have C:Nml v:=eK.mpr λz n=>by
  rw[gi,J,aq ()]at n;rw[aP ()]at s;rw[<-Zv n];omega
 obtain⟨h,S⟩:((val p g).8)∣bT (val p a).8 (val p b).8:=v_ #v[vx p,cc,Nat.dvd_mul_right _ _] #v[vy p,cc,Nat.dvd_mul_right _ _];have h1:1<=h:=mY λz=>by rw[z,Nat.mul_zero]at S;omega
 have P:0<val p v:=by
  have:0<(c:Int)*val p v:=by rw[<-vf,Y];omega
  exact CG this ()
 have hv:(c:Int)*val p v=(h:Int)*((val p g).8:Int):=by rw[<-vf,Y,S,fW,cT]
 refine#[fl,o,C,λqa qb da db=>?_,λk0=>?_]
 ·rcases O_ (c:=c) (h:=h) hp fp C O () x0 i.pg i.ng hx hy (hM.imp (λz=>#[i.a0,i.na,z]) λz=>#[i.b0,i.nb,z]) da db m0 bz () P hv with e|e
  ·exact e
  ·exfalso;have lg:v.9=g.9:=by rw[e,af]
   rw[<-J,e]at s;rw[af]at s;have hg:g.9-1<g.9:=by have:=dw.mpr O;omega
   rw[aP (xs:=g.map _) (⇑hg),ck]at s;have:=i.up;rw[aP hg]at this;omega
 ·have hm:h∣m.8:=by
   have dv:(bT (val p a).8 (val p b).8:Int)∣m*val p g:=by
    rw[<-bz p];exact Li (fV (we.mp (iw.mpr (kq _ _))) (pJ _ _)) (fV (we.mp (iw.mpr (lJ _ _))) (pJ _ _))
   have dn:=iO.mpr dv;rw[dE,cc,S,fq m.8]at dn;have gp:0<(val p g).8:=mY λz=>by rw[z,Lg]at S;omega
   exact Nat.dvd_of_mul_dvd_mul_left gp dn
  have y0:=jC (jD.mpr m0) hm;have m1:=jD.mpr m0;have g0:g≠[]:=λz=>by have:=i.up;rw[z]at this;simp[co]at this
  have gs:∀z∈g,2*z.8<=p.8:=λz n=>by
   have:=hG z n;have:z.8<=m.8*z.8:=h_ _ m1;omega
  have z0:=(uf () g g0 gs i.up).2;have hc:∀k,co f k=co (g.map λz=>(h:Int)*z) k:=Pa () f _ fs (λz n=>by
   exists bC.mp n,y,hy,rfl;have h2:=hG y hy;have h3:h*y.8<=m.8*y.8:=eh _ y0;rw[cc,dE];omega) (by rw[be,vf,hv];congr 1;omega)
  have F:∀k,(c:Int)*co v k=(h:Int)*co g k:=λk=>by
   rw[<-R k,hc k];by_cases r:k<g.9
   ·rw[aP (xs:=g.map _) (⇑r),aP r,ck]
   ·rw[aF (xs:=g.map _) (by simp;omega),aF (),cX]
  have u0:h∣c:=by
   refine iw.mp (Classical.byContradiction λH=>?_);have z:=uc fp h h1 (λj=>if j=0 then (c:Int) else 0) (λj=>by
    rw[HH,F j];exact kr _ _) 0
   exact H (⇑z)
  have v0:c∣h:=by
   refine iw.mp (Classical.byContradiction λH=>?_);have z:=uc i.pg c o (λj=>if j=0 then (h:Int) else 0) (λj=>by
    rw[HH,<-F j];exact kr _ _) 0
   exact H (⇑z)
  have ch:c=h:=Lt v0 u0;refine jp C i.ng λk=>?_;have:=F k;rw[ch]at this;exact lV () this
def Qt (K:ao):Sp:=λvs H Q _=>∃(p q:Addr)(a b g:aa)(G:Nat),vs=[.ref p,.ref q]/\SqL K H p (a.map V')/\SqL K H q (b.map V')/\Two a b g G/\eI H Q (g.map V')
theorem HI {one VC q:aa}(h:Div one VC q):Div one VC (aO q):=λk=>by
 rw[h k];unfold pm;exact b7 λj _=>by rw[cN]
theorem HJ {K:ao}{c:Addr}{H:Hp}{g i:Addr}{one VC:aa}{k l:Nat}{R:VK}(n:SqL K H g (one.map V'))(o:SqL K H i (VC.map V'))(l1:one.9<=64)(l2:VC.9<=64)(n1:Nml one)(p:Nml VC)(j:VC≠[])(b1:∀x∈one,Bd k x)(b2:∀y∈VC,Bd l y)(hk:k<=100000)(r:l<=8995)(m:∀x d,Same H d->((x=.non/\∀q,¬Div one VC q)\/∃(F:Addr)(q:aa),x=.ref F/\H F=Zy/\d F=Zz (.lst (q.map V'))/\Nml q/\Div one VC q)->R x d):
  Hv K c [.ref g,.ref i] H R E0:=by
 refine#[g,i,one,VC,k,l,rfl,n,o,l1,l2,n1,p,b1,b2,hk,(),.inr #[j,?_]];by_cases a:∃q,Div one VC q
 ·exists a,q,a;exact .inl #[aO q,cG q,HI a,λF d s f e=>m _ _ s (.inr #[F,aO q,rfl,f,e,cG q,HI a])]
 ·exact .inr #[λq h=>a #[q,h],λd s=>m _ _ s (.inl #[rfl,λq h=>a #[q,h]])]
theorem j_ {k l:Nat}{n:Int}(c:Bd l n):∀a:aa,(∀x∈a,Bd k x)->Bd (k+(l+1)*a.9) (val n a)
 | [],_=>Bd.zero _
 | x :: a,h=>by
  have i:=j_ c a λy hy=>h y (by simp[hy]);have e:val n (x :: a)=x+n*val n a:=rfl;rw[e,cP,jF];exact (((h x (by simp)).mono (l:=l+(k+(l+1)*a.9)) ()).add (c.mul i)).mono ()
theorem Qu:FnOk P w K mg base CX0 4 T.UM.ax T.UM.dx ["one","other"] (Qt K):=by
 refine T.UM.Fx.ok oM (λvs H Q E h=>?_) (λk2 A outer s H vs Q E n h=>?_)
 ·exists h,p,q,a,b,g,G,rfl,_;rfl
 exists h,pa,pb,a,b,g,G,rfl,hA,hB,c,q;refine#[_,s!"ɰú˳*ŧ%:Ĥ̦ʢŨʾũŪūːʢŨʾũŪū̀$%/ʝu¤ɿúɧǊʾǋǌǍ˱ħʾĨĩĪ˱ĞʾğĠġɩʏʢĞʾğĠġʯʏ$ʏɿúɧĬʾĭĮįɄ4ʢûʾüýþɄ4̬ʴˑâɃÿʾĀāĂɩ˚ˌ®=âɃÿʾĀāĂʯ˚̏ɓG̍ú˳ɦɉɉ%",?_]
 w_up
 refine#[pa,a,rfl,hA,c.a0,by have:=c.la;omega,λMa H1 U z0 u0=>#[pb,b,rfl,U.seq hB,c.b0,by have:=c.lb;omega,λMb H2 s2 v0 j0=>#[_,rfl,_,rfl,.inl #[(),()],?_]]];have big:∀(M:Nat)(xs:aa),(∀z∈xs,Bd 5000 z)->(∃z∈xs,z.8=M)->Bd 5000 (M:Int):=λM xs hb ⟨z,hz,e⟩=>by rw[<-e];exact hb z hz
 obtain⟨M,k0,hM,n0⟩:∃M:Nat,(2*if (Mb:Int)<(Ma:Int) then (Mb:Int) else (Ma:Int))+29=2*(M:Int)+29/\((∀z∈a,z.8<=M)\/(∀z∈b,z.8<=M))/\Bd 5000 (M:Int):=by
  by_cases h:(Mb:Int)<(Ma:Int)
  ·exact#[Mb,by rw[if_pos h],.inr v0,big _ _ c.bb j0]
  ·exact#[Ma,by rw[if_neg h],.inl z0,big _ _ c.ba u0]
 rw[k0];have s3:=U.trans s2;have x1:Bd 8990 (2*(M:Int)+29):=(((Bd.of_lt (k:=2) (m:=3) () ():Bd 2 (2:Int)).mul n0).add ((Bd.of_lt (m:=30) () ():Bd 5 (29:Int)).mono ())).mono ();refine ig (λk σ H'=>∃(p:Int)(r:Option V),k=(2*(G:Int)+1-p).toNat/\σ=[Zz (Z' pa),Zz (Z' pb),Zz (V' p),r]/\Same H H'/\2*(M:Int)+29<=p/\Bd 8990 p) (2*(G:Int)+1-(2*(M:Int)+29)).toNat #[_,Zy,rfl,rfl,s3,(),x1] ?_
 rintro k σ H' ⟨p,r,rfl,rfl,S,hp,bp⟩
 w_left;k_units
 exists Qs c hp hM,#[v2,Y],fi;exists c.da,xg,y1;exists c.db,yg,z1;have la:=c.la;have lb:=c.lb;have bG:=c.bG;have u1:=j_ bp a c.ba;have v1:=j_ bp b c.bb;have j2:Bd 400000 (val p a):=u1.mono ();have Z:Bd 400000 (val p b):=v1.mono ();refine#[λx0 H1=>∃r:Option V,x0=[Zz (Z' pa),Zz (Z' pb),Zz (V' (p*p+1)),r]/\Same H H1/\p<2*(G:Int)+1,?_,?_]
 ·rintro x0 H1 ⟨r,rfl,sN,hG⟩
  have pp:29*p<=p*p:=CA () ();have j1:Bd 4482 (2*(G:Int)):=((Bd.of_lt (k:=2) (m:=3) () ():Bd 2 (2:Int)).mul bG).mono ();have bq:Bd 4482 p:=cx (show p.8<=(2*(G:Int)).8 by omega) j1;have k1:=((bq.mul bq).add (Bd.one ())).mono (l:=8990) ();refine#[_,?_,p*p+1,rfl,r,rfl,sN,(),k1];generalize p*p=X at pp;omega
 have pe:((p.8:Nat):Int)=p:=()
 have u:(2:Int) ^ 60*((bT (val p a).8 (val p b).8:Nat):Int)<p ^ 60:=by
  have h:=Qr (p:=p.8) () Y;have h2:((2 ^ 60*bT (val p a).8 (val p b).8:Nat):Int)<((p.8 ^ 60:Nat):Int):=Int.ofNat_lt.mpr h;rw[fW,CF,CF,pe]at h2;exact h2
 have b9:p.8<2 ^ 9000:=cI bp (fu () ());refine#[pa,a,p,5000,8990,rfl,S.seq hA,(),c.ba,bp,(),pb,b,p,5000,8990,rfl,S.seq hB,(),c.bb,bp,(),_,_,rfl,Z.mono (),λH9 s9=>?_];have S:=S.trans s9;refine#[_,p,60,rfl,(),u,(),(),b9,λf fv fs f0 ft fl F G1 U nF eF=>?_];exists fi f fv fs f0 ft,g2,c0,fn,y0,C;have bf:∀x∈f,Bd 8990 x:=λx hx=>cx (show x.8<=p.8 by have:=fs x hx;omega) bp;have g1:∀x∈f,Bd 900000 x:=λx hx=>(bf x hx).mono ();have m1:((ai f:Nat):Int).8<2 ^ 9000:=by
  rw[dE];exact cI (uH (eo _) f bf) (fu () ())
 clear u b9 Y fl;refine#[F,f,rfl,Zw eF,g1,λm2 I=>#[F,f,_,rfl,Zw (I _ _ eF),(),(),m1,λF2 G2 s2 x2 o=>?_]];have J:(f.map λx=>x.fdiv (ai f:Nat))≠[]:=by simpa using f0
 have O:∀y∈f.map (λx=>x.fdiv (ai f:Nat)),Bd 8991 y:=λy hy=>by
  exists bC.mp hy,x,hx,rfl;exact HB (bf x hx) ()
 have R:(f.map λx=>x.fdiv (ai f:Nat)).9<=64:=by rw[af];omega
 have sQ:=S.trans (U.trans (I.trans s2));have y2:H F2=Zy:=(S.trans (U.trans I)).free x2;have v:IntMulOk p p:=bp.fits bp ();generalize (f.map λx=>x.fdiv (ai f:Nat))=f2 at fn y0 C o J O R;refine HJ (one:=a) (VC:=f2) (k:=5000) (l:=8991) (sQ.seq hA) (Zw o) () R c.na fn J c.ba O () () λx3 G3 d z2=>?_;rcases z2 with ⟨rfl,j⟩|⟨Fq,qa,rfl,_,_,_,da⟩
 ·rw[if_neg (by simp)];refine#[v,_,rfl,sQ.trans d,CH λz=>?_];rw[C z]at j;exact j xg y1
 rw[if_pos (by simp)];refine HJ (one:=b) (VC:=f2) (k:=5000) (l:=8991) ((sQ.trans d).seq hB) (Zw (d _ _ o)) () R c.nb fn J c.bb O () () λx4 G4 s4 u2=>?_;rcases u2 with ⟨rfl,j⟩|⟨n2,qb,rfl,_,_,_,db⟩
 ·rw[if_neg (by simp)];refine#[v,_,rfl,sQ.trans (d.trans s4),CH λz=>?_];rw[C z]at j;exact j yg z1
 rw[if_pos (by simp)];have e:=s4 _ _ (d _ _ o);rw[y0 qa qb da db]at e;exact q F2 _ (sQ.trans (d.trans s4)) y2 e
def HK (K:ao):Sp:=λvs H Q _=>∃(pa pb:Addr)(a b:aa),vs=[.ref pa,.ref pb]/\SqL K H pa (a.map V')/\SqL K H pb (b.map V')/\a.9<=1000/\b.9<=1000/\
 ((a=[]/\eI H Q ((di b).map V'))\/(a≠[]/\b=[]/\eI H Q ((di a).map V'))\/
  (a≠[]/\b≠[]/\0<ai a/\0<ai b/\(∀z∈a,Bd 5000 z)/\(∀z∈b,Bd 5000 z)/\∃(g:aa)(G:Nat),Two (a.map λx=>x.fdiv (ai a:Nat)) (b.map λx=>x.fdiv (ai b:Nat)) g G/\eI H Q ((g.map λz=>((bT (ai a) (ai b):Nat):Int)*z).map V')))
theorem Qv:FnOk P w K mg base CX0 5 T.UN.ax T.UN.dx ["one","other"] (HK K):=by
 refine T.UN.Fx.ok uq (λZ H Q E h=>?_) (λx0 A outer s H Z Q E d h=>?_)
 ·exists h,p,q,a,b,rfl,_;rfl
 exists h,pa,pb,a,b,rfl,e,f,la,lb,q;refine#[_,s!"̨ʍʧɃŬˠŭŮů̀G̨˃ʧɃŬˠŭŮůːGɰİɧûˠüýþːɿİɧûˠüýþ̀ʑİʇɃħˠĨĩĪˏʖʎˋ9ıʫɃǎˠǏǐǑ˱ĬˠĭĮįɩʏʢĬˠĭĮįʯ˚$KɦɈȿ",?_]
 k_units
 refine#[_,.inl e,?_];rw[af];refine bU (λh=>?_) (λh=>#[_,.inl f,?_])
 ·have a0:a=[]:=bD ();rcases q with ⟨_,q⟩|⟨z,_⟩|⟨z,_⟩
  ·exact#[pb,b,rfl,f,lb,q]
  ·exact absurd a0 z
  ·exact absurd a0 z
 have a0:a≠[]:=by intro z;rw[z]at h;simp at h
 rw[af];refine bU (λh=>?_) (λh=>?_)
 ·have b0:b=[]:=bD ();rcases q with ⟨z,_⟩|⟨_,_,q⟩|⟨_,z,_⟩
  ·exact absurd z a0
  ·exact#[pa,a,rfl,e,la,q]
  ·exact absurd b0 z
 have b0:b≠[]:=by intro z;rw[z]at h;simp at h
 rcases q with ⟨z,_⟩|⟨_,z,_⟩|⟨_,_,ca,cb,ba,bb,g,G,j,q⟩
 ·exact absurd z a0
 ·exact absurd z b0
 have k:∀{xs:aa},(∀z∈xs,Bd 5000 z)->Bd 5000 ((ai xs:Nat):Int):=λ{xs} hx=>by
  show ((ai xs:Nat):Int).8<2 ^ 5000;rw[dE];exact uH (eo _) xs hx
 have M:∀{x:Int},Bd 5000 x->x.8<2 ^ 9000:=λ{x} hx=>cI hx (fu () ());refine#[pa,a,rfl,e,λx hx=>(ba x hx).mono (),λH7 O=>#[pb,b,rfl,O.seq f,λx hx=>(bb x hx).mono (),λH8 s8=>#[_,_,rfl,(k bb).mono (),λH9 s9=>?_]]];have o:=O.trans (s8.trans s9);rw[dE,dE];refine#[pa,a,_,rfl,o.seq e,(),(),M (k ba),λA1 H1 R n1 e1=>#[pb,b,_,rfl,(o.trans R).seq f,(),(),M (k bb),λB1 H2 S n2 e2=>#[A1,B1,_,_,g,G,rfl,Zw (S _ _ e1),Zw e2,j,λF H3 s3 n3 U=>?_]]];have sg:∀z∈g,Bd 4480 z:=λz hz=>by
  exists j.bz,_,_,m,m0,hG,_;have h1:=hG z hz;have h2:z.8<=m.8*z.8:=h_ _ (jD.mpr m0);exact cx (show z.8<=(G:Int).8 by omega) j.bG
 have gc:Bd 5000 ((bT (ai a) (ai b):Nat):Int):=cx (show ((bT (ai a) (ai b):Nat):Int).8<=((ai a:Nat):Int).8 by have:=Nat.gcd_le_left (ai b) ca;omega) (k ba);have lg:=j.lg;refine#[F,rfl,#[_,Zw U],λC hC=>?_];obtain⟨r,c⟩:∃r:cB,∀i u,r i u↔u C=Zz (.lst (((g.take i).map λz=>((bT (ai a) (ai b):Nat):Int)*z).map V'))/\Same H3 u:=#[_,λ_ _=>Iff.rfl]
 refine ff (xs:=g.map V') r ((c _ _).mpr #[by rw[ak];rfl,aB hC _]) (λi X _ z=>Zw (((c i X).mp z).2 _ _ U)) ?_ ?_
 ·intro i v X y I;exists (c _ _).mp I,n,J;have hi:i<g.9:=by have:=(aZ.mp y).1;rw[af]at this;exact this
  rw[aI,aq hi]at y;obtain rfl:V' g[i]=v:=Zv y
  simp![bst,eG]
  have et:g.take (i+1)=g.take i++[g[i]]:=by rw[cY,aq hi];rfl
  refine#[gc.fits (sg _ (b_ hi)) (),_,n,HC (by simp;omega),(c _ _).mpr #[?_,J.more hC]];rw[ak,et,aR,aR];rfl
 intro H4 I;exists (c _ _).mp I,n,J;rw[af,fy]at n;have Y:=o.trans (R.trans (S.trans s3));exact q C _ (Y.trans J) (Y.free hC) n
noncomputable def dvL (xs:aa) (c:Nat):aa:=xs.map λx=>x.fdiv (c:Int)
theorem Qw {c:Nat}(a:0<c){x:Int}(h:(c:Int)∣x):(c:Int)*x.fdiv (c:Int)=x:=by
 rw[Ck _ ()];exact vV h
theorem Qx (xs:aa)(c:Nat)(j:Nat):co (dvL xs c) j=(co xs j).fdiv (c:Int):=by
 unfold dvL;by_cases h:j<xs.9
 ·rw[aP #v[af,h],aP h,ck]
 ·rw[aF (by rw[af];omega),aF ()];simp
theorem ka {xs:aa}(a:0<ai xs)(j:Nat):((ai xs:Nat):Int)*co (dvL xs (ai xs)) j=co xs j:=by
 rw[Qx];exact Qw a (dy (gP xs) (pI _) j)
theorem mC {xs:aa}(a:0<ai xs)(n:Int):((ai xs:Nat):Int)*val n (dvL xs (ai xs))=val n xs:=by
 rw[<-be];refine f9 (λj=>?_) n;rw[<-ka a j];by_cases h:j<(dvL xs (ai xs)).9
 ·rw[aP #v[af,h],aP h,ck]
 ·rw[aF (by rw[af];omega),aF ()];simp
theorem ke (xs:aa)(c:Nat):(dvL xs c).9=xs.9:=af ..
theorem hE {xs:aa}(h:Nml xs)(a:xs≠[]):0<ai xs:=by
 refine mY λz=>?_;have:=dG h a;have c:=dy (P:=λx=>((ai xs:Nat):Int)∣x) (gP xs) (pI _) (xs.9-1);rw[z]at c;exact this (Lj.mp c)
theorem uJ {xs:aa}(h:Nml xs)(a:xs≠[]):Nml (dvL xs (ai xs)):=by
 refine oO (.inr λz=>?_);rw[ke]at z;have:=ka (hE h a) (xs.9-1);rw[z,cX]at this;exact dG h a this.symm
theorem uK {xs:aa}(a:0<ai xs):iE (co (dvL xs (ai xs))):=λd hd=>by
 have h:d*ai xs∣ai xs:=iY _ _ (dg λj=>by
  rw[<-ka a j,fW,cT (d:Int)];exact Lk _ (hd j))
 exists h,e,c;have f:ai xs*(d*e)=ai xs*1:=by rw[md,<-gj,fq (ai xs) d];exact c.symm
 have g:=Cu a f;exact TK g
theorem HL {p g A:aa}(a:0<ai p)(c:0<ai g)(h:∀j,co A j=pm (co p) (co g) j):ai A=ai p*ai g:=by
 have e:∀j,co A j=((ai p*ai g:Nat):Int)*pm (co (dvL p (ai p))) (co (dvL g (ai g))) j:=λj=>by
  rw[h j,fW,cA,<-oz,<-OL];congr 1
  ·funext i;exact (ka a i).symm
  ·funext i;exact (ka c i).symm
 have n:ai p*ai g∣ai A:=iY _ _ (dg λj=>#v[e j,kr _ _]);exists n,f,k;have o:0<ai p*ai g:=ja a c;have d:f=1:=O9 (uK a) (uK c) f λj=>by
  have m:=dy (P:=λx=>((ai A:Nat):Int)∣x) (gP A) (pI _) j;rw[e j,k,fW _ f]at m;exact Tv () m
 rw[k,d,md]
theorem uL (xs:aa):∃e:Int,(e=1\/e=-1)/\∀j,co (di xs) j=e*co xs j:=by
 unfold di
 split
 ·exact#[-1,.inr rfl,λj=>by rw[AO];omega]
 ·exact#[1,.inl rfl,λj=>by omega]
theorem mD (xs:aa):(di xs).9=xs.9:=by unfold di;split <;> simp
theorem mE {xs:aa}(h:Nml xs)(a:xs≠[]):0<co (di xs) ((di xs).9-1):=by
 have:=dG h a;rw[mD];unfold di
 split
 ·rename_i z;rw[AO];omega
 ·rename_i z;have:¬co xs (xs.9-1)<0:=λy=>z #[a,y];omega
theorem Qy {xs ys:aa}(d:Nml xs)(hy:Nml ys){e:Int}(g:e=1\/e=-1)(h:∀j,co ys j=e*co xs j)(m:ys≠[]->0<co ys (ys.9-1)):ys=di xs:=by
 by_cases hx:xs=[]
 ·have:ys=[]:=oC hy λk=>by rw[h k,hx,fP];simp
  rw[this,hx];rfl
 exists uL xs,f,n,i;have a:ys.9=xs.9:=Nat.le_antisymm (g_ hy λk hk=>by rw[h k,aF hk];simp) (g_ d λk hk=>by
  have:=h k;rw[aF hk]at this;rcases g with rfl|rfl <;> omega)
 have c:ys≠[]:=by intro z;rw[z]at a;exact hx (bD a.symm)
 have o:=m c;have p:=mE d hx;rw[mD,i]at p;rw[a,h]at o;have:e=f:=by rcases g with rfl|rfl <;> rcases n with rfl|rfl <;> first|rfl|omega
 exact AM (by rw[a,mD]) λk _=>by rw[h k,i k,this]
theorem By {xs:aa}(h:Nml xs):Nml (di xs):=by
 by_cases hx:xs=[]
 ·rw[hx];exact cH
 ·have:=mE h hx;exact oO (.inr ())
theorem Qz {p q g A B U W:aa}{m:Int}(np:Nml p)(nq:Nml q)(ng:Nml g)(nA:Nml A)(nB:Nml B)(p0:p≠[])(q0:q≠[])(g0:g≠[])(lA:A.9<=40)(lB:B.9<=40)(lg:g.9<=40)(bA:∀z∈A,Bd 5000 z)(bB:∀z∈B,Bd 5000 z){G:Nat}(bg:∀z∈g,m.8*z.8<=G)(hm:m≠0)(bG:Bd 4480 (G:Int))(hb:∀n,val n U*val n p+val n W*val n q=m)(hA:∀n,val n A=val n p*val n g)(hB:∀n,val n B=val n q*val n g):
  0<ai A/\0<ai B/\A≠[]/\B≠[]/\Two (dvL A (ai A)) (dvL B (ai B)) (di (dvL g (ai g))) G/\
   (di (dvL g (ai g))).map (λz=>((bT (ai A) (ai B):Nat):Int)*z)=di (g.map λz=>((ai (p++q):Nat):Int)*z):=by
 have cp:=hE np p0;have J:=hE nq q0;have f:=hE ng g0;have R:∀j,co A j=pm (co p) (co g) j:=λj=>by rw[<-gJ];exact fJ (λn=>by rw[hA,dH]) j
 have S:∀j,co B j=pm (co q) (co g) j:=λj=>by rw[<-gJ];exact fJ (λn=>by rw[hB,dH]) j
 have T:=HL cp f R;have X:=HL J f S;have k:0<ai A:=by rw[T];exact ja cp f
 have y:0<ai B:=by rw[X];exact ja J f
 have Y:A≠[]:=by intro z;rw[z]at k;simp[ai]at k
 have B0:B≠[]:=by intro z;rw[z]at y;simp[ai]at y
 exists uL (dvL g (ai g)),e,s,M;have Z:e*e=1:=by rcases s with rfl|rfl <;> rfl
 have o:=uJ ng g0;have F:dvL g (ai g)≠[]:=by intro z;have:=ke g (ai g);rw[z]at this;exact g0 (bD this.symm)
 have vu:∀n,val n (di (dvL g (ai g)))=e*val n (dvL g (ai g)):=λn=>by
  rw[<-be];refine f9 (λj=>?_) n;rw[M j];by_cases h:j<(dvL g (ai g)).9
  ·rw[aP (xs:=vY _ _) #v[af,h],aP h,ck]
  ·rw[aF (xs:=vY _ _) (by rw[af];omega),aF (xs:=dvL _ _) ()];simp
 have H:∀{r C:aa},0<ai r->ai C=ai r*ai g->0<ai C->(∀n,val n C=val n r*val n g)->∀n,val n (dvL C (ai C))=val n (dvL r (ai r))*val n (dvL g (ai g)):=λ{r C} O h2 h3 h4 n=>by
  have i:=mC h3 n;rw[h4 n,<-mC O n,<-mC f n]at i;have I:((ai C:Nat):Int)*val n (dvL C (ai C))=((ai C:Nat):Int)*(val n (dvL r (ai r))*val n (dvL g (ai g))):=by
   rw[i]
   conv=>rhs;rw[h2,fW]
   simp only[cA,ku]
  exact lV () I
 have kA:=H cp T k hA;have kB:=H J X y hB;have a:∀{C:aa},0<ai C->(∀z∈C,Bd 5000 z)->∀z∈dvL C (ai C),Bd 5000 z:=λ{C} O h2=>dg λj=>by
  have i:=ka O j;have I:Bd 5000 (co C j):=dy h2 (Bd.zero _) j;have a3:(co C j).8=ai C*(co (dvL C (ai C)) j).8:=by rw[<-i,cc,dE]
  have a4:(co (dvL C (ai C)) j).8<=ai C*(co (dvL C (ai C)) j).8:=h_ _ O;exact cx (show (co (dvL C (ai C)) j).8<=(co C j).8 by omega) I
 refine⟨k,y,Y,B0,⟨uJ nA Y,uJ nB B0,by intro z;have:=ke A (ai A);rw[z]at this;exact Y (bD this.symm),by intro z;have:=ke B (ai B);rw[z]at this;exact B0 (bD this.symm),
  by rw[ke];exact lA,#v[ke,lB],a k bA,a y bB,?_,By o,#v[mD,ke,lg],mE o F,bG,?_,?_,?_⟩,?_⟩
 ·intro d hd;refine uK f d λj=>?_;have:=hd j;rw[M j]at this;rcases s with rfl|rfl
  ·rwa [eE]at this
  ·rw[Int.neg_mul,eE]at this;exact Int.dvd_neg.mp this
 ·refine#[(dvL p (ai p)).map λx=>e*x,iU.mpr λn=>?_];rw[kA n,vu n,be];generalize val n (dvL p (ai p))=u;generalize val n (dvL g (ai g))=v
  calc u*v=(e*e)*(u*v):=by rw[Z,eE]
   _=e*v*(e*u):=by simp only[cA,cT,ku]
 ·refine#[(dvL q (ai q)).map λx=>e*x,iU.mpr λn=>?_];rw[kB n,vu n,be];generalize val n (dvL q (ai q))=u;generalize val n (dvL g (ai g))=v
  calc u*v=(e*e)*(u*v):=by rw[Z,eE]
   _=e*v*(e*u):=by simp only[cA,cT,ku]
 ·refine#[U.map λx=>((ai p:Nat):Int)*x,W.map λx=>((ai q:Nat):Int)*x,m*e,?_,?_,λn=>?_]
  ·rcases s with rfl|rfl <;> omega
  ·refine dg λj=>?_;have i:(m*e).8=m.8:=by rcases s with rfl|rfl <;> omega
   have I:(co (di (dvL g (ai g))) j).8=(co (dvL g (ai g)) j).8:=by rw[M j];rcases s with rfl|rfl <;> omega
   have a3:=ka f j;have a4:m.8*(co g j).8<=G:=dy (P:=λz=>m.8*z.8<=G) bg (by simp) j;have a5:(co g j).8=ai g*(co (dvL g (ai g)) j).8:=by rw[<-a3,cc,dE]
   have a6:(co (dvL g (ai g)) j).8<=ai g*(co (dvL g (ai g)) j).8:=h_ _ f;rw[i,I];exact aQ (d_ _ ()) a4
  ·have i:=hb n;rw[<-mC cp n,<-mC J n]at i;rw[be,be,kA n,kB n,vu n,<-i];generalize val n (dvL p (ai p))=u;generalize val n (dvL q (ai q))=u';generalize val n (dvL g (ai g))=v;generalize ((ai p:Nat):Int)=c1;generalize ((ai q:Nat):Int)=c2
   calc c1*val n U*(u*v)+c2*val n W*(u'*v)=(val n U*(c1*u)+val n W*(c2*u'))*v:=by rw[vQ];simp only[cA,cT,ku]
    _=(val n U*(c1*u)+val n W*(c2*u'))*((e*e)*v):=by rw[Z,eE]
    _=_:=by simp only[cA]
 ·have ec:bT (ai A) (ai B)=ai (p++q)*ai g:=by
   rw[T,X,Nat.gcd_mul_right];congr 1;refine Lt (iY _ _ λx hx=>?_) (v_ (iY _ _ λx hx=>gP _ x (by simp[hx])) (iY _ _ λx hx=>gP _ x (by simp[hx])));rcases a8.mp hx with z|z
   ·exact fV (iw.mpr (kq _ _)) (gP p x z)
   ·exact fV (iw.mpr (lJ _ _)) (gP q x z)
  have y0:0<ai (p++q):=mY λz=>by
   rw[z]at ec;have:0<bT (ai A) (ai B):=TL _ k;omega
  have Q:∀(c:Int)(xs:aa) j,co (xs.map λz=>c*z) j=c*co xs j:=λc xs j=>by
   by_cases h:j<xs.9
   ·rw[aP #v[af,h],aP h,ck]
   ·rw[aF (by rw[af];omega),aF (xs:=xs) ()];simp
  have ut:=mE o F;have x0:0<bT (ai A) (ai B):=TL _ k;have tp:0<co ((di (dvL g (ai g))).map λz=>((bT (ai A) (ai B):Nat):Int)*z) (((di (dvL g (ai g))).map λz=>((bT (ai A) (ai B):Nat):Int)*z).9-1):=by
   rw[af,Q];exact vU () ut
  refine Qy ?_ (oO (.inr ())) s (λj=>?_) (λ_=>tp)
  ·refine oO (.inr ?_);rw[af,Q];exact dO () (dG ng g0)
  ·rw[Q,Q,M,ec,<-ka f j,fW];simp only[cA,cT,ku]
def gu (A B R:aa):Prop:=
 (A=[]/\R=di B)\/(A≠[]/\B=[]/\R=di A)\/
 (A≠[]/\B≠[]/\0<ai A/\0<ai B/\(∀z∈A,Bd 5000 z)/\(∀z∈B,Bd 5000 z)/\∃(g:aa)(G:Nat),Two (dvL A (ai A)) (dvL B (ai B)) g G/\R=g.map λz=>((bT (ai A) (ai B):Nat):Int)*z)
theorem eQ (c:Int)(xs:aa)(j:Nat):co (xs.map λz=>c*z) j=c*co xs j:=by
 by_cases h:j<xs.9
 ·rw[aP #v[af,h],aP h,ck]
 ·rw[aF (by rw[af];omega),aF (xs:=xs) ()];simp
theorem fS (n:Int)(xs:aa):val n (aO xs)=val n xs:=f9 (λk=>cN xs k) n
def pdL (g h:aa):aa:=aO (bK g h)
theorem cw (g h:aa):Nml (pdL g h):=cG _
theorem aK (n:Int)(g h:aa):val n (pdL g h)=val n g*val n h:=by unfold pdL;rw[fS,dH]
theorem HM (g:aa):pdL g []=[]:=cW (cw _ _) cH λn=>by rw[aK];simp[val]
theorem mF (g h:aa)(j:Nat):co (pdL g h) j=pm (co g) (co h) j:=by unfold pdL;rw[cN,gJ]
theorem gd {g h:aa}(ng:Nml g)(c:Nml h)(g0:g≠[])(d:h≠[]):pdL g h≠[]:=λz=>by
 have:=mF g h (h.9-1+(g.9-1));rw[z,fP,kQ (λj a=>il j a) (λj a=>il j a)]at this;exact dO (dG ng g0) (dG c d) this.symm
theorem oU {g h:aa}(ng:Nml g)(a:Nml h):(pdL g h).9<=g.9+h.9-1:=kY ng a (cw _ _) (mF g h)
theorem HN {g h:aa}{M N:Nat}(a:∀z∈g,z.8<=M)(c:∀z∈h,z.8<=N):∀z∈pdL g h,z.8<=g.9*(M*N):=dg λj=>by
 unfold pdL;rw[cN];exact Bl c g a j
theorem HP (xs:aa):∃e:Int,(e=1\/e=-1)/\∀n,val n (di xs)=e*val n xs:=by
 exists uL xs,e,a,c;exact#[e,a,λn=>by rw[<-be];exact f9 (λj=>by rw[c j,eQ]) n]
theorem HQ {xs:aa}(h:xs≠[]):di xs≠[]:=λz=>h (bD (by rw[<-mD,z];rfl))
theorem QB {K:ao}{H:Hp}{pa pb:Addr}{A B R:aa}{Q:VK}{E:XK}(a:SqL K H pa (A.map V'))(c:SqL K H pb (B.map V'))(la:A.9<=1000)(lb:B.9<=1000)(h:gu A B R)(q:eI H Q (R.map V')):HK K [.ref pa,.ref pb] H Q E:=by
 refine#[pa,pb,A,B,rfl,a,c,la,lb,?_];rcases h with ⟨z,rfl⟩|⟨d,e,rfl⟩|⟨f,B0,i,j,b1,b2,g,G,k,rfl⟩
 ·exact .inl #[z,q]
 ·exact .inr (.inl #[d,e,q])
 ·exact .inr (.inr #[f,B0,i,j,b1,b2,g,G,k,q])
def QC (K:ao):Sp:=λvs H Q _=>∃(R:Addr)(as:am)(rows:ac)(f:Nat->aa),vs=[.ref R]/\SqL K H R (as.map Z')/\LL K H as rows/\rows.9<=1000/\(∀r∈rows,r.9<=1000)/\(∀i,(f i).9<=1000)/\
 f 0=[]/\(∀i r,rows[i]?=Zz r->gu (f i) r (f (i+1)))/\eI H Q ((f rows.9).map V')
theorem HR:FnOk P w K mg base CX0 6 T.Ut.ax T.Ut.dx ["polys"] (QC K):=by
 refine T.Ut.Fx.ok ur (λC H Q E h=>?_) (λF A outer s H C Q E G h=>?_)
 ·exists h,R,as,rows,f,rfl,_;rfl
 exists h,R,as,rows,f,rfl,o,p,lr,br,I,J,fs,q;refine#[_,s!"ˁĲˇ̭ɗ+Ĳȼ̔ĲɧǒɁŰ ǓǔǕʯʏɅɈ",?_]
 w_up
 refine#[aU _,λM u=>?_];have x:=aB u (.lst [])
 w_up
 refine#[#[_,x.seq o],?_];obtain⟨k,c⟩:∃k:Nat->L2.St->Hp->Prop,∀i σ d,k i σ d↔∃(X:Addr)(m:Option V),σ=[Zz (Z' R),Zz (Z' X),m]/\d X=Zz (.lst ((f i).map V'))/\H X=Zy/\Same H d:=#[_,λ_ _ _=>Iff.rfl]
 refine jQ (xs:=as.map Z') k ((c _ _ _).mpr #[M,_,rfl,by rw[ak,J];rfl,u,x]) (λi σ d _ z=>by exists (c i σ d).mp z,_,_,_,_,_,z;exact z.seq o) ?_ ?_
 ·intro i v σ d O n;exists (c _ _ _).mp n,X,m,rfl,j,y,e;obtain⟨a,r,rfl,ha,g,S⟩:=p.nth O
  w_left;k_units
  exact QB (Zw j) (e.seq S) (I i) (br r (b4 g)) (fs i r g) λY H2 U Z eY=>(c _ _ _).mpr #[Y,_,rfl,eY,e.free Z,e.trans U]
 ·intro σ d n;obtain⟨X,m,rfl,j,y,e⟩:=(c _ _ _).mp n
  w_left;k_units
  rw[af,p.len]at j;exact q X _ e y j
def gv (b:Bool)(R:aa):aa:=if b then R.map (λz=>-z) else R
def QD (K:ao):Sp:=λvs H Q _=>∃(A:Addr)(as:am)(ps:ac)(f:Nat->aa)(qs:ac)(p0:aa)(t:Int),vs=[.ref A]/\SqL K H A (as.map Z')/\LL K H as ps/\ps.9<=60/\(∀p∈ps,p.9<=64/\Nml p/\∀c∈p,Bd 5000 c)/\(∀i,(f i).9<=64)/\f 0=[]/\(∀i r,ps[i]?=Zz r->gu (f i) r (f (i+1)))/\
 ps.getLast?=Zz (p0++[t])/\f ps.9≠[]/\Nml (f ps.9)/\(∀c∈f ps.9,Bd 8000 c)/\qs.9=ps.9/\(∀(i:Nat)(p q:aa),ps[i]?=Zz p->qs[i]?=Zz q->Nml q/\Div p (gv (decide (t<0)) (f ps.9)) q)/\
 ∀(D:Addr)(bs:am)(H':Hp),Same H H'->H D=Zy->H' D=Zz (.lst (bs.map Z'))->LH H' bs qs->(∀b∈bs,H b=Zy)->D∉bs->Q (.ref D) H'
theorem QE {R:aa}(h:Nml R):Nml (R.map λz=>-z):=eK.mpr λx hx=>by
 rw[wh]at hx;exists de.mp hx,y,hy,rfl;have:=eK.mp h y hy;omega
theorem QF:FnOk P w K mg base CX0 7 T.US.ax T.US.dx ["polys"] (QD K):=by
 refine T.US.Fx.ok Bc (λvs H Q E h=>?_) (λz0 A outer s H vs Q E hr h=>?_)
 ·exists h,A,as,ps,f,J,p0,t,rfl,_;rfl
 exists h,A,as,ps,f,J,p0,t,rfl,O,hL,u0,bp,bf,f0,fs,hl,fn,nf,x,lq,hq,x0;refine#[_,s!"ˁűʇɃŲɐųŴŵː˿xɊ˞̯̔űʇʳ˭ɜȿʒˋ,ıʫȿʉÿɐĀāĂ˵",?_]
 have la:=hL.len
 w_up
 refine#[A,as,ps,f,rfl,O,hL,(),λr hr=>by have:=(bp r hr).1;omega,λi=>by have:=bf i;omega,f0,fs,λS H1 s1 nS eS=>?_];generalize hR:f ps.9=R at fn nf x hq eS;have lR:R.9<=64:=by rw[<-hR];exact bf _
 obtain⟨M,hM⟩:∃M:L2.St->Hp->Prop,∀σ H',M σ H'↔∃S':Addr,σ=[Zz (Z' A),Zz (Z' S')]/\H' S'=Zz (.lst ((gv (decide (t<0)) R).map V'))/\Same H H':=#[_,λ_ _=>Iff.rfl]
 w_left;refine gq M ?_ ?_
 ·w_left;k_units
  exists pL.mp hl,y0,rfl;obtain⟨k,a,rfl⟩:∃k a,as=k++[a]:=by
   cases z:as.getLast? with
   | none=>rw[vZ]at z;rw[z]at la;simp at la
   | some a=>exact#[_,a,(pL.mp z).choose_spec]
  have l1:k.9=y0.9:=by simpa using la
  have m:SqL K H a ((p0++[t]).map V'):=hL.get k.9 a _ (by simp) (by rw[l1];simp);have e1:(k++[a]).map Z'=k.map Z'++[Z' a]:=by rw[aR];rfl
  have e2:(p0++[t]).map V'=p0.map V'++[V' t]:=by rw[aR];rfl
  rw[e1]at O;rw[e2]at m;refine#[_,s1.seq O,_,Fn _ _,a,rfl,_,s1.seq m,_,Fn _ _,t,rfl,bU (λz=>#[#[_,Zw eS],λD F=>?_]) (λz=>(hM _ _).mpr #[S,rfl,?_,s1])]
  ·obtain⟨C,e⟩:∃C:cB,∀j g,C j g↔g D=Zz (.lst (((R.map λz=>-z).take j).map V'))/\Same H1 g:=#[_,λ_ _=>Iff.rfl]
   refine ff (xs:=R.map V') C ((e _ _).mpr #[ak,aB F _]) (λi g _ y=>by exists (e i g).mp y,_,y;exact Zw (y _ _ eS)) ?_ ?_
   ·intro j v g hv o;exists (e _ _).mp o,u,n;rw[aI]at hv;exists de.mp hv,c,U,rfl;have hj:=(aZ.mp U).1
    w_left;simp![bst,eG]
    refine#[_,u,?_,(e _ _).mpr #[?_,n.more F]]
    ·rw[af,bV];exact bO ()
    ·rw[ak,cY,aI,U,aR];rfl
   intro g o;exists (e _ _).mp o,u,n;rw[af,gS #v[af,aA _]]at u;refine (hM _ _).mpr #[D,rfl,?_,s1.trans n];rw[u];unfold gv;rw[if_pos (⇑z)]
  ·rw[eS];unfold gv;rw[if_neg (⇑z)]
 intro σ H2 hm;obtain⟨S',rfl,X,G⟩:=(hM _ _).mp hm
 w_up
 have nR:Nml (gv (decide (t<0)) R)/\gv (decide (t<0)) R≠[]/\(gv (decide (t<0)) R).9<=64/\∀c∈gv (decide (t<0)) R,Bd 8000 c:=by
  unfold gv
  split
  ·refine#[QE nf,λz=>fn (lI.mp z),#v[af,lR],λc o=>?_];exists bC.mp o,d,hd,rfl;exact (x d hd).neg
  ·exact#[nf,fn,lR,x]
 generalize gv (decide (t<0)) R=R' at nR hq X;exists nR,n1,n2,n3,n4;refine#[#[_,G.seq O],λD F=>?_];obtain⟨C,e⟩:∃C:cB,∀j g,C j g↔∃bs:am,g D=Zz (.lst (bs.map Z'))/\LH g bs (J.take j)/\D∉bs/\Same H2 g/\∀b∈bs,H2 b=Zy:=#[_,λ_ _=>Iff.rfl]
 refine ff (xs:=as.map Z') C ((e _ _).mpr #[[],ak,LH.nil _,by simp,aB F _,by simp]) (λi g _ y=>by exists (e i g).mp y,_,_,_,_,y,_;exact (G.trans y).seq O) ?_ ?_
 ·intro j v g hv o;exists (e _ _).mp o,bs,u,n,k3,I,k5;exists hL.nth hv,a,p,rfl,ha,hp,sq;have hj:j<ps.9:=(aZ.mp hp).1;exists bp p (b4 hp),b1,b2,b3;have Y:J[j]?=Zz J[j]:=aq ();obtain⟨d1,d2⟩:=hq j p _ hp Y
  w_left;simp![bst,eG]
  refine#[a,S',p,R',5000,8000,rfl,(G.trans I).seq sq,Zw (I _ _ X),b1,n3,b2,n1,b3,n4,(),(),.inr #[n2,.inl #[J[j],d1,d2,λr Hy s3 nr er=>?_]]];have lb:=n.len;rw[bV]at lb;have ne:r≠D:=λz=>by rw[z,u]at nr;cases nr
  refine#[_,s3 _ _ u,#v[af,bO ()],(e _ _).mpr #[bs++[r],by rw[ak,aR];rfl,?_,by simp[k3];exact λz=>ne z.symm,(I.trans s3).more F,λb Z=>?_]]
  rotate_left
  ·rcases a8.mp Z with h|h
   ·exact k5 b h
   ·rw[bj.mp h];exact I.free nr
  rw[cY,Y];refine LH.snoc #[n.len,λi b q e1 e2=>?_] #v[aE ne,er];have Z:b≠D:=λz=>k3 #v[<-z,b4 e1];rw[aE Z];exact s3 _ _ (n.get i b q e1 e2)
 intro g o;exists (e _ _).mp o,bs,u,n,k3,I,k5;rw[af,la,gS ()]at n;exact x0 D bs g (G.trans I) (G.free F) u n (λb Z=>G.free (k5 b Z)) k3
def jy (w:Nat)(Vy:au)(cs:ay)(p:Int)(n:Nat):Bool:=(aM n).all λi=>co (fY w Vy cs p i) (cs.getD i 0) != 0
theorem uM {w:Nat}{Vy:au}{cs:ay}{p:Int}{n:Nat}:jy w Vy cs p n=true↔Piv w Vy cs p n:=by
 unfold jy Piv;rw[List.all_eq_true];constructor
 ·intro h i hi;have:=h i (dj.mpr hi)
  simpa using this
 ·intro h i hi
  simpa using h i (dj.mp hi)
def plc (w:Nat)(Vy:au)(cs:ay)(t:Nat):aa:=((aM t).filter λp:Nat=>jy w Vy cs (p:Int) Vy.9).map λp:Nat=>(p:Int)
theorem oV {w:Nat}{Vy:au}{cs:ay}{t:Nat}(h:Piv w Vy cs (t:Int) Vy.9):plc w Vy cs (t+1)=plc w Vy cs t++[(t:Int)]:=by
 unfold plc;rw[fZ,Lv,aR];simp[uM.mpr h]
theorem oW {w:Nat}{Vy:au}{cs:ay}{t:Nat}(h:¬Piv w Vy cs (t:Int) Vy.9):plc w Vy cs (t+1)=plc w Vy cs t:=by
 have a:jy w Vy cs (t:Int) Vy.9=false:=by
  cases e:jy w Vy cs (t:Int) Vy.9 with
  | false=>rfl
  | true=>exact absurd (uM.mp e) h
 unfold plc;rw[fZ,Lv,aR];simp[a]
theorem HS {w:Nat}{Vy:au}{cs:ay}{t:Nat}{p:Int}(h:p∈plc w Vy cs t):∃n:Nat,p=(n:Int)/\n<t/\Piv w Vy cs p Vy.9:=by
 unfold plc at h;exists bC.mp h,n,a,rfl;exists lE.mp a,c,d;exact#[n,rfl,dj.mp c,uM.mp d]
theorem HU {w:Nat}{Vy:au}{cs:ay}:∀t,(plc w Vy cs t).9<=t
 | 0=>aA _
 | t+1=>by
  have a:=HU (w:=w) (Vy:=Vy) (cs:=cs) t;by_cases hp:Piv w Vy cs (t:Int) Vy.9
  ·rw[oV hp,b8];simp;omega
  ·rw[oW hp];omega
theorem QG {w:Nat}{Vy:au}{cs:ay}{t:Nat}:(plc w Vy cs (t+1)).9<=(plc w Vy cs t).9+1:=by
 by_cases hp:Piv w Vy cs (t:Int) Vy.9
 ·rw[oV hp,b8];exact aA _
 ·rw[oW hp];omega
theorem HV (w:Nat)(Vy:au)(cs:ay):∀t,(plc w Vy cs t).Nodup
 | 0=>l_
 | t+1=>by
  have c:=HV w Vy cs t;by_cases hp:Piv w Vy cs (t:Int) Vy.9
  ·rw[oV hp,jE];refine#[c,by simp,λa d b e=>?_];rw[bj.mp e];exists HS d,n,rfl,f,_;omega
  ·rw[oW hp];exact c
structure OcOk (w:Nat)(Vy:au)(cs:ay)(q:ac)(gs:ac)(Pn:Nat):Prop where
 k19:Vy.9<=19
 kw:Vy.9<=w
 wid:∀v∈Vy++[q],v.9=w
 col:∀c∈cs,c<w
 cl:cs.9<=19
 len:gs.9=Vy.9+1
 P7:Pn<=700
 tb:∀p:Nat,p<Pn->TBd w Vy cs (p:Int)
 lo:∀p:Nat,p<Pn->Piv w Vy cs (p:Int) Vy.9->LowOk (cC w q Vy.9 (p:Int)) (dS w Vy cs (p:Int) Vy.9) cs
 vq:q.9<=20/\∀f∈q,f.9<=60/\∀c∈f,Bd 1000 c
 mrk:∀p:Nat,p<Pn->Piv w Vy cs (p:Int) Vy.9->∀(i:Nat)(g:aa),gs[i]?=Zz g->co (dZ w Vy cs q (p:Int)) (w+i)=val (p:Int) g
 ng:∀g∈gs,Nml g/\∀p:Nat,p<Pn->Bd 10000 (val (p:Int) g)
def oX (qs:au)(cs:ay)(N:Int):Prop:=∃(bv bc:aa)(m:Int),bv.9=qs.9/\bc.9=cs.9/\(∀(i:Nat)(b:Int)(q:ac),bv[i]?=Zz b->qs[i]?=Zz q->iW (iF q cs) b)/\(∀(i:Nat)(b:Int)(c:Nat),bc[i]?=Zz b->cs[i]?=Zz c->iW (iG qs c) b)/\m∈bv/\(∀b∈bv,m<=b)/\N=(if bc.sum<bv.sum-m then bc.sum else bv.sum-m)
def QH {K:ao}{mg:bH}(T:Tx K mg):Sp:=λvs H Q _=>∃(x dx Kp Cl Tb Vc:Addr)(us:am)(kvs:List (Key×V))(M:am)(w:Nat)(Vy:au)(cs:ay)(pl:Int)(q gs:ac)(Pn:Nat)(f:Nat->aa)(qs:ac)(p0:aa)(t0:Int),vs=[.ref x,.ref Vc]/\Spn T H x dx Kp Cl Tb us kvs M w Vy cs pl/\VecAt H M Vc q/\OcOk w Vy cs q gs Pn/\kvs.9+Pn<=900/\(∀N,oX (Vy++[q]) cs N->0<=N/\N<60/\(∀g∈gs,(g.9:Int)<=N+1)/\N<((plc w Vy cs Pn).9:Int))/\
 ((∀p∈gs,p.9<=64/\Nml p/\∀c∈p,Bd 5000 c)/\(∀i,(f i).9<=64)/\f 0=[]/\(∀i r,gs[i]?=Zz r->gu (f i) r (f (i+1)))/\gs.getLast?=Zz (p0++[t0])/\f gs.9≠[]/\Nml (f gs.9)/\(∀c∈f gs.9,Bd 8000 c)/\qs.9=gs.9/\(∀(i:Nat)(p q:aa),gs[i]?=Zz p->qs[i]?=Zz q->Nml q/\Div p (gv (decide (t0<0)) (f gs.9)) q))/\
 ∀(H':Hp)(kvs':List (Key×V))(M':am)(D:Addr)(bs:am),Spn T H' x dx Kp Cl Tb us kvs' M' w Vy cs pl->KX M H H'->(∀a∈M,a∈M')->(∀a∈M',a∈M\/H a=Zy)->kvs'.9<=kvs.9+Pn->D∉M'->H D=Zy->H' D=Zz (.lst (bs.map Z'))->LH H' bs qs->(∀b∈bs,b∉M'/\H b=Zy)->D∉bs->Q (.ref D) H'
theorem QI (bs:aa)(k:Nat):fG (bs.map V') (Zz (k:Int)) Zy=(bs.drop k).map V':=by
 unfold fG;rw[HT.sIx_nat,HT.sIx_none,af,<-Lb,gS (by rw[af,pu];omega)];congr 1;by_cases z:k<=bs.9
 ·rw[Nat.min_eq_left z]
 ·rw[Nat.min_eq_right (),TM (aA _),TM ()]
theorem KW.trans {x f g i:Addr}{d c:List (Key×V)}{H j m:Hp}(k:KW x f g i d H j)(tk:∀e∈c,e∈d\/∀a,e.2=Z' a->H a=Zy)(C:KW x f g i c j m):KW x f g i d H m:=λy o n p r s u e=>by
 refine C y o n p r s (λv F z=>?_) (k y o n p r s u e);rcases tk v F with h|h
 ·exact u v h z
 ·rw[h y z]at e;cases e
theorem QJ {M M1:am}{f c d:List (Key×V)}{H g:Hp}(kx:KX M H g)(ms:∀a∈M,a∈M1)(al:∀a∈M1,∃o,g a=Zz o)(tk:∀e∈c,e∈f\/∀a,e.2=Z' a->H a=Zy)(i:∀e∈d,e∈c\/∀a,e.2=Z' a->g a=Zy):∀e∈d,e∈f\/∀a,e.2=Z' a->H a=Zy:=λe n=>by
 rcases i e n with h|h
 ·exact tk e h
 ·refine .inr λa p=>?_;have j:=h a p
  cases z:H a with
  | none=>rfl
  | some o=>
   by_cases m:a∈M
   ·exists al a (ms a m),r,k;rw[j]at k;cases k
   ·rw[kx a o m z]at j;cases j
theorem QK:FnOk P w K mg base CX0 8 T.U5.ax T.U5.dx ["self","vector"] (QH T):=by
 refine T.U5.Fx.ok kW (λvs H Q E h=>?_) (λu9 A outer s H vs Q E hr h=>?_)
 ·exists h,x,dx,Kp,Cl,Tb,Z,us,X,M,w,Vy,cs,pl,q,gs,Pn,f,qs,p0,t0,rfl,_;rfl
 exists h,x,dx,Kp,Cl,Tb,Z,us,X,M,w,Vy,cs,pl,q,gs,Pn,f,qs,p0,t0,rfl,S,hV,O,l9,hN,hC,u7;refine#[_,s!"ɰÍ˳%ɃǖɐǗǘǙȾɒ°ɴIɹʬɿÍʇɺʑÍʇɺˆÍʞ˛xɔ4$ɉɆʨÍȼʮŶ0ŷɋŸʯ̕˿âɱˌ˶ɓ̪̕ɘ#̛ɱÖɴÕ$G/Ē)@Íʞí˓ǚɐǛǜǝɥǞ Ģɪʀ4ǟɷ]9Ǡ̡ʈ̧ʌʉǡɐǢǣǤʯ#ˋ(Ĝ˙ģɶɉK̤˗ɂ̬",?_]
 have lk:=S.lk;have k19:=O.k19;have lq:(Vy++[q]).9=Vy.9+1:=by simp
 have z4:=kZ (Φ:=λu qv=>VecAt H M u qv) (L:=Vy++[q]) (rs:=us) (r:=Z) (λt u qv e1 e2=>by
  have ht:t<Vy.9:=by have:=(aZ.mp e1).1;omega
  rw[cE ht]at e2;exact S.vec t u qv e1 e2) (λqv e2=>by
  rw[cQ (),show us.9-Vy.9=0 by omega]at e2
  cases Zv e2
  exact hV)
 w_up
 refine#[_,_,_,S.hx,T.T5,T.Ul,_,rfl,(),λq1 m1=>?_];have u1:=aB m1 (.lst [Z' Z]);refine#[Kp,rfl,_,u1 _ _ S.hK,_,ak,?_,λq2 m2=>?_]
 ·rw[af];exact dz (bO (by simp;omega))
 have u2:=aB m2 (.lst (us.map Z'++[Z' Z]));have e2:=ak (H:=Zx H q1 (.lst [Z' Z])) (a:=q2) (o:=.lst (us.map Z'++[Z' Z]));have s2:=u1.trans u2;generalize Zx (Zx H q1 (.lst [Z' Z])) q2 (.lst (us.map Z'++[Z' Z]))=H3 at e2 s2 ⊢;clear u1 u2 m1 m2;have u4:H3 q2=Zz (.lst ((us++[Z]).map Z')):=by rw[e2,aR];rfl
 have S3:=S.same s2;have vl:VL K H3 (us++[Z]) (Vy++[q]):=⟨by simp[lk],λi v qv e1 e3=>by
  exists z4 i v qv e1 e3,as,v1,v2,_;exact#[as,Zw (s2 _ _ v1),(v2.same s2).ll]⟩
 refine#[_,_,_,S3.hx,T.T5,T.UG,_,rfl,q2,Cl,us++[Z],Vy++[q],cs,rfl,Zw u4,vl,Zw S3.hC,by simp,by rw[lq];omega,by have:=O.cl;omega,λv hv c hc=>#v[O.wid v hv,O.col c hc],λbv bc m N H4 s4 d1 d2 d3 d4 d5 d6 d7=>?_];exists hN N #[bv,bc,m,d1,d2,d3,d4,d5,d6,d7],N0,N6,gN,pN;obtain⟨Nn,rfl⟩:∃Nn:Nat,N=(Nn:Int):=#[N.toNat,()]
 clear d1 d2 d3 d4 d5 d6 d7 bv bc m;have n0:=s2.trans s4;have S4:=S.same n0;clear S3 vl u4 e2 s2 s4;refine#[_,rfl,?_]
 w_up
 refine#[aU _,λk x1=>?_];have S5:=S4.more (o:=.lst []) x1;have u5:=aB x1 (.lst []);have e5:=ak (H:=H4) (a:=k) (o:=.lst []);generalize Zx H4 k (.lst [])=H5 at S5 u5 e5 ⊢
 w_up
 refine#[aU _,λMk Y=>?_];have S6:=S5.more (o:=.lst []) Y;have u6:=aB Y (.lst []);have e6:=ak (H:=H5) (a:=Mk) (o:=.lst []);have f6:=u6 _ _ e5;have v4:k≠Mk:=λz=>by rw[<-z,e5]at Y;cases Y
 generalize Zx H5 Mk (.lst [])=H6 at S6 u6 e6 f6 ⊢;have j4:=n0.trans (u5.trans u6);have C:=n0.free x1;have F:=n0.free (u5.free Y);have m4:∀a∈Mk :: k :: M,a∈M\/H a=Zy:=λa ha=>by
  rcases bN.mp ha with z|ha
  ·exact .inr #v[z,F]
  ·rcases bN.mp ha with z|z
   ·exact .inr #v[z,C]
   ·exact .inl z
 have V6:=(hV.more m4).same j4;have nk:∀e∈X,e.2≠Z' k/\e.2≠Z' Mk:=λe he=>by
  exists S.tab e he,p,ta,n,rs,h1,h2,h3,_;refine#[λz=>?_,λz=>?_]
  ·rw[h1]at z;injection z with z;rw[z,C]at h3;cases h3
  ·rw[h1]at z;injection z with z;rw[z,F]at h3;cases h3
 have dP:k≠x/\k≠Kp/\k≠Cl/\k≠Tb:=#[(λz=>by rw[z,S.hx]at C;cases C),(λz=>by rw[z,S.hK]at C;cases C),(λz=>by rw[z,S.hC]at C;cases C),(λz=>by rw[z,S.hT]at C;cases C)]
 have dM:Mk≠x/\Mk≠Kp/\Mk≠Cl/\Mk≠Tb:=#[(λz=>by rw[z,S.hx]at F;cases F),(λz=>by rw[z,S.hK]at F;cases F),(λz=>by rw[z,S.hC]at F;cases F),(λz=>by rw[z,S.hT]at F;cases F)]
 clear S4 S5 u5 u6 e5 x1 Y
 w_up
 w_up
 obtain⟨J,hJ⟩:∃J:Nat->L2.St->Hp->Prop,∀m σ U,J m σ U↔∃(t:Nat)(G:List (Key×V))(M':am)(r6:Option V)(I:am),σ=[Zz (Z' x),Zz (Z' Z),Zz (V' (1+(Nn:Int))),Zz (Z' k),Zz (Z' Mk),Zz (V' (t:Int)),r6]/\Spn T U x dx Kp Cl Tb us G M' w Vy cs pl/\VecAt U M' Z q/\U k=Zz (.lst ((plc w Vy cs t).map V'))/\U Mk=Zz (.lst (I.map Z'))/\LH U I ((plc w Vy cs t).map λp=>(dZ w Vy cs q p).drop w)/\(∀a∈I,a∉M')/\k∈M'/\Mk∈M'/\KW x Kp Cl Tb X H U/\(∀a∈M,a∈M')/\(∀a∈M',a∈M\/H a=Zy)/\(∀e∈G,e.2≠Z' k/\e.2≠Z' Mk)/\(∀e∈G,e∈X\/∀a,e.2=Z' a->H a=Zy)/\G.9<=X.9+t/\t<=Pn/\(plc w Vy cs t).9<=Nn+1/\m=Pn-t:=#[_,λ_ _ _=>Iff.rfl]
 refine ig J Pn ((hJ _ _ _).mpr #[0,X,Mk :: k :: M,Zy,[],rfl,S6,V6,f6,e6,LH.nil _,λa ha=>by simp at ha,.tail _ (.head _),.head _,λy o _ _ _ _ _ e=>j4 _ _ e,λa h=>.tail _ (.tail _ h),m4,nk,λ_ h=>.inl h,(),aU _,aU _,rfl]) ?_;intro m σ H7 hm;obtain⟨t,G,M',r6,I,rfl,S7,V7,eP,eM,z0,Y,mP,mM,kw,ms,mf,nt,tk,v9,tP,v7,rfl⟩:=(hJ _ _ _).mp hm
 w_left;k_units
 refine#[_,.inl (Zw eP),?_];rw[af];refine bU (λz=>?_) (λz=>?_)
 ·have ht:t<Pn:=by
   rcases Ls t Pn with h|h
   ·exact h
   ·rw[show t=Pn by omega]at z;omega
  refine#[J (Pn-(t+1)),λj9 U z=>#[_,(),z],dx,_,S7.hx,rfl,x,dx,Kp,Cl,Tb,Z,us,G,M',w,Vy,cs,pl,(t:Int),q,rfl,S7,O.tb t ht,(),(),V7,O.vq.1,O.vq.2,O.lo t ht,λH8 j0 M8 S8 y1 v0 z2 l8 n4=>?_];have x5:=S7.kx y1;have y5:KX M8 H7 H8:=λy o ny e=>x5 y o (λz=>ny (v0 y z)) e;have V8:=(V7.more z2).kx y5;have g9:=nt;have j2:=y1 k _ dP.1 dP.2.1 dP.2.2.1 dP.2.2.2 (λe he=>(nt e he).1) eP;have z5:=y1 Mk _ dM.1 dM.2.1 dM.2.2.1 dM.2.2.2 (λe he=>(nt e he).2) eM;have x2:=z0.kx x5 Y;have u0:∀a∈I,a∉M8:=λa ha z=>by
   rcases z2 a z with h|h
   ·exact Y a ha h
   ·exists cU.mp ha,i,hi,rfl;have:=z0.get i _ _ (aq hi) (aq #v[<-z0.len,hi]);rw[h]at this;cases this
  have x3:∀e∈j0,e.2≠Z' k/\e.2≠Z' Mk:=λe he=>by
   rcases n4 e he with h|h
   ·exact nt e h
   ·refine#[λz=>?_,λz=>?_]
    ·have y:=h k z;rw[eP]at y;cases y
    ·have y:=h Mk z;rw[eM]at y;cases y
  have v5:=kw.trans tk y1;have j7:=QJ (S.kx kw) ms S7.al tk n4;have k7:=k_ (S.kx kw) mf z2;have m7:∀a∈M,a∈M8:=λa h=>v0 a (ms a h);obtain⟨Mx,y3⟩:∃Mx:L2.St->Hp->Prop,∀σ U,Mx σ U↔∃(r6:Option V)(x0:am),σ=[Zz (Z' x),Zz (Z' Z),Zz (V' (1+(Nn:Int))),Zz (Z' k),Zz (Z' Mk),Zz (V' (t:Int)),r6]/\Spn T U x dx Kp Cl Tb us j0 M8 w Vy cs pl/\VecAt U M8 Z q/\U k=Zz (.lst ((plc w Vy cs (t+1)).map V'))/\U Mk=Zz (.lst (x0.map Z'))/\LH U x0 ((plc w Vy cs (t+1)).map λp=>(dZ w Vy cs q p).drop w)/\(∀a∈x0,a∉M8)/\KW x Kp Cl Tb X H U:=#[_,λ_ _=>Iff.rfl]
  have y2:∀σ U,Mx σ U->∃r6:Option V,σ=[Zz (Z' x),Zz (Z' Z),Zz (V' (1+(Nn:Int))),Zz (Z' k),Zz (Z' Mk),Zz (V' (t:Int)),r6]/\J (Pn-(t+1)) [Zz (Z' x),Zz (Z' Z),Zz (V' (1+(Nn:Int))),Zz (Z' k),Zz (Z' Mk),Zz (V' ((t:Int)+1)),r6] U:=λσ U h=>by
   exists (y3 _ _).mp h,r6,x0,rfl,g1,g2,g3,g4,g5,g6,g7;exact#[r6,rfl,(hJ _ _ _).mpr #[t+1,j0,M8,r6,x0,rfl,g1,g2,g3,g4,g5,g6,v0 _ mP,v0 _ mM,g7,m7,k7,x3,j7,(),(),by have:=QG (w:=w) (Vy:=Vy) (cs:=cs) (t:=t);omega,rfl]]
  refine#[λR nR eR pv=>?_,λnp=>?_]
  ·w_left;refine gq Mx ?_ ?_
   ·w_left;k_units
    rw[if_pos (λz=>nomatch z)];have z3:=v0 _ mP;have u3:=v0 _ mM;have dR:R≠k:=λz=>nR #v[z,z3];have m9:=HU (w:=w) (Vy:=Vy) (cs:=cs) t;have P7:=O.P7;have S9:=S8.other (o:=.lst ((plc w Vy cs t).map V'++[V' (t:Int)])) z3 dP.1 dP.2.1 dP.2.2.1 dP.2.2.2 λe he=>(x3 e he).1;have k9:KX M8 H8 (Zx H8 k (.lst ((plc w Vy cs t).map V'++[V' (t:Int)]))):=λy o ny e=>by
     have d:y≠k:=λz=>ny #v[z,z3];rw[aE d];exact e
    have j5:=ak (H:=H8) (a:=k) (o:=.lst ((plc w Vy cs t).map V'++[V' (t:Int)]));have v3:=(aE (H:=H8) (o:=.lst ((plc w Vy cs t).map V'++[V' (t:Int)])) (Ne.symm v4)).trans z5;have k5:=(aE (H:=H8) (o:=.lst ((plc w Vy cs t).map V'++[V' (t:Int)])) dR).trans eR;have m5:KW x Kp Cl Tb X H (Zx H8 k (.lst ((plc w Vy cs t).map V'++[V' (t:Int)]))):=λy o a1 a2 a3 a4 a5 e=>by
     have d:y≠k:=λz=>by rw[z,C]at e;cases e
     rw[aE d];exact v5 y o a1 a2 a3 a4 a5 e
    refine#[gn (Zw j2),_,j2,#v[af,bO ()],?_];generalize Zx H8 k (.lst ((plc w Vy cs t).map V'++[V' (t:Int)]))=H9 at S9 k9 j5 v3 k5 m5 ⊢;refine#[gn (Zw v3),_,_,_,S9.hx,T.T5,T.UH,_,rfl,_,rfl,_,Zw k5,λD nD=>?_];rw[QI];have u:=aB nD (.lst (((dZ w Vy cs q (t:Int)).drop w).map V'));have SA:=S9.same u;have eD:=ak (H:=H9) (a:=D) (o:=.lst (((dZ w Vy cs q (t:Int)).drop w).map V'));have n5:D∉M8:=λz=>by exists S9.al D z,o,e;rw[nD]at e;cases e
    have n7:D≠Mk:=λz=>n5 #v[z,u3];have x6:=u _ _ v3;have y6:=u _ _ j5;have z6:=(x2.kx k9 u0).same u;have VA:=(V8.kx k9).same u;have v6:KW x Kp Cl Tb X H (Zx H9 D (.lst (((dZ w Vy cs q (t:Int)).drop w).map V'))):=λy o a1 a2 a3 a4 a5 e=>u _ _ (m5 y o a1 a2 a3 a4 a5 e);generalize Zx H9 D (.lst (((dZ w Vy cs q (t:Int)).drop w).map V'))=HA at SA eD x6 y6 z6 VA v6 ⊢;have j3:I.9<=t:=by have:=z0.len;rw[af]at this;omega
    have kB:KX M8 HA (Zx HA Mk (.lst (I.map Z'++[Z' D]))):=λy o ny e=>by
     have d:y≠Mk:=λz=>ny #v[z,u3];rw[aE d];exact e
    refine#[_,x6,#v[af,bO ()],(y3 _ _).mpr #[_,I++[D],rfl,SA.other u3 dM.1 dM.2.1 dM.2.2.1 dM.2.2.2 λe he=>(x3 e he).2,VA.kx kB,?_,by rw[ak,aR];rfl,?_,λa ha=>?_,λy o a1 a2 a3 a4 a5 e=>?_]]
    ·rw[aE v4,oV pv,aR];exact y6
    ·rw[oV pv,aR];exact (z6.kx kB u0).snoc #v[aE n7,eD]
    ·rcases a8.mp ha with h|h
     ·exact u0 a h
     ·rw[bj.mp h];exact n5
    ·have d:y≠Mk:=λz=>by rw[z,F]at e;cases e
     rw[aE d];exact v6 y o a1 a2 a3 a4 a5 e
   ·intro σ H9 h9;obtain⟨x8,rfl,hj⟩:=y2 σ H9 h9
    w_left;k_units
    exact hj
  ·w_left;refine gq Mx ?_ ?_
   ·w_left;k_units
    refine (y3 _ _).mpr #[_,I,rfl,S8,V8,?_,z5,?_,u0,v5]
    ·rw[oW np];exact j2
    ·rw[oW np];exact x2
   ·intro σ H9 h9;obtain⟨x8,rfl,hj⟩:=y2 σ H9 h9
    w_left;k_units
    exact hj
 ·have gt:Nn+1<=(plc w Vy cs t).9:=()
  refine#[_,_,_,S7.hx,T.T5,T.Ul,_,rfl,Kp,rfl,_,.inl (Zw S7.hK),?_];have y8:(us.map Z').9=Vy.9:=by rw[af];exact lk
  rw[y8];refine#[(),(),λD nD=>?_];rw[show ((Vy.9:Int)+1).toNat=Vy.9+1 by omega];have P7:=O.P7;have lg:=O.len;have z1:∀p∈plc w Vy cs t,∃n:Nat,p=(n:Int)/\n<Pn/\Piv w Vy cs p Vy.9:=λp hp=>by
   exists HS hp,n,h1,h2,h3;exact#[n,h1,(),h3]
  have nd:=HV w Vy cs t;obtain⟨y0,j6⟩:∃y0,plc w Vy cs t=y0:=#[_,rfl]
  rw[j6]at z1 nd gt v7 eP z0;have j3:=z0.len;rw[af]at j3;obtain⟨Pc,j1⟩:∃Pc:cB,∀j Hx,Pc j Hx↔∃bs:am,Hx D=Zz (.lst (bs.map Z'))/\LH Hx bs (gs.take j)/\D∉bs/\Same H7 Hx:=#[_,λ_ _=>Iff.rfl]
  refine sO Pc ((j1 _ _).mpr #[[],ak,LH.nil _,by simp,aB nD _]) ?_ ?_
  ·intro j Hx hj hc;exists (j1 _ _).mp hc,bs,k1,k2,k3,k4;have m3:gs[j]?=Zz gs[j]:=aq ();obtain⟨n1,n2⟩:=O.ng _ (b_ (show j<gs.9 by omega));have n3:=gN _ (b_ (show j<gs.9 by omega));have e0:(0:Int)+(j:Int)=(j:Int):=i8 _;have kj:=O.kw;generalize gs[j]=g at m3 n1 n2 n3
   w_left;simp![bst,eG,e0]
   refine#[#[_,Zw (k4 _ _ eM)],λD1 k6=>?_];obtain⟨Pi,k0⟩:∃Pi:cB,∀i Hy,Pi i Hy↔Hy D1=Zz (.lst (((y0.map λp=>val p g).take i).map V'))/\Same Hx Hy:=#[_,λ_ _=>Iff.rfl]
   refine ff (xs:=I.map Z') Pi ((k0 _ _).mpr #[ak,aB k6 _]) (λi Hy _ y=>by exists (k0 i Hy).mp y,_,y;exact Zw ((k4.trans y) _ _ eM)) ?_ ?_
   ·intro i v Hy hv hi;exists (k0 _ _).mp hi,m1,m2;rw[aI]at hv;exists de.mp hv,a,ha,rfl;have m6:i<y0.9:=by have:=(aZ.mp ha).1;omega
    have x4:y0[i]?=Zz y0[i]:=aq m6;exists z1 _ (b_ m6),n,n6,x7,y4;generalize y0[i]=p at x4 n6 y4;subst n6;have ea:=z0.get i a _ ha (by rw[aI,x4];rfl);have y7:=oS (O.lo n x7 y4) Vy.9 #v[fh,aA _];have z8:q.9=w:=O.wid q (by simp);have u8:(dZ w Vy cs q (n:Int)).9=w+(w+1):=by
     unfold dZ;rw[y7];unfold cC;rw[b8,af,af,gC,z8]
    have v8:j<((dZ w Vy cs q (n:Int)).drop w).9:=by rw[pu,u8];omega
    have j8:co ((dZ w Vy cs q (n:Int)).drop w) j=val (n:Int) g:=by
     rw[<-O.mrk n x7 y4 j g m3];unfold co;rw[az,az,List.getElem?_drop]
    w_left;simp![bst,eG]
    refine#[_,Zw ((k4.trans m2) _ _ ea),_,mz v8,_,m1,?_,(k0 _ _).mpr #[?_,m2.more k6]]
    ·rw[af,bV];exact bO ()
    ·rw[ak,cY,aI,x4,aR,j8];rfl
   intro Hy hi;exists (k0 _ _).mp hi,m1,m2;rw[af,j3,gS #v[af,aA _]]at m1;refine⟨k,D1,y0,g,rfl,Zw ((k4.trans m2) _ _ eP),Zw m1,⟨(),n1,(),λa b ha hb k8 h=>by
    rcases Nat.lt_or_gt_of_ne k8 with y|y
    ·exact pO.mp nd a b ha hb y h
    ·exact pO.mp nd b a hb ha y h.symm,λp hp=>?_,λp hp=>?_⟩,λR Hz sz nR eR=>?_⟩
   ·exists z1 p hp,n,rfl,h2,_;exact Bd.of_lt (m:=701) () ()
   ·exists z1 p hp,n,rfl,h2,_;exact n2 n h2
   have lb:=k2.len;rw[bV]at lb;have ne:R≠D:=λz=>by rw[z,m2 _ _ k1]at nR;cases nR
   refine#[_,sz _ _ (m2 _ _ k1),#v[af,bO ()],(j1 _ _).mpr #[bs++[R],by rw[ak,aR];rfl,?_,by simp[k3];exact λz=>ne z.symm,(k4.trans (m2.trans sz)).more nD]];rw[cY,m3];refine LH.snoc #[k2.len,λi b' p e1 e2=>?_] #v[aE ne,eR];have hb:b'≠D:=λz=>k3 #v[<-z,b4 e1];rw[aE hb];exact sz _ _ (m2 _ _ (k2.get i b' p e1 e2))
  intro Hx hc;exists (j1 _ _).mp hc,bs,k1,k2,k3,k4;rw[gS ()]at k2;exists hC,c1,c2,c3,c4,c5,c6,c7,c8,c9,g8;refine#[D,bs,gs,f,qs,p0,t0,rfl,Zw k1,k2.ll,(),c1,c2,c3,c4,c5,c6,c7,c8,c9,g8,λD2 m8 Hz sz z7 n8 x9 y9 z9=>?_];have S8:=(S7.same k4).same sz;have fr:∀y,Hx y=Zy->y∉M'/\H y=Zy:=λy hy=>by
   have h1:y∉M':=λz=>by exists (S7.same k4).al y z,o,e;rw[hy]at e;cases e
   refine#[h1,?_]
   cases e:H y with
   | none=>rfl
   | some o=>
    have:=k4 _ _ (S.kx kw y o (λz=>h1 (ms y z)) e);rw[hy]at this;cases this
  exact u7 Hz G M' D2 m8 S8 (S.kx λy o a1 a2 a3 a4 a5 e=>sz _ _ (k4 _ _ (kw y o a1 a2 a3 a4 a5 e))) ms mf () (fr D2 z7).1 (fr D2 z7).2 n8 x9 (λb hb=>fr b (y9 b hb)) z9
noncomputable def spw (n:Nat) (few:ay) (ws:ac):Nat->ac
 | 0=>bZ n []++[ws.getD few.9 []]
 | t+1=>(spw n few ws t).set (few.getD t 0) (ws.getD t [])
theorem jz (n:Nat)(few:ay)(ws:ac):∀t,(spw n few ws t).9=n+1
 | 0=>by simp[spw]
 | t+1=>#v[spw,py,jz n few ws t]
theorem HW {w:Nat}{Vy:au}{cs:ay}{q:ac}{c:Nat}{p:Int}(a:cs.9=Vy.9)(d:Piv w Vy cs p Vy.9)(h:co (dZ w Vy cs q p) c≠0):Piv w (Vy++[q]) (cs++[c]) p (Vy.9+1):=λi hi=>by
 by_cases z:i<Vy.9
 ·exact Ht a (aA _) d i z
 ·have e:i=Vy.9:=()
  subst e;unfold fY;rw[uE a _ (aA _),uD _ ()];have f:(Vy++[q]).getD Vy.9 []=q:=by simp
  have g:(cs++[c]).getD Vy.9 0=c:=by rw[<-a];simp
  rw[f,g];exact h
structure SpTh (w B KM:Nat)(St:au->ay->Int->Prop)(Vq:au->ac->Prop)(Rl:au->ac->ac->Prop):Prop where
 b3:(KM+2)*(2*B+2)<=900
 k18:KM<=18
 st0:St [] [] 97
 stS:∀Vy cs pl q c (t:Nat),St Vy cs pl->Vq Vy q->c<w->c∉cs->t<=B->Piv w (Vy++[q]) (cs++[c]) (pl+(t:Int)) (Vy.9+1)->St (Vy++[q]) (cs++[c]) (pl+(t:Int))
 bd:∀Vy cs pl q,St Vy cs pl->Vq Vy q->Vy.9<=KM/\q.9=w/\∀f∈q,f.9<=40/\∀c∈f,Bd 1000 c
 tb:∀Vy cs pl q,St Vy cs pl->Vq Vy q->TBd w Vy cs pl/\Piv w Vy cs pl Vy.9/\LowOk (cC w q Vy.9 pl) (dS w Vy cs pl Vy.9) cs
 hit:∀Vy cs pl q c,St Vy cs pl->Vq Vy q->c<w->co (dZ w Vy cs q pl) c≠0->c∉cs/\TBd w (Vy++[q]) (cs++[c]) pl
 oc:∀Vy cs pl q,St Vy cs pl->Vq Vy q->(∀c,c<w->co (dZ w Vy cs q pl) c=0)->∃(gs:ac)(Pn:Nat)(f:Nat->aa)(qs:ac)(p0:aa)(t0:Int),OcOk w Vy cs q gs Pn/\Pn<=B/\(∀N,oX (Vy++[q]) cs N->0<=N/\N<60/\(∀g∈gs,(g.9:Int)<=N+1)/\N<((plc w Vy cs Pn).9:Int))/\
  ((∀p∈gs,p.9<=64/\Nml p/\∀c∈p,Bd 5000 c)/\(∀i,(f i).9<=64)/\f 0=[]/\(∀i r,gs[i]?=Zz r->gu (f i) r (f (i+1)))/\gs.getLast?=Zz (p0++[t0])/\f gs.9≠[]/\Nml (f gs.9)/\(∀c∈f gs.9,Bd 8000 c)/\qs.9=gs.9/\(∀(i:Nat)(p q:aa),gs[i]?=Zz p->qs[i]?=Zz q->Nml q/\Div p (gv (decide (t0<0)) (f gs.9)) q))/\
  FcOk w (Vy++[q]) qs/\((∀c,c<w->c∉cs->eN (Vy++[q]) qs c (Vy.9+1)=[])->Rl Vy q qs)/\
  ∀c,c<w->c∉cs->eN (Vy++[q]) qs c (Vy.9+1)≠[]->∃N,N<=B/\(∀t:Nat,t<=N->TBd w (Vy++[q]) (cs++[c]) (pl+(t:Int)))/\Piv w (Vy++[q]) (cs++[c]) (pl+(N:Int)) (Vy.9+1)
 sub:∀Vy cs pl q (few:ay),St Vy cs pl->Vq Vy q->few.Pairwise (· < ·)->(∀i∈few,i<Vy.9)->few.9<Vy.9->
  Vq (few.map λi=>Vy.getD i []) q/\(∀(i j:Nat),few[i]?=Zz j->Vq ((few.take i).map λi=>Vy.getD i []) (Vy.getD j [])/\∀ws,¬Rl ((few.take i).map λi=>Vy.getD i []) (Vy.getD j []) ws)
 len:∀Vy q ws,Rl Vy q ws->ws.9=Vy.9+1
 up:∀Vy cs pl q (few:ay) ws,St Vy cs pl->Vq Vy q->few.Pairwise (· < ·)->(∀i∈few,i<Vy.9)->few.9<Vy.9->Rl (few.map λi=>Vy.getD i []) q ws->Rl Vy q (spw Vy.9 few ws few.9)
def HX {K:ao}{mg:bH}(T:Tx K mg)(w B:Nat)(St:au->ay->Int->Prop)(Vq:au->ac->Prop)(Rl:au->ac->ac->Prop)(d:Nat):Sp:=λvs H Q _=>∃(x dx Kp Cl Tb Vc:Addr)(us:am)(kvs:List (Key×V))(M:am)(Vy:au)(cs:ay)(pl:Int)(as:am)(q:ac),vs=[.ref x,.ref Vc]/\Spn T H x dx Kp Cl Tb us kvs M w Vy cs pl/\SqL K H Vc (as.map Z')/\LL K H as q/\St Vy cs pl/\Vq Vy q/\Vy.9<d/\kvs.9+(2*B+2)<=900/\
 (∀(H':Hp)(us':am)(kvs':List (Key×V))(M':am)(c:Nat)(pl':Int),Spn T H' x dx Kp Cl Tb us' kvs' M' w (Vy++[q]) (cs++[c]) pl'->St (Vy++[q]) (cs++[c]) pl'->KX M H H'->(∀a∈M,a∈M')->(∀a∈M',a∈M\/H a=Zy)->kvs'.9<=kvs.9+(2*B+2)->Q .non H')/\
 (∀(H':Hp)(kvs':List (Key×V))(M':am)(D:Addr)(bs:am)(ws:ac),Spn T H' x dx Kp Cl Tb us kvs' M' w Vy cs pl->Rl Vy q ws->KX M H H'->(∀a∈M,a∈M')->(∀a∈M',a∈M\/H a=Zy)->kvs'.9<=kvs.9+(2*B+2)->D∉M'->H D=Zy->H' D=Zz (.lst (bs.map Z'))->LH H' bs ws->(∀b∈bs,b∉M'/\H b=Zy)->D∉bs->Q (.ref D) H')
def QL {K:ao}{mg:bH}(T:Tx K mg)(w B:Nat)(St:au->ay->Int->Prop)(Vq:au->ac->Prop)(Rl:au->ac->ac->Prop)(d:Nat):Sp:=λvs H Q _=>∃(x dx Kp Cl Tb Vc Fw:Addr)(us:am)(kvs:List (Key×V))(M:am)(Vy:au)(cs:ay)(pl:Int)(q:ac)(few:ay),vs=[.ref x,.ref Vc,.ref Fw]/\Spn T H x dx Kp Cl Tb us kvs M w Vy cs pl/\VecAt H M Vc q/\H Fw=Zz (.lst ((few.map λc:Nat=>(c:Int)).map V'))/\St Vy cs pl/\Vq Vy q/\Vy.9<=d/\few.Pairwise (· < ·)/\(∀i∈few,i<Vy.9)/\few.9<Vy.9/\
 (∀H':Hp,Same H H'->Q .non H')/\
 (∀(H':Hp)(D:Addr)(bs:am)(ws:ac),Same H H'->Rl Vy q ws->H D=Zy->H' D=Zz (.lst (bs.map Z'))->LH H' bs ws->(∀b∈bs,H b=Zy)->D∉bs->Q (.ref D) H')
theorem QM {H:Hp}{x dx:Addr}{o u:HO}(hx:H x=Zy)(hd:H dx=Zy):Same H (Zx (Zx H dx u) x o):=λb v e=>#v[aE (e_ e hx),aE (e_ e hd),e]
theorem HY {K:ao}{mg:bH}{T:Tx K mg}{H:Hp}{Q:Addr->Hp->Prop}{E:XK}{w:Nat}(k:∀(x dx g h j:Addr)(M:am)(c:Hp),Same H c->(∀a∈M,H a=Zy)->Spn T c x dx g h j [] [] M w [] [] 97->Q x c)(x dx:Addr)(hx:H x=Zy)(hd:H dx=Zy)(_:dx≠x):
  Hm T.T6 [.ref x,.int (w:Int)] (Zx (Zx H dx (.own x)) x (.ins T.T6 dx [])) (λv s=>v=V.non/\Q x s) E:=by
 have m:Same H (Zx (Zx H dx (.own x)) x (.ins T.T6 dx [])):=QM hx hd;refine#[x,dx,(w:Int),rfl,ak,λg h j c z n1 C F G J O ex n p r=>#[rfl,?_]];have I:Same H c:=λy o e=>z y o (e_ e hx) (m y o e);refine k x dx g h j [x,g,h,j] c I (λa d=>?_) #[ex,n,p,r,rfl,rfl,λi u q e=>by simp at e,λe f=>by simp at f,λe f=>by simp at f,by simp,λe f=>by simp at f,G,λa d=>?_]
 ·simp only[bN,pE,or_false]at d;rcases d with rfl|rfl|rfl|rfl
  ·exact hx
  ·exact m.free n1
  ·exact m.free C
  ·exact m.free F
 ·simp only[bN,pE,or_false]at d;rcases d with rfl|rfl|rfl|rfl
  ·exact#[_,ex]
  ·exact#[_,n]
  ·exact#[_,p]
  ·exact#[_,r]
theorem QN (xs:am)(a:Addr):fG ((xs++[a]).map Z') (Zz (-1)) Zy=[Z' a]:=by
 unfold fG;have e:HT.sIx ((xs++[a]).map Z').9 0 (Zz (-1))=xs.9:=by
  unfold HT.sIx;dsimp only;rw[if_pos ()];simp;omega
 rw[e,HT.sIx_none,<-Lb];simp
theorem QO {P:Program}{wd:World}{K:ao}{mg:bH}{base:Heap}(T:Tx K mg){w B KM:Nat}{St:au->ay->Int->Prop}{Vq:au->ac->Prop}{Rl:au->ac->ac->Prop}(Z:SpTh w B KM St Vq Rl)(d:Nat)(F:FnOk P wd K mg base CX0 (2*d+9) T.Uq.ax T.Uq.dx ["self","vector"] (HX T w B St Vq Rl d)):FnOk P wd K mg base CX0 (2*d+10) T.U7.ax T.U7.dx ["self","vector","few"] (QL T w B St Vq Rl d):=by
 refine T.U7.Fx.ok kX (λvs H Q E h=>?_) (λx6 A outer s H vs Q E hr h=>?_)
 ·exists h,x,dx,Kp,Cl,Tb,Vc,Fw,us,v4,M,Vy,cs,pl,q,few,rfl,_;rfl
 exists h,x,dx,Kp,Cl,Tb,Vc,Fw,us,v4,M,Vy,cs,pl,q,few,rfl,S,hV,hF,j0,k0,kd,fp,fk,fl,q1,q2;refine#[_,s!"ɿÎȼŹź0ŻɐżŽɥʚ˽ɉɗ9Î˔coɓpĳ0̰ĴɥɊɴ̊$ˆÎȼoɓpĳ0̰Ĵ̀ʗöɾ̩̏ʨÎɛ°ʳɴKɺ̛ɾÖɜ%Õɨ̌+̕˩9Î˪QÎ̜óʊôɱɘ²Ʌɱ",?_]
 exists Z.bd Vy cs pl q j0 k0,k18,qw,bq;have b3:=Z.b3;have kM:=Z.k18
 w_up
 refine#[_,_,_,S.hx,T.T5,T.UH,_,rfl,HY λx2 R Kp2 n0 x1 M2 H1 s1 m1 S1=>?_];obtain⟨z2,j2⟩:=Z.sub Vy cs pl q few j0 k0 fp fk fl
 w_up
 obtain⟨Pv,C⟩:∃Pv:Nat->L2.St->Hp->Prop,∀i σ g,Pv i σ g↔∃(U:am)(f:List (Key×V))(M2:am)(G:ay)(I:Int)(r4:Option V),σ=[Zz (Z' x),Zz (Z' Vc),Zz (Z' Fw),Zz (Z' x2),r4,Zy,Zy,Zy]/\Spn T g x2 R Kp2 n0 x1 U f M2 w ((few.take i).map λi=>Vy.getD i []) G I/\St ((few.take i).map λi=>Vy.getD i []) G I/\(∀a∈M2,H a=Zy)/\f.9<=i*(2*B+2)/\Same H g:=#[_,λ_ _ _=>Iff.rfl]
 have lf:(few.map λc:Nat=>(c:Int)).9=few.9:=af ..;refine#[#[_,Zw (s1 _ _ hF)],jQ (xs:=(few.map λc:Nat=>(c:Int)).map V') Pv ((C _ _ _).mpr #[[],[],M2,[],97,Zy,rfl,S1,Z.st0,m1,aU _,s1]) (λi σ g _ z=>by exists (C i σ g).mp z,_,_,_,_,_,_,_,_,_,_,_,z;exact Zw (z _ _ hF)) ?_ ?_]
 ·intro i v σ H2 hv hp;exists (C _ _ _).mp hp,U,f,M2,G,I,r4,rfl,S2,t2,m2,l2,X;rw[aI,aI]at hv;exists de.mp hv,j',y1,rfl;exists de.mp y1,j,hj,rfl;have hi:i<few.9:=(aZ.mp hj).1;have g2:=fk j (b4 hj);exists j2 i j hj,v1,v2;have hu:j<us.9:=by have:=S.lk;omega
  have n2:Vy[j]?=Zz Vy[j]:=aq g2;exists S.vec j _ _ (aq hu) n2,as,w1,w2,w3,w4;have ek:Vy.getD j []=Vy[j]:=by rw[az,n2];rfl
  have et:few.take (i+1)=few.take i++[j]:=by rw[cY,hj];rfl
  have lt:((few.take i).map λi=>Vy.getD i []).9=i:=by rw[af,bV];omega
  have S0:=S.same X;have lb:i*(2*B+2)+(2*B+2)<=900:=by
   have:(i+1)*(2*B+2)<=(KM+2)*(2*B+2):=eh _ ();rw[gy,fU]at this;omega
  w_up
  refine#[R,_,S2.hx,rfl,_,_,_,S0.hx,T.T5,T.Ul,_,rfl,Kp,rfl,_,Zw S0.hK,Z' us[j],f8 (by rw[aI,aq hu];rfl),x2,R,Kp2,n0,x1,us[j],U,f,M2,_,G,I,as,Vy[j],rfl,S2,Zw (X _ _ w1),(w2.same X).ll,t2,#v[<-ek,v1],by rw[lt];omega,(),λH3 x3 u M3 c y3 S3 t3 kx ms mf l3=>?_,λH3 u M3 D bs ws _ hR _ _ _ _ _ _ _ _ _ _=>by rw[<-ek]at hR;exact absurd hR (v2 ws)];have s3:Same H H3:=λy o e=>kx y o (λz=>by rw[m2 y z]at e;cases e) (X y o e);have ea:((few.take (i+1)).map λi=>Vy.getD i [])=((few.take i).map λi=>Vy.getD i [])++[Vy[j]]:=by rw[et,aR,d9,vK,ek]
  refine (C _ _ _).mpr #[x3,u,M3,_,y3,_,rfl,#v[ea,S3],#v[ea,t3],λa ha=>?_,by rw[gy,fU];omega,s3];rcases mf a ha with h|h
  ·exact m2 a h
  ·exact X.free h
 intro σ H2 hp;exists (C _ _ _).mp hp,U,f,M2,G,I,r4,rfl,S2,t2,m2,l2,X;rw[af,lf]at S2 t2 l2;rw[gS (aA _)]at S2 t2;clear hp C Pv;have lt:(few.map λi=>Vy.getD i []).9=few.9:=af ..;have lb:few.9*(2*B+2)+(2*B+2)<=900:=by
  have:(few.9+1)*(2*B+2)<=(KM+2)*(2*B+2):=eh _ ();rw[gy,fU]at this;omega
 obtain⟨j4,w1,w2,_,_⟩:=hV
 w_up
 refine#[R,_,S2.hx,rfl,x2,R,Kp2,n0,x1,Vc,U,f,M2,_,G,I,j4,q,rfl,S2,Zw (X _ _ w1),(w2.same X).ll,t2,z2,by rw[lt];omega,(),λH3 x3 u M3 c y3 S3 t3 kx ms mf l3=>?_,λH3 u M3 D bs ws S3 hR kx ms mf l3 y6 nD eD lD nb Db=>?_]
 ·w_left;k_units
  exact q1 H3 λy o e=>kx y o (λz=>by rw[m2 y z]at e;cases e) (X y o e)
 have s3:Same H H3:=λy o e=>kx y o (λz=>by rw[m2 y z]at e;cases e) (X y o e);have S0:=S.same s3;have g4:=Z.up Vy cs pl q few ws j0 k0 fp fk fl hR;have lw:=Z.len _ _ _ hR;rw[lt]at lw;have z1:=lD.len
 w_up
 rw[if_neg (λz=>nomatch z)]
 w_up
 have m4:(us.map Z').9=Vy.9:=by rw[af];exact S.lk
 refine#[_,_,_,S0.hx,T.T5,T.Ul,_,rfl,Kp,rfl,#[_,Zw S0.hK],λD1 z3=>?_];obtain⟨Pc,J⟩:∃Pc:cB,∀j Hx,Pc j Hx↔∃r:am,Hx D1=Zz (.lst (r.map Z'))/\LH Hx r (bZ j [])/\D1∉r/\Same H3 Hx/\∀b∈r,H3 b=Zy:=#[_,λ_ _=>Iff.rfl]
 refine ff (xs:=us.map Z') Pc ((J _ _).mpr #[[],ak,LH.nil _,by simp,aB z3 _,by simp]) (λi Hx _ y=>by exists (J i Hx).mp y,_,_,_,_,y,_;exact Zw (y _ _ S0.hK)) ?_ ?_
 ·intro j v Hx hv hc;exists (J _ _).mp hc,r,k1,k2,k3,k4,k5;have hj:j<Vy.9:=by have:=(aZ.mp hv).1;omega
  have lr:=k2.len;rw[pk]at lr
  w_left;k_units
  refine#[aU _,λp np=>?_];have ne:p≠D1:=λz=>by rw[z,k1]at np;cases np
  have u1:=aB np (.lst []);refine#[_,u1 _ _ k1,#v[af,bO ()],(J _ _).mpr #[r++[p],by rw[ak,aR];rfl,?_,by simp[k3];exact λz=>ne z.symm,(k4.trans u1).more z3,λb O=>?_]]
  ·rw[List.replicate_succ'];refine LH.snoc ((k2.same u1).upd k3) #v[aE ne,ak]
  ·rcases a8.mp O with h|h
   ·exact k5 b h
   ·rw[bj.mp h];exact k4.free np
 intro H4 hc;exists (J _ _).mp hc,r,k1,k2,k3,k4,k5;rw[m4]at k2;clear hc J Pc;have lr:=k2.len;rw[pk]at lr;have z0:=k4 _ _ eD;have v3:=lD.same k4;obtain⟨bi,bl,rfl⟩:∃bi bl,bs=bi++[bl]:=by
  cases z:bs.getLast? with
  | none=>rw[vZ]at z;rw[z]at z1;simp at z1;omega
  | some a=>exact#[_,a,(pL.mp z).choose_spec]
 have n4:bi.9=few.9:=by simp at z1;omega
 refine#[_,Zw z0,λD2 j3=>#[D1,rfl,?_]];rw[QN];have u2:=aB j3 (.lst [Z' bl]);refine#[_,u2 _ _ k1,_,ak,by rw[af];exact dz (bO (by simp;omega)),λm nW=>?_];have u3:=aB nW (.lst (r.map Z'++[Z' bl]));have s4:=s3.trans (k4.trans (u2.trans u3));have eW:=ak (H:=Zx H4 D2 (.lst [Z' bl])) (a:=m) (o:=.lst (r.map Z'++[Z' bl]));have u0:H m=Zy:=s3.free (k4.free (u2.free nW));have v0:=k4.trans (u2.trans u3);have j1:=lD.same v0;have g3:=v0 _ _ eD;have x5:m≠D:=λz=>by rw[<-z]at z0;rw[u2 _ _ z0]at nW;cases nW
 have m3:m∉bi++[bl]:=(v3.same u2).notin nW;have y5:m∉r:=(k2.same u2).notin nW;have n3:=(k2.same u2).same u3;have x4:Zx (Zx H4 D2 (.lst [Z' bl])) m (.lst (r.map Z'++[Z' bl])) m=Zz (.lst ((r++[bl]).map Z')):=by rw[eW,aR];rfl
 have y4:=s4 _ _ hF;have z5:m≠Fw:=λz=>by rw[z,hF]at u0;cases u0
 generalize Zx (Zx H4 D2 (.lst [Z' bl])) m (.lst (r.map Z'++[Z' bl]))=H5 at s4 j1 g3 n3 x4 y4 v0 ⊢;have u5:H5 bl=Zz (.lst ((ws.getD few.9 []).map V')):=by
  refine j1.get few.9 bl _ (by rw[<-n4];simp) ?_;rw[az,aq ()];rfl
 have z4:∀b∈bi++[bl],H b=Zy:=λb O=>X.free (nb b O).2;have v5:∀b∈r,H b=Zy:=λb O=>s3.free (k5 b O);clear u2 u3 j3 nW eW k1 k2 z0 v3 v0
 w_up
 obtain⟨Pz,Y⟩:∃Pz:Nat->L2.St->Hp->Prop,∀n σ g,Pz n σ g↔∃(wb:am)(r4 r7:Option V),σ=[Zz (Z' x),Zz (Z' Vc),Zz (Z' Fw),Zz (Z' x2),r4,Zz (Z' D),Zz (Z' m),r7]/\g m=Zz (.lst (wb.map Z'))/\LH g wb (spw Vy.9 few ws n)/\(∀b∈wb,H b=Zy/\b≠m)/\KB m H5 g:=#[_,λ_ _ _=>Iff.rfl]
 have x0:∀{g:Hp},KB m H5 g->SqL K g Fw ((few.map λc:Nat=>(c:Int)).map V')/\SqL K g D ((bi++[bl]).map Z'):=λ{g} k=>#[Zw (k _ _ (Ne.symm z5) y4),Zw (k _ _ (Ne.symm x5) g3)]
 exists x0 (KB.of (Same.refl H5)),kf1,kf2;refine#[_,kf1,_,kf2,AG (xs:=(few.map λc:Nat=>(c:Int)).map V') (ys:=(bi++[bl]).map Z') Pz ((Y _ _ _).mpr #[r++[bl],_,_,rfl,x4,#v[spw,n3.snoc u5],λb O=>?_,KB.of (Same.refl _)]) (λn σ g _ _ y=>by exists (Y n σ g).mp y,_,_,_,_,_,_,_,y;exact x0 y) ?_ ?_]
 ·rcases a8.mp O with h|h
  ·exact#[v5 b h,λz=>y5 #v[<-z,h]]
  ·rw[bj.mp h];exact#[z4 bl (by simp),λz=>m3 (by rw[<-z];simp)]
 ·intro n v1 v2 pr σ H6 e1 e3 g1 j5;exists (Y _ _ _).mp g1,wb,t4,t7,rfl,eW,lW,y0,kb;rw[aI,aI]at e1;exists de.mp e1,j',y1,rfl;exists de.mp y1,j,hj,rfl;rw[aI]at e3;exists de.mp e3,b,O,rfl;have hn:n<few.9:=(aZ.mp hj).1;have g2:=fk j (b4 hj);have w1:=aB j5 (.tup [V' (j:Int),Z' b]);have y2:b≠m:=λz=>m3 #v[<-z,b4 O];have g5:ws[n]?=Zz (ws.getD n []):=by rw[az,aq ()];rfl
  have m5:=j1.get n b _ O g5;have n5:=lW.len;rw[jz]at n5;have ef:few.getD n 0=j:=by rw[az,hj];rfl
  w_left;k_units
  refine#[_,SqT.of ak,rfl,_,_,rfl,_,_,rfl,rfl,_,(j:Int),rfl,w1 _ _ eW,j,jR (by rw[af];omega),(Y _ _ _).mpr #[wb.set j b,_,_,rfl,by rw[ak,List.map_set],?_,λc hc=>?_,(kb.on w1).set]]
  ·rw[spw,ef];exact ((lW.same w1).upd (λz=>(y0 _ z).2 rfl)).set #v[aE y2,w1 _ _ (kb _ _ y2 m5)] j
  ·rcases TN hc with h|h
   ·exact y0 c h
   ·rw[h];exact#[z4 b (b4 O),y2]
 intro σ H6 g1;exists (Y _ _ _).mp g1,wb,t4,t7,rfl,eW,lW,y0,kb;have u4:min ((few.map λc:Nat=>(c:Int)).map V').9 ((bi++[bl]).map Z').9=few.9:=by simp;omega
 rw[u4]at lW
 w_left;k_units
 refine q2 H6 m wb _ (λy o e=>kb y o (λz=>by rw[z,u0]at e;cases e) (s4 y o e)) g4 u0 eW lW (λb O=>(y0 b O).1) λz=>(y0 _ z).2 rfl
def iZ (H:Hp)(Q:VK)(ds:ac):Prop:=∀(D:Addr)(bs:am) H',Same H H'->H D=Zy->H' D=Zz (.lst (bs.map Z'))->LH H' bs ds->(∀b∈bs,H b=Zy)->D∉bs->bs.Nodup->Q (.ref D) H'
theorem li {K:ao}{a:Addr}{as:am}{ps ds:ac}{O:List (Nat×Str)}{P:TE}{Q:VK}{σ:L2.St}{g:Hp}{D:Addr}(r:g D=Zy)(X:SqL K g a (as.map Z'))(S:LL K g as ps)(hd:ds.9=ps.9)(hl:ps.9<=900)(hs:∀(i:Nat)(b:Addr)(p d:aa)(c:Hp)(R:VK),ps[i]?=Zz p->ds[i]?=Zz d->Same g c->SqL K c b (p.map V')->eI c R (d.map V')->P (bst O σ (Zz (Z' b))) c R)(Y:iZ g Q ds):jP (Itl K a) O P Q σ g D:=by
 obtain⟨s,f⟩:∃s:cB,∀j c,s j c↔∃bs:am,c D=Zz (.lst (bs.map Z'))/\LH c bs (ds.take j)/\D∉bs/\bs.Nodup/\(∀b∈bs,g b=Zy)/\Same g c:=#[_,λ_ _=>Iff.rfl]
 refine ff (xs:=as.map Z') s ((f _ _).mpr #[[],ak,LH.nil _,by simp,l_,by simp,aB r _]) (λi c _ z=>by exists (f i c).mp z,_,_,_,_,_,_,z;exact z.seq X) ?_ ?_
 ·intro j v c Z u;exists (f _ _).mp u,bs,n,h,C,G,H,k;exists S.nth Z,b,p,rfl,hb,T,hB;have hj:j<ps.9:=(aZ.mp T).1;have m:ds[j]?=Zz ds[j]:=aq ();refine hs j b p _ c _ T m k (k.seq hB) λF H2 I o eF=>?_;have lk:=h.len;rw[bV]at lk;have J:F≠D:=λz=>by rw[z,n]at o;cases o
  have M:F∉bs:=h.notin o;have U:D∉bs++[F]:=λz=>by
   rcases a8.mp z with z|z
   ·exact C z
   ·exact J (bj.mp z).symm
  refine#[_,I _ _ n,#v[af,bO ()],(f _ _).mpr #[bs++[F],by rw[ak];simp,?_,U,?_,?_,(k.trans I).more r]]
  ·have e:ds.take (j+1)=ds.take j++[ds[j]]:=by rw[cY,m];rfl
   rw[e];exact ((h.same I).snoc eF).upd U
  ·exact jE.mpr #[G,by simp,λx hx y hy z=>M (by rw[bj.mp hy]at z;rw[<-z];exact hx)]
  ·intro x hx;rcases a8.mp hx with z|z
   ·exact H x z
   ·rw[bj.mp z];exact k.free o
 ·intro H' u;exists (f _ _).mp u,bs,n,h,C,G,H,k;rw[af,S.len,<-hd,fy]at h;exact Y D bs H' k r n h H C G
theorem QP {lo:Int}{n:Nat}{σ:L2.St}{f:Hp}{c:List (Nat×Str)}{g:TT}{h:TE}{Q:VK}{L:Addr}(a:cB)(o:a 0 (Zx f L (.lst [])))(hs:∀i H,i<n->a i H->g (bst c σ (Zz (.int (lo+i)))) H λb j=>if b=true then h (bst c σ (Zz (.int (lo+i)))) j λy k=>∃d,k L=Zz (.lst d)/\d.9<sizeLine/\a (i+1) (Zx k L (.lst (d++[y]))) else a (i+1) j)(hd:∀H,a n H->Q (.ref L) H):
  AB (Itr lo n) c g h Q σ f L:=by
 refine#[λi m H=>m=n-i/\i<=n/\a i H,#[n,by simp,aU _,o],?_]
 rintro i m H ⟨rfl,hi,p⟩
 by_cases hlt:i<n
 ·refine .inr #[hlt,a (i+1),λr s=>#[n-(i+1),(),rfl,hlt,s],λv r y=>?_];exists y,e,y;subst e y;exact hs i _ hlt p
 ·have e:i=n:=()
  subst e;exact .inl #[aA _,hd H p]
theorem HZ {P:Program}{wd:World}{K:ao}{mg:bH}{base:Heap}(T:Tx K mg){w B KM:Nat}{St:au->ay->Int->Prop}{Vq:au->ac->Prop}{Rl:au->ac->ac->Prop}(Z:SpTh w B KM St Vq Rl):∀d:Nat,FnOk P wd K mg base CX0 (2*d+9) T.Uq.ax T.Uq.dx ["self","vector"] (HX T w B St Vq Rl d)
 | 0=>T.Uq.Fx.ok jv (λ_ _ _ _ h=>by exists h,_,_,_,_,_,_,_,_,_,_,_,_,_,_,_,_,_,_,_,_,z,_;exact absurd z (Nat.not_lt_zero _)) (λ_ _ _ _ _ _ _ _ _ h=>by exists h,_,_,_,_,_,_,_,_,_,_,_,_,_,_,_,_,_,_,_,_,z,_;exact absurd z (Nat.not_lt_zero _))
 | d+1=>by
  have F:=QO (P:=P) (wd:=wd) (base:=base) T Z d (HZ T Z d);refine T.Uq.Fx.ok jv (λvs H Q E h=>?_) (λx5 A outer s H vs Q E hr h=>?_)
  ·exists h,x,dx,Kp,Cl,Tb,Vc,us,j1,M,Vy,g,pl,as,q,rfl,_;rfl
  exists h,x,dx,Kp,Cl,Tb,Vc,us,j1,M,Vy,g,pl,as,q,rfl,S,hV,hL,u,v,kd,l9,q1,q2;refine#[_,s!"˘+ɤʙ˭¯ĵɮɢʦʄÆɢɿÆʇʮŶ0ŷɋŸˏʬʹʬɗ9Æ˔ɯÄɊɓ̊ɑ'cʮž0ſɋƀˏʩʎ̩'ǥ)@ɤɪʀ4Ǧɷ](ǧ̡#̧$K=Ä̤ɈʵǨɶɉ ȿɂɑKȿÆɢmȽCÆȼĝ=x̧̱Ɇʮǩ0̰Ǫˏ̕`ʗâɱ̏ɱGʨÆȼʮǫ0ǬɋǭˬʑÆȼʮǮ0ǯɋǰˏˎʗöɘ̏ɱG'cʮž0ſɋƀˏʩʎ`",?_]
  exists Z.bd Vy g pl q u v,k18,qw,bq;exists Z.tb Vy g pl q u v,tb,pv,lo;have kM:=Z.k18;have b3:=Z.b3;have b1:2*(2*B+2)<=900:=aQ (eh _ ()) b3;have w20:=tb.w20;have lk:=S.lk;have lc:=S.lc
  w_up
  refine#[#[_,hV],λD nD=>li (ps:=q) (ds:=q) nD hV hL rfl () (λi b p d Hx R' hp hd sx hb u3=>?_) (λO ob H1 s1 nO eO lO g1 v3 nd=>?_)]
  ·have e:d=p:=by rw[hp]at hd;exact (Zv hd).symm
   subst e
   w_left;simp![bst]
   exact#[_,.inl hb,λl hl=>u3 l _ (aB hl _) hl ak]
  have S1:=S.same s1;have nM:∀a,H a=Zy->a∉M:=λa r z=>by exists S.al a z,o,e;rw[r]at e;cases e
  have V1:VecAt H1 M O q:=#[ob,eO,lO,nM O nO,λa r=>nM a (g1 a r)]
  clear eO lO g1 v3 nd
  w_up
  refine#[dx,_,S1.hx,rfl,_,_,_,S1.hx,T.T5,T.U9,_,rfl,x,dx,Kp,Cl,Tb,O,us,j1,M,w,Vy,g,pl,pl,q,rfl,S1,tb,(),(),V1,(),λf hf=>#[by have:=(bq f hf).1;omega,(bq f hf).2],λ_=>lo,λH2 G M2 S2 n0 I x1 l2 j3=>#[λR nR eR _=>?_,λnp=>absurd pv np]];have u0:KX M H H2:=λy o J e=>S1.kx n0 y o J (s1 y o e);have V2:=(V1.more x1).kx (λy o J e=>S1.kx n0 y o (λz=>J (I y z)) e);have k:∀a∈M2,a∈M\/H a=Zy:=λa r=>(x1 a r).imp (λh=>h) s1.free;clear x1 j3 n0 V1 S1;have y5:(dZ w Vy g q pl).9=w+(w+1):=by
   unfold dZ;rw[oS lo Vy.9 #v[fh,aA _]];unfold cC;rw[b8,af,af,gC,qw]
  w_up
  refine#[_,_,_,S2.hx,T.T5,T.UH,_,rfl,_,rfl,(),(),?_];rw[i5];obtain⟨Pv,Y⟩:∃Pv:Nat->L2.St->Hp->Prop,∀i σ X,Pv i σ X↔∃r4:Option V,σ=[Zz (Z' x),Zz (Z' Vc),Zz (Z' O),Zz (Z' R),r4,Zy,Zy]/\X=H2/\∀c,c<i->co (dZ w Vy g q pl) c=0:=#[_,λ_ _ _=>Iff.rfl]
  refine iC Pv ((Y _ _ _).mpr #[Zy,rfl,rfl,λc hc=>by omega]) ?_ ?_
  ·intro i σ X hi hp;exists (Y _ _ _).mp hp,r4,rfl,rfl,hz;have e0:(0:Int)+(i:Int)=(i:Int):=i8 _
   w_left;simp![e0]
   refine#[_,Zw eR,_,mz (),?_]
   w_left;k_units
   refine bU (λz=>?_) (λz=>(Y _ _ _).mpr #[_,rfl,rfl,λc hc=>?_])
   ·exists Z.hit Vy g pl q i u v hi (⇑z),k3,g3;have m3:=HW lc pv (show co (dZ w Vy g q pl) i≠0 by simpa using z);have m1:pl+((0:Nat):Int)=pl:=()
    refine#[dx,_,S2.hx,rfl,x,dx,Kp,Cl,Tb,O,us,G,M2,w,Vy,g,pl,q,i,0,rfl,S2,V2,(),(),λt ht=>?_,#v[m1,m3],λH3 x2 M3 t ht S3 n3 y1 x4 y4 l3=>?_]
    ·rw[show t=0 by omega,m1];exact g3
    ·have et:t=0:=()
     subst et;have hs:=Z.stS Vy g pl q i 0 u v hi k3 (aU _) n3;exact q1 H3 _ x2 M3 i _ S3 hs (u0.trans y1 k) (λa h=>x4 a (I a h)) (k_ u0 k y4) ()
   ·by_cases y:c=i
    ·rw[y];simpa using z
    ·exact hz c ()
  intro σ X hp;exists (Y _ _ _).mp hp,r4,rfl,rfl,hz;clear hp Y Pv;exists Z.oc Vy g pl q u v hz,gs,Pn,f,qs,p0,t0,O1,O2,O3,O4,O5,O6,O7;have v0:(us.map Z').9=Vy.9:=by rw[af];exact S.lk
  w_up
  refine#[_,_,_,S2.hx,T.T5,T.Ul,_,rfl,Kp,rfl,_,.inl (Zw S2.hK),by rw[v0];omega,by rw[v0];omega,λFw y2=>?_];rw[v0,i5];obtain⟨fw,C⟩:∃fw:Nat->ay,∀j,fw j=(aM j).filter λn=>decide (co (dZ w Vy g q pl) (w+n)≠0):=#[_,λ_=>rfl]
  have z2:fw 0=[]:=by rw[C];rfl
  have u2:∀j,(fw j).9<=j:=λj=>by rw[C];exact aQ (List.length_filter_le _ _) #v[gC,aA _]
  have z1:∀j,fw (j+1)=if co (dZ w Vy g q pl) (w+j)≠0 then fw j++[j] else fw j:=λj=>by
   rw[C,C,fZ,Lv];by_cases z:co (dZ w Vy g q pl) (w+j)=0 <;> simp[z]
  have fp:(fw Vy.9).Pairwise (· < ·):=by rw[C];exact List.pairwise_lt_range.filter _
  have fk:∀i∈fw Vy.9,i<Vy.9:=λi hi=>by rw[C]at hi;exact dj.mp (lE.mp hi).1
  obtain⟨Pc,U⟩:∃Pc:cB,∀j Hx,Pc j Hx↔Hx Fw=Zz (.lst (((fw j).map λc:Nat=>(c:Int)).map V'))/\Same X Hx:=#[_,λ_ _=>Iff.rfl]
  have kw:=O1.kw;refine QP Pc ((U _ _).mpr #[by rw[ak,z2];rfl,aB y2 _]) ?_ ?_
  ·intro j Hx hj hc;exists (U _ _).mp hc,k1,k2;have e0:(0:Int)+(j:Int)=(j:Int):=i8 _;have e1:(w:Int)+(j:Int)=((w+j:Nat):Int):=()
   have z4:=S2.same k2;have lj:=u2 j
   w_left;simp![fm,bst,e0,eG]
   refine#[_,_,_,z4.hx,T.T5,T.UH,_,rfl,_,rfl,_,Zw (k2 _ _ eR),_,#v[e1,mz ()],?_]
   w_left;k_units
   refine bU (λz=>#[_,k1,#v[af,af,bO ()],(U _ _).mpr #[?_,k2.more y2]]) (λz=>(U _ _).mpr #[?_,k2])
   ·rw[ak,z1,if_pos (⇑z),aR,aR];rfl
   ·rw[k1,z1,if_neg (⇑z)]
  intro H3 hc;exists (U _ _).mp hc,eF,s3;clear hc U Pc;generalize fw Vy.9=few at fp fk eF;clear C z2 u2 z1;have S3:=S2.same s3;have V3:=V2.same s3;have y1:KX M H H3:=λy o J e=>s3 _ _ (u0 y o J e);have v2:∀a,X a=Zy->a∉M2:=λa r z=>by exists S2.al a z,o,e;rw[r]at e;cases e
  have j2:∀a,X a=Zy->H a=Zy:=λa r=>by
   cases e:H a with
   | none=>rfl
   | some o=>
    by_cases m:a∈M
    ·exact absurd (I a m) (v2 a r)
    ·rw[u0 a o m e]at r;cases r
  obtain⟨Mx,x0⟩:∃Mx:L2.St->Hp->Prop,∀σ X,Mx σ X↔∃v6:V,σ=[Zz (Z' x),Zz (Z' Vc),Zz (Z' O),Zz (Z' R),r4,Zz (Z' Fw),Zz v6]/\Same H3 X/\(v6=.non\/∃(D:Addr)(bs:am)(ws:ac),v6=.ref D/\Rl Vy q ws/\H3 D=Zy/\X D=Zz (.lst (bs.map Z'))/\LH X bs ws/\(∀b∈bs,H3 b=Zy)/\D∉bs):=#[_,λ_ _=>Iff.rfl]
  w_left;refine gq Mx ?_ ?_
  ·w_left;k_units
   refine#[_,.inl (Zw eF),_,_,_,S3.hx,T.T5,T.Ul,_,rfl,Kp,rfl,_,.inl (Zw S3.hK),?_];rw[v0,af,af];refine bU (λz=>?_) (λz=>(x0 _ _).mpr #[_,rfl,Same.refl _,.inl rfl]);refine#[dx,_,S3.hx,rfl,x,dx,Kp,Cl,Tb,O,Fw,us,G,M2,Vy,g,pl,q,few,rfl,S3,V3,eF,u,v,(),fp,fk,(),λH4 s4=>(x0 _ _).mpr #[_,rfl,s4,.inl rfl],λH4 D bs ws s4 hR nD eD lD nb Db=>(x0 _ _).mpr #[_,rfl,s4,.inr #[D,bs,ws,rfl,hR,nD,eD,lD,nb,Db]]]
  intro σ H4 hm;exists (x0 _ _).mp hm,v6,rfl,s4,u4;clear hm x0 Mx;have S4:=S3.same s4;have V4:=V3.same s4;have u1:KX M H H4:=λy o J e=>s4 _ _ (y1 y o J e)
  w_up
  rcases u4 with rfl|⟨D,bs,ws,rfl,hR,nD,eD,lD,nb,Db⟩
  ·rw[if_neg (λz=>z rfl)]
   w_up
   refine#[dx,_,S4.hx,rfl,x,dx,Kp,Cl,Tb,O,us,G,M2,w,Vy,g,pl,q,gs,Pn,f,qs,p0,t0,rfl,S4,V4,O1,(),O3,O4,λH5 y0 M5 D bs S5 g2 v1 m2 l5 v4 nD eD lD nb Db=>?_];have j0:=u1.trans g2 k;have z0:=k_ u1 k m2;have V5:=(V4.more m2).kx (λy o J e=>g2 y o (λz=>J (v1 y z)) e);have n5:∀a,H4 a=Zy->H a=Zy:=λa r=>j2 a (s3.free (s4.free r))
   w_up
   refine#[dx,_,S5.hx,rfl,x,dx,Kp,Cl,Tb,O,D,us,y0,M5,w,Vy,g,pl,q,bs,qs,rfl,S5,V5,Zw eD,lD.ll,O5,λH6 s6=>#[λc n2 x3 hs hb=>?_,λy3=>?_]]
   ·exists O7 c n2 x3 hs,N,N1,N2,N3;have S6:=S5.same s6
    w_left;k_units
    rw[if_neg (λz=>nomatch z)];refine#[dx,_,S6.hx,rfl,x,dx,Kp,Cl,Tb,O,us,y0,M5,w,Vy,g,pl,q,c,N,rfl,S6,V5.same s6,(),(),N2,N3,λH7 z3 M7 t ht S7 j4 k4 g4 m4 l7=>?_];have hs:=Z.stS Vy g pl q c t u v n2 x3 () j4;have k0:KX M H H6:=λy o J e=>s6 _ _ (j0 y o J e);exact q1 H7 _ z3 M7 c _ S7 hs (k0.trans k4 z0) (λa h=>g4 a (v1 a (I a h))) (k_ k0 z0 m4) ()
   ·have S6:=S5.same s6
    w_left;k_units
    exact q2 H6 y0 M5 D bs qs S6 (O6 y3) (λy o J e=>s6 _ _ (j0 y o J e)) (λa h=>v1 a (I a h)) z0 () v4 (n5 D nD) (s6 _ _ eD) (lD.same s6) (λb hb=>#[(nb b hb).1,n5 b (nb b hb).2]) Db
  ·rw[if_pos (λz=>nomatch z)];have n4:∀a,H3 a=Zy->a∉M2/\H a=Zy:=λa r=>#[v2 a (s3.free r),j2 a (s3.free r)]
   exact q2 H4 G M2 D bs ws S4 hR u1 I k () (n4 D nD).1 (n4 D nD).2 eD lD (λb hb=>n4 b (nb b hb)) Db
theorem Bz {f:aa}(r:Nml f){ps:aa}(nd:ps.Nodup)(x:f.9<=ps.9)(s:∀p∈ps,val p f=0):f=[]:=by
 have d:∀i j (hi:i<ps.9) (C:j<ps.9),i≠j->ps[i]≠ps[j]:=λa b g m e h=>by
  rcases Nat.lt_or_gt_of_ne e with y|y
  ·exact pO.mp nd a b g m y h
  ·exact pO.mp nd b a m g y h.symm
 have z:∀t,t<ps.9->dd f (ps.take (t+1))=0:=λt o=>by
  have h:=uh f d (B:=0) (λi h=>#v[s _ (b_ h),aA _]) t 0 ();have u:run ps 0 (t+1)=ps.take (t+1):=by unfold run;rw[mZ]
  rw[u]at h;omega
 have ua:∀k t,t+k=ps.9->∀n,dd f (ps.take t++[n])=0:=λk=>by
  induction k with
  | zero=>intro t o n;exact Gy (by rw[b8,bV];simp;omega)
  | succ k ih=>
   intro t o n;have c:t<ps.9:=()
   have v:ps.take (t+1)=ps.take t++[ps[t]]:=by rw[cY,aq c];rfl
   rw[GB f (ps.take t) ps[t] n,<-v,z t c,ih (t+1) () n];simp
 exact cW r cH λn=>by
  have:=ua ps.9 0 () n;rw[List.take_zero,hI,ug]at this;rw[this];rfl
theorem H_ {f:aa}(d:Nml f)(g:f≠[])(pl:Int){N:Nat}(k:f.9<=N+1):∃t:Nat,t<=N/\val (pl+(t:Int)) f≠0:=by
 by_cases h:∃t:Nat,t<=N/\val (pl+(t:Int)) f≠0
 ·exact h
 refine absurd (Bz d (ps:=(aM (N+1)).map λt:Nat=>pl+(t:Int)) ?_ (by simp;omega) λp i=>?_) g
 ·refine List.Pairwise.map _ (λa b c=>?_) (List.nodup_range (n:=N+1));intro e;apply c;omega
 ·exists bC.mp i,t,j,rfl;have:=dj.mp j;by_cases z:val (pl+(t:Int)) f=0
  ·exact z
  ·exact absurd #[t,(),z] h
theorem QQ {w:Nat}{Vy:au}{cs:ay}{d:aa}(nd:Nml d)(m:d≠[]){Pn:Nat}(h:∀p:Nat,p<Pn->val (p:Int) d≠0->Piv w Vy cs (p:Int) Vy.9):Pn<(plc w Vy cs Pn).9+d.9:=by
 have f:∀(g:Nat->Bool)(c:ay),(c.filter g).9+(c.filter λx=>! g x).9=c.9:=λg c=>by
  induction c with
  | nil=>rfl
  | cons x c ih=>cases e:g x <;> simp[List.filter_cons,e] <;> omega
 have e:=f (λp:Nat=>jy w Vy cs (p:Int) Vy.9) (aM Pn);rw[gC]at e;have o:(plc w Vy cs Pn).9=((aM Pn).filter λp:Nat=>jy w Vy cs (p:Int) Vy.9).9:=by unfold plc;rw[af]
 rw[o];have l2:((aM Pn).filter λp:Nat=>! jy w Vy cs (p:Int) Vy.9).9<d.9:=by
  refine mX λi=>m (Bz nd (ps:=((aM Pn).filter λp:Nat=>! jy w Vy cs (p:Int) Vy.9).map λp:Nat=>(p:Int)) ?_ #v[af,i] λp r=>?_)
  ·refine List.Pairwise.map _ (λa b j=>?_) ((List.nodup_range (n:=Pn)).filter _);intro e;apply j;omega
  ·exists bC.mp r,t,s,rfl;exists lE.mp s,u,k;by_cases z:val (t:Int) d=0
   ·exact z
   ·have:=uM.mpr (h t (dj.mp u) z);rw[this]at k;simp at k
 omega
theorem QR {g:Int->Int->Int}{a b:aa}{j:Nat}(c:j<a.9)(d:j<b.9):co (dX g a b) j=g (co a j) (co b j):=by
 rw[aP (by rw[ni];omega),List.getElem_zipWith,aP c,aP d]
theorem mG {w:Nat}{vec:ac}{a:Nat}{p:Int}(c:vec.9=w):(cC w vec a p).9=w+(w+1):=by
 unfold cC;rw[b8,af,af,gC,c]
theorem BA {w:Nat}{vec:ac}{a:Nat}{p:Int}{j:Nat}(c:j<vec.9):co (cC w vec a p) j=val p (vec.getD j []):=by
 unfold cC co;rw[az,az,cE #v[af,c],aI,aq c];rfl
theorem lC {w:Nat}{vec:ac}{a:Nat}{p:Int}{i:Nat}(c:vec.9=w)(hi:i<=w):co (cC w vec a p) (w+i)=if i=a then 1 else 0:=by
 unfold cC co;rw[az,cQ (by rw[af];omega),af,c,TQ,aI,iy ()];rfl
theorem Ia {w:Nat}{vec:ac}{a:Nat}{p:Int}{k l L:Nat}(d:Bd l p)(e:∀f∈vec,f.9<=L/\∀c∈f,Bd k c)(hk:0<k):∀y∈cC w vec a p,Bd (k+(l+1)*L) y:=λy hy=>by
 unfold cC at hy;rcases a8.mp hy with h|h
 ·exists bC.mp h,f,g,rfl;exists e f g,i,j;exact (j_ d f j).mono (CI (d_ _ i) _)
 ·obtain⟨o,_,rfl⟩:=bC.mp h
  split
  ·exact Bd.one ()
  ·exact Bd.zero _
theorem Ic {z e:Int}(a:e≠0)(h:e∣z):z.fdiv e*e=z:=by
 exists h,k,rfl;rw[lN _ a,cT]
theorem Ie {e:Int}(d:e≠0)(n:Int):∀c:aa,(∀z∈c,e∣z)->val n (c.map λz=>z.fdiv e)*e=val n c
 | [],_=>by simp[val]
 | z :: c,h=>by
  have i:=Ie d n c λa f=>h a (by simp[f]);show (z.fdiv e+n*val n (c.map λz=>z.fdiv e))*e=z+n*val n c;rw[vQ,Ic d (h z (by simp)),cA,i]
theorem QS {e:Int}(g:e≠0){xs:aa}(nx:Nml xs)(h:∀z∈xs,e∣z):Nml (xs.map λz=>z.fdiv e):=eK.mpr λa d=>by
 rw[wh]at d;exists de.mp d,z,f,rfl;have i:=eK.mp nx z f;have c:=Ic g (h z (me f));intro y;rw[y]at c;simp at c;exact i c.symm
theorem QU (n:Int)(b:Bool)(R:aa):val n (gv b R)=(if b then -1 else 1)*val n R:=by
 unfold gv
 cases b
 ·simp
 ·have:(R.map λz=>-z)=R.map λz=>-1*z:=fB λa _=>by omega
  rw[if_pos rfl,if_pos rfl,this,be]
theorem i0 {e:Int}(d:e≠0){y:aa}(f:Nml y):Nml (y.map λz=>e*z):=eK.mpr λa c=>by
 rw[wh]at c;exists de.mp c,z,g,rfl;exact dO d (eK.mp f z g)
theorem d8 {x u:aa}(nx:Nml x)(c:Nml u)(d:x≠[])(u0:u≠[]):(pdL x u).9=x.9+u.9-1/\co (pdL x u) ((pdL x u).9-1)=co x (x.9-1)*co u (u.9-1):=by
 have f:x.9≠0:=λz=>d (bD z);have lu:u.9≠0:=λz=>u0 (bD z);have t:co (pdL x u) (x.9+u.9-2)=co x (x.9-1)*co u (u.9-1):=by
  rw[mF,show x.9+u.9-2=u.9-1+(x.9-1) by omega,kQ (λj a=>il j a) (λj a=>il j a)]
 have g:=oU nx c;have l2:x.9+u.9-1<=(pdL x u).9:=by
  refine pC λh=>?_;rw[aF ()]at t;exact dO (dG nx d) (dG c u0) t.symm
 have e:(pdL x u).9=x.9+u.9-1:=()
 exact#[e,by rw[e,show x.9+u.9-1-1=x.9+u.9-2 by omega];exact t]
theorem i3 (g:aa):pdL [] g=[]:=cW (cw _ _) cH λn=>by rw[aK];simp[val]
def xp (d:Nat):aa:=bZ d 0++[1]
theorem QV (d:Nat):Nml (xp d):=oP _
theorem QW (d:Nat):xp d≠[]:=by unfold xp;simp
theorem If (d:Nat):(xp d).9=d+1:=by unfold xp;simp
theorem QX (d:Nat):co (xp d) ((xp d).9-1)=1:=by
 rw[If];unfold xp co;simp
theorem Ig {p:aa}(a:Nml p)(d:p≠[]):Nml (dvL p (ai p))/\dvL p (ai p)≠[]/\iE (co (dvL p (ai p)))/\p=pdL [((ai p:Nat):Int)] (dvL p (ai p)):=by
 have c:=hE a d;refine#[uJ a d,λz=>d (bD (by rw[<-ke p (ai p),z];rfl)),uK c,cW a (cw _ _) λn=>?_];rw[aK,<-mC c n];simp[val]
structure Gc (p q g a b U W:aa)(m:Int):Prop where
 ng:Nml g
 g0:g≠[]
 pg:iE (co g)
 na:Nml a
 nb:Nml b
 pa:p=pdL a g
 qb:q=pdL b g
 m0:m≠0
 bz:∀n,val n U*val n a+val n W*val n b=m
theorem Gc.swap {p q g a b U W:aa}{m:Int}(h:Gc p q g a b U W m):Gc q p g b a W U m:=#[h.ng,h.g0,h.pg,h.nb,h.na,h.qb,h.pa,h.m0,λn=>by rw[<-h.bz n];omega]
theorem BB:∀(n:Nat)(p q:aa),p.9+q.9<=n->Nml p->Nml q->(p≠[]\/q≠[])->∃(g a b U W:aa)(m:Int),Gc p q g a b U W m
 | 0,p,q,h,_,_,hz=>by
  have u:p=[]:=bD ();have C:q=[]:=bD ();rcases hz with z|z
  ·exact absurd u z
  ·exact absurd C z
 | n+1,p,q,h,v,o,hz=>by
  have s:∀{p q:aa},p.9+q.9<=n+1->Nml p->Nml q->q≠[]->q.9<=p.9->∃(g a b U W:aa)(m:Int),Gc p q g a b U W m:=λ{p q} h v o f I=>by
   have x:p≠[]:=λz=>f (bD (by rw[z]at I;simpa using I));have x0:q.9≠0:=λz=>f (bD z);have J:=dG o f;generalize hc:co q (q.9-1)=c at J;generalize M:co p (p.9-1)=l;obtain⟨d,hd⟩:∃d,p.9=d+q.9:=#[p.9-q.9,()]
   exists d8 (QV d) o (QW d) f,t1,O;rw[If]at t1;rw[QX,hc,eE]at O;obtain⟨r,P⟩:∃r,r=aO (bY (p.map λz=>c*z) ((pdL (xp d) q).map λz=>-l*z)):=#[_,rfl]
   have Y:Nml r:=by rw[P];exact cG _
   have rc:∀j,co r j=c*co p j-l*co (pdL (xp d) q) j:=λj=>by rw[P,cN,fX,eQ,eQ];grind
   have rv:∀n,val n r=c*val n p-l*(val n (xp d)*val n q):=λn=>by rw[P,fS,fo,be,be,aK];grind
   have lr:r.9<=p.9-1:=g_ Y λk hk=>by
    rw[rc];by_cases z:k=p.9-1
    ·have e:(pdL (xp d) q).9-1=k:=()
     rw[e]at O;rw[O,z,M];grind
    ·rw[aF (xs:=p) (),aF (xs:=pdL (xp d) q) ()];simp
   exists BB n r q () Y o (.inr f),g,F,b,U,W,m,G;have A:∀n,c*val n p=(val n F+l*(val n (xp d)*val n b))*val n g:=λn=>by
    have y:=rv n;have Q:val n r=val n F*val n g:=by rw[G.pa,aK]
    have R:val n q=val n b*val n g:=by rw[G.qb,aK]
    rw[Q,R]at y;grind
   obtain⟨i,H⟩:∃i,i=aO (bY F ((pdL (xp d) b).map λz=>l*z)):=#[_,rfl]
   have nA:Nml i:=by rw[H];exact cG _
   have S:∀n,val n i=val n F+l*(val n (xp d)*val n b):=λn=>by rw[H,fS,fo,be,aK]
   have dv:∀j,c∣co i j:=by
    have u:=uc G.pg c.8 () (co i) λj=>by
     have e:pm (co g) (co i) j=c*co p j:=by
      rw[<-gJ,<-eQ];exact fJ (λn=>by rw[dH,be,A n,S n];grind) j
     rw[e];exact fV (vW.mpr (vX c)) (kr _ _)
    exact λj=>vW.mp (u j)
   have dA:∀z∈i,c∣z:=dg dv;obtain⟨a,Z⟩:∃a,a=i.map λz=>z.fdiv c:=#[_,rfl]
   have na:Nml a:=by rw[Z];exact QS J nA dA
   have va:∀n,val n a*c=val n i:=λn=>by rw[Z];exact Ie J n i dA
   refine#[g,a,b,U.map λz=>c*z,aO (bY W ((pdL (xp d) U).map λz=>-l*z)),m,G.ng,G.g0,G.pg,na,G.nb,?_,G.qb,G.m0,λn=>?_]
   ·refine cW v (cw _ _) λn=>?_;rw[aK];have y:=A n;rw[<-S n,<-va n]at y;exact lV J (by rw[y];grind)
   ·rw[be,fS,fo,be,aK];have y:=G.bz n;have Q:=va n;rw[S n]at Q;have R:val n F=val n a*c-l*(val n (xp d)*val n b):=()
    rw[R]at y;grind
  by_cases f:q=[]
  ·subst f;have x:p≠[]:=by
    rcases hz with z|z
    ·exact z
    ·exact absurd rfl z
   exists Ig v x,u,C,T,X;refine#[_,[((ai p:Nat):Int)],[],[1],[],((ai p:Nat):Int),u,C,T,fK (by have:=hE v x;omega),cH,X,(i3 _).symm,by have:=hE v x;omega,λn=>by simp[val]]
  ·by_cases I:q.9<=p.9
   ·exact s h v o f I
   ·by_cases x:p=[]
    ·subst x;exists Ig o f,u,C,T,X;exact#[_,[],[((ai q:Nat):Int)],[],[1],((ai q:Nat):Int),u,C,T,cH,fK (by have:=hE o f;omega),(i3 _).symm,X,by have:=hE o f;omega,λn=>by simp[val]]
    ·exists s () o v x (),g,a,b,U,W,m,G;exact#[g,b,a,W,U,m,G.swap]
def eV (f:aL):Nat->List Rw
 | 0=>[]
 | k+1=>f :: eV (sh f) k
theorem mH:∀(k:Nat)(f:aL),(eV f k).9=k
 | 0,_=>rfl
 | k+1,f=>by rw[eV,cP,mH k]
theorem BC {B:Nat}:∀(k:Nat)(f:aL),(∀J,(f J).8<=B)->∀r∈eV f k,∀J,(r J).8<=B
 | 0,_,_,r,hr,_=>by simp[eV]at hr
 | k+1,f,h,r,hr,J=>by
  rw[eV]at hr;rcases bN.mp hr with z|z
  ·rw[z];exact h J
  ·refine BC k (sh f) (λJ=>?_) r z J;unfold sh;split
   ·simp
   ·exact h _
theorem BD {L:Nat}:∀(k:Nat)(f:aL),(∀J,L+1<=J->f J=0)->∀r∈eV f k,∀J,L+k<=J->r J=0
 | 0,_,_,r,hr,_,_=>by simp[eV]at hr
 | k+1,f,h,r,hr,J,a=>by
  rw[eV]at hr;rcases bN.mp hr with z|z
  ·rw[z];exact h J ()
  ·refine BD (L:=L+1) k (sh f) (λJ a=>?_) r z J ();unfold sh;rw[if_neg ()];exact h _ ()
theorem QY (u:Int)(us:aa)(f:aL)(J:Nat):pm (co (u :: us)) f J=u*f J+pm (co us) (sh f) J:=by
 rw[Go];unfold pm sh;rw[kR];congr 1;by_cases z:J=0
 ·rw[if_pos z,z];rfl
 ·rw[if_neg z];obtain⟨i,rfl⟩:∃i,J=i+1:=#[J-1,()]
  exact b7 λj a=>by
   show co us j*f (i+1-(j+1))=co us j*f (i+1-1-j);congr 2;omega
theorem BE:∀(a:aa)(f:aL)(J:Nat),dot a (eV f a.9) J=pm (co a) f J
 | [],f,J=>by
  rw[show pm (co []) f J=ar (J+1) (λj=>co [] j*f (J-j)) from rfl,fQ λj _=>by rw[fP];simp];rfl
 | u :: a,f,J=>by rw[cP,eV,dot,BE a (sh f) J,QY]
theorem oY:∀(N e:Nat)(a:ay),a.Nodup->(∀c∈a,e<=c/\c<e+N)->a.9<=N
 | 0,e,a,_,h=>by
  cases a with
  | nil=>exact aA _
  | cons c a=>have:=h c dU;omega
 | N+1,e,a,nd,h=>by
  by_cases z:e+N∈a
  ·have:=oY N e (a.erase (e+N)) (nd.erase _) λc d=>by
    have f:=(nd.mem_erase_iff).mp d;have:=h c f.2;have:=f.1;omega
   rw[List.length_erase_of_mem z]at this;omega
  ·have:=oY N e a nd λc d=>by
    have:=h c d;have:c≠e+N:=λy=>z #v[<-y,d];omega
   omega
theorem QZ {N e:Nat}{cs:ay}(nd:cs.Nodup)(h:∀c∈cs,e<=c/\c<e+N)(g:cs.9=N){J:Nat}(a:e<=J)(d:J<e+N):J∈cs:=by
 by_cases z:J∈cs
 ·exact z
 ·have:=oY N e (J :: cs) (lG.mpr #[z,nd]) λc f=>by
   rcases bN.mp f with y|y
   ·rw[y];exact#[a,d]
   ·exact h c y
  rw[cP]at this;omega
abbrev Rp:=Nat->aa
def fL (p q:aa):aa:=aO (bY p q)
theorem oZ (p q:aa):Nml (fL p q):=cG _
theorem gQ (n:Int)(p q:aa):val n (fL p q)=val n p+val n q:=by unfold fL;rw[fS,fo]
theorem Ih {p q:aa}{L:Nat}(a:p.9<=L)(c:q.9<=L):(fL p q).9<=L:=g_ (oZ _ _) λk hk=>by
 unfold fL;rw[cN,fX,aF (xs:=p) (),aF (xs:=q) ()];rfl
def iop (c:Nat):List Rp->(List Rp->aa)->aa
 | [],_=>[]
 | r :: w,F=>fL (pdL [(-1) ^ w.9] (pdL (r c) (F w))) (iop c w λu=>F (r :: u))
def dtp:ay->List Rp->aa
 | [],[]=>[1]
 | [],_ :: _=>[]
 | c :: cs,l=>iop c l (dtp cs)
def evR (n:Int)(r:Rp):Rw:=λc=>val n (r c)
theorem Q0 {c:Nat}:∀(w:List Rp)(F:List Rp->aa),Nml (iop c w F)
 | [],_=>cH
 | _ :: _,_=>oZ _ _
theorem iq:∀(a:ay)(l:List Rp),Nml (dtp a l)
 | [],[]=>fK ()
 | [],_ :: _=>cH
 | _ :: _,_=>Q0 _ _
theorem Ii (n:Int){c:Nat}:∀(w:List Rp)(F:List Rp->aa)(a:List Rw->Int),(∀u,val n (F u)=a (u.map (evR n)))->val n (iop c w F)=io c (w.map (evR n)) a
 | [],_,_,_=>rfl
 | r :: w,F,a,h=>by
  rw[iop,gQ,aK,aK,d9,io,Ii n w (λu=>F (r :: u)) (λu=>a (evR n r :: u)) (λu=>by rw[h];rfl),h w,af];simp[val,evR];grind
theorem uN (n:Int):∀(a:ay)(l:List Rp),val n (dtp a l)=dt a (l.map (evR n))
 | [],[]=>by simp[dtp,dt,val]
 | [],_ :: _=>by simp[dtp,dt,val]
 | c :: a,l=>by rw[dtp,dt];exact Ii n l _ _ λu=>uN n a u
theorem Q1 (k:Nat){f:aa}(a:Nml f):(pdL [(-1) ^ k] f).9<=f.9:=by
 have hk:(-1:Int) ^ k=1\/(-1:Int) ^ k=-1:=by
  induction k with
  | zero=>exact .inl rfl
  | succ k ih=>rw[lY];rcases ih with z|z <;> rw[z] <;> simp
 have:=oU (fK (c:=(-1) ^ k) (by rcases hk with z|z <;> rw[z] <;> decide)) a;simp at this;omega
theorem o0 {c D:Nat}:∀(w d:List Rp)(F:List Rp->aa),(∀u,Nml (F u))->(∀pre r a,w=pre++r :: a->Nml (r c)/\(r c≠[]->(r c).9+(F (d++pre++a)).9<=D+2))->(iop c w λu=>F (d++u)).9<=D+1
 | [],_,_,_,_=>by simp[iop]
 | r :: w,d,F,nF,h=>by
  rw[iop];refine Ih (aQ (Q1 _ (cw _ _)) ?_) ?_
  ·exists h [] r w rfl,f,g;by_cases z:r c=[]
   ·rw[z,i3];exact aU _
   ·have l:=oU f (nF (d++w));have:=g z;rw[mU]at this;omega
  ·have:=o0 w (d++[r]) F nF λpre x a e=>by
    have:=h (r :: pre) x a (by rw[e];rfl)
    simpa using this
   simpa using this
theorem BF (f:Nat->Nat):∀(a:ay)(l:List Rp),(∀r∈l,∀c∈a,Nml (r c)/\(r c).9<=f c+1)->(dtp a l).9<=(a.map f).sum+1
 | [],[],_=>by simp[dtp]
 | [],_ :: _,_=>by simp[dtp]
 | c :: a,l,h=>by
  rw[dtp];refine o0 l [] (dtp a) (iq a) λpre r d e=>?_;have i:r∈l:=by rw[e];simp
  exists h r i c dU,j,m;refine#[j,λ_=>?_];have:=BF f a (pre++d) λx hx k g=>h x (by
   rw[e];rcases a8.mp hx with z|z
   ·simp[z]
   ·simp[z]) k (dC _ g)
  rw[hI,d9,iz];omega
def gw (rd:Rp->Nat)(l:List Rp):Nat:=(l.map rd).sum
theorem o3 (f:Rp->Nat):∀(a:ay)(l:List Rp),(∀r∈l,∀c∈a,Nml (r c)/\(r c).9<=f r+1)->(dtp a l).9<=gw f l+1
 | [],[],_=>by simp[dtp]
 | [],_ :: _,_=>by simp[dtp]
 | c :: a,l,h=>by
  rw[dtp];refine o0 l [] (dtp a) (iq a) λpre r d e=>?_;have i:r∈l:=by rw[e];simp
  exists h r i c dU,j,m;refine#[j,λ_=>?_];have:=o3 f a (pre++d) λx hx k g=>h x (by
   rw[e];rcases a8.mp hx with z|z
   ·simp[z]
   ·simp[z]) k (dC _ g)
  rw[e];unfold gw at this ⊢;simp only[hI,aR,gk,d9,iz]at this ⊢;omega
theorem mI {J:Nat}:∀(a:aa)(R:List Rw),(∀r∈R,r J=0)->dot a R J=0
 | [],R,_=>by cases R <;> rfl
 | m :: a,[],_=>rfl
 | m :: a,r :: R,h=>by rw[dot,h r dU,mI a R λx hx=>h x (dC _ hx)];simp
theorem Q2 {rs:List Rw}{cs:ay}{i:Nat}{x:Rw}{J:Nat}(h:∀r∈rs,r J=0)(hx:x J=0):bo rs cs i x J=0:=by
 exists jr (rs:=rs) (cs:=cs) i x,d,_,a;rw[a,mI _ _ λr c=>h r (gD c),hx];simp
def bX (w:Nat)(Vy:au)(p:Int):List Rw:=(aM Vy.9).map λi=>co (cC w (Vy.getD i []) i p)
section
variable {w:Nat}{Vy:au}{cs:ay}{p:Int}
theorem jA:(bX w Vy p).9=Vy.9:=by unfold bX;rw[af,gC]
theorem kf {i:Nat}(h:i<(bX w Vy p).9):(bX w Vy p)[i]=co (cC w (Vy.getD i []) i p):=by
 have e:(bX w Vy p)[i]?=Zz (co (cC w (Vy.getD i []) i p)):=by
  rw[jA]at h;unfold bX;rw[aI,iy h];rfl
 exact Zv ((aq h).symm.trans e)
theorem Q3 (W:∀v∈Vy,v.9=w){J:Nat}(d:w+(w+1)<=J):∀r∈bX w Vy p,r J=0:=λr c=>by
 unfold bX at c;exists bC.mp c,i,hi,rfl;have a:=dj.mp hi;exact aF #v[mG (W _ (mem_getD a)),d]
theorem BG {n i:Nat}(h:i<n):(dS w Vy cs p n).getD i []=fY w Vy cs p i:=by
 induction n with
 | zero=>omega
 | succ n ih=>
  rw[dS,az];by_cases z:i<n
  ·rw[cE #v[fh,z],<-az];exact ih z
  ·have e:i=n:=()
   subst e;rw[cQ #v[fh,aA _],fh,gB];rfl
def Ij (w:Nat)(Vy:au)(cs:ay)(p:Int)(n:Nat):Prop:=(∀i,i<=n->mi (bX w Vy p) cs i≠0)/\∀i,i<n->(fY w Vy cs p i).9=w+(w+1)/\∀j,co (fY w Vy cs p i) j=bo (bX w Vy p) cs i (co (cC w (Vy.getD i []) i p)) j
theorem mJ {n:Nat}(W:∀v∈Vy,v.9=w)(o:n<=Vy.9)(r:n<=cs.9)(h:Ij w Vy cs p n){x:aa}(d:x.9=w+(w+1)):∀i,i<=n->(dr x (dS w Vy cs p n) cs i).1=mi (bX w Vy p) cs i/\(dr x (dS w Vy cs p n) cs i).2.9=w+(w+1)/\∀j,co (dr x (dS w Vy cs p n) cs i).2 j=bo (bX w Vy p) cs i (co x) j
 | 0,_=>⟨rfl,d,λj=>by
  show co x j=dt [j] [co x];simp[dt,io]⟩
 | i+1,hi=>by
  exists mJ W o r h d i (),s,e,f;exists h.2 i (),g,k;have c:i<(bX w Vy p).9:=by rw[jA];omega
  have a:i<cs.9:=()
  have u:=BG (w:=w) (Vy:=Vy) (cs:=cs) (p:=p) (show i<n by omega);have y:cs.getD i 0=cs[i]:=by rw[az,aq a];rfl
  have m:co (fY w Vy cs p i) cs[i]=mi (bX w Vy p) cs (i+1):=by rw[k,mr c a,kf]
  have m0:=h.1 i ();rw[dr,u,y];refine#[m,by rw[ni,e,g];omega,λj=>?_];by_cases hj:j<w+(w+1)
  ·rw[QR () (),m,f,f,k,s];have st:=Pr c a (λl z=>h.1 l ()) (co x) j;rw[kf c]at st;rw[<-st];exact lN _ m0
  ·rw[aF (by rw[ni,e,g];omega)];exact (Q2 (Q3 W ()) (aF ())).symm
theorem kg (W:∀v∈Vy,v.9=w):∀n,n<=Vy.9->n<=cs.9->Piv w Vy cs p n->Ij w Vy cs p n
 | 0,_,_,_=>#[λi hi=>by rw[show i=0 by omega,uj];decide,λi hi=>by omega]
 | n+1,hk,hc,pv=>by
  have c:=kg W n () () λi hi=>pv i ();have f:(cC w (Vy.getD n []) n p).9=w+(w+1):=mG (W _ (mem_getD ()));exists mJ W () () c f n (aA _),_,l2,g;have d:n<(bX w Vy p).9:=by rw[jA];omega
  have a:n<cs.9:=()
  have h:cs.getD n 0=cs[n]:=by rw[az,aq a];rfl
  have hT:(fY w Vy cs p n).9=w+(w+1)/\∀j,co (fY w Vy cs p n) j=bo (bX w Vy p) cs n (co (cC w (Vy.getD n []) n p)) j:=#[l2,g]
  refine#[λi hi=>?_,λi hi=>?_]
  ·by_cases z:i<=n
   ·exact c.1 i z
   ·have e:i=n+1:=()
    subst e;rw[mr d a,kf d,<-hT.2];have:=pv n ();rw[h]at this;exact this
  ·by_cases z:i<n
   ·exact c.2 i z
   ·rw[show i=n by omega];exact hT
noncomputable def cO (w:Nat) (v:ac) (num:Nat):Rp:=λj=>if j<w then v.getD j [] else if j=w+num then [1] else []
theorem Q4 {v:ac}{a:Nat}(c:v.9=w)(d:a<=w):evR p (cO w v a)=co (cC w v a p):=by
 funext j
 unfold evR cO;by_cases z:j<w
 ·rw[if_pos z,BA ()]
 ·rw[if_neg z];obtain⟨i,rfl⟩:∃i,j=w+i:=#[j-w,()]
  by_cases y:i<=w
  ·rw[lC c y];by_cases x:i=a
   ·rw[if_pos (),if_pos x];simp[val]
   ·rw[if_neg (),if_neg x];rfl
  ·rw[if_neg (),aF (by rw[mG c];omega)];rfl
def cq (w:Nat)(Vy:au):List Rp:=(aM Vy.9).map λi=>cO w (Vy.getD i []) i
theorem Ik (W:∀v∈Vy,v.9=w)(hk:Vy.9<=w+1)(p:Int):(cq w Vy).map (evR p)=bX w Vy p:=by
 unfold cq bX;rw[ia];refine fB λi hi=>?_;have:=dj.mp hi;exact Q4 (W _ (mem_getD this)) ()
def mkP (w:Nat)(Vy:au)(cs:ay)(q:ac)(j:Nat):aa:=dtp (j :: cr cs Vy.9) (cq w (Vy++[q]))
theorem Q5 (q:ac):bX w (Vy++[q]) p=bX w Vy p++[co (cC w q Vy.9 p)]:=by
 unfold bX;rw[b8,mV,fZ,aR];congr 1
 ·refine fB λi hi=>?_;have:=dj.mp hi;rw[az,az,cE this]
 ·simp
theorem o4 (W:∀v∈Vy++[q],v.9=w)(hk:Vy.9<=w)(p:Int)(j:Nat):val p (mkP w Vy cs q j)=bo (bX w Vy p) cs Vy.9 (co (cC w q Vy.9 p)) j:=by
 unfold mkP bo;rw[uN,Ik W (by simp;omega),Q5,<-jA (w:=w) (Vy:=Vy) (p:=p),fy]
theorem BH (W:∀v∈Vy++[q],v.9=w)(hk:Vy.9<=w)(a:Vy.9<=cs.9)(pv:Piv w Vy cs p Vy.9)(j:Nat):co (dZ w Vy cs q p) j=val p (mkP w Vy cs q j):=by
 have c:∀v∈Vy,v.9=w:=λv d=>W v (by simp[d]);rw[o4 W hk];exact (mJ c (aA _) a (kg c _ (aA _) a pv) (mG (W q (by simp))) Vy.9 (aA _)).2.2 j
end
theorem Il {rs:List Rw}{cs:ay}{i R:Nat}{x:Rw}(d:∀r∈rs,∀j,Bd R (r j))(hx:∀j,Bd R (x j))(hi:i<=7)(j:Nat):Bd ((R+3)*(i+1)+1) (bo rs cs i x j):=by
 have h:=A7 (B:=2 ^ R) (N:=2 ^ 3) (ja (eo _) (eo _)) (j :: cr cs i) (rs.take i++[x]) (by rw[b8,bV];simp;omega) λr a c=>by
  rcases a8.mp a with z|z
  ·exact dz (d r (gD z) c)
  ·rw[bj.mp z];exact dz (hx c)
 rw[<-dN,<-pP]at h;refine cx h (cx (fu () ?_) (pM () (pj _)));rw[km R 3];refine d_ _ ?_;unfold cr;rw[cP,pQ,bV];omega
theorem Q6 {rs:List Rw}{cs:ay}{i R:Nat}(d:∀r∈rs,∀j,Bd R (r j))(hi:i<=7):Bd ((R+3)*i+1) (mi rs cs i):=by
 have h:=A7 (B:=2 ^ R) (N:=2 ^ 3) (ja (eo _) (eo _)) (cr cs i) (rs.take i) (by rw[bV];omega) λr a c=>dz (d r (gD a) c);rw[<-dN,<-pP]at h;refine cx h (cx (fu () ?_) (pM () (pj _)));rw[km R 3];refine d_ _ ?_;unfold cr;rw[pQ,bV];omega
structure VB (w:Nat)(Vy:au)(L b:Nat):Prop where
 wid:∀v∈Vy,v.9=w
 nml:∀v∈Vy,∀f∈v,Nml f/\f.9<=L/\∀c∈f,Bd b c
 few:Vy.9<=6
 w9:w<=9
 b0:0<b
section
variable {w L b:Nat}{Vy:au}{cs:ay}{p:Int}{q:ac}
theorem VB.row (B:VB w Vy L b){v:ac}(c:v∈Vy)(e:Bd 9 p)(a:Nat)(j:Nat):Bd (b+10*L) (co (cC w v a p) j):=
 dy (P:=λz=>Bd (b+10*L) z) (Ia e (λf d=>#[(B.nml v c f d).2.1,(B.nml v c f d).2.2]) B.b0) (Bd.zero _) j
theorem VB.rows (B:VB w Vy L b)(c:Bd 9 p):∀r∈bX w Vy p,∀j,Bd (b+10*L) (r j):=λr a j=>by
 unfold bX at a;exists bC.mp a,i,hi,rfl;exact B.row (mem_getD (dj.mp hi)) c i j
theorem VB.low (B:VB w Vy L b)(d:Bd 9 p)(r:(b+10*L+3)*7+1<=4000)(m:∀c∈cs,c<w){n:Nat}(o:n<=Vy.9)(g:n<=cs.9)(pv:Piv w Vy cs p n){v:ac}{a:Nat}(s:v.9=w)(bv:∀f∈v,f.9<=L/\∀c∈f,Bd b c):LowOk (cC w v a p) (dS w Vy cs p n) cs:=by
 have tb:=kg B.wid n o g pv;have w9:=B.w9;have few:=B.few;have k:(cC w v a p).9=w+(w+1):=mG s;have u:∀j,Bd (b+10*L) (co (cC w v a p) j):=λj=>dy (P:=λz=>Bd (b+10*L) z) (Ia d bv B.b0) (Bd.zero _) j;have big:∀i,i<=6->(b+10*L+3)*(i+1)+1<=4000:=λi hi=>aQ (CJ (d_ _ (show i+1<=7 by omega)) 1) r;refine#[#v[fh,g],(),λy hy=>?_,λc h=>by rw[k];have:=m c h;omega,λy hy=>?_,λi hi=>?_,λi hi=>?_]
 ·exists cU.mp hy,i,hi,rfl;rw[fh]at hi;have e:=BG (w:=w) (Vy:=Vy) (cs:=cs) (p:=p) hi;rw[az,aq #v[fh,hi]]at e;rw[show (dS w Vy cs p n)[i]'(#v[fh,hi])=fY w Vy cs p i from e,(tb.2 i hi).1,k]
 ·exists cU.mp hy,i,hi,rfl;rw[fh]at hi;have e:=BG (w:=w) (Vy:=Vy) (cs:=cs) (p:=p) hi;rw[az,aq #v[fh,hi]]at e;rw[show (dS w Vy cs p n)[i]'(#v[fh,hi])=fY w Vy cs p i from e];refine dg λj=>?_;rw[(tb.2 i hi).2 j];exact (Il (B.rows d) (B.row (mem_getD ()) d i) () j).mono (big i ())
 ·rw[fh]at hi;exists mJ B.wid o g tb k i (),x,_;rw[x];exact#[tb.1 i (),(Q6 (B.rows d) ()).mono (aQ (CJ (d_ _ (show i<=7 by omega)) 1) r)]
 ·rw[fh]at hi;exists mJ B.wid o g tb k i (),_,_,C;refine dg λj=>?_;rw[C];exact (Il (B.rows d) u () j).mono (big i ())
theorem VB.tbd (B:VB w Vy L b)(i:Bd 9 p)(m:(b+10*L+3)*7+1<=4000)(s:L<=60)(e:b<=1000)(g:∀c∈cs,c<w)(j:Vy.9<=cs.9):TBd w Vy cs p:=by
 have w9:=B.w9;refine#[(),i.mono (),λn o pv=>?_,λv k=>#[by rw[B.wid v k];omega,λf a=>?_]]
 ·have h:=mem_getD (d:=([]:ac)) o;exact B.low i m g () () pv (B.wid _ h) λf a=>#[(B.nml _ h f a).2.1,(B.nml _ h f a).2.2]
 ·exists B.nml v k f a,_,u,r;exact#[(),λc j=>(r c j).mono e]
theorem Q7 (W:∀v∈Vy++[q],v.9=w)(hk:Vy.9<=w)(p:Int)(j:Nat):val p (mkP w Vy cs q j)=dot ((aM Vy.9).map λi=>val p (mkP w Vy cs q (w+i))) (bX w Vy p) j+val p (mkP w Vy cs q (w+Vy.9))*co (cC w q Vy.9 p) j:=by
 exists jr (rs:=bX w Vy p) (cs:=cs) Vy.9 (co (cC w q Vy.9 p)),F,o,u;have J:(bX w Vy p).take Vy.9=bX w Vy p:=gS #v[jA,aA _];rw[J]at o u;have lr:=jA (w:=w) (Vy:=Vy) (p:=p);have lq:=W q (by simp);have x:∀i,i<Vy.9->Vy.getD i []∈Vy++[q]:=λi hi=>i4 _ (mem_getD hi);have G:∀i,i<Vy.9->∀a,a<=w->co (cC w (Vy.getD i []) i p) (w+a)=if a=i then 1 else 0:=λi hi a e=>lC (W _ (x i hi)) e
 have M:∀(f:aa)(s:Nat)(R:List Rw),f.9=R.9->(∀i (h:i<R.9) a,a<=w->R[i] (w+a)=if a=s+i then 1 else 0)->∀i (h:i<f.9),s+i<=w->dot f R (w+(s+i))=f[i]:=λf=>by
  induction f with
  | nil=>intro s R _ _ i h;simp at h
  | cons m f ih=>
   intro s R H I i h hs
   cases R with
   | nil=>simp at H
   | cons r R=>
    have k:=I 0 (by simp) (s+i) hs;simp only[Lw,Lx]at k;have g:∀i (h:i<R.9) a,a<=w->R[i] (w+a)=if a=s+1+i then 1 else 0:=λi h a e=>by
     have:=I (i+1) (by simp;omega) a e;simp only[Ly]at this;rw[this,show s+(i+1)=s+1+i by omega]
    rw[dot,k]
    cases i with
    | zero=>
     have z:dot f R (w+(s+0))=0:=mI _ _ λr k=>by
      exists cU.mp k,l,c,rfl;rw[g l c (s+0) (),if_neg ()]
     rw[z,if_pos ()];simp
    | succ i=>
     rw[if_neg ()];have:=ih (s+1) R (⇑H) g i (⇑h) ();rw[show s+(i+1)=s+1+i by omega,this];simp
 have y:F=(aM Vy.9).map λi=>val p (mkP w Vy cs q (w+i)):=by
  refine hZ (by rw[o,lr,af,gC]) λi C O=>?_;have hi:i<Vy.9:=by rw[o,lr]at C;exact C
  rw[ck,jc,o4 W hk,u];have d:=M F 0 (bX w Vy p) o (λl h a e=>by
   rw[kf h,G l (by rw[lr]at h;exact h) a e,nw]) i C ()
  rw[nw]at d;rw[d,lC lq (),if_neg ()];simp
 have n:val p (mkP w Vy cs q (w+Vy.9))=mi (bX w Vy p) cs Vy.9:=by
  rw[o4 W hk,u,lC lq hk,if_pos rfl,mI _ _ λr k=>by
   exists cU.mp k,l,c,rfl;rw[kf c,G l (by rw[lr]at c;exact c) _ hk,if_neg (by rw[lr]at c;omega)]]
  simp
 rw[o4 W hk p j,u,y,n]
theorem Im {c:Nat}(a:c∈cs)(d:cs.9=Vy.9):mkP w Vy cs q c=[]:=cW (iq _ _) cH λn=>by
 unfold mkP;rw[uN];refine A4 _ _ ?_;unfold cr;rw[lZ,<-d,fy];exact a
end
noncomputable def mx (xs:ay):Nat:=xs.foldr max 0
theorem BI {xs:ay}{x:Nat}(h:x∈xs):x<=mx xs:=by
 induction xs with
 | nil=>simp at h
 | cons y xs ih=>
  show x<=max y (mx xs);rcases bN.mp h with z|z
  ·omega
  ·have:=ih z;omega
theorem BJ {xs:ay}{b:Nat}(h:∀x∈xs,x<=b):mx xs<=b:=by
 induction xs with
 | nil=>exact aU _
 | cons y xs ih=>
  show max y (mx xs)<=b;have a:=h y dU;have c:=ih λx hx=>h x (dC _ hx);omega
theorem uO {ps:ac}{b:Int}(h:iW ps b):b=((mx (ps.map λp=>p.9-1):Nat):Int):=by
 rcases h with ⟨z,rfl⟩|⟨a,c⟩
 ·have:ps=[]:=lI.mp z;rw[this];rfl
 ·exists bC.mp a,p,d,rfl;have f:p.9-1<=mx (ps.map λp=>p.9-1):=BI (bC.mpr #[p,d,rfl]);have g:mx (ps.map λp=>p.9-1)<=p.9-1:=BJ λx hx=>by
   exists bC.mp hx,r,e,rfl;have:=c _ (bC.mpr #[r,e,rfl]);unfold dgL at this;omega
  unfold dgL;omega
theorem Io (xs:ay):(xs.map λx:Nat=>(x:Int)).sum=((xs.sum:Nat):Int):=by
 induction xs with
 | nil=>rfl
 | cons x xs ih=>simp[ih]
theorem BK {xs:ay}{x:Nat}(h:x∈xs):x<=xs.sum:=by
 induction xs with
 | nil=>simp at h
 | cons y xs ih=>
  rw[iz];rcases bN.mp h with z|z
  ·omega
  ·have:=ih z;omega
section
variable {w L b:Nat}{Vy:au}{cs:ay}{p:Int}{q:ac}
theorem Q8 (W:∀v∈Vy++[q],v.9=w)(nml:∀v∈Vy++[q],∀f∈v,Nml f/\f.9<=L)(hk:Vy.9<=w)(hl:cs.9=Vy.9)(G:∀c∈cs,c<w){N:Int}(h:oX (Vy++[q]) cs N):0<=N/\N<=((Vy.9*(L-1):Nat):Int)/\∀i,i<=Vy.9->((mkP w Vy cs q (w+i)).9:Int)<=N+1:=by
 exists h,bv,bc,m,h1,h2,h3,h4,h5,h6,h7;have ev:bv=((Vy++[q]).map λv=>mx (cs.map λc=>(v.getD c []).9-1)).map λx:Nat=>(x:Int):=by
  refine hZ #v[af,af,h1] λi k S=>?_;have hi:i<(Vy++[q]).9:=by rw[h1]at k;exact k
  rw[ck,ck,uO (h3 i bv[i] _ (aq k) (aq hi))];unfold iF;rw[ia];rfl
 have ec:bc=(cs.map λc=>mx ((Vy++[q]).map λv=>(v.getD c []).9-1)).map λx:Nat=>(x:Int):=by
  refine hZ #v[af,af,h2] λi k S=>?_;have hi:i<cs.9:=by rw[h2]at k;exact k
  rw[ck,ck,uO (h4 i bc[i] _ (aq k) (aq hi))];unfold iG;rw[ia];rfl
 have O:=congrArg List.sum ev;have P:=congrArg List.sum ec;rw[Io]at O P;generalize Q:(Vy++[q]).map (λv=>mx (cs.map λc=>(v.getD c []).9-1))=g at ev O;generalize hC:cs.map (λc=>mx ((Vy++[q]).map λv=>(v.getD c []).9-1))=J at ec P;have mm:∃M:Nat,m=(M:Int)/\M∈g/\∀x∈g,M<=x:=by
  rw[ev]at h5 h6;exists bC.mp h5,M,T,rfl;exact#[M,rfl,T,λx hx=>by have:=h6 _ (bC.mpr #[x,hx,rfl]);omega]
 exists mm,M,rfl,U,X;have y0:=BK U;have lL:∀v∈Vy++[q],∀c,(v.getD c []).9-1<=L-1:=λv Y c=>by
  by_cases z:c<v.9
  ·have:=(nml v Y _ (mem_getD (d:=([]:aa)) z)).2;omega
  ·rw[az,iN ()];simp
 have z0:J.sum<=Vy.9*(L-1):=by
  have:∀xs:ay,(∀x∈xs,x<=L-1)->xs.sum<=xs.9*(L-1):=λxs=>by
   induction xs with
   | nil=>intro _;simp
   | cons x xs ih=>
    intro hx;have k:=hx x dU;have S:=ih λy hy=>hx y (dC _ hy);rw[iz,cP,gy,fU];omega
  have a:=this J λx hx=>by
   rw[<-hC]at hx;exists bC.mp hx,c,_,rfl;exact BJ λy hy=>by
    exists bC.mp hy,v,Y,rfl;exact lL v Y c
  rw[show J.9=Vy.9 by rw[<-hC,af,hl]]at a;exact a
 have N0:0<=N/\N<=(J.sum:Int):=by rw[h7,P,O];split <;> omega
 refine#[N0.1,(),λi hi=>?_];have Z:∀c∈cr cs Vy.9,c∈cs:=λc j=>by
  unfold cr at j;exact gD (lZ.mp j)
 have row:∀r∈cq w (Vy++[q]),∃t,∃_:t<(Vy++[q]).9,r=cO w ((Vy++[q]).getD t []) t:=λr R=>by
  unfold cq at R;exists bC.mp R,t,n,rfl;exact#[t,dj.mp n,rfl]
 have H:∀t c,c<w->cO w ((Vy++[q]).getD t []) t c=((Vy++[q]).getD t []).getD c []:=λt c j=>by unfold cO;rw[if_pos j]
 have nm:∀t,t<(Vy++[q]).9->∀c,Nml (cO w ((Vy++[q]).getD t []) t c):=λt n c=>by
  unfold cO
  split
  ·rename_i z;exact (nml _ (mem_getD n) _ (mem_getD #v[W _ (mem_getD n),z])).1
  ·split
   ·exact fK ()
   ·exact cH
 have u0:(mkP w Vy cs q (w+i)).9<=J.sum+1:=by
  have:=BF (λc=>if c<w then mx ((Vy++[q]).map λv=>(v.getD c []).9-1) else 0) ((w+i) :: cr cs Vy.9) (cq w (Vy++[q])) λr R c j=>by
   exists row r R,t,n,rfl;refine#[nm t n c,?_];by_cases z:c<w
   ·rw[if_pos z,H t c z];have:=BI (xs:=(Vy++[q]).map λv=>(v.getD c []).9-1) (bC.mpr #[_,mem_getD (d:=([]:ac)) n,rfl]);omega
   ·rw[if_neg z];unfold cO;rw[if_neg z]
    split <;> simp
  unfold mkP;refine aQ this ?_;have e1:(vY (λc=>if c<w then mx ((Vy++[q]).map λv=>(v.getD c []).9-1) else 0) ((w+i) :: cr cs Vy.9)).sum=J.sum:=by
   rw[d9,iz,if_neg (),nw,<-hC];unfold cr;rw[List.map_reverse,List.sum_reverse,<-hl,fy];congr 1;exact fB λc j=>by rw[if_pos (G c j)]
  omega
 have o:i<(Vy++[q]).9:=by simp;omega
 have v0:(mkP w Vy cs q (w+i)).9+g.getD i 0<=g.sum+1:=by
  obtain⟨C,I⟩:∃C:Rp->Nat,∀r,C r=mx (cs.map λc=>(r c).9-1):=#[_,λ_=>rfl]
  have x0:gw C (cq w (Vy++[q]))=g.sum:=by
   unfold gw cq;rw[ia,<-Q];have:(Vy++[q]).map (λv=>mx (cs.map λc=>(v.getD c []).9-1))=(aM (Vy++[q]).9).map λt=>mx (cs.map λc=>(((Vy++[q]).getD t []).getD c []).9-1):=by
    refine hZ (by simp) λt k S=>?_;rw[ck,ck,jc,az,aq (⇑k)];rfl
   rw[this];congr 1;refine fB λt n=>?_;show C _=_;rw[I];congr 1;exact fB λc j=>by
    show (cO w ((Vy++[q]).getD t []) t c).9-1=_;rw[H t c (G c j)]
  have ri:C (cO w ((Vy++[q]).getD i []) i)=g.getD i 0:=by
   have e:g.getD i 0=mx (cs.map λc=>(((Vy++[q]).getD i []).getD c []).9-1):=by
    have eg:(Vy++[q]).getD i []=(Vy++[q])[i]:=by rw[az,aq o];rfl
    rw[eg,<-Q,az,aI,aq o];rfl
   rw[I,e];congr 1;exact fB λc j=>by rw[H i c (G c j)]
  have le:g.getD i 0<=g.sum:=by
   refine BK ?_;rw[az,aq #v[<-Q,af,o]];exact b_ _
  have:=o0 (c:=w+i) (D:=g.sum-g.getD i 0) (cq w (Vy++[q])) [] (dtp (cr cs Vy.9)) (iq _) λpre r F e=>by
   obtain⟨t,n,rfl⟩:=row r (by rw[e];simp);refine#[nm t n _,λp=>?_];have et:t=i:=by
    unfold cO at p;rw[if_neg ()]at p;by_cases z:w+i=w+t
    ·omega
    ·rw[if_neg z]at p;exact absurd rfl p
   subst et;have l1:(cO w ((Vy++[q]).getD t []) t (w+t)).9=1:=by unfold cO;rw[if_neg (),if_pos rfl];rfl
   have l2:=o3 C (cr cs Vy.9) (pre++F) λx hx c j=>by
    obtain⟨s,hs,rfl⟩:=row x (by
     rw[e];rcases a8.mp hx with z|z
     ·simp[z]
     ·simp[z])
    refine#[nm s hs c,?_];rw[I];have:=BI (xs:=cs.map λc=>(cO w ((Vy++[q]).getD s []) s c).9-1) (bC.mpr #[c,Z c j,rfl]);omega
   have l3:gw C (pre++F)+C (cO w ((Vy++[q]).getD t []) t)=g.sum:=by
    rw[<-x0,e];unfold gw;simp only[aR,gk,d9,iz];omega
   rw[ri]at l3;rw[hI,l1];omega
  have e2:(mkP w Vy cs q (w+i))=iop (w+i) (cq w (Vy++[q])) (λu=>dtp (cr cs Vy.9) ([]++u)):=rfl;rw[e2];omega
 have j0:=X (g.getD i 0) (by
  rw[az,aq #v[<-Q,af,o]];exact b_ _)
 rw[h7,P,O]
 split <;> omega
end
section
variable {w L b:Nat}{Vy:au}{cs:ay}{p:Int}{q:ac}
theorem BL (W:∀v∈Vy,v.9=w):∀n,n<=Vy.9->n<=cs.9->(∀i,i<=n->mi (bX w Vy p) cs i≠0)->Piv w Vy cs p n
 | 0,_,_,_=>λi hi=>by omega
 | n+1,hk,hc,h=>by
  have c:=BL W n () () λi hi=>h i ();have tb:=kg W n () () c;have d:n<(bX w Vy p).9:=by rw[jA];omega
  have a:n<cs.9:=()
  have f:cs.getD n 0=cs[n]:=by rw[az,aq a];rfl
  intro i hi;by_cases z:i<n
  ·exact c i z
  ·have e:i=n:=()
   subst e;have g:(cC w (Vy.getD i []) i p).9=w+(w+1):=mG (W _ (mem_getD ()));have j:=(mJ W () () tb g i (aA _)).2.2 cs[i];rw[f];have k:co (fY w Vy cs p i) cs[i]=mi (bX w Vy p) cs (i+1):=by rw[mr d a,kf d];exact j
   rw[k];exact h (i+1) (aA _)
def mnP (w:Nat)(Vy:au)(cs:ay)(i:Nat):aa:=dtp (cr cs i) ((cq w Vy).take i)
theorem uP (W:∀v∈Vy,v.9=w)(hk:Vy.9<=w+1)(n:Int)(i:Nat):val n (mnP w Vy cs i)=mi (bX w Vy n) cs i:=by
 unfold mnP mi;rw[uN,K_,Ik W hk]
def prP (w:Nat)(Vy:au)(cs:ay):Nat->aa
 | 0=>[1]
 | i+1=>pdL (prP w Vy cs i) (mnP w Vy cs (i+1))
theorem places (W:∀v∈Vy,v.9=w)(nml:∀v∈Vy,∀f∈v,Nml f/\f.9<=L)(hk:Vy.9<=w)(G:cs.9=Vy.9)(m:∀c∈cs,c<w)(pv:Piv w Vy cs p Vy.9):∃d:aa,Nml d/\d≠[]/\d.9<=1+Vy.9*(Vy.9*(L-1))/\∀n:Int,val n d≠0->Piv w Vy cs n Vy.9:=by
 have tb:=kg W _ (aA _) () pv;have M:(cq w Vy).9=Vy.9:=by unfold cq;rw[af,gC]
 have O:∀i,i<=Vy.9->(mnP w Vy cs i).9<=Vy.9*(L-1)+1:=λi hi=>by
  have:=BF (λ_=>L-1) (cr cs i) ((cq w Vy).take i) λr P c H=>by
   have a:=gD P;unfold cq at a;exists bC.mp a,t,Q,rfl;have o:=dj.mp Q;have g:c<w:=by
    unfold cr at H;exact m c (gD (lZ.mp H))
   unfold cO;rw[if_pos g];have I:=mem_getD (d:=([]:ac)) o;have:=nml _ I _ (mem_getD (d:=([]:aa)) (show c<(Vy.getD t []).9 by rw[W _ I];exact g));exact#[this.1,()]
  have e:(vY (λ_:Nat=>L-1) (cr cs i)).sum<=Vy.9*(L-1):=by
   have:∀h:ay,(h.map λ_=>L-1).sum=h.9*(L-1):=λh=>by
    induction h with
    | nil=>simp
    | cons x h ih=>rw[d9,iz,ih,cP,gy,fU];omega
   rw[this];refine eh _ ?_;unfold cr;rw[pQ,bV];omega
  unfold mnP;omega
 have s:∀i,i<=Vy.9->mnP w Vy cs i≠[]:=λi hi z=>tb.1 i hi (by rw[<-uP W (),z];rfl);have u:∀i,i<=Vy.9->Nml (prP w Vy cs i)/\prP w Vy cs i≠[]/\(prP w Vy cs i).9<=1+i*(Vy.9*(L-1))/\∀n:Int,val n (prP w Vy cs i)≠0->∀l,l<=i->mi (bX w Vy n) cs l≠0:=λi=>by
  induction i with
  | zero=>intro _;exact#[fK (),by simp[prP],by simp[prP],λn _ l G=>by rw[show l=0 by omega,uj];decide]
  | succ i ih=>
   intro hi;exists ih (),k,C,J,F;have nm:=iq (cr cs (i+1)) ((cq w Vy).take (i+1));refine#[cw _ _,gd k nm C (s _ hi),?_,λn j l G=>?_]
   ·have:=oU k nm;have:=O (i+1) hi;unfold mnP at this;show (pdL (prP w Vy cs i) (mnP w Vy cs (i+1))).9<=_;unfold mnP;rw[gy,fU];omega
   ·have e:val n (prP w Vy cs (i+1))=val n (prP w Vy cs i)*val n (mnP w Vy cs (i+1)):=aK _ _ _;rw[e]at j;by_cases z:l<=i
    ·exact F n (λy=>j (by rw[y];simp)) l z
    ·rw[show l=i+1 by omega,<-uP W ()];exact λy=>j (by rw[y];simp)
 exists u Vy.9 (aA _),k,C,J,F;exact#[_,k,C,J,λn j=>BL W _ (aA _) () (F n j)]
theorem Q9 (W:∀v∈Vy,v.9=w)(hk:Vy.9<=w+1)(H:cs.9=Vy.9)(pv:Piv w Vy cs p Vy.9){ms:aa}(I:ms.9=Vy.9)(g:∀c∈cs,dot ms (bX w Vy p) c=0):∀m∈ms,m=0:=by
 have tb:=kg W _ (aA _) () pv;have lr:=jA (w:=w) (Vy:=Vy) (p:=p);have n:(bX w Vy p).take Vy.9=bX w Vy p:=gS #v[lr,aA _];have all:=A6 (rs:=bX w Vy p) (cs:=cs) Vy.9 () () tb.1 ms (by rw[n];omega) λl h _=>by rw[n];exact g _ (b_ h)
 rw[n]at all;have C:∀(ms:aa)(s:Nat)(R:List Rw),ms.9=R.9->(∀i (h:i<R.9) a,a<=w->R[i] (w+a)=if a=s+i then 1 else 0)->s+ms.9<=w+1->(∀j,dot ms R j=0)->∀m∈ms,m=0:=λms=>by
  induction ms with
  | nil=>intro _ _ _ _ _ _ m F;simp at F
  | cons m ms ih=>
   intro s R f x hs g G o
   cases R with
   | nil=>simp at f
   | cons r R=>
    simp only[cP]at hs f;have d:∀i (h:i<R.9) a,a<=w->R[i] (w+a)=if a=s+1+i then 1 else 0:=λi h a e=>by
     have:=x (i+1) (by simp;omega) a e;simp only[Ly]at this;rw[this,show s+(i+1)=s+1+i by omega]
    have m0:m=0:=by
     have y:=g (w+s);have k:=x 0 (by simp) s ();simp only[Lw,Lx]at k;rw[dot,k,mI _ _ λr k=>by
      exists cU.mp k,l,u,rfl;rw[d l u s (),if_neg ()]]at y
     simpa using y
    rcases bN.mp o with z|z
    ·rw[z];exact m0
    ·refine ih (s+1) R () d () (λj=>?_) G z;have:=g j;rw[dot,m0]at this;omega
 refine C ms 0 (bX w Vy p) () (λi h a e=>?_) () all;rw[kf h,nw];exact lC (W _ (mem_getD (by rw[lr]at h;exact h))) e
end
noncomputable def ds:aa->aa->Int
 | a :: as,b :: bs=>a*b+ds as bs
 | _,_=>0
theorem Ip:∀(a:aa)(R:List Rw)(j:Nat),dot a R j=ds a (R.map λr=>r j)
 | [],R,_=>by cases R <;> rfl
 | m :: a,[],_=>rfl
 | m :: a,r :: R,j=>by rw[dot,d9,ds,Ip a R j]
noncomputable def cf:ay->aa->Nat->Int
 | i :: S,m :: ms,x=>(if x=i then m else 0)+cf S ms x
 | _,_,_=>0
theorem uQ:∀(S:ay)(a:aa)(x:Nat),x∉S->cf S a x=0
 | [],_,_,_=>by simp[cf]
 | i :: S,[],_,_=>by simp[cf]
 | i :: S,m :: a,x,h=>by
  rw[cf,if_neg (λz=>h #v[z,dU]),uQ S a x λz=>h (dC _ z)];rfl
theorem Iq:∀(S:ay)(a:aa),S.Nodup->S.9=a.9->∀t (h:t<S.9) (c:t<a.9),cf S a S[t]=a[t]
 | [],_,_,_,t,h,_=>by simp at h
 | i :: S,[],_,hl,_,_,_=>by simp at hl
 | i :: S,m :: a,nd,hl,t,h,c=>by
  rw[lG]at nd
  cases t with
  | zero=>
   simp only[Lw];rw[cf,if_pos rfl,uQ S a i nd.1];simp
  | succ t=>
   simp only[Ly];have d:t<S.9:=by simpa using h
   have:S[t]≠i:=λz=>nd.1 #v[<-z,b_ _];rw[cf,if_neg this,Iq S a nd.2 (⇑hl) t (⇑h) (⇑c)];simp
theorem Ir {k i:Nat}(h:i<k)(f:aL):ar k (λx=>if x=i then f x else 0)=f i:=by
 rw[mq h λj c a=>by rw[if_neg a],if_pos rfl]
theorem Is {k:Nat}(F:aL):∀(S:ay)(a:aa),S.9=a.9->(∀i∈S,i<k)->ds a (S.map F)=ar k λx=>cf S a x*F x
 | [],[],_,_=>by
  show (0:Int)=_;rw[fQ λj _=>by simp[cf]]
 | [],_ :: _,h,_=>by simp at h
 | _ :: _,[],h,_=>by simp at h
 | i :: S,m :: a,h,hS=>by
  have c:=Is F S a (⇑h) λx hx=>hS x (dC _ hx);have e:ar k (λx=>cf (i :: S) (m :: a) x*F x)=ar k (λx=>if x=i then m*F x else 0)+ar k λx=>cf S a x*F x:=by
   rw[<-jU];exact b7 λx _=>by rw[cf];split <;> grind
  rw[d9,ds,c,e,Ir (hS i dU)]
theorem Q_ {p q g U W:aa}{m:Int}{G:Nat}(a:Nml p)(e:Nml q)(ng:Nml g)(c:p≠[])(f:q≠[])(g0:g≠[])(lA:(pdL p g).9<=40)(lB:(pdL q g).9<=40)(lg:g.9<=40)(bA:∀z∈pdL p g,Bd 5000 z)(bB:∀z∈pdL q g,Bd 5000 z)(h:m≠0)(i:∀n,val n U*val n p+val n W*val n q=m)(j:∀z∈g,m.8*z.8<=G)(bG:Bd 4480 (G:Int)):gu (pdL p g) (pdL q g) (di (pdL [((ai (p++q):Nat):Int)] g)):=by
 obtain⟨k,o,r,B0,s,u⟩:=Qz a e ng (cw p g) (cw q g) c f g0 lA lB lg bA bB j h bG i (λn=>aK n p g) (λn=>aK n q g);refine .inr (.inr #[r,B0,k,o,bA,bB,_,_,s,?_]);rw[u];have v:((ai (p++q):Nat):Int)≠0:=by
  have C:=hE a c;have d:ai (p++q)∣ai p:=iY _ _ λx hx=>gP _ x (by simp[hx]);intro z;have y:ai (p++q)=0:=()
  rw[y]at d;have:=Cz d;omega
 congr 1;exact cW (cw _ _) (i0 v ng) λn=>by rw[aK,be];simp[val]
theorem Iu {B k b:Nat}(h:B<=2 ^ b):B ^ k<=2 ^ (b*k):=#v[pP,nv h k]
theorem Iv (a:au)(ws:ac)(c:Nat):∀n,Nml (eN a ws c n)
 | 0=>cH
 | n+1=>G5 _ _
theorem o7 (a:au)(ws:ac)(c:Nat)(n:Int):∀k,val n (eN a ws c k)=ar k λt=>val n ((a.getD t []).getD c [])*val n (ws.getD t [])
 | 0=>rfl
 | k+1=>by
  rw[eN,G0,GZ,o7 a ws c n k];rfl
theorem Iw (F G:aL):∀m,ds ((aM m).map F) ((aM m).map G)=ar m λt=>F t*G t:=λm=>by
 have f:∀(as bs c d:aa),as.9=bs.9->ds (as++c) (bs++d)=ds as bs+ds c d:=λas=>by
  induction as with
  | nil=>intro bs c d e;cases bs with
   | nil=>simp[ds]
   | cons=>simp at e
  | cons a as ih=>intro bs c d e;cases bs with
   | nil=>simp at e
   | cons b bs=>simp only[lU,ds];rw[ih bs c d (⇑e)];omega
 induction m with
 | zero=>rfl
 | succ m ih=>
  rw[fZ,aR,aR,f _ _ _ _ (by simp),ih];simp[ds,ar]
theorem Ix {n:Nat}{few:ay}{ws:ac}(d:few.Pairwise (· < ·))(e:∀i∈few,i<n):∀m,m<=few.9->(∀l (h:l<few.9),l<m->(spw n few ws m)[few[l]]?=Zz (ws.getD l []))/\(∀i,i<n->i∉few.take m->(spw n few ws m)[i]?=Zz [])/\(spw n few ws m)[n]?=Zz (ws.getD few.9 [])
 | 0,_=>by
  refine#[λl h f=>by omega,λi hi _=>?_,?_]
  ·rw[spw,cE (⇑hi),lH,if_pos hi]
  ·rw[spw,cQ (by simp),pk,gB];rfl
 | m+1,hm=>by
  exists Ix (ws:=ws) d e m (),g,j,k;have a:m<few.9:=()
  have o:few.getD m 0=few[m]:=by rw[az,aq a];rfl
  have p:=e _ (b_ a);have ll:=jz n few ws m;rw[spw,o];refine#[λl h f=>?_,λi hi c=>?_,?_]
  ·by_cases z:l=m
   ·subst z;rw[vD ()]
   ·have:few[l]<few[m]:=pO.mp d l m h a ();rw[pi ()];exact g l h ()
  ·rw[cY,aq a]at c;simp only[Option.toList_some,a8,bj,not_or]at c;rw[pi (λz=>c.2 z.symm)];exact j i hi c.1
  ·rw[pi ()];exact k
def syn (x:Int):aa->aa
 | []=>[]
 | _ :: e=>bY e ((syn x e).map λz=>x*z)
theorem BM:∀(a c:aa),c.9<=a.9->(bY a c).9=a.9
 | [],[],_=>rfl
 | [],_ :: _,h=>by simp at h
 | x :: a,[],_=>by simp[bY]
 | x :: a,y :: c,h=>by simp only[bY,cP];rw[BM a c (⇑h)]
theorem Iy (x:Int):∀e:aa,(syn x e).9<=e.9
 | []=>aA _
 | a :: e=>by
  rw[syn,BM _ _ #v[af,Iy x e],cP];omega
theorem Ra (x a:Int)(e:aa):(syn x (a :: e)).9=e.9:=by
 rw[syn,BM _ _ #v[af,Iy x e]]
theorem Iz (x n:Int):∀e:aa,val n e=val x e+(n-x)*val n (syn x e)
 | []=>by simp[val,syn]
 | a :: e=>by
  have c:=Iz x n e;rw[syn,fo,be];simp only[val];grind
theorem IA (x:Int):∀(e:aa)(a:Int)(j:Nat),co (syn x (a :: e)) (j+1)=co (syn x e) j
 | [],a,j=>by simp[syn,bY,co]
 | b :: e,a,j=>by
  have c:=IA x e b j;rw[syn,fX,eQ,c,syn,fX,eQ];rfl
theorem IB (x:Int):∀(e:aa)(a:Int),co (syn x (a :: e)) 0=val x e
 | [],a=>by simp[syn,bY,co,val]
 | b :: e,a=>by
  have c:=IB x e b;rw[syn,fX,eQ,c];rfl
theorem IC (X:Nat):∀(d:Nat)(e c:aa)(M:Nat),e.9<=d+1->c.9=d+1->c.Nodup->(∀x∈c,x.8<=X)->(∀x∈c,(val x e).8<=M)->∀j,(co e j).8<=M*(2*X+3) ^ d
 | d,[],c,M,_,_,_,_,_,j=>by rw[aF (by simp)];simp
 | 0,a :: e,c,M,he,hl,_,_,hm,j=>by
  have r:e=[]:=bD (⇑he);subst r;exists CK.mp hl,x,rfl;have:=hm x (by simp);simp[val]at this
  cases j with
  | zero=>simpa [co] using this
  | succ j=>rw[aF (by simp)];simp
 | d+1,a :: e,c,M,he,hl,nd,hx,hm,j=>by
  cases c with
  | nil=>simp at hl
  | cons x c=>
   rw[lG]at nd;have o:=hx x dU;have g:=hm x dU;have h:=IC X d (syn x (a :: e)) c (2*M) (by rw[Ra];simpa using he) (⇑hl) nd.2 (λy hy=>hx y (dC _ hy)) λy hy=>by
    have m:=Iz x y (a :: e);have i:=hm y (dC _ hy);have s:y-x≠0:=λz=>nd.1 (by rw[show x=y by omega];exact hy);have n:((y-x)*val y (syn x (a :: e))).8<=2*M:=by
     rw[show (y-x)*val y (syn x (a :: e))=val y (a :: e)-val x (a :: e) by omega,Nat.two_mul];exact aQ (lQ _ _) (lP i g)
    rw[cc]at n;exact aQ (h_ _ ()) n
   generalize hT:2*M*(2*X+3) ^ d=T at h;have k:T+X*T+M<=M*(2*X+3) ^ (d+1):=by
    have v:M<=M*(2*X+3) ^ d:=iu _ (Nat.pow_pos ());rw[ko,<-gj,<-hT];have p:2*M*(2*X+3) ^ d=2*(M*(2*X+3) ^ d):=by rw[gj]
    rw[p];clear p hT h;generalize M*(2*X+3) ^ d=Y at *;grind
   have f:∀z:Int,z.8<=T->(x*z).8<=X*T:=λz u=>by rw[cc];exact dY o u
   cases j with
   | zero=>
    have m:co (a :: e) 0=val x (a :: e)-x*co (syn x (a :: e)) 0:=by rw[IB];simp[co,val]
    have i:=f _ (h 0);rw[m];refine aQ (aQ (lQ _ _) (lP g i)) (aQ ?_ k);rw[km];exact CJ (Nat.le_add_left _ _) _
   | succ j=>
    have m:co (a :: e) (j+1)=co (syn x (a :: e)) j-x*co (syn x (a :: e)) (j+1):=by
     rw[IA,syn,fX,eQ];have:co (a :: e) (j+1)=co e j:=rfl;omega
    have i:=f _ (h (j+1));have n:=h j;rw[m];exact aQ (aQ (lQ _ _) (lP n i)) (aQ (Nat.le_add_right _ _) k)
theorem Rb {f:aa}(e:Nml f)(g:f≠[]){D:Nat}(i:f.9<=D+1):∃c:aa,c.9=D+1/\c.Nodup/\(∀x∈c,x.8<=2*D)/\∀x∈c,val x f≠0:=by
 obtain⟨R,d⟩:∃R,R=(aM (2*D+1)).map λn:Nat=>(n:Int):=#[_,rfl]
 have a:R.Nodup:=by
  rw[d];refine List.pairwise_map.mpr (List.nodup_range.imp λh z=>h ())
 have j:∀x∈R,x.8<=2*D:=λx hx=>by
  rw[d]at hx;exists bC.mp hx,n,k,rfl;have:=dj.mp k;omega
 have lb:(R.filter λx=>val x f == 0).9<=D:=by
  refine pC λh=>g (Bz e (a.filter _) (aQ i h) λp m=>?_);exact beq_iff_eq.mp (lE.mp m).2
 have lt:(R.filter λx=>val x f == 0).9+(R.filter λx=>!(val x f == 0)).9=R.9:=by
  rw[<-TR,<-TR];have:=List.length_eq_countP_add_countP (λx=>val x f == 0) (l:=R);rw[this];congr 1;exact List.countP_congr λx _=>by simp
 have o:R.9=2*D+1:=by rw[d];simp
 refine#[(R.filter λx=>!(val x f == 0)).take (D+1),by rw[bV];omega,(a.filter _).sublist (vG _ _),λx hx=>j x (lE.mp (gD hx)).1,λx hx=>?_];have:=(lE.mp (gD hx)).2
 simpa using this
theorem BN {a:aa}{c:Nat}(i:0<c)(na:Nml a)(h:∀x∈a,(c:Int)∣x):∃d:aa,Nml d/\(∀n,val n a=(c:Int)*val n d)/\∀j,co a j=(c:Int)*co d j:=by
 have e:(a.map λx=>x / (c:Int)).map (λz=>(c:Int)*z)=a:=by
  rw[ia]
  conv=>rhs;rw[<-Ln a]
  exact fB λx hx=>vV (h x hx)
 refine#[a.map λx=>x / (c:Int),eK.mpr λz f g=>?_,λn=>?_,λj=>?_]
 ·rw[wh]at f;exists de.mp f,y,hy,rfl;refine eK.mp na y hy ?_;have:=vV (h y (me hy));rw[g]at this;omega
 ·conv=>lhs;rw[<-e]
  rw[be]
 ·conv=>lhs;rw[<-e]
  rw[eQ]
theorem Rc {h v:aa}(f:Nml h){k:Int}(a:k≠0)(e:∀n,k=val n h*val n v):h.9<=1:=by
 have g:pdL h (aO v)=[k]:=cW (cw _ _) (fK a) λn=>by
  rw[aK,fS,<-e];simp[val]
 have i:h≠[]:=λz=>a (by rw[e 0,z];simp[val]);have c:aO v≠[]:=λz=>a (by rw[e 0,<-fS 0 v,z];simp[val]);have d:=(d8 f (cG v) i c).1;rw[g]at d;have j:(aO v).9≠0:=λz=>c (bD z);rw[mV]at d;omega
def NF (us:ac):Prop:=∀h:aa,Nml h->2<=h.9->∀M:Int,M≠0->(∀u∈us,∃v,∀n,M*val n u=val n h*val n v)->False
structure PG (w L e b l B D β:Nat):Prop where
 w5:w<=5
 L1:1<=L
 Ll:L+e<=2 ^ l
 L40:L+e<=40
 b0:0<b
 b1:(b+10*(L+e)+3)*7+1<=4000
 b2:b<=1000
 b3:(w+2)*(2*B+2)<=900
 pl:97+B*(w+1)<512
 D15:D<=15
 dD:w*(L-1)+e<=D
 d60:w*(L+e-1)<60
 bb:(3+l+b)*w+3 < β
 big:5*(2*D+1)+(β+12*D+7)*D+β * D+(β+12*D+7)+β+1<=4480
 pls:w*(w*(L-1))+w*(L+e-1)<B
section
variable {w L e b l B D β:Nat}{Vy:au}{cs:ay}{q:ac}
def StG (w B:Nat)(Vy:au)(cs:ay)(pl:Int):Prop:=cs.9=Vy.9/\(∀c∈cs,c<w)/\cs.Nodup/\97<=pl/\pl<=97+(B:Int)*(Vy.9:Int)/\Piv w Vy cs pl Vy.9
def RlG (w D g:Nat)(Vy:au)(q ws:ac):Prop:=ws.9=Vy.9+1/\(∀r∈ws,Nml r/\r.9<=D+1/\∀c∈r,Bd g c)/\(∃p0 t0,ws.getD Vy.9 []=p0++[t0]/\0<t0)/\(∀s:Nat,Prm s->(∀u∈ws,∀j,(s:Int)∣co u j)->False)/\
 ∀c,c<w->∀n,ar (Vy.9+1) (λt=>val n (((Vy++[q]).getD t []).getD c [])*val n (ws.getD t []))=0
theorem StG.few {pl:Int}(h:StG w B Vy cs pl):Vy.9<=w:=by
 exists h,a,d,e,_;rw[<-a];exact oY w 0 cs e λc f=>#[aU _,by have:=d c f;omega]
theorem Re (W:∀v∈Vy++[q],v.9=w)(kw:Vy.9<=w)(p:Int):val p (mkP w Vy cs q (w+Vy.9))=mi (bX w Vy p) cs Vy.9:=by
 rw[o4 W kw];exists jr (rs:=bX w Vy p) (cs:=cs) Vy.9 (co (cC w q Vy.9 p)),e,_,c;have lr:=jA (w:=w) (Vy:=Vy) (p:=p);rw[c,lC (W q (by simp)) kw,if_pos rfl,mI _ _ λr d=>by
  exists cU.mp (gD d),l,a,rfl;rw[kf a,lC (W _ (i4 _ (mem_getD (by rw[lr]at a;exact a)))) kw,if_neg (by rw[lr]at a;omega)]]
 simp
theorem BO {k:Nat}{c:Nat}(a:c∈cr cs k):c∈cs:=by
 unfold cr at a;exact gD (lZ.mp a)
theorem Rf (k:Nat):(cr cs k).9<=k:=by unfold cr;rw[pQ,bV];omega
theorem ID (W:∀v∈Vy,v.9=w){p:Int}{j:Nat}(a:j<w)(F:aL):dot ((aM Vy.9).map F) (bX w Vy p) j=ar Vy.9 λx=>F x*val p ((Vy.getD x []).getD j []):=by
 rw[Ip];have:(bX w Vy p).map (λr=>r j)=(aM Vy.9).map λx=>val p ((Vy.getD x []).getD j []):=by
  unfold bX;rw[ia];refine fB λx hx=>?_;have c:=mem_getD (d:=([]:ac)) (dj.mp hx);show co (cC w (Vy.getD x []) x p) j=_;rw[BA #v[W _ c,a]]
 rw[this,Iw]
theorem Rg (W:∀v∈Vy++[q],v.9=w)(kw:Vy.9<=w){c:Nat}(a:c<w)(n:Int):ar (Vy.9+1) (λt=>val n (((Vy++[q]).getD t []).getD c [])*val n (mkP w Vy cs q (w+t)))=val n (mkP w Vy cs q c):=by
 rw[Q7 W kw n c,ID (λv d=>W v (i4 _ d)) a,BA (by rw[W q (by simp)];exact a),oH];congr 1
 ·refine b7 λx hx=>?_;rw[cT,az (l:=Vy++[q]),cE hx,<-az]
 ·rw[az (l:=Vy++[q]),cQ (aA _),gB,cT];rfl
end
section
variable {w L e b l B D β:Nat}{Vy:au}{cs:ay}{q:ac}{pl:Int}
theorem IE {few:ay}(a:∀v∈Vy,v.9=w/\∀f∈v,Nml f/\f.9<=L/\∀c∈f,Bd b c)(d:∀i∈few,i<Vy.9):∀v∈few.map (λi=>Vy.getD i []),v.9=w/\∀f∈v,Nml f/\f.9<=L/\∀c∈f,Bd b c:=λv h=>by
 exists bC.mp h,i,hi,rfl;exact a _ (mem_getD (d i hi))
theorem BP {few:ay}{t:Nat}(a:t<few.9):(few.map λi=>Vy.getD i []).getD t []=Vy.getD few[t] []:=by
 rw[az,aI,aq a];rfl
theorem IF {few:ay}(nd:few.Nodup)(a:∀i∈few,i<Vy.9)(ws:ac)(c:Nat)(n:Int):ar few.9 (λt=>val n ((Vy.getD (few.getD t 0) []).getD c [])*val n (ws.getD t []))=ar Vy.9 λx=>cf few ((aM few.9).map λt=>val n (ws.getD t [])) x*val n ((Vy.getD x []).getD c []):=by
 rw[<-Is (k:=Vy.9) (λx=>val n ((Vy.getD x []).getD c [])) few _ (by simp) a];have:few.map (λx=>val n ((Vy.getD x []).getD c []))=(aM few.9).map λt=>val n ((Vy.getD (few.getD t 0) []).getD c []):=by
  refine hZ (by simp) λt d e=>?_;rw[ck,ck,jc,az (l:=few),aq (⇑d)];rfl
 rw[this,Iw];exact b7 λt _=>cT _ _
theorem IG {q:ac}{few:ay}{ws:ac}(c:Nat)(n:Int):ar ((few.map λi=>Vy.getD i []).9+1) (λt=>val n (((few.map (λi=>Vy.getD i [])++[q]).getD t []).getD c [])*val n (ws.getD t []))=ar few.9 (λt=>val n ((Vy.getD (few.getD t 0) []).getD c [])*val n (ws.getD t []))+val n (q.getD c [])*val n (ws.getD few.9 []):=by
 rw[af,oH];congr 1
 ·refine b7 λt a=>?_;rw[az (l:=_++[q]),cE (⇑a),<-az,BP a,az (l:=few),aq a];rfl
 ·rw[az (l:=_++[q]),cQ (by simp)];simp
end
section
variable {w:Nat}{Vy:au}{cs:ay}{q:ac}
noncomputable def dgS (ds:Nat->Nat) (m t:Nat):Nat:=((aM m).map λs=>if s=t then 0 else ds s).sum
theorem uR (ds:Nat->Nat)(m t:Nat)(h:t<m):dgS ds m t+ds t=((aM m).map ds).sum:=by
 unfold dgS
 induction m with
 | zero=>omega
 | succ m ih=>
  rw[fZ,aR,aR,gk,gk,jb,jb,ky,ky];by_cases z:m=t
  ·subst z;rw[if_pos rfl];have:(aM m).map (λs=>if s=m then 0 else ds s)=(aM m).map ds:=fB λs hs=>by
    have:=dj.mp hs;rw[if_neg ()]
   rw[this];omega
  ·rw[if_neg z];have:=ih ();omega
theorem uS {v:ac}{s t:Nat}:cO w v s (w+t)=if t=s then [1] else []:=by
 unfold cO;rw[if_neg ()];by_cases z:t=s
 ·rw[if_pos z,if_pos ()]
 ·rw[if_neg z,if_neg ()]
theorem Rh {ds:Nat->Nat}(V:∀s v,(Vy++[q])[s]?=Zz v->v.9=w/\∀f∈v,Nml f/\f.9<=ds s+1)(u:∀c∈cs,c<w){t:Nat}(M:t<Vy.9+1):(mkP w Vy cs q (w+t)).9<=dgS ds (Vy.9+1) t+1:=by
 have ln:(Vy++[q]).9=Vy.9+1:=by simp
 obtain⟨j,y⟩:∃j:Rp->Nat,∀r,j r=((aM (Vy.9+1)).map λs=>if r (w+s)=[] then 0 else ds s).sum:=#[_,λ_=>rfl]
 have C:∀s v,s<Vy.9+1->j (cO w v s)=ds s:=λs v hs=>by
  rw[y];have e:(aM (Vy.9+1)).map (λg=>if cO w v s (w+g)=[] then 0 else ds g)=(aM (Vy.9+1)).map (λg=>if g=s then ds s else 0):=fB λg _=>by
   rw[uS];by_cases z:g=s
   ·rw[if_pos z,if_neg (by simp),if_pos z,z]
   ·rw[if_neg z,if_pos rfl,if_neg z]
  rw[e];clear e;have:∀m,s<m->((aM m).map λg=>if g=s then ds s else 0).sum=ds s:=λm=>by
   induction m with
   | zero=>intro h;omega
   | succ m ih=>
    intro h;rw[fZ,aR,gk,jb,ky];by_cases z:m=s
    ·subst z;rw[if_pos rfl];have:(aM m).map (λg=>if g=m then ds m else 0)=bZ m 0:=List.eq_replicate_iff.mpr ⟨by simp,λx hx=>by
      exists bC.mp hx,g,a,rfl;have:=dj.mp a;rw[if_neg ()]⟩
     rw[this,List.sum_replicate_nat];omega
    ·rw[if_neg z,ih ()];omega
  exact this _ hs
 have rows:cq w (Vy++[q])=(aM (Vy.9+1)).map λi=>cO w ((Vy++[q]).getD i []) i:=by unfold cq;rw[ln]
 have F:gw j (cq w (Vy++[q]))=((aM (Vy.9+1)).map ds).sum:=by
  rw[rows];unfold gw;rw[ia];congr 1;exact fB λs hs=>C s _ (dj.mp hs)
 have all:∀r∈cq w (Vy++[q]),∃s,s<Vy.9+1/\j r=ds s/\(∀t,r (w+t)=if t=s then [1] else [])/\∀c,c<w->Nml (r c)/\(r c).9<=j r+1:=λr o=>by
  rw[rows]at o;exists bC.mp o,s,hs,rfl;have a:=dj.mp hs;refine#[s,a,C s _ a,λt=>uS,λc p=>?_];rw[C s _ a];have O:(Vy++[q])[s]?=Zz ((Vy++[q]).getD s []):=by
   rw[az,aq #v[ln,a]];rfl
  exists V s _ O,P,Q;unfold cO;rw[if_pos p];exact Q _ (mem_getD (d:=([]:aa)) #v[P,p])
 have G:=o0 (c:=w+t) (D:=dgS ds (Vy.9+1) t) (cq w (Vy++[q])) [] (dtp (cr cs Vy.9)) (iq _) λpre r k H=>by
  have o:r∈cq w (Vy++[q]):=by rw[H];simp
  exists all r o,s,S,T,I,U;refine#[?_,λn=>?_]
  ·rw[I];split
   ·exact fK ()
   ·exact cH
  have st:t=s:=by
   rw[I]at n;by_cases z:t=s
   ·exact z
   ·rw[if_neg z]at n;exact absurd rfl n
  subst st;have X:(r (w+t)).9=1:=by rw[I,if_pos rfl];rfl
  have l2:=o3 j (cr cs Vy.9) (pre++k) λx hx c p=>by
   have J:x∈cq w (Vy++[q]):=by
    rw[H];rcases a8.mp hx with z|z
    ·simp[z]
    ·simp[z]
   exists all x J,_,_,_,_,R;exact R c (u c (BO p))
  have Y:gw j (pre++k)+j r=((aM (Vy.9+1)).map ds).sum:=by
   rw[<-F,H];unfold gw;simp only[aR,gk,d9,iz];omega
  have Z:=uR ds (Vy.9+1) t M;rw[hI];omega
 exact G
end
def prR (M:Rp->Nat)(l:List Rp):Nat:=l.foldr (λr a=>M r*a) 1
theorem uT (M:Rp->Nat)(r:Rp)(a:List Rp):∀pre:List Rp,prR M (pre++r :: a)=M r*prR M (pre++a)
 | []=>rfl
 | x :: pre=>by
  show M x*prR M (pre++r :: a)=M r*(M x*prR M (pre++a));rw[uT M r a pre];grind
theorem BQ {c X:Nat}:∀(w d:List Rp)(F:List Rp->aa),(∀pre r a,w=pre++r :: a->∀j,(co (pdL (r c) (F (d++pre++a))) j).8<=X)->∀j,(co (iop c w λu=>F (d++u)) j).8<=w.9*X
 | [],_,_,_,j=>by simp[iop,co]
 | r :: w,d,F,h,j=>by
  have g:=BQ w (d++[r]) F (λpre i a e j=>by
   have:=h (r :: pre) i a (by rw[e];rfl) j
   rwa [show d++(r :: pre)++a=d++[r]++pre++a by simp]at this) j
  have f:=h [] r w rfl j;rw[mU]at f;have k:co (pdL [(-1) ^ w.9] (pdL (r c) (F (d++w)))) j=(-1) ^ w.9*co (pdL (r c) (F (d++w))) j:=by
   rw[<-eQ];exact fJ (λn=>by rw[aK,be];simp[val]) j
  rw[iop,cP,gy,fU];unfold fL;rw[cN,fX,k];have m:((-1:Int) ^ w.9*co (pdL (r c) (F (d++w))) j).8<=X:=by
   rw[cc,Lo]
   simpa using f
  have o:(λu=>F (d++r :: u))=λu=>F (d++[r]++u):=by funext u;simp
  have p:(co (iop c w λu=>F (d++r :: u)) j).8<=w.9*X:=by rw[o];exact g
  have:=i7 ((-1:Int) ^ w.9*co (pdL (r c) (F (d++w))) j) (co (iop c w λu=>F (d++r :: u)) j);exact aQ this #v[km (w.9*X),lP m p]
theorem IH {N L:Nat}(M:Rp->Nat):∀(d:ay)(l:List Rp),l.9<=N->(∀r∈l,∀c∈d,(r c).9<=L/\∀z∈r c,z.8<=M r)->∀j,(co (dtp d l) j).8<=N ^ d.9*prR (λr=>L*M r) l
 | [],[],_,_,j=>by
  have:(co (dtp [] []) j).8<=1:=dy (P:=λz=>z.8<=1) (xs:=dtp [] []) (by simp[dtp]) (by simp) j
  simpa [prR] using this
 | [],r :: l,_,h,j=>by
  have:(co (dtp [] (r :: l)) j).8=0:=by simp[dtp,co]
  rw[this];exact aU _
 | c :: d,l,hl,hb,j=>by
  have f:=BQ (c:=c) (X:=N ^ d.9*prR (λr=>L*M r) l) l [] (dtp d) (λpre r a e j=>by
   have k:r∈l:=by rw[e];simp
   have sub:∀x∈pre++a,x∈l:=λx hx=>by
    rw[e];rcases a8.mp hx with z|z
    ·simp[z]
    ·simp[z]
   have m:(pre++a).9<=N:=by
    have:l.9=pre.9+(a.9+1):=by rw[e];simp
    rw[b8];omega
   have i:=IH M d (pre++a) m λx hx n g=>hb x (sub x hx) n (dC _ g);exists hb r k c dU,o,p;rw[hI,e,uT];generalize prR (λr=>L*M r) (pre++a)=Z at i;have b:=dy (P:=λz=>z.8<=(r c).9*(M r*(N ^ d.9*Z))) (HN p (dg i)) (by simp) j;refine aQ b (aQ (eh _ o) (kk ?_));grind) j
  show (co (iop c l λu=>dtp d ([]++u)) j).8<=_;refine aQ f (aQ (eh _ hl) (kk ?_));rw[cP,ko];grind
section
variable {w:Nat}{Vy:au}{cs:ay}{q:ac}
noncomputable def pA (ms:Nat->Nat):Nat->Nat
 | 0=>1
 | m+1=>pA ms m*ms m
noncomputable def pS (ms:Nat->Nat) (t:Nat):Nat->Nat
 | 0=>1
 | m+1=>pS ms t m*(if m=t then 1 else ms m)
theorem II {ms:Nat->Nat}{t:Nat}:∀m,m<=t->pS ms t m=pA ms m
 | 0,_=>rfl
 | m+1,h=>by
  show pS ms t m*_=pA ms m*ms m;rw[II m (),if_neg ()]
theorem IJ {ms:Nat->Nat}{t:Nat}:∀m,t<m->pS ms t m*ms t=pA ms m
 | 0,h=>by omega
 | m+1,h=>by
  show pS ms t m*_*ms t=pA ms m*ms m;by_cases z:m=t
  ·subst z;rw[if_pos rfl,md,II m (aA _)]
  ·rw[if_neg z,gj,fq (ms m),<-gj,IJ m ()]
theorem IK (M:Rp->Nat)(g:Nat->Rp)(ms:Nat->Nat):∀m,(∀s,s<m->M (g s)=ms s)->prR M ((aM m).map g)=pA ms m
 | 0,_=>rfl
 | m+1,h=>by
  rw[fZ,aR,jb,uT,mU,IK M g ms m λs hs=>h s (),h m ()];exact fq _ _
theorem Ri {ms:Nat->Nat}{L:Nat}(L1:1<=L)(J:∀s,1<=ms s)(V:∀s v,(Vy++[q])[s]?=Zz v->v.9=w/\∀f∈v,f.9<=L/\∀z∈f,z.8<=ms s)(C:∀c∈cs,c<w){t:Nat}(O:t<Vy.9+1):∀j,(co (mkP w Vy cs q (w+t)) j).8<=(Vy.9+1)*((Vy.9+1) ^ Vy.9*pS (λs=>L*ms s) t (Vy.9+1)):=λj=>by
 have ln:(Vy++[q]).9=Vy.9+1:=by simp
 obtain⟨M,Q⟩:∃M:Rp->Nat,∀r,M r=pA (λs=>if r (w+s)=[] then 1 else ms s) (Vy.9+1):=#[_,λ_=>rfl]
 have F:∀s v,s<Vy.9+1->M (cO w v s)=ms s:=λs v hs=>by
  rw[Q];have:∀m,(s<m->pA (λk=>if cO w v s (w+k)=[] then 1 else ms k) m=ms s)/\(m<=s->pA (λk=>if cO w v s (w+k)=[] then 1 else ms k) m=1):=λm=>by
   induction m with
   | zero=>exact#[λh=>by omega,λ_=>rfl]
   | succ m ih=>
    have e:(if cO w v s (w+m)=[] then 1 else ms m)=if m=s then ms m else 1:=by
     rw[uS];by_cases z:m=s
     ·rw[if_pos z,if_neg (by simp),if_pos z]
     ·rw[if_neg z,if_pos rfl,if_neg z]
    refine#[λh=>?_,λh=>?_]
    ·show pA _ m*(if cO w v s (w+m)=[] then 1 else ms m)=_;rw[e];by_cases z:m=s
     ·rw[if_pos z,ih.2 (),z,fU]
     ·rw[if_neg z,ih.1 (),md]
    ·show pA _ m*(if cO w v s (w+m)=[] then 1 else ms m)=_;rw[e,if_neg (),ih.2 ()]
  exact (this _).1 hs
 have rows:cq w (Vy++[q])=(aM (Vy.9+1)).map λi=>cO w ((Vy++[q]).getD i []) i:=by unfold cq;rw[ln]
 have G:prR (λr=>L*M r) (cq w (Vy++[q]))=pA (λs=>L*ms s) (Vy.9+1):=by
  rw[rows];exact IK _ _ _ _ λs hs=>by rw[F s _ hs]
 have lr:(cq w (Vy++[q])).9=Vy.9+1:=by rw[rows];simp
 have all:∀r∈cq w (Vy++[q]),∃s,s<Vy.9+1/\M r=ms s/\(∀t,r (w+t)=if t=s then [1] else [])/\∀c,c<w->(r c).9<=L/\∀z∈r c,z.8<=M r:=λr p=>by
  rw[rows]at p;exists bC.mp p,s,hs,rfl;have g:=dj.mp hs;refine#[s,g,F s _ g,λt=>uS,λc u=>?_];rw[F s _ g];have R:(Vy++[q])[s]?=Zz ((Vy++[q]).getD s []):=by
   rw[az,aq #v[ln,g]];rfl
  exists V s _ R,S,T;unfold cO;rw[if_pos u];exact T _ (mem_getD (d:=([]:aa)) #v[S,u])
 have o:=BQ (c:=w+t) (X:=(Vy.9+1) ^ Vy.9*pS (λs=>L*ms s) t (Vy.9+1)) (cq w (Vy++[q])) [] (dtp (cr cs Vy.9)) (λpre r a y j=>by
  have p:r∈cq w (Vy++[q]):=by rw[y];simp
  exists all r p,s,s1,U,H,s4;rw[hI];by_cases st:t=s
  ·subst st;have sub:∀x∈pre++a,x∈cq w (Vy++[q]):=λx hx=>by
    rw[y];rcases a8.mp hx with z|z
    ·simp[z]
    ·simp[z]
   have Y:(pre++a).9<=Vy.9+1:=by
    rw[y]at lr;simp at lr;rw[b8];omega
   have b:=IH (N:=Vy.9+1) (L:=L) M (cr cs Vy.9) (pre++a) Y λx hx c u=>by
    exists all x (sub x hx),_,_,_,_,Z;exact Z c (C c (BO u))
   have pe:prR (λr=>L*M r) (pre++a)=pS (λs=>L*ms s) t (Vy.9+1):=by
    have I:=IJ (ms:=λs=>L*ms s) (t:=t) (Vy.9+1) O;rw[<-G,y,uT,U,fq (pS _ _ _)]at I;exact (Cu (ja () (by have:=J t;omega)) I).symm
   rw[pe]at b;rw[H,if_pos rfl];have b1:=dy (P:=λz=>z.8<=[(1:Int)].9*(1*((Vy.9+1) ^ (cr cs Vy.9).9*pS (λs=>L*ms s) t (Vy.9+1)))) (HN (M:=1) (λz hz=>by rw[bj.mp hz];decide) (dg b)) (by simp) j;refine aQ b1 ?_;rw[mV,fU,fU];exact eh _ (fu () (Rf _))
  ·rw[H,if_neg st];have:(co (pdL ([]:aa) (dtp (cr cs Vy.9) (pre++a))) j).8=0:=by
    have:∀n,val n (pdL ([]:aa) (dtp (cr cs Vy.9) (pre++a)))=val n []:=λn=>by rw[aK];simp[val]
    rw[fJ this j];simp[co]
   rw[this];exact aU _) j
 rw[lr]at o;exact o
end
theorem uU (h:Nat->Nat):∀(k:Nat)(few:ay),few.Nodup->(∀i∈few,i<k)->(few.map h).sum<=((aM k).map h).sum
 | 0,few,_,hf=>by
  have:few=[]:=List.eq_nil_iff_forall_not_mem.mpr λi hi=>by have:=hf i hi;omega
  rw[this];simp
 | k+1,few,nd,hf=>by
  rw[fZ,aR,gk,jb,ky];by_cases z:k∈few
  ·have e:=((List.perm_cons_erase z).map h).sum_nat;rw[d9,iz]at e;have a:=uU h k (few.erase k) (nd.erase k) λi hi=>by
    have c:=hf i (List.mem_of_mem_erase hi);have d:=(List.Nodup.mem_erase_iff nd).mp hi;have:=d.1;omega
   omega
  ·have a:=uU h k few nd λi hi=>by
    have c:=hf i hi;have:i≠k:=λy=>z (y ▸ hi);omega
   omega
theorem Rj {h:Nat->Nat}{k t:Nat}{few:ay}(nd:few.Nodup)(a:∀i∈few,i<k)(f:t<few.9):dgS (λs=>h (few.getD s 0)) few.9 t<=dgS h k few[t]:=by
 have e:dgS (λs=>h (few.getD s 0)) few.9 t=(few.map λs=>if s=few[t] then 0 else h s).sum:=by
  unfold dgS;congr 1;refine hZ (by simp) λs c g=>?_;have hs:s<few.9:=by simpa using c
  rw[ck,ck,jc];have d:few.getD s 0=few[s]:=by rw[az,aq hs];rfl
  show (if s=t then 0 else h (few.getD s 0))=_;rw[d];by_cases z:s=t
  ·subst z;rw[if_pos rfl,if_pos rfl]
  ·rw[if_neg z,if_neg λy=>z ((List.getElem_inj nd).mp y)]
 rw[e];exact uU _ k few nd a
theorem Rk (h:Nat->Nat)(k:Nat):dgS h (k+1) k=((aM k).map h).sum:=by
 have:=uR h (k+1) k ();rw[fZ,aR,gk,jb,ky]at this;omega
theorem Rm (h:Nat->Nat){k t:Nat}(a:t<k):dgS h (k+1) t=dgS h k t+h k:=by
 unfold dgS;rw[fZ,aR,gk,jb,ky,if_neg ()]
def sS (g:ac->Nat)(Vy:au)(q:ac)(t:Nat):Nat:=dgS (λs=>g ((Vy++[q]).getD s [])) (Vy.9+1) t
theorem uV {g:ac->Nat}{Vy:au}{q:ac}{t:Nat}(a:t<Vy.9):sS g Vy q t=dgS (λs=>g (Vy.getD s [])) Vy.9 t+g q:=by
 unfold sS;rw[Rm _ a];congr 1
 ·unfold dgS;congr 1;refine fB λs hs=>?_;have:=dj.mp hs;show (if s=t then 0 else g ((Vy++[q]).getD s []))=if s=t then 0 else g (Vy.getD s [])
  rw[az (l:=Vy++[q]),cE this,<-az]
 ·rw[az,cQ (aA _),gB];rfl
theorem uW {g:ac->Nat}{Vy:au}{q:ac}:sS g Vy q Vy.9=((aM Vy.9).map λs=>g (Vy.getD s [])).sum:=by
 unfold sS;rw[Rk];congr 1;refine fB λs hs=>?_;have:=dj.mp hs;rw[az,cE this,<-az]
theorem uX {g:ac->Nat}{Vy:au}{q:ac}{few:ay}(nd:few.Nodup)(d:∀i∈few,i<Vy.9){t:Nat}(c:t<few.9):sS g (few.map λi=>Vy.getD i []) q t<=sS g Vy q few[t]:=by
 rw[uV (⇑c),uV (d _ (b_ c)),af];refine CJ ?_ _;have e:dgS (λs=>g ((few.map λi=>Vy.getD i []).getD s [])) few.9 t=dgS (λs=>g (Vy.getD (few.getD s 0) [])) few.9 t:=by
  unfold dgS;congr 1;refine fB λs hs=>?_;have a:=dj.mp hs;show (if s=t then 0 else g ((few.map λi=>Vy.getD i []).getD s []))=if s=t then 0 else g (Vy.getD (few.getD s 0) [])
  rw[BP a,az (l:=few),aq a];rfl
 rw[e];exact Rj (h:=λs=>g (Vy.getD s [])) nd d c
theorem o8 {g:ac->Nat}{Vy:au}{q:ac}{few:ay}(nd:few.Nodup)(c:∀i∈few,i<Vy.9):sS g (few.map λi=>Vy.getD i []) q few.9<=sS g Vy q Vy.9:=by
 have a:=uW (g:=g) (Vy:=few.map λi=>Vy.getD i []) (q:=q);rw[af]at a;rw[a,uW];have e:((aM few.9).map λs=>g ((few.map λi=>Vy.getD i []).getD s []))=few.map λi=>g (Vy.getD i []):=by
  refine hZ (by simp) λs d f=>?_;have hs:s<few.9:=by simpa using d
  rw[ck,ck,jc,BP hs]
 rw[e];exact uU (λi=>g (Vy.getD i [])) _ few nd c
noncomputable def mxl (xs:ay):Nat:=xs.foldr max 0
theorem uY {xs:ay}{x:Nat}(h:x∈xs):x<=mxl xs:=by
 induction xs with
 | nil=>simp at h
 | cons y ys ih=>
  show x<=max y (mxl ys);rcases bN.mp h with rfl|h
  ·exact Lz _ _
  ·exact aQ (ih h) (LA _ _)
def dv (v:ac):Nat:=mxl (v.map kl)-1
def bv (v:ac):Nat:=Nat.log2 (mxl (v.map λf=>mxl (f.map nE)))+1
theorem IL {v:ac}{f:aa}(h:f∈v):f.9<=dv v+1:=by
 have:=uY (bC.mpr #[f,h,rfl]:f.9∈v.map kl);unfold dv;omega
theorem Rn {v:ac}{f:aa}(h:f∈v){z:Int}(a:z∈f):z.8<=2 ^ bv v:=by
 have c:=uY (bC.mpr #[z,a,rfl]:z.8∈f.map nE);have d:=uY (bC.mpr #[f,h,rfl]:mxl (f.map nE)∈v.map λf=>mxl (f.map nE));have e:mxl (v.map λf=>mxl (f.map nE))<2 ^ bv v:=Nat.lt_log2_self;omega
theorem IM (b:Nat->Nat)(l t:Nat):∀m,pS (λs=>2 ^ l*2 ^ b s) t m=2 ^ dgS (λs=>l+b s) m t
 | 0=>rfl
 | m+1=>by
  show pS _ t m*(if m=t then 1 else 2 ^ l*2 ^ b m)=_;have e:dgS (λs=>l+b s) (m+1) t=dgS (λs=>l+b s) m t+if m=t then 0 else l+b m:=by
   unfold dgS;rw[fZ,aR,gk,jb,ky]
  rw[e,IM b l t m,dN];congr 1;by_cases z:m=t
  ·rw[if_pos z,if_pos z]
  ·rw[if_neg z,if_neg z,dN]
section
variable {w L e b l B D β:Nat}{Vy:au}{cs:ay}{q:ac}
theorem IN (W:∀v∈Vy++[q],v.9=w/\∀f∈v,Nml f/\f.9<=2 ^ l)(r:Vy.9<=5)(a:∀c∈cs,c<w){t:Nat}(u:t<=Vy.9):(mkP w Vy cs q (w+t)).9<=sS dv Vy q t+1/\∀z∈mkP w Vy cs q (w+t),Bd (sS (λv=>l+bv v) Vy q t+3*Vy.9+4) z:=by
 have g:∀s v,(Vy++[q])[s]?=Zz v->(Vy++[q]).getD s []=v/\v∈Vy++[q]:=λs v h=>#[by rw[az,h];rfl,b4 h]
 refine#[Rh (ds:=λs=>dv ((Vy++[q]).getD s [])) (λs v h=>?_) a (),dg λj=>?_]
 ·exists g s v h,k,d;refine#[(W v d).1,λf e=>#[((W v d).2 f e).1,?_]];show f.9<=dv ((Vy++[q]).getD s [])+1;rw[k];exact IL e
 ·have i:=Ri (ms:=λs=>2 ^ bv ((Vy++[q]).getD s [])) (L:=2 ^ l) (t:=t) (Vy:=Vy) (q:=q) (w:=w) (cs:=cs) (eo l) (λs=>eo _) (λs v h=>by
   exists g s v h,k,d;refine#[(W v d).1,λf e=>#[((W v d).2 f e).2,λz n=>?_]];show z.8<=2 ^ bv ((Vy++[q]).getD s []);rw[k];exact Rn e n) a () j
  rw[IM]at i;show (co (mkP w Vy cs q (w+t)) j).8<2 ^ (sS (λv=>l+bv v) Vy q t+3*Vy.9+4);refine cx i ?_;have m:Vy.9+1<=2 ^ 3:=()
  have o:(Vy.9+1) ^ Vy.9<=2 ^ (3*Vy.9):=by rw[pP];exact nv m _
  refine cx (dY m (eh _ o)) ?_;rw[<-dN,<-dN];have p:sS (λv=>l+bv v) Vy q t=dgS (λs=>l+bv ((Vy++[q]).getD s [])) (Vy.9+1) t:=rfl;rw[p];exact pM () ()
end
structure Gw (p q g a b U W:aa)(m:Int):Prop where
 ng:Nml g
 g0:g≠[]
 na:Nml a
 nb:Nml b
 pa:p=pdL a g
 qb:q=pdL b g
 m0:m≠0
 bz:∀n,val n U*val n a+val n W*val n b=m
theorem Ro {p q g a b U W:aa}{m:Int}(G:Gw p q g a b U W m)(p0:p≠[])(q0:q≠[]){Bp Bq N k1 n1:Nat}(hp:∀z∈p,z.8<=Bp)(hq:∀z∈q,z.8<=Bq)(C:1<=Bp)(v:1<=Bq)(y1:b.9<=k1+1)(z1:a.9<=n1+1)(hN:k1+n1=N):
  ∃(U' W':aa)(m':Int),m'≠0/\(∀n,val n U'*val n p+val n W'*val n q=m'*val n g)/\∀z∈g,m'.8*z.8<=(N+1) ^ (N+1)*(Bp ^ k1*(Bq ^ n1*(Bp*Bq))):=by
 have a0:a≠[]:=λz=>p0 (by rw[G.pa,z,i3]);have b0:b≠[]:=λz=>q0 (by rw[G.qb,z,i3]);have la:a.9≠0:=λz=>a0 (bD z);have lb:b.9≠0:=λz=>b0 (bD z);have lg:g.9≠0:=λz=>G.g0 (bD z);have lp:=(d8 G.na G.ng a0 G.g0).1;have lq:=(d8 G.nb G.ng b0 G.g0).1;rw[<-G.pa]at lp;rw[<-G.qb]at lq;have vp:∀n,val n p=val n a*val n g:=λn=>by rw[G.pa,aK]
 have vq:∀n,val n q=val n b*val n g:=λn=>by rw[G.qb,aK]
 have pw:∀{x y z:Nat},1<=x->y<=z->x ^ y<=x ^ z:=λhx h=>fu hx h;have one:∀{x y:Nat},1<=x->1<=x ^ y:=λ{x y} hx=>Nat.pow_pos hx;have top:Bp<=(N+1) ^ (N+1)*(Bp ^ k1*(Bq ^ n1*(Bp*Bq))):=by
  have h0:=iu Bp v;have i:=h_ (Bp*Bq) (one (x:=Bq) (y:=n1) v);have o:=h_ (Bq ^ n1*(Bp*Bq)) (one (x:=Bp) (y:=k1) C);have h3:=h_ (Bp ^ k1*(Bq ^ n1*(Bp*Bq))) (one (x:=N+1) (y:=N+1) ());omega
 obtain⟨e,he⟩:∃e,g.9=e+1:=#[g.9-1,()]
 obtain⟨k,hk⟩:∃k,b.9=k+1:=#[b.9-1,()]
 obtain⟨n,hn⟩:∃n,a.9=n+1:=#[a.9-1,()]
 by_cases N0:n+k=0
 ·-- both are the common times a number
  obtain⟨c,hc⟩:=CK.mp (show a.9=1 by omega);have c0:c≠0:=λz=>by have:=G.na;rw[hc,z]at this;exact eK.mp this 0 rfl rfl
  refine#[[1],[],c,c0,λn=>by rw[vp n,hc];simp[val],dg λj=>?_];have O:co p j=c*co g j:=by
   rw[<-eQ];exact fJ (λn=>by rw[vp n,be,hc];simp[val]) j
  rw[<-cc,<-O];exact aQ (dy (P:=λz=>z.8<=Bp) hp (by simp) j) top
 obtain⟨rs,F⟩:∃rs,rs=eV (co p) k++eV (co q) n:=#[_,rfl]
 have u1:rs.9=k+n:=by rw[F,b8,mH,mH]
 have b1:∀r∈eV (co p) k,∀J,(r J).8<=Bp:=λr z=>BC k _ (λJ=>dy (P:=λz=>z.8<=Bp) hp (by simp) J) r z;have b2:∀r∈eV (co q) n,∀J,(r J).8<=Bq:=λr z=>BC n _ (λJ=>dy (P:=λz=>z.8<=Bq) hq (by simp) J) r z;obtain⟨X,hX⟩:∃X:Rw,∀J,X J=if J=e then 1 else 0:=#[_,λ_=>rfl]
 obtain⟨β,w1,w2,w3,w4,w5⟩:∃β:Rw->Nat,(∀r∈rs++[X],∀J,(r J).8<=β r)/\(∀r∈rs++[X],1<=β r)/\(∀r∈eV (co p) k,β r<=Bp)/\(∀r∈eV (co q) n,β r<=Bq)/\∀r,β r<=Bp*Bq:=by
  classical
  refine#[λr=>if r∈eV (co p) k then (if r∈eV (co q) n then min Bp Bq else Bp) else if r∈eV (co q) n then Bq else 1,λr u J=>?_,λr u=>?_,λr u=>?_,λr u=>?_,λr=>?_]
  ·dsimp only;have hx:r=X\/r∈eV (co p) k\/r∈eV (co q) n:=by
    rcases a8.mp u with z|z
    ·rw[F]at z;exact .inr (a8.mp z)
    ·exact .inl (bj.mp z)
   split
   ·rename_i i
    split
    ·rename_i o;have:=b1 r i J;have:=b2 r o J;omega
    ·exact b1 r i J
   ·rename_i i
    split
    ·rename_i o;exact b2 r o J
    ·rename_i o;rcases hx with rfl|h|h
     ·rw[hX];split <;> simp
     ·exact absurd h i
     ·exact absurd h o
  ·dsimp only;split
   ·split <;> omega
   ·split <;> omega
  ·dsimp only;rw[if_pos u];split <;> omega
  ·dsimp only;split
   ·omega
   ·exact aA _
  ·have i:=iu Bp v;have o:=h_ Bq C;have h3:1<=Bp*Bq:=ja C v;dsimp only;split
   ·split <;> omega
   ·split <;> omega
 have frs:∀r∈rs,∀J,e+(k+n)<=J->r J=0:=λr u J I=>by
  rw[F]at u;rcases a8.mp u with z|z
  ·exact BD (L:=e+n) k _ (λJ I=>aF ()) r z J ()
  ·exact BD (L:=e+k) n _ (λJ I=>aF ()) r z J ()
 have Q:∀d f:aa,d.9=k->f.9=n->∀J,dot (d++f) rs J=co (bY (bK d p) (bK f q)) J:=λd f i o J=>by
  rw[F,GL #v[mH,i],fX,gJ,gJ,<-i,<-o,BE,BE]
 have split:∀s:aa,s.9=k+n->∃d f:aa,s=d++f/\d.9=k/\f.9=n:=λs h=>#[s.take k,s.drop k,(Cr k s).symm,by rw[bV];omega,by rw[pu];omega]
 have vS:∀(d f:aa) n,val n (bY (bK d p) (bK f q))=(val n d*val n a+val n f*val n b)*val n g:=λd f n=>by
  rw[fo,dH,dH,vp n,vq n];grind
 have eS:∀d f:aa,aO (bY (bK d p) (bK f q))=pdL (aO (bY (bK d a) (bK f b))) g:=λd f=>cW (cG _) (cw _ _) λn=>by
  rw[fS,vS,aK,fS,fo,dH,dH]
 have H:∀zs:aa,aO zs=[]->∀z∈zs,z=0:=λzs h=>dg λj=>by
  rw[<-cN,h,fP]
 have y0:∀s:aa,s.9=rs.9->(∀J,e<=J->dot s rs J=0)->∀z∈s,z=0:=λs hl hz=>by
  exists split s (),d,f,rfl,lu,lw;have T0:aO (bY (bK d a) (bK f b))=[]:=by
   by_cases z:aO (bY (bK d a) (bK f b))=[]
   ·exact z
   ·have i:=d8 (cG (bY (bK d a) (bK f b))) G.ng z G.g0;have l1:(aO (bY (bK d a) (bK f b))).9≠0:=λy=>z (bD y);have o:=hz ((pdL (aO (bY (bK d a) (bK f b))) g).9-1) ();rw[Q d f lu lw,<-cN,eS]at o;rw[i.2]at o;exact absurd o (dO (dG (cG _) z) (dG G.ng G.g0))
  have v0:∀n,val n d*val n a+val n f*val n b=0:=λn=>by
   have:=fS n (bY (bK d a) (bK f b));rw[T0,fo,dH,dH]at this;rw[<-this];rfl
  have u0:aO d=[]:=by
   by_cases z:aO d=[]
   ·exact z
   ·obtain⟨V,hV⟩:∃V,V=aO (bY (bK W d) ((bK U f).map λz=>-1*z)):=#[_,rfl]
    have O:(aO d).map (λz=>m*z)=pdL b V:=cW (i0 G.m0 (cG _)) (cw _ _) λn=>by
     rw[be,fS,aK,hV,fS,fo,be,dH,dH];have i:=v0 n;have o:=G.bz n;grind
    have V0:V≠[]:=λy=>by
     rw[y,HM]at O;exact z (lI.mp O)
    have l1:=(d8 G.nb #v[hV,cG _] b0 V0).1;have l2:=congrArg kl O;rw[af,l1]at l2;have l3:=ow d;have l4:V.9≠0:=λy=>V0 (bD y);omega
  have w0:aO f=[]:=by
   by_cases z:aO f=[]
   ·exact z
   ·refine absurd (cW (cw _ _) cH λn=>?_) (gd (cG f) G.nb z b0);have i:=v0 n;have o:val n d=0:=by rw[<-fS,u0];rfl
    rw[o]at i;rw[aK,fS];show _=0;omega
  intro z z0;rcases a8.mp z0 with h|h
  ·exact H d u0 z h
  ·exact H f w0 z h
 exists GM (e:=e) (N:=k+n) frs y0 rs.9 (aA _),cs,c1,c2,c3,c4;exists jr (rs:=rs) (cs:=cs) rs.9 X,xs,x1,x2;rw[fy]at x1 x2;have D0:=c4 rs.9 (aA _);have Y:∀J,e<=J->J<e+(k+n)->bo rs cs rs.9 X J=0:=λJ i o=>by
  exists cU.mp (QZ c2 c3 () i o),l,hl,rfl;exact kT X () hl
 exists split xs (),d,f,rfl,lu,lw;have j0:∀J,e+(k+n)<=J->dot (d++f) rs J=0:=λJ I=>by
  have:∀(s:aa)(R:List Rw),(∀r∈R,r J=0)->dot s R J=0:=λs=>by
   induction s with
   | nil=>intro R _;cases R <;> rfl
   | cons m s ih=>intro R hR;cases R with
    | nil=>rfl
    | cons r R=>rw[dot,hR r dU,ih R λx hx=>hR x (dC _ hx)];simp
  exact this _ _ λr u=>frs r u J I
 have Z:dot (d++f) rs e=- mi rs cs rs.9:=by
  have i:=x2 e;rw[Y e (aA _) (),hX,if_pos rfl]at i;omega
 have above:∀J,e<J->dot (d++f) rs J=0:=λJ I=>by
  by_cases z:J<e+(k+n)
  ·have i:=x2 J;rw[Y J () z,hX,if_neg ()]at i;omega
  ·exact j0 J ()
 have pq:prb β rs<=Bp ^ k1*Bq ^ n1:=by
  rw[F,A9];refine dY (aQ (A_ _ w3) ?_) (aQ (A_ _ w4) ?_)
  ·rw[mH];exact pw C ()
  ·rw[mH];exact pw v ()
 have k0:(mi rs cs rs.9).8<=(N+1) ^ (N+1)*(Bp ^ k1*(Bq ^ n1*(Bp*Bq))):=by
  unfold mi;rw[fy];refine aQ (A8 (β:=β) (N:=N+1) () _ rs () (λr u=>w1 r (i4 _ u)) λr u=>w2 r (i4 _ u)) (dY (pw () ?_) (aQ pq ?_))
  ·unfold cr;rw[pQ,bV];omega
  ·exact d_ _ (iu _ (ja C v))
 have n0:∀J,(bo rs cs rs.9 X J).8<=(N+1) ^ (N+1)*(Bp ^ k1*(Bq ^ n1*(Bp*Bq))):=λJ=>by
  unfold bo;rw[fy];refine aQ (A8 (β:=β) (N:=N+1) () _ (rs++[X]) (by simp;omega) w1 w2) (dY (pw () ?_) ?_)
  ·unfold cr;rw[cP,pQ,bV];omega
  ·rw[A9,<-gj];refine dY pq ?_;show β X*1<=_;rw[md];exact w5 X
 have all:∀J,(dot (d++f) rs J).8<=(N+1) ^ (N+1)*(Bp ^ k1*(Bq ^ n1*(Bp*Bq))):=λJ=>by
  by_cases z:J=e
  ·rw[z,Z,Co];exact k0
  ·have i:=x2 J;rw[hX,if_neg z]at i;have o:dot (d++f) rs J=bo rs cs rs.9 X J:=()
   rw[o];exact n0 J
 obtain⟨S,hS⟩:∃S,S=aO (bY (bK d p) (bK f q)):=#[_,rfl]
 have cS:∀J,co S J=dot (d++f) rs J:=λJ=>by rw[hS,cN,Q d f lu lw]
 have nS:Nml S:=by rw[hS];exact cG _
 have S0:co S e≠0:=by rw[cS,Z];omega
 have lS:S.9=e+1:=by
  have i:=g_ nS (n:=e+1) λJ I=>by rw[cS,above J ()]
  have o:e<S.9:=mX λh=>S0 (aF h);omega
 have M:=eS d f;rw[<-hS]at M;obtain⟨T,hT⟩:∃T,T=aO (bY (bK d a) (bK f b)):=#[_,rfl]
 rw[<-hT]at M;have T0:T≠[]:=λz=>by rw[z,i3]at M;rw[M]at lS;simp at lS
 have lT:=(d8 #v[hT,cG _] G.ng T0 G.g0).1;rw[<-M,lS]at lT;have v1:T.9≠0:=λz=>T0 (bD z);obtain⟨t,ht⟩:=CK.mp (show T.9=1 by omega);have t0:t≠0:=λz=>by
  have:Nml T:=by rw[hT];exact cG _
  rw[ht,z]at this;exact eK.mp this 0 rfl rfl
 have x0:∀n,val n S=t*val n g:=λn=>by rw[M,aK,ht];simp[val]
 refine#[d,f,t,t0,λn=>?_,dg λj=>?_]
 ·rw[<-x0 n,hS,fS,fo,dH,dH]
 ·rw[<-cc];have:t*co g j=co S j:=by rw[<-eQ];exact fJ (λn=>by rw[be,x0 n]) j
  rw[this,cS];exact all j
def Bez (h H:aa):Prop:=∃(S T:aa)(c:Int),c≠0/\∀n,val n S*val n h+val n T*val n H=c
def mL (H γ:aa):Prop:=∃(V:aa)(M:Int),M≠0/\∀n,val n H*val n V=M*val n γ
theorem Rq {h H h':aa}(a:Bez h H)(b:Bez h h'):Bez h (pdL H h'):=by
 exists a,S,T,c,i,e;exists b,d,f,j,g,k;refine#[fL (pdL S (fL (pdL d h) (pdL f h'))) (pdL T (pdL H d)),pdL T f,c*j,dO i g,λn=>?_];rw[gQ,aK,gQ,aK,aK,aK,aK,aK,aK,<-e n,<-k n];generalize val n S=s;generalize val n T=t;generalize val n h=x;generalize val n H=y;generalize val n d=m;generalize val n f=o;generalize val n h'=p;grind
theorem Rr {h H γ:aa}(a:Bez h H)(d:mL H γ)(d':mL h γ):mL (pdL H h) γ:=by
 exists a,S,T,c,o,e;exists d,V,M,p,r;exists d',k,f,i,j;refine#[fL (pdL S (V.map λz=>f*z)) (pdL T (k.map λz=>M*z)),c*(M*f),dO o (dO p i),λn=>?_];rw[aK,gQ,aK,aK,be,be,<-e n];have u:=r n;have C:=j n;generalize val n S=s at *;generalize val n T=t at *;generalize val n h=x at *;generalize val n H=y at *;generalize val n V=v at *;generalize val n k=m at *;generalize val n γ=g at *;have F:y*x*(s*(f*v)+t*(M*m))=s*x*f*(y*v)+t*y*M*(x*m):=by grind
 rw[F,u,C];grind
theorem Rs {H γ:aa}(g:Nml H)(a:Nml γ)(c:γ≠[])(d:mL H γ):H.9<=γ.9:=by
 exists d,V,M,h,e;have eq:pdL H (aO V)=γ.map λz=>M*z:=cW (cw _ _) (i0 h a) λn=>by rw[aK,fS,be,e]
 have g0:γ.map (λz=>M*z)≠[]:=λz=>c (lI.mp z);have i:H≠[]:=λz=>g0 (by rw[<-eq,z,i3]);have f:aO V≠[]:=λz=>g0 (by rw[<-eq,z,HM]);have j:=(d8 g (cG V) i f).1;rw[eq,af]at j;have k:(aO V).9≠0:=λz=>f (bD z);omega
def fM (r:Nat)(α β:aa):aa:=fL α (β.map λz=>(r:Int)*z)
theorem uZ (r:Nat)(α β:aa)(n:Int):val n (fM r α β)=val n α+r*val n β:=by unfold fM;rw[gQ,be]
theorem Rt {α β γ u v w:aa}{m:Int}(m0:m≠0)(o:∀n,val n u*val n α+val n v*val n β+val n w*val n γ=m){r j:Nat}(s:r≠j){d e a b c:aa}(x:∀n,val n (fM r α β)=val n a*val n d)(y:∀n,val n (fM j α β)=val n b*val n e)(C:∀n,val n γ=val n c*val n d):Bez d e:=by
 refine#[fL (pdL a (fL v (u.map λz=>-(j:Int)*z))) ((pdL w c).map λz=>((r:Int)-j)*z),pdL b (fL (u.map λz=>(r:Int)*z) (v.map λz=>-1*z)),((r:Int)-j)*m,dO () m0,λn=>?_];have f:=x n;have g:=y n;have F:=C n;rw[uZ]at f g;rw[gQ,aK,gQ,be,be,aK,aK,gQ,be,be,<-o n];generalize val n α=A at *;generalize val n β=B at *;generalize val n γ=G at *;generalize val n u=U at *;generalize val n v=V at *;generalize val n w=W at *;generalize val n a=h at *;generalize val n b=i at *;generalize val n c=k at *;generalize val n d=p at *;generalize val n e=q at *;have H:(h*(V+-(j:Int)*U)+((r:Int)-j)*(W*k))*p+i*((r:Int)*U+-1*V)*q=(h*p)*(V-j*U)+(i*q)*(r*U-V)+(r-j)*W*(k*p):=by grind
 rw[H,<-f,<-g,<-F];grind
theorem Ru {α β γ u v w:aa}{m:Int}(f:Nml γ)(i:γ≠[])(m0:m≠0)(Q:∀n,val n u*val n α+val n v*val n β+val n w*val n γ=m):∃r:Nat,r < γ.9/\Bez (fM r α β) γ:=by
 have G:∀r:Nat,∃(g a b U W:aa)(k:Int),Gc (fM r α β) γ g a b U W k:=λr=>BB _ _ _ (aA _) (oZ _ _) f (.inr i);have p:∀s:Nat,(∀r,r<s->∀g a b U W k,Gc (fM r α β) γ g a b U W k->2<=g.9)->∃H:aa,Nml H/\H≠[]/\s+1<=H.9/\mL H γ/\∀r,s<=r->∀g a b U W k,Gc (fM r α β) γ g a b U W k->Bez g H:=λs=>by
  induction s with
  | zero=>
   intro _;exact#[[1],fK (),by simp,by simp,#[γ,1,(),λn=>by simp[val]],λr _ g a b U W k _=>#[[],[1],1,(),λn=>by simp[val]]]
  | succ s ih=>
   intro h;obtain⟨H,o,x,R,C,M⟩:=ih λr F=>h r ();exists G s,g,a,b,U,W,k,e;have l2:=h s () g a b U W k e;have bz:=M s (aA _) g a b U W k e;have S:mL g γ:=#[b,1,(),λn=>by rw[e.qb,aK];grind]
   refine#[pdL H g,cw _ _,gd o e.ng x e.g0,?_,Rr bz C S,λr F T O P X Y Z d=>?_]
   ·have:=(d8 o e.ng x e.g0).1;omega
   ·exact Rq (M r () T O P X Y Z d) (Rt m0 Q (r:=r) (j:=s) (a:=O) (b:=a) (c:=P) () (λn=>by rw[d.pa,aK]) (λn=>by rw[e.pa,aK]) (λn=>by rw[<-aK,<-d.qb]))
 by_cases z:∀r,r < γ.9->∀g a b U W k,Gc (fM r α β) γ g a b U W k->2<=g.9
 ·exists p γ.9 z,H,o,x,R,C,_;have:=Rs o f i C;omega
 ·simp only[Classical.not_forall]at z;exists z,r,F,g,a,b,U,W,k,d,I;refine#[r,F,?_];have J:g.9≠0:=λy=>d.g0 (bD y);obtain⟨c,rfl⟩:∃c,g=[c]:=by
   match g,J,I with
   | [c],_,_=>exact#[c,rfl]
   | [],J,_=>exact absurd rfl J
   | _ :: _ :: _,_,I=>simp at I
  have c0:c≠0:=λy=>eK.mp d.ng c rfl y;refine#[U,W,k*c,dO d.m0 c0,λn=>?_];have e1:val n (fM r α β)=val n a*c:=by rw[d.pa,aK];simp[val]
  have e2:val n γ=val n b*c:=by rw[d.qb,aK];simp[val]
  rw[e1,e2,<-d.bz n];grind
theorem BR {K X Y:aa}(d:Nml K)(f:K≠[])(h:∀n,val n K*val n X=val n K*val n Y):∀n,val n X=val n Y:=by
 obtain⟨F,a⟩:∃F,F=fL X (Y.map λz=>-1*z):=#[_,rfl]
 have c:∀n,val n F=val n X-val n Y:=λn=>by rw[a,gQ,be];omega
 have g:F=[]:=by
  by_cases z:F=[]
  ·exact z
  ·refine absurd (cW (cw _ _) cH λn=>?_) (gd d #v[a,oZ _ _] f z);rw[aK,c n];show _=0;have:=h n;rw[pG];omega
 intro n;have:=c n;rw[g]at this;have e:val n []=0:=rfl;omega
theorem mN {e t f:aa}(ne:Nml e)(o:Nml f)(p:f≠[]){D b:Nat}(H:D<=20)(c:f.9<=D+1)(le:e.9<=D+1)(r:∀z∈f,Bd b z)(h:∀n,val n f=val n e*val n t):∀z∈e,Bd (b+14*D+8) z:=by
 exists Rb o p c,s,u,v,d,y;have a:=IC (2*D) D e s (2 ^ (b+7*(D+1))) le u v d λx hx=>by
  have C:=j_ (k:=b) (l:=6) (n:=x) (Bd.of_lt (m:=63) (by have:=d x hx;omega) ()) f r;have F:Bd (b+7*(D+1)) (val x f):=C.mono (CI (d_ _ c) _);have g:(val x f).8<2 ^ (b+7*(D+1)):=F;have i:=h x;have I:val x t≠0:=λz=>y x hx (by rw[i,z];simp);rw[i,cc]at g;exact dz (cx (iu _ ()) g)
 refine dg λj=>?_;show (co e j).8<2 ^ (b+14*D+8);refine cx (a j) ?_;have G:(2*(2*D)+3) ^ D<=2 ^ (7*D):=by rw[pP];exact nv () _
 refine cx (d_ _ G) ?_;rw[<-dN];exact pM () ()
structure MP (F:aa)(D b c:Nat)(f A B:aa):Prop where
 nA:Nml A
 nB:Nml B
 B0:B≠[]
 lA:A.9<=D+1
 lB:B.9<=D+1
 bA:∀z∈A,Bd (b+c) z
 bB:∀z∈B,Bd b z
 dA:∃x,∀n,val n A=val n F*val n f*val n x
 dB:∃x,∀n,val n B=val n F*val n f*val n x
 bz:∃(U W:aa)(m:Int),m≠0/\∀n,val n U*val n A+val n W*val n B=m*(val n F*val n f)
theorem Rv {D b c r:Nat}(f:r<32){A B:aa}(bA:∀z∈A,Bd (b+c) z)(bB:∀z∈B,Bd b z):∀z∈fM r A B,Bd (b+(c+6)) z:=dg λj=>by
 unfold fM fL;rw[cN,fX,eQ];have a:=dy (P:=λz=>Bd (b+c) z) bA (Bd.zero _) j;have d:=dy (P:=λz=>Bd b z) bB (Bd.zero _) j;have e:Bd 5 ((r:Nat):Int):=Bd.of_lt (m:=32) () ();exact ((a.mono (l:=b+(c+5)) ()).add ((e.mul d).mono ())).mono ()
theorem Rx {F f r M A B:aa}{D b c:Nat}(nF:Nml F)(F0:F≠[])(nf:Nml f)(f0:f≠[])(nr:Nml r)(r0:r≠[])(nM:Nml M)(eM:∀n,val n M=val n F*val n r)(lM:M.9<=D+1)(bM:∀z∈M,Bd b z)(hD:D<=20)(lf:f.9<=D+1)(bf:∀z∈f,Bd 5000 z)(mp:MP F D b c f A B)(big:6*(2*D+1)+(b+c+6)*D+b*D+(b+c+6)+b+(b+14*D+8)+1<=4480):
  ∃R a o A':aa,gu f r R/\Nml R/\R≠[]/\0<co R (R.9-1)/\Nml a/\Nml o/\(∀n,val n f=val n R*val n a)/\(∀n,val n r=val n R*val n o)/\(∃U W m,m≠0/\∀n,val n U*val n a+val n W*val n o=m)/\(∀s:Nat,Prm s->(∀j,(s:Int)∣co a j)->(∀j,(s:Int)∣co o j)->False)/\MP F D b (c+6) R A' M:=by
 exists BB _ f r (aA _) nf nr (.inl f0),g,a,o,U0,W0,m0,G;have a0:a≠[]:=λz=>f0 (by rw[G.pa,z,i3]);have b0:o≠[]:=λz=>r0 (by rw[G.qb,z,i3]);exists mp.dA,xA,hA;exists mp.dB,xB,hB;exists mp.bz,U,W,m,y2,z2;have vf:∀n,val n f=val n a*val n g:=λn=>by rw[G.pa,aK]
 have vr:∀n,val n r=val n o*val n g:=λn=>by rw[G.qb,aK]
 have nK:=cw F g;have Q:=gd nF G.ng F0 G.g0;obtain⟨α,u2⟩:∃α,α=pdL a xA:=#[_,rfl]
 obtain⟨β,v2⟩:∃β,β=pdL a xB:=#[_,rfl]
 have x1:∀n,val n α=val n a*val n xA:=λn=>by rw[u2,aK]
 have y0:∀n,val n β=val n a*val n xB:=λn=>by rw[v2,aK]
 have eA:∀n,val n A=val n (pdL F g)*val n α:=λn=>by rw[hA,vf,aK,x1];grind
 have eB:∀n,val n B=val n (pdL F g)*val n β:=λn=>by rw[hB,vf,aK,y0];grind
 have x0:∀n,val n M=val n (pdL F g)*val n o:=λn=>by rw[eM,vr,aK];grind
 have h3:∀n,val n U*val n α+val n W*val n β=m*val n a:=by
  have:=BR (X:=fL (pdL U α) (pdL W β)) (Y:=a.map λz=>m*z) nK Q λn=>by
   rw[gQ,aK n U,aK n W,be];have C:=z2 n;rw[eA,eB,vf,<-cA]at C;have e:val n F*val n a*val n g=val n (pdL F g)*val n a:=by rw[aK];grind
   have e2:m*(val n F*val n a*val n g)=val n (pdL F g)*(m*val n a):=by rw[e];grind
   rw[cA (val n F)]at e2;grind
  intro n;have h:=this n;rw[gQ,aK,aK,be]at h;exact h
 obtain⟨r1,n3,S,T,k,k0,hk⟩:=Ru (α:=α) (β:=β) (γ:=o) (u:=pdL U0 U) (v:=pdL U0 W) (w:=W0.map λz=>m*z) (m:=m*m0) G.nb b0 (dO y2 G.m0) λn=>by
  rw[aK,aK,be,<-G.bz n];have:=h3 n;have e:val n U0*val n U*val n α+val n U0*val n W*val n β=val n U0*(val n U*val n α+val n W*val n β):=by grind
  rw[e,this];grind
 have x4:g.9≠0:=λz=>G.g0 (bD z);have y4:F.9≠0:=λz=>F0 (bD z);have z4:a.9≠0:=λz=>a0 (bD z);have u4:o.9≠0:=λz=>b0 (bD z);have lK:=(d8 nF G.ng F0 G.g0).1;have qK:M=pdL o (pdL F g):=cW nM (cw _ _) λn=>by rw[x0,aK n o];grind
 have M0:M≠[]:=by rw[qK];exact gd G.nb nK b0 Q
 have j2:=(d8 G.nb nK b0 Q).1;rw[<-qK]at j2;have k2:=(d8 G.na G.ng a0 G.g0).1;rw[<-G.pa]at k2;have g2:=(d8 G.nb G.ng b0 G.g0).1;rw[<-G.qb]at g2;have m2:r1<32:=()
 obtain⟨Z,i,S',T',y1,z1,n2,u1,J,x3,y,hy⟩:∃Z i S' T':aa,Nml Z/\Z≠[]/\Z.9<=D+1/\(∀z∈Z,Bd (b+(c+6)) z)/\(∀n,val n Z=val n (pdL F g)*val n i)/\(∀n,val n S'*val n i+val n T'*val n o=k)/\∃y,∀n,val n i=val n a*val n y:=by
  have ev:∀n,val n (fM r1 A B)=val n (pdL F g)*val n (fM r1 α β):=λn=>by rw[uZ,uZ,eA,eB];grind
  by_cases z:fM r1 A B=[]
  ·have z0:∀n,val n (fM r1 α β)=0:=λn=>by
    have:=BR (X:=fM r1 α β) (Y:=[]) nK Q (λn=>by rw[<-ev,z];simp[val]) n;rw[this];rfl
   exact#[B,β,[],T,mp.nB,mp.B0,mp.lB,λx hx=>(mp.bB x hx).mono (),eB,λn=>by have:=hk n;rw[z0]at this;simp[val]at this ⊢;exact this,xB,y0]
  ·refine#[fM r1 A B,fM r1 α β,S,T,oZ _ _,z,Ih mp.lA #v[af,mp.lB],Rv (D:=D) m2 mp.bA mp.bB,ev,hk,fL xA (xB.map λz=>(r1:Int)*z),λn=>?_];rw[uZ,gQ,be,x1,y0];grind
 have pK:Z=pdL (aO i) (pdL F g):=cW y1 (cw _ _) λn=>by rw[J,aK n (aO i),fS];grind
 have t0:aO i≠[]:=λz=>z1 (by rw[pK,z,i3]);have v1:=(d8 (cG i) nK t0 Q).1;rw[<-pK]at v1;have v4:(aO i).9≠0:=λz=>t0 (bD z);have Gq:Gw Z M (pdL F g) (aO i) o S' T' k:=#[nK,Q,cG _,G.nb,pK,qK,k0,λn=>#v[fS,x3 n]]
 obtain⟨U',W',I,u0,bz,gb⟩:=Ro Gq z1 M0 (Bp:=2 ^ (b+(c+6))) (Bq:=2 ^ b) (N:=D+D) (k1:=D) (n1:=D) (λz O=>dz (u1 z O)) (λz O=>dz (bM z O)) (eo _) (eo _) () () rfl;obtain⟨K1,j1⟩:∃K1,K1=6*(2*D+1)+(b+(c+6))*D+b*D+(b+(c+6))+b:=#[_,rfl]
 have mK:I.8<=2 ^ K1:=by
  have O:=eK.mp nK _ (mW Q);have hm:=gb _ (List.getLast_mem Q);generalize (pdL F g).getLast Q=z at O hm;have C:I.8<=I.8*z.8:=iu _ ();refine aQ (aQ C hm) ?_;have P:(D+D+1) ^ (D+D+1)<=2 ^ (6*(2*D+1)):=by
   rw[pP,show D+D+1=2*D+1 by omega];exact nv () _
  have e2:=Iu (B:=2 ^ (b+(c+6))) (k:=D) (aA _);have e3:=Iu (B:=2 ^ b) (k:=D) (aA _);have e4:2 ^ (b+(c+6))*2 ^ b=2 ^ (b+(c+6)+b):=(dN _ _ _).symm;rw[e4];refine aQ (dY P (dY e2 (dY e3 (aA _)))) (kk ?_);rw[<-dN,<-dN,<-dN,j1];congr 1;omega
 have g1:∀n,val n (pdL U' y)*val n a+val n W'*val n o=I:=by
  have:=BR (X:=fL (pdL U' i) (pdL W' o)) (Y:=[I]) nK Q λn=>by
   rw[gQ,aK n U',aK n W'];have C:=bz n;rw[J,x0]at C;have e:val n [I]=I:=by simp[val]
   rw[e];grind
  intro n;have h:=this n;rw[gQ,aK,aK,hy]at h;have e:val n [I]=I:=by simp[val]
  rw[aK,<-e,<-h];grind
 have lg:g.9<=D+1:=()
 have lr:r.9<=D+1:=()
 have v0:D+1<=40:=()
 have y3:=mN (e:=g) (t:=pdL F o) G.ng nM M0 hD lM lg bM λn=>by rw[x0,aK,aK];grind
 have z3:=mN (e:=r) (t:=F) nr nM M0 hD lM lr bM λn=>by rw[eM];grind
 have gK:∀z∈g,I.8*z.8<=2 ^ (K1+(b+14*D+8)):=λz O=>by
  rw[dN];exact dY mK (dz (y3 z O))
 have bL:b+14*D+8<=5000:=()
 have ci:=Q_ (G:=2 ^ (K1+(b+14*D+8))) G.na G.nb G.ng a0 b0 G.g0 #v[<-G.pa,aQ lf v0] #v[<-G.qb,aQ lr v0] (aQ lg v0) (λz O=>bf z #v[G.pa,O]) (λz O=>(z3 z #v[G.qb,O]).mono bL) u0 g1 gK (by
  show (((2 ^ (K1+(b+14*D+8)):Nat):Int)).8<2 ^ 4480;rw[dE];have P:b+(c+6)=b+c+6:=()
  exact pM () (by rw[j1,P];omega))
 rw[<-G.pa,<-G.qb]at ci;have cp:0<ai (a++o):=by
  have C:=hE G.na a0;have h2:ai (a++o)∣ai a:=iY _ _ λx hx=>gP _ x (by simp[hx]);exact Nat.pos_of_dvd_of_pos h2 C
 generalize hc:ai (a++o)=d at ci cp;have u3:∀x∈a,(d:Int)∣x:=λx hx=>by rw[<-hc];exact gP _ x (by simp[hx])
 have v3:∀x∈o,(d:Int)∣x:=λx hx=>by rw[<-hc];exact gP _ x (by simp[hx])
 exists BN cp G.na u3,a1,j3,j0,k3;exists BN cp G.nb v3,b1,g3,n0,m3;have nc:Nml [(d:Int)]:=fK ();have c0:[(d:Int)]≠[]:=by simp
 exists HP (pdL [(d:Int)] g),ε,m1,hv;have x2:ε≠0:=by rcases m1 with rfl|rfl <;> decide
 have H:ε * ε=1:=by rcases m1 with rfl|rfl <;> rfl
 have gR:=gd nc G.ng c0 G.g0;have vR:∀n,val n (di (pdL [(d:Int)] g))=ε * (d*val n g):=λn=>by
  rw[hv,aK];have:val n [(d:Int)]=d:=by simp[val]
  rw[this]
 refine#[_,a1.map λz=>ε * z,b1.map λz=>ε * z,Z,ci,By (cw _ _),HQ gR,mE (cw _ _) gR,i0 x2 j3,i0 x2 g3,λn=>?_,λn=>?_,#[(pdL U' y).map λz=>(d * ε)*z,W'.map λz=>(d * ε)*z,I,u0,λn=>?_],λs hs C h2=>?_,y1,nM,M0,n2,lM,u1,bM,#[pdL (a1.map λz=>ε * z) y,λn=>?_],#[b1.map λz=>ε * z,λn=>?_],U'.map λz=>(d * ε)*z,W'.map λz=>(d * ε)*z,I,u0,λn=>?_]
 ·rw[vR,be,vf,j0];grind
 ·rw[vR,be,vr,n0];grind
 ·rw[be,be,be,be,<-g1 n,j0,n0];generalize val n a1=x;generalize val n b1=x';generalize val n (pdL U' y)=p;generalize val n W'=q;have P:d * ε * p*(ε * x)=(ε * ε)*(p*(d*x)):=by grind
  have e2:d * ε * q*(ε * x')=(ε * ε)*(q*(d*x')):=by grind
  rw[P,e2,H,eE,eE]
 ·have un:∀{z:Int},(s:Int)∣ε * z->(s:Int)∣z:=λ{z} h=>by
   exists h,y,hy;have C:z=ε * (ε * z):=by rw[<-cA,H,eE]
   exact#[ε * y,by rw[C,hy];grind]
  have h3:s*d∣ai (a++o):=iY _ _ λx hx=>by
   have:∃j,(s:Int)∣co a1 j/\x=(d:Int)*co a1 j\/(s:Int)∣co b1 j/\x=(d:Int)*co b1 j:=by
    rcases a8.mp hx with z|z
    ·exists cU.mp z,j,hj,rfl;exact#[j,.inl #[un #v[<-eQ,C j],by rw[<-k3,aP hj]]]
    ·exists cU.mp z,j,hj,rfl;exact#[j,.inr #[un #v[<-eQ,h2 j],by rw[<-m3,aP hj]]]
   obtain⟨j,⟨⟨y,hy⟩,e⟩|⟨⟨y,hy⟩,e⟩⟩:=this
   ·exact#[y,by rw[e,hy,fW];grind]
   ·exact#[y,by rw[e,hy,fW];grind]
  rw[hc]at h3;have h4:=jC cp h3;have:=hs.1;have:=eh d (show 2<=s by omega);omega
 ·rw[J,hy,vR,aK,aK,be,j0];generalize val n a1=x;generalize val n y=x';generalize val n F=p;generalize val n g=q;have P:p*(ε * (d*q))*(ε * x*x')=(ε * ε)*(p*(d*q)*(x*x')):=by grind
  rw[P,H];grind
 ·rw[x0,vR,aK,be,n0];generalize val n b1=x;generalize val n F=p;generalize val n g=q;have P:p*(ε * (d*q))*(ε * x)=(ε * ε)*(p*(d*q)*x):=by grind
  rw[P,H];grind
 ·rw[be,be,vR];have C:=bz n;rw[aK]at C;generalize val n Z=x at *;generalize val n M=x' at *;generalize val n F=p at *;generalize val n g=q at *;generalize val n U'=s at *;generalize val n W'=t at *;have P:d * ε * s*x+d * ε * t*x'=d * ε * (s*x+t*x'):=by grind
  rw[P,C];grind
theorem MP.up {F:aa}{D b c a:Nat}{f A B:aa}(h:MP F D b c f A B)(e:c<=a):MP F D b a f A B:=#[h.nA,h.nB,h.B0,h.lA,h.lB,λz d=>(h.bA z d).mono (),h.bB,h.dA,h.dB,h.bz]
theorem BS {gs Ms:ac}{F:aa}{D b k:Nat}(nF:Nml F)(F0:F≠[])(hD:D<=20)(hk:gs.9<=k)(hl:Ms.9=gs.9)(hg:∀(i:Nat)(r M:aa),gs[i]?=Zz r->Ms[i]?=Zz M->Nml r/\Nml M/\(∀n,val n M=val n F*val n r)/\M.9<=D+1/\∀z∈M,Bd b z)(big:6*(2*D+1)+(b+6*k)*D+b*D+(b+6*k)+b+(b+14*D+8)+1<=4480):∀m,m<=gs.9->
  ∃f:Nat->aa,f 0=[]/\(∀i,(f i).9<=D+1)/\(∀i r,i<m->gs[i]?=Zz r->gu (f i) r (f (i+1)))/\Nml (f m)/\(f m=[]->∀i r,i<m->gs[i]?=Zz r->r=[])/\
  (f m≠[]->0<co (f m) ((f m).9-1)/\(∀z∈f m,Bd (b+14*D+8) z)/\∃o:ac,o.9=m/\(∀u∈o,Nml u)/\(∀(i:Nat)(r u:aa),gs[i]?=Zz r->o[i]?=Zz u->∀n,val n r=val n (f m)*val n u)/\(∀s:Nat,Prm s->(∀u∈o,∀j,(s:Int)∣co u j)->False)/\NF o/\∃A B,MP F D b (6*m) (f m) A B)
 | 0,_=>#[λ_=>[],rfl,λ_=>aU _,λi r h=>by omega,cH,λ_ i r h=>by omega,λh=>absurd rfl h]
 | m+1,hm=>by
  exists BS nF F0 hD hk hl hg big m (),f,f0,fl,fs,nf,fz,fn;have Y:gs[m]?=Zz gs[m]:=aq ();generalize gs[m]=r at Y;have eM:Ms[m]?=Zz Ms[m]:=aq ();generalize Ms[m]=M at eM;exists hg m r M Y eM,Q,Z,S,lM,bM;have lr:r.9<=D+1:=by
   by_cases z:r=[]
   ·rw[z];simp
   ·have h1:=(d8 nF Q F0 z).1;have G:pdL F r=M:=cW (cw _ _) Z λn=>by rw[aK,S]
    rw[G]at h1;have:F.9≠0:=λy=>F0 (bD y);omega
  have H:r≠[]->M≠[]:=λz y=>z (by
   have G:pdL F r=M:=cW (cw _ _) Z λn=>by rw[aK,S]
   by_cases w:r=[]
   ·exact w
   ·exact absurd (G.trans y) (gd nF Q F0 w))
  have br:r≠[]->∀z∈r,Bd (b+14*D+8) z:=λz=>mN (e:=r) (t:=F) Q Z (H z) hD lM lr bM λn=>by rw[S];grind
  have ext:∀R:aa,R.9<=D+1->gu (f m) r R->Nml R->(R=[]->f m=[]/\r=[])->(R≠[]->0<co R (R.9-1)/\(∀z∈R,Bd (b+14*D+8) z)/\∃o:ac,o.9=m+1/\(∀u∈o,Nml u)/\(∀(i:Nat)(r u:aa),gs[i]?=Zz r->o[i]?=Zz u->∀n,val n r=val n R*val n u)/\(∀s:Nat,Prm s->(∀u∈o,∀j,(s:Int)∣co u j)->False)/\NF o/\∃A B,MP F D b (6*(m+1)) R A B)->∃f:Nat->aa,f 0=[]/\(∀i,(f i).9<=D+1)/\(∀i r,i<m+1->gs[i]?=Zz r->gu (f i) r (f (i+1)))/\Nml (f (m+1))/\(f (m+1)=[]->∀i r,i<m+1->gs[i]?=Zz r->r=[])/\
    (f (m+1)≠[]->0<co (f (m+1)) ((f (m+1)).9-1)/\(∀z∈f (m+1),Bd (b+14*D+8) z)/\∃o:ac,o.9=m+1/\(∀u∈o,Nml u)/\(∀(i:Nat)(r u:aa),gs[i]?=Zz r->o[i]?=Zz u->∀n,val n r=val n (f (m+1))*val n u)/\(∀s:Nat,Prm s->(∀u∈o,∀j,(s:Int)∣co u j)->False)/\NF o/\∃A B,MP F D b (6*(m+1)) (f (m+1)) A B):=λR lR cR nR zR hR=>by
   have e1:(λi=>if i<=m then f i else R) (m+1)=R:=if_neg ();refine#[λi=>if i<=m then f i else R,by simp[f0],λi=>?_,λi I hi C=>?_,#v[e1,nR],λT i I hi C=>?_,λJ=>?_]
   ·dsimp only;split
    ·exact fl i
    ·exact lR
   ·dsimp only;rw[if_pos ()];by_cases z:i<m
    ·rw[if_pos ()];exact fs i I z C
    ·have e:i=m:=()
     subst e;rw[Y]at C;cases C;rw[if_neg ()];exact cR
   ·rw[e1]at T;exists zR T,O,z2;by_cases z:i<m
    ·exact fz O i I z C
    ·have e:i=m:=()
     subst e;rw[Y]at C;cases C;exact z2
   ·rw[e1]at J ⊢;exact hR J
  by_cases O:f m=[]
  ·-- nothing so far
   exists HP r,ε,x0,hv;have y0:ε≠0:=by rcases x0 with rfl|rfl <;> decide
   have X:ε * ε=1:=by rcases x0 with rfl|rfl <;> rfl
   refine ext (di r) #v[mD,lr] (.inl #[O,rfl]) (By Q) (λz=>#[O,?_]) λJ=>?_
   ·by_cases y:r=[]
    ·exact y
    ·exact absurd z (HQ y)
   ·have r0:r≠[]:=λy=>J (by rw[y];rfl);refine#[mE Q r0,λz T=>?_,bZ m []++[[ε]],by simp,λu d=>?_,λi I u C d n=>?_,λs hs h=>?_,λh nh G M H hh=>?_,M,M,Z,Z,H r0,lM,lM,λz T=>(bM z T).mono (),bM,#[[ε],λn=>?_],#[[ε],λn=>?_],[],[ε],1,(),λn=>?_]
    ·exists uL r,n0,z0,hc;refine dg (xs:=di r) (P:=λz=>Bd (b+14*D+8) z) (λj=>?_) z T;rw[hc];have:=dy (P:=λz=>Bd (b+14*D+8) z) (br r0) (Bd.zero _) j;rcases z0 with rfl|rfl
     ·rw[eE];exact this
     ·rw[show (-1:Int)*co r j=- co r j by omega];exact this.neg
    ·rcases a8.mp d with y|y
     ·rw[List.eq_of_mem_replicate y];exact cH
     ·rw[bj.mp y];exact fK y0
    ·by_cases y:i<m
     ·rw[cE (⇑y),lH,if_pos y]at d
      cases d
      rw[fz O i I y C];simp[val]
     ·have hi:=(aZ.mp d).1;have e:i=m:=by simp at hi;omega
      subst e;rw[Y]at C;cases C;rw[cQ (by simp)]at d;simp at d;subst d;rw[hv];have:val n [ε]=ε:=by simp[val]
      rw[this];grind
    ·have:=h [ε] (by simp) 0;have e:co [ε] 0=ε:=rfl;rw[e]at this;have G:(s:Int).8∣ε.8:=iO.mpr this;have h3:ε.8=1:=by rcases x0 with rfl|rfl <;> rfl
     rw[h3,dE]at G;have:=Nat.dvd_one.mp G;have:=hs.1;omega
    ·obtain⟨v,u0⟩:=hh [ε] (by simp);have:=Rc nh (dO H y0) (v:=v) λn=>by rw[<-u0 n];simp[val]
     omega
    ·rw[S,hv];have:val n [ε]=ε:=by simp[val]
     rw[this];generalize val n F=x;generalize val n r=y;have e:x*(ε * y) * ε=(ε * ε)*(x*y):=by grind
     rw[e,X,eE]
    ·rw[S,hv];have:val n [ε]=ε:=by simp[val]
     rw[this];generalize val n F=x;generalize val n r=y;have e:x*(ε * y) * ε=(ε * ε)*(x*y):=by grind
     rw[e,X,eE]
    ·rw[S,hv];have:val n [ε]=ε:=by simp[val]
     rw[this];have e0:val n ([]:aa)=0:=rfl;rw[e0];grind
  ·exists fn O,g1,g2,o,u1,u2,u3,u4,u5,A,B,mp;clear fn;by_cases z2:r=[]
   ·have eu:di (f m)=f m:=by unfold di;rw[if_neg λh=>by omega]
    refine ext (f m) (fl m) (.inr (.inl #[O,z2,eu.symm])) nf (λz=>absurd z O) λ_=>#[g1,g2,o++[[]],by simp[u1],λu d=>?_,λi I u C d n=>?_,λs hs h=>u4 s hs λu d=>h u (i4 _ d),λh nh G M H hh=>u5 h nh G M H λu d=>hh u (i4 _ d),A,B,mp.up ()]
    ·rcases a8.mp d with y|y
     ·exact u2 u y
     ·rw[bj.mp y];exact cH
    ·by_cases y:i<m
     ·rw[cE ()]at d;exact u3 i I u C d n
     ·have hi:=(aZ.mp d).1;have e:i=m:=by simp at hi;omega
      subst e;rw[Y]at C;cases C;rw[cQ (),u1,gB]at d;simp at d;subst d;rw[z2];simp[val]
   ·have bk:(b+6*m+6)*D<=(b+6*k)*D:=eh _ ();obtain⟨R,a,c,A',ci,nR,R0,tR,na,nc,va,vc,⟨U,W,m',v0,bz⟩,hp,j0⟩:=Rx nF F0 nf O Q z2 Z S lM bM hD (fl m) (λz T=>(g2 z T).mono ()) mp ();have c0:c≠[]:=λz=>z2 (cW Q cH λn=>by rw[vc,z];simp[val]);have lR:R.9<=D+1:=by
     have h1:=(d8 nR nc R0 c0).1;have G:pdL R c=r:=cW (cw _ _) Q λn=>by rw[aK,vc]
     rw[G]at h1;have:c.9≠0:=λz=>c0 (bD z);omega
    refine ext R lR ci nR (λz=>absurd z R0) λ_=>#[tR,mN (e:=R) (t:=pdL F c) nR Z (H z2) hD lM lR bM (λn=>by rw[S,vc,aK];grind),o.map (pdL a)++[c],by simp[u1],λu d=>?_,λi I u C d n=>?_,λs hs h=>?_,λh nh G M H hh=>?_,A',M,by rw[show 6*(m+1)=6*m+6 by omega];exact j0]
    ·rcases a8.mp d with y|y
     ·exists bC.mp y,v,_,rfl;exact cw _ _
     ·rw[bj.mp y];exact nc
    ·by_cases y:i<m
     ·rw[cE (by simp;omega),aI]at d;exists de.mp d,v,hv,rfl;rw[aK,u3 i I v C hv n,va];grind
     ·have hi:=(aZ.mp d).1;have e:i=m:=by simp at hi;omega
      subst e;rw[Y]at C;cases C;rw[cQ (by simp[u1])]at d;simp[u1]at d;subst d;exact vc n
    ·by_cases y:∀j,(s:Int)∣co a j
     ·exact hp s hs y (h c (by simp))
     ·refine u4 s hs λu d=>?_;rcases oE hs (f:=co a) (g:=co u) λk=>by rw[<-mF];exact h (pdL a u) (i4 _ (bC.mpr #[u,d,rfl])) k with z|z
      ·exact absurd z y
      ·exact z
    ·refine u5 h nh G (m'*M) (dO v0 H) λu d=>?_;exists hh (pdL a u) (i4 _ (bC.mpr #[u,d,rfl])),v1,h1;obtain⟨v2,k0⟩:=hh c (by simp);refine#[bY (bK U v1) (bK (bK W u) v2),λn=>?_];have e1:=h1 n;have e2:=k0 n;rw[aK]at e1;rw[fo,dH,dH,dH,<-bz n];generalize val n U=p at *;generalize val n W=q at *;generalize val n u=x at *;generalize val n a=y at *;generalize val n c=z at *;generalize val n h=k at *;generalize val n v1=a1 at *;generalize val n v2=a2 at *;have:(p*y+q*z)*M*x=p*(M*(y*x))+q*x*(M*z):=by grind
     rw[this,e1,e2];grind
section
theorem IP {α:Type}(d:α)(xs:List α):(aM xs.9).map (λs=>xs.getD s d)=xs:=by
 refine hZ (by simp) λi c a=>?_;rw[ck,jc,az,aq a];rfl
def sT (g:ac->Nat)(Vy:au)(q:ac):Nat:=sS g Vy q Vy.9+g q
theorem u_ {g:ac->Nat}{Vy:au}{q:ac}:sS g Vy q Vy.9=(Vy.map g).sum:=by
 rw[uW]
 conv=>rhs;rw[<-IP ([]:ac) Vy]
 rw[ia];rfl
theorem BU {g:ac->Nat}{Vy:au}{q:ac}:sT g Vy q=((Vy++[q]).map g).sum:=by
 unfold sT;rw[u_,aR,gk];simp
theorem Ry (h:Nat->Nat)(t:Nat):∀k,dgS h k t<=((aM k).map h).sum:=λk=>by
 unfold dgS
 induction k with
 | zero=>simp
 | succ k ih=>
  rw[fZ,aR,aR,gk,gk,jb,jb,ky,ky]
  split <;> omega
theorem Rz {g:ac->Nat}{Vy:au}{q:ac}{t:Nat}(a:t<=Vy.9):sS g Vy q t<=sT g Vy q:=by
 by_cases z:t=Vy.9
 ·rw[z];unfold sT;omega
 ·rw[uV ()];unfold sT;rw[uW];have:=Ry (λs=>g (Vy.getD s [])) t Vy.9;omega
theorem RA {g:ac->Nat}{Vy:au}{q:ac}{few:ay}{i j t:Nat}(nd:few.Nodup)(e:∀x∈few,x<Vy.9)(c:few[i]?=Zz j)(n:t<=i):∃x,x<Vy.9/\sS g ((few.take i).map λi=>Vy.getD i []) (Vy.getD j []) t<=sS g Vy q x:=by
 have hi:=(aZ.mp c).1;have lt:(few.take (i+1)).9=i+1:=by rw[bV];omega
 have a:t<(few.take (i+1)).9:=()
 have d:∀x∈few.take (i+1),x<Vy.9:=λx hx=>e x (gD hx);have f:=uX (g:=g) (q:=q) (nd.sublist (vG (i+1) few)) d a;refine#[_,d _ (b_ a),aQ ?_ f];rw[uV (Vy:=(few.take (i+1)).map λi=>Vy.getD i []) #v[af,a]];refine aQ ?_ (Nat.le_add_right _ _);unfold sS;have h:few.take (i+1)=few.take i++[j]:=by rw[cY,c];rfl
 have k:(few.take i).map (λi=>Vy.getD i [])++[Vy.getD j []]=(few.take (i+1)).map λi=>Vy.getD i []:=by rw[h,aR];rfl
 have m:((few.take i).map λi=>Vy.getD i []).9+1=((few.take (i+1)).map λi=>Vy.getD i []).9:=by rw[af,af,lt,bV];omega
 rw[k,m];exact aA _
structure PF (w L b l B D β:Nat):Prop where
 w5:w<=5
 L1:1<=L
 Ll:L<=2 ^ l
 L40:L<=40
 b0:0<b
 b1:(b+10*L+3)*7+1<=4000
 b2:b<=1000
 b3:(w+2)*(2*B+2)<=900
 pl:97+B*(w+1)<512
 D20:D<=20
 big:6*(2*D+1)+(β+6*(w+1))*D+β * D+(β+6*(w+1))+β+(β+14*D+8)+1<=4480
 pls:w*D+D<B
def VqF (w L b l D β:Nat)(Vy:au)(q:ac):Prop:=(∀v∈Vy,v.9=w/\∀f∈v,Nml f/\f.9<=L/\∀c∈f,Bd b c)/\q.9=w/\(∀f∈q,Nml f/\f.9<=L/\∀c∈f,Bd b c)/\sT dv Vy q<=D/\∀t,t<=Vy.9->sS (λv=>l+bv v) Vy q t+3*Vy.9+4<=β
def UnB (l:Nat)(Vy:au)(q ws:ac):Prop:=∃F:aa,Nml F/\F≠[]/\∀t,t<=Vy.9->∃M:aa,Nml M/\(∀n,val n M=val n F*val n (ws.getD t []))/\M.9<=sS dv Vy q t+1/\∀z∈M,Bd (sS (λv=>l+bv v) Vy q t+3*Vy.9+4) z
def RlF (w D g l:Nat)(Vy:au)(q ws:ac):Prop:=RlG w D g Vy q ws/\UnB l Vy q ws
variable {w L b l B D β:Nat}{Vy:au}{cs:ay}{q:ac}{pl p:Int}
theorem VqF.vb (P:PF w L b l B D β)(h:VqF w L b l D β Vy q)(hk:Vy.9<=5):VB w Vy L b:=#[λv a=>(h.1 v a).1,λv a=>(h.1 v a).2,(),by have:=P.w5;omega,P.b0]
theorem VqF.vbq (P:PF w L b l B D β)(h:VqF w L b l D β Vy q)(hk:Vy.9<=5):VB w (Vy++[q]) L b:=by
 have c:=h.vb P hk;refine#[λv a=>?_,λv a=>?_,by simp;omega,by have:=P.w5;omega,P.b0]
 ·rcases a8.mp a with z|z
  ·exact c.wid v z
  ·rw[bj.mp z];exact h.2.1
 ·rcases a8.mp a with z|z
  ·exact c.nml v z
  ·rw[bj.mp z];exact h.2.2.1
def rdw (w:Nat)(r:Rp):Nat:=mxl ((aM w).map λc=>(r c).9)-1
theorem RB {v:ac}(a:v.9=w)(t:Nat):rdw w (cO w v t)=dv v:=by
 unfold rdw dv;congr 2;refine hZ (by simp[a]) λi c d=>?_;have hi:i<w:=by simpa using c
 rw[ck,jc,ck];unfold cO;rw[if_pos hi,az,aq ()];rfl
theorem IQ {r:Rp}{c:Nat}(a:c<w):(r c).9<=rdw w r+1:=by
 have:=uY (bC.mpr #[c,dj.mpr a,rfl]:(r c).9∈(aM w).map λc=>(r c).9);unfold rdw;omega
theorem IR (W:∀v∈Vy,v.9=w):gw (rdw w) (cq w Vy)=(Vy.map dv).sum:=by
 unfold gw cq;rw[ia]
 conv=>rhs;rw[<-IP ([]:ac) Vy]
 rw[ia];congr 1;exact fB λi hi=>RB (W _ (mem_getD (dj.mp hi))) i
theorem RC (a:Rp->Nat)(l:List Rp)(i:Nat):gw a (l.take i)<=gw a l:=by
 conv=>rhs;rw[<-Cr i l]
 unfold gw;rw[aR,gk];omega
theorem IS (W:∀v∈Vy,v.9=w)(nml:∀v∈Vy,∀f∈v,Nml f){r:Rp}(a:r∈cq w Vy)(c:Nat):Nml (r c):=by
 unfold cq at a;exists bC.mp a,t,g,rfl;have e:=mem_getD (d:=([]:ac)) (dj.mp g);unfold cO
 split
 ·rename_i h;exact nml _ e _ (mem_getD (d:=([]:aa)) #v[W _ e,h])
 ·split
  ·exact fK ()
  ·exact cH
theorem BV (W:∀v∈Vy,v.9=w)(nml:∀v∈Vy,∀f∈v,Nml f)(hk:Vy.9<=w)(x:cs.9=Vy.9)(h:∀c∈cs,c<w)(pv:Piv w Vy cs p Vy.9):∃d:aa,Nml d/\d≠[]/\d.9<=1+Vy.9*(Vy.map dv).sum/\∀n:Int,val n d≠0->Piv w Vy cs n Vy.9:=by
 have tb:=kg W _ (aA _) () pv;have G:(cq w Vy).9=Vy.9:=by unfold cq;rw[af,gC]
 have H:∀i,i<=Vy.9->(mnP w Vy cs i).9<=(Vy.map dv).sum+1:=λi hi=>by
  have:=o3 (rdw w) (cr cs i) ((cq w Vy).take i) λr I c C=>by
   have j:=gD I;have k:c<w:=by
    unfold cr at C;exact h c (gD (lZ.mp C))
   exact#[IS W nml j c,IQ k]
  have e:=RC (rdw w) (cq w Vy) i;rw[IR W]at e;unfold mnP;omega
 have m:∀i,i<=Vy.9->mnP w Vy cs i≠[]:=λi hi z=>tb.1 i hi (by rw[<-uP W (),z];rfl);have o:∀i,i<=Vy.9->Nml (prP w Vy cs i)/\prP w Vy cs i≠[]/\(prP w Vy cs i).9<=1+i*(Vy.map dv).sum/\∀n:Int,val n (prP w Vy cs i)≠0->∀l,l<=i->mi (bX w Vy n) cs l≠0:=λi=>by
  induction i with
  | zero=>intro _;exact#[fK (),by simp[prP],by simp[prP],λn _ l x=>by rw[show l=0 by omega,uj];decide]
  | succ i ih=>
   intro hi;exists ih (),g,s,F,u;have nm:=iq (cr cs (i+1)) ((cq w Vy).take (i+1));refine#[cw _ _,gd g nm s (m _ hi),?_,λn a l x=>?_]
   ·have:=oU g nm;have:=H (i+1) hi;unfold mnP at this;show (pdL (prP w Vy cs i) (mnP w Vy cs (i+1))).9<=_;unfold mnP;rw[gy,fU];omega
   ·have e:val n (prP w Vy cs (i+1))=val n (prP w Vy cs i)*val n (mnP w Vy cs (i+1)):=aK _ _ _;rw[e]at a;by_cases z:l<=i
    ·exact u n (λy=>a (by rw[y];simp)) l z
    ·rw[show l=i+1 by omega,<-uP W ()];exact λy=>a (by rw[y];simp)
 exists o Vy.9 (aA _),g,s,F,u;exact#[_,g,s,F,λn a=>BL W _ (aA _) () (u n a)]
theorem RD (W:∀v∈Vy++[q],v.9=w)(g:∀c∈cs,c<w){N:Int}(h:oX (Vy++[q]) cs N):N<=((sT dv Vy q:Nat):Int):=by
 exists h,bv,s,m,u,z,I,J,C,F,M;have ev:bv=((Vy++[q]).map λv=>mx (cs.map λc=>(v.getD c []).9-1)).map λx:Nat=>(x:Int):=by
  refine hZ #v[af,af,u] λi a G=>?_;have hi:i<(Vy++[q]).9:=by rw[u]at a;exact a
  rw[ck,ck,uO (I i bv[i] _ (aq a) (aq hi))];unfold iF;rw[ia];rfl
 have H:s=(cs.map λc=>mx ((Vy++[q]).map λv=>(v.getD c []).9-1)).map λx:Nat=>(x:Int):=by
  refine hZ #v[af,af,z] λi a G=>?_;have hi:i<cs.9:=by rw[z]at a;exact a
  rw[ck,ck,uO (J i s[i] _ (aq a) (aq hi))];unfold iG;rw[ia];rfl
 have j:=congrArg List.sum ev;have k:=congrArg List.sum H;rw[Io]at j k;generalize O:(Vy++[q]).map (λv=>mx (cs.map λc=>(v.getD c []).9-1))=n at ev j;generalize hC:cs.map (λc=>mx ((Vy++[q]).map λv=>(v.getD c []).9-1))=T at H k;have P:∃e:Nat,m=(e:Int)/\e∈n/\∀x∈n,e<=x:=by
  rw[ev]at C F;exists bC.mp C,e,o,rfl;exact#[e,rfl,o,λx hx=>by have:=F _ (bC.mpr #[x,hx,rfl]);omega]
 exists P,e,rfl,p,Q;have R:=BK p;have le:n.sum<=sT dv Vy q:=by
  rw[BU,<-O];have:∀f:au,(∀v∈f,v∈Vy++[q])->(f.map λv=>mx (cs.map λc=>(v.getD c []).9-1)).sum<=(f.map dv).sum:=λf=>by
   induction f with
   | nil=>intro _;simp
   | cons v f ih=>
    intro hx;have G:=ih λy hy=>hx y (dC _ hy);have a:mx (cs.map λc=>(v.getD c []).9-1)<=dv v:=BJ λy hy=>by
     exists bC.mp hy,c,S,rfl;have r:=W v (hx v dU);have:=IL (mem_getD (d:=([]:aa)) (show c<v.9 by rw[r];exact g c S));omega
    rw[d9,d9,iz,iz];omega
  exact this _ λv r=>r
 rw[M,k,j];split <;> omega
theorem PF.at (P:PF w L b l B D β)(S:StG w B Vy cs pl)(hk:Vy.9<=w){t:Nat}(c:t<=B):Bd 9 (pl+(t:Int)):=by
 exists S,_,_,_,d,e,_;have a:=P.pl;have f:(B:Int)*(Vy.9:Int)<=(B:Int)*(w:Int):=m_ () ();rw[CD,md]at a;have g:((B*w:Nat):Int)=(B:Int)*(w:Int):=fW _ _;exact Bd.of_lt (m:=512) () ()
theorem RE (P:PF w L b l B D β)(S:StG w B Vy cs pl)(V:VqF w L b l D β Vy q){c:Nat}(u:c<w)(y:c∉cs)(h:mkP w Vy cs q c≠[]):∃N,N<=B/\(∀t:Nat,t<=N->TBd w (Vy++[q]) (cs++[c]) (pl+(t:Int)))/\Piv w (Vy++[q]) (cs++[c]) (pl+(N:Int)) (Vy.9+1):=by
 have kw:=S.few;have w5:=P.w5;exists S,k,a,nd,C,F,pv;have n:=V.vb P ();have i:=V.vbq P ();have R:Vy.9+1<=w:=by
  have:=oY w 0 (c :: cs) (lG.mpr #[y,nd]) λx hx=>⟨aU _,by
   rcases bN.mp hx with z|z
   ·omega
   ·have:=a x z;omega⟩
  rw[cP]at this;omega
 obtain⟨d,o,p,T,G⟩:=BV n.wid (λv e f m=>(n.nml v e f m).1) kw k a pv;have U:(Vy.map dv).sum+dv q=sT dv Vy q:=by unfold sT;rw[u_]
 have lc:(mkP w Vy cs q c).9<=sT dv Vy q+1:=by
  have:=o3 (rdw w) (c :: cr cs Vy.9) (cq w (Vy++[q])) λr H j g=>by
   have:j<w:=by
    rcases bN.mp g with z|z
    ·omega
    ·exact a j (BO z)
   exact#[IS i.wid (λv e f m=>(i.nml v e f m).1) H j,IQ this]
  rw[IR i.wid,<-BU]at this;unfold mkP;exact this
 have s:Nml (mkP w Vy cs q c):=iq _ _;have I:=gd o s p h;have J:(pdL d (mkP w Vy cs q c)).9<=B+1:=by
  have X:=(d8 o s p h).1;have Y:=V.2.2.2.1;have Z:Vy.9*(Vy.map dv).sum<=w*D:=dY kw ();have:=P.pls;omega
 exists H_ (cw d (mkP w Vy cs q c)) I pl J,N,M,e;rw[aK]at e;have O:val (pl+(N:Int)) d≠0:=λz=>e (by rw[z];simp);have Q:val (pl+(N:Int)) (mkP w Vy cs q c)≠0:=λz=>e (by rw[z];simp);have pn:=G _ O;refine#[N,M,λt ht=>i.tbd (P.at #[k,a,nd,C,F,pv] kw ()) P.b1 (by have:=P.L40;omega) P.b2 (λj g=>?_) (by simp[k]),HW k pn ?_]
 ·rcases a8.mp g with z|z
  ·exact a j z
  ·rw[bj.mp z];exact u
 ·rw[BH i.wid kw () pn];exact Q
theorem BW (P:PF w L b l B D β)(V:VqF w L b l D β Vy q)(kw:Vy.9<=w)(a:∀c∈cs,c<w){t:Nat}(d:t<=Vy.9):(mkP w Vy cs q (w+t)).9<=D+1/\∀z∈mkP w Vy cs q (w+t),Bd β z:=by
 have w5:=P.w5;have e:=V.vbq P ();exists V,_,_,_,m,j;have own:=IN (l:=l) (w:=w) (Vy:=Vy) (q:=q) (cs:=cs) (λv h=>#[e.wid v h,λf i=>#[(e.nml v h f i).1,aQ (e.nml v h f i).2.1 P.Ll]]) () a d;have n:=Rz (g:=dv) (Vy:=Vy) (q:=q) d;exact#[(),λz k=>(own.2 z k).mono (j t d)]
theorem RF (P:PF w L b l B D β)(S:StG w B Vy cs pl)(V:VqF w L b l D β Vy q):∃(gs:ac)(Pn:Nat)(f:Nat->aa)(o:ac)(p0:aa)(Q:Int),OcOk w Vy cs q gs Pn/\Pn<=B/\(∀N,oX (Vy++[q]) cs N->0<=N/\N<60/\(∀g∈gs,(g.9:Int)<=N+1)/\N<((plc w Vy cs Pn).9:Int))/\
  ((∀p∈gs,p.9<=64/\Nml p/\∀c∈p,Bd 5000 c)/\(∀i,(f i).9<=64)/\f 0=[]/\(∀i r,gs[i]?=Zz r->gu (f i) r (f (i+1)))/\gs.getLast?=Zz (p0++[Q])/\f gs.9≠[]/\Nml (f gs.9)/\(∀c∈f gs.9,Bd 8000 c)/\o.9=gs.9/\(∀(i:Nat)(p q:aa),gs[i]?=Zz p->o[i]?=Zz q->Nml q/\Div p (gv (decide (Q<0)) (f gs.9)) q))/\
  FcOk w (Vy++[q]) o/\((∀c,c<w->c∉cs->eN (Vy++[q]) o c (Vy.9+1)=[])->RlF w D (β+14*D+8) l Vy q o)/\
  ∀c,c<w->c∉cs->eN (Vy++[q]) o c (Vy.9+1)≠[]->∃N,N<=B/\(∀t:Nat,t<=N->TBd w (Vy++[q]) (cs++[c]) (pl+(t:Int)))/\Piv w (Vy++[q]) (cs++[c]) (pl+(N:Int)) (Vy.9+1):=by
 have kw:=S.few;have w5:=P.w5;have S0:=S;exists S,hl,C,nd,p1,p2,pv;have B0:=V.vb P ();have B1:=V.vb P ();have Bq:=V.vbq P ();have W:=Bq.wid;have D20:=P.D20;have big:=P.big;have bB:∀n:Nat,n<B->Bd 9 (n:Int):=λn R=>Bd.of_lt (m:=512) (by have:=P.pl;have:B<=B*(w+1):=iu _ ();omega) ();obtain⟨d,d1,d2,d3,d4⟩:=BV B0.wid (λv Y f J=>(B0.nml v Y f J).1) kw hl C pv;have pm:=QQ (w:=w) (Vy:=Vy) (cs:=cs) d1 d2 (Pn:=B) λn _ R=>d4 n R;have sd:(Vy.map dv).sum+dv q=sT dv Vy q:=by unfold sT;rw[u_]
 have V3:=V.2.2.2.1;have y2:Vy.9*(Vy.map dv).sum<=w*D:=dY kw ();have pls:=P.pls;obtain⟨gs,j0⟩:∃gs,gs=(aM (Vy.9+1)).map λt=>mkP w Vy cs q (w+t):=#[_,rfl]
 have x0:gs.9=Vy.9+1:=by rw[j0,af,gC]
 have H:∀t,t<=Vy.9->gs[t]?=Zz (mkP w Vy cs q (w+t)):=λt I=>by rw[j0,aI,iy ()];rfl
 have k0:∀g∈gs,∃t,t<=Vy.9/\g=mkP w Vy cs q (w+t):=λg O=>by
  rw[j0]at O;exists bC.mp O,t,I,rfl;exact#[t,by have:=dj.mp I;omega,rfl]
 have sz:∀g∈gs,Nml g/\g.9<=D+1/\∀z∈g,Bd β z:=λg O=>by
  exists k0 g O,t,I,rfl;exact#[iq _ _,BW P V kw C I]
 obtain⟨f,f0,fl,fs,nf,fz,fn⟩:=BS (gs:=gs) (Ms:=gs) (F:=[1]) (D:=D) (b:=β) (k:=w+1) (fK ()) (by simp) D20 () rfl (λi r M T h2=>by
  rw[T]at h2;cases h2;exists sz r (b4 T),a1,a2,a3;exact#[a1,a1,λn=>by simp[val],a2,a3]) big gs.9 (aA _)
 have tb:=kg B0.wid _ (aA _) () pv;have U:mkP w Vy cs q (w+Vy.9)≠[]:=λz=>tb.1 Vy.9 (aA _) (by rw[<-Re W kw,z];rfl);have F0:f gs.9≠[]:=λz=>U (fz z Vy.9 _ () (H _ (aA _)));exists fn F0,tF,bF,us,u1,u2,u3,u4,u5,u6;clear fn u6;obtain⟨F,hF⟩:∃F,F=f gs.9:=#[_,rfl]
 rw[<-hF]at nf F0 tF bF u3;obtain⟨p0,Q,ev⟩:∃p0 Q,mkP w Vy cs q (w+Vy.9)=p0++[Q]:=by
  cases z:(mkP w Vy cs q (w+Vy.9)).getLast? with
  | none=>rw[vZ]at z;exact absurd z U
  | some a=>exact#[_,a,(pL.mp z).choose_spec]
 obtain⟨σ,x1⟩:∃σ:Int,σ=if decide (Q<0)=true then -1 else 1:=#[_,rfl]
 have y1:σ=1\/σ=-1:=by rw[x1];split <;> simp
 have z1:σ≠0:=by rcases y1 with z|z <;> rw[z] <;> decide
 have z0:σ * σ=1:=by rcases y1 with z|z <;> rw[z] <;> rfl
 obtain⟨o,v1⟩:∃o,o=us.map λu=>u.map λz=>σ * z:=#[_,rfl]
 have j1:o.9=gs.9:=by rw[v1,af,u1]
 have X:∀t,t<=Vy.9->∃u,us[t]?=Zz u/\Nml u/\o[t]?=Zz (u.map λz=>σ * z)/\o.getD t []=(u.map λz=>σ * z)/\∀n,val n (mkP w Vy cs q (w+t))=val n F*val n u:=λt I=>by
  have T:t<us.9:=()
  have h2:o[t]?=Zz ((us[t]).map λz=>σ * z):=by rw[v1,aI,aq T];rfl
  exact#[us[t],aq T,u2 _ (b_ T),h2,by rw[az,h2];rfl,u3 t _ _ (H t I) (aq T)]
 have k1:∀r∈o,Nml r/\r.9<=D+1/\∀c∈r,Bd (β+14*D+8) c:=λr hr=>by
  exists cU.mp hr,t,I,rfl;exists X t (),u,_,Z,h3,_,h5;rw[aq I]at h3;rw[Zv h3];have bu:u.9<=D+1/\∀z∈u,Bd (β+14*D+8) z:=by
   by_cases z:u=[]
   ·rw[z];exact#[by simp,λz hz=>by simp at hz]
   ·have g0:=sz _ (b4 (H t ()));have eg:pdL F u=mkP w Vy cs q (w+t):=cW (cw _ _) g0.1 λn=>by rw[aK,h5]
    have g1:mkP w Vy cs q (w+t)≠[]:=by rw[<-eg];exact gd nf Z F0 z
    have h6:=(d8 nf Z F0 z).1;rw[eg]at h6;have:F.9≠0:=λy=>F0 (bD y);have lu:u.9<=D+1:=by have:=g0.2.1;omega
    exact#[lu,mN (t:=F) Z g0.1 g1 D20 g0.2.1 lu g0.2.2 λn=>by rw[h5,cT]]
  refine#[i0 z1 Z,#v[af,bu.1],λc G=>?_];exists bC.mp G,y,hy,rfl;rcases y1 with z|z
  ·rw[z,eE];exact bu.2 y hy
  ·rw[z,show (-1:Int)*y=-y by omega];exact (bu.2 y hy).neg
 have m1:UnB l Vy q o:=⟨F.map λz=>σ * z,i0 z1 nf,λz=>F0 (lI.mp z),λt I=>by
  exists X t I,u,_,Z,_,h4,h5;have own:=IN (l:=l) (w:=w) (Vy:=Vy) (q:=q) (cs:=cs) (λv Y=>#[Bq.wid v Y,λf J=>#[(Bq.nml v Y f J).1,aQ (Bq.nml v Y f J).2.1 P.Ll]]) () C I;refine#[_,iq _ _,λn=>?_,own.1,own.2];rw[h4,be,be];have e:=h5 n;generalize val n F=x at *;generalize val n u=y at *;have e2:σ * x*(σ * y)=(σ * σ)*(x*y):=by grind
  rw[e2,z0,eE];exact e⟩
 have z2:β+14*D+8<=4480:=()
 have col:∀c,c<w->∀n,val n F*ar (Vy.9+1) (λt=>val n (((Vy++[q]).getD t []).getD c [])*val n (o.getD t []))=σ * val n (mkP w Vy cs q c):=λc G n=>by
  rw[<-Rg W kw G n,<-eL,<-eL];refine b7 λt I=>?_;exists X t (),u,_,_,_,h4,h5;rw[h4,be,h5];grind
 have v0:∀c,c<w->mkP w Vy cs q c=[]->∀n,ar (Vy.9+1) (λt=>val n (((Vy++[q]).getD t []).getD c [])*val n (o.getD t []))=0:=λc G hz n=>by
  have T:eN (Vy++[q]) o c (Vy.9+1)=[]:=by
   by_cases z:eN (Vy++[q]) o c (Vy.9+1)=[]
   ·exact z
   ·refine absurd (cW (cw F (eN (Vy++[q]) o c (Vy.9+1))) cH λn=>?_) (gd nf (Iv _ _ _ _) F0 z);rw[aK,o7,col c G n,hz];simp[val]
  rw[<-o7,T];rfl
 refine#[gs,B,f,o,p0,Q,#[(),kw,W,C,(),x0,by have:=P.pl;have:B<=B*(w+1):=iu _ ();omega,λn R=>B1.tbd (bB n R) P.b1 (by have:=P.L40;omega) P.b2 C (),λn R pn=>B1.low (bB n R) P.b1 C (aA _) () pn V.2.1 λf J=>(V.2.2.1 f J).2,#[by rw[V.2.1];omega,λf J=>#[by have:=(V.2.2.1 f J).2.1;have:=P.L40;omega,λc G=>((V.2.2.1 f J).2.2 c G).mono P.b2]],λn R pn i g O=>?_,λg O=>?_],aA _,λN hN=>?_,#[λg O=>?_,λi=>by have:=fl i;omega,f0,λi r hr=>fs i r (aZ.mp hr).1 hr,?_,#v[<-hF,F0],#v[<-hF,nf],λc G=>(bF c #v[hF,G]).mono (),j1,λi a r ha hr=>?_],#[by rw[j1,x0];simp,by simp;omega,(),W,λv Y f J=>?_,λr hr=>?_],λhz=>?_,λc G R x2=>?_]
 ·have hi:i<=Vy.9:=by have:=(aZ.mp O).1;omega
  rw[H i hi]at O;rw[<-Zv O];exact BH W kw () pn (w+i)
 ·exists k0 g O,t,I,rfl;refine#[iq _ _,λn R=>?_];refine (j_ (k:=β) (l:=9) (bB n R) _ (BW P V kw C I).2).mono ?_;have:=d_ (9+1) (BW (cs:=cs) P V kw C I).1;omega
 ·obtain⟨n0,n1,n2⟩:=Q8 (L:=L) W (λv Y f J=>#[(Bq.nml v Y f J).1,(Bq.nml v Y f J).2.1]) kw hl C hN;have n3:=RD W C hN;refine#[n0,(),λg O=>?_,()];exists k0 g O,t,I,rfl;exact n2 t I
 ·have:=sz g O;exact#[(),this.1,λc G=>(this.2.2 c G).mono ()]
 ·rw[gi,x0,ma,H _ (aA _),ev]
 ·have hi:i<=Vy.9:=by have:=(aZ.mp ha).1;omega
  rw[H i hi]at ha;rw[<-Zv ha];exists X i hi,u,_,Z,h3,_,h5;rw[h3]at hr;rw[<-Zv hr];refine#[i0 z1 Z,iU.mpr λn=>?_];rw[<-hF,QU,<-x1,be,h5];grind
 ·exists Bq.nml v Y f J,_,a2,a3;exact#[by have:=P.L40;omega,λc G=>(a3 c G).mono P.b2]
 ·exists k1 r hr,_,a2,a3;exact#[(),λc G=>(a3 c G).mono ()]
 ·refine#[#[by rw[j1,x0],k1,?_,λs hs h=>u4 s hs λu hu j=>?_,λc G n=>?_],m1]
  ·exists X Vy.9 (aA _),u,_,Z,_,h4,h5;rw[h4];have eg:pdL F u=p0++[Q]:=cW (cw _ _) #v[<-ev,iq _ _] λn=>by rw[aK,<-h5,ev]
   have u0:u≠[]:=λz=>by rw[z]at eg;have:=congrArg kl eg;rw[show pdL F []=[] from cW (cw _ _) cH λn=>by rw[aK];simp[val]]at this;simp at this
   have tt:=(d8 nf Z F0 u0).2;rw[eg]at tt;have e1:co (p0++[Q]) ((p0++[Q]).9-1)=Q:=by unfold co;simp
   rw[e1]at tt;obtain⟨v,y,rfl⟩:∃v y,u=v++[y]:=by
    cases z:u.getLast? with
    | none=>rw[vZ]at z;exact absurd z u0
    | some a=>exact#[_,a,(pL.mp z).choose_spec]
   have e2:co (v++[y]) ((v++[y]).9-1)=y:=by unfold co;simp
   rw[e2]at tt;have y0:y≠0:=eK.mp Z y (by simp);refine#[v.map λz=>σ * z,σ * y,by simp,?_];rw[x1];generalize co F (F.9-1)=lf at tF tt;by_cases z:Q<0
   ·have:y<0:=by
     refine CH λh=>?_;have:=Cv (pH tF) h;omega
    simp[z];omega
   ·have:0<y:=by
     refine CH λh=>?_;have:=vU tF (show 0 < -y by omega);rw[vO]at this;omega
    simp[z];omega
  ·have:=h (u.map λz=>σ * z) #v[v1,bC.mpr #[u,hu,rfl]] j;rw[eQ]at this;exists this,y,hy;have T:co u j=σ * (σ * co u j):=by rw[<-cA,z0,eE]
   exact#[σ * y,by rw[T,hy];grind]
  ·by_cases z:c∈cs
   ·exact v0 c G (Im z hl) n
   ·have:=hz c G z;rw[<-o7,this];rfl
 ·refine RE P S0 V G R λz=>x2 ?_;refine cW (Iv _ _ _ _) cH λn=>?_;rw[o7,v0 c G z n];rfl
theorem RG (P:PF w L b l B D β)(S:StG w B Vy cs pl)(m:∀v∈Vy,v.9=w/\∀f∈v,Nml f/\f.9<=L/\∀c∈f,Bd b c){few:ay}{j:Nat}(nd:few.Nodup)(F:∀i∈few,i<Vy.9)(o:j<Vy.9)(g:j∉few){ws:ac}{u:aa}(H:Nml u)(u0:u≠[])(h:∀c,c<w->∀n,ar few.9 (λt=>val n ((Vy.getD (few.getD t 0) []).getD c [])*val n (ws.getD t []))+val n ((Vy.getD j []).getD c [])*val n u=0):False:=by
 have kw:=S.few;have w5:=P.w5;exists S,r,a,_,T,U,pv;have W:∀v∈Vy,v.9=w:=λv e=>(m v e).1;obtain⟨d,I,J,X,M⟩:=BV W (λv e f O=>((m v e).2 f O).1) kw r a pv;exists H_ (cw d u) (gd I H J u0) 0 (Cm _),N,_,k;rw[aK]at k;have Q:val (0+(N:Int)) d≠0:=λz=>k (by rw[z];simp);have Y:val (0+(N:Int)) u≠0:=λz=>k (by rw[z];simp);generalize (0+(N:Int))=p at *;obtain⟨G,s⟩:∃G:aL,∀x,G x=cf few ((aM few.9).map λt=>val p (ws.getD t [])) x+if x=j then val p u else 0:=#[_,λ_=>rfl]
 have all:=Q9 W () r (M _ Q) (ms:=(aM Vy.9).map G) (by simp) (λc y=>by
  rw[ID W (a c y)];have C:=h c (a c y) p;rw[IF nd F]at C;have R:ar Vy.9 (λx=>G x*val p ((Vy.getD x []).getD c []))=ar Vy.9 (λx=>cf few ((aM few.9).map λt=>val p (ws.getD t [])) x*val p ((Vy.getD x []).getD c []))+ar Vy.9 (λx=>if x=j then val p ((Vy.getD x []).getD c [])*val p u else 0):=by
   rw[<-jU];exact b7 λx _=>by rw[s];split <;> grind
  rw[R,Ir o];exact C) (G j) (bC.mpr #[j,dj.mpr o,rfl])
 rw[s,uQ _ _ _ g,if_pos rfl]at all;omega
theorem IT (P:PF w L b l B D β):SpTh w B w (StG w B) (VqF w L b l D β) (RlF w D (β+14*D+8) l) where
 b3:=P.b3
 k18:=by have:=P.w5;omega
 st0:=#[rfl,by simp,l_,(),by simp,λi hi=>by simp at hi]
 stS:=λVy cs pl q c t p _ m hn e pv=>by
  exists p,Y,C,nd,p1,p2,_;refine#[by simp[Y],λc' R=>?_,?_,(),?_,#v[b8,pv]]
  ·rcases a8.mp R with z|z
   ·exact C c' z
   ·rw[bj.mp z];exact m
  ·exact jE.mpr #[nd,by simp,λa ha b' j0 z=>hn (by rw[bj.mp j0]at z;rw[<-z];exact ha)]
  ·have G:((Vy++[q]).9:Int)=(Vy.9:Int)+1:=by simp
   rw[G,jB];omega
 bd:=λVy cs pl q p k=>#[p.few,k.2.1,λf hf=>#[by have:=(k.2.2.1 f hf).2.1;have:=P.L40;omega,λc m=>((k.2.2.1 f hf).2.2 c m).mono P.b2]]
 tb:=λVy cs pl q p k=>by
  have kw:=p.few;have w5:=P.w5;have B1:=k.vb P ();have X:=P.at p kw (aU B);have S:pl+((0:Nat):Int)=pl:=()
  rw[S]at X;exists p,Y,C,nd,p1,p2,pv;exact#[B1.tbd X P.b1 (by have:=P.L40;omega) P.b2 C (),pv,B1.low X P.b1 C (aA _) () pv k.2.1 λf hf=>(k.2.2.1 f hf).2]
 hit:=λVy cs pl q c p k m h0=>by
  have kw:=p.few;have w5:=P.w5;have Bq:=k.vbq P ();have X:=P.at p kw (aU B);have S:pl+((0:Nat):Int)=pl:=()
  rw[S]at X;exists p,Y,C,nd,p1,p2,pv;refine#[λhm=>h0 ?_,Bq.tbd X P.b1 (by have:=P.L40;omega) P.b2 (λc' R=>?_) (by simp[Y])]
  ·rw[BH Bq.wid kw () pv,Im hm Y];rfl
  ·rcases a8.mp R with z|z
   ·exact C c' z
   ·rw[bj.mp z];exact m
 oc:=λVy cs pl q p k _=>RF P p k
 sub:=λVy cs pl q few p k Z o fl=>by
  have nd:few.Nodup:=Z.imp λh=>by omega
  exists id k,j1,k0,n0,x0,T;have sub:∀g:ac->Nat,sT g (few.map λi=>Vy.getD i []) q<=sT g Vy q:=λg=>by
   have:=o8 (g:=g) (q:=q) nd o;unfold sT;rw[af];omega
  refine#[#[IE k.1 o,k0,n0,aQ (sub dv) x0,λt e=>?_],λi j H=>?_]
  ·rw[af]at e ⊢;by_cases z:t<few.9
   ·have J:=uX (g:=λv=>l+bv v) (q:=q) nd o z;have O:=T few[t] (by have:=o _ (b_ z);omega);omega
   ·have J:=o8 (g:=λv=>l+bv v) (q:=q) nd o;have O:=T Vy.9 (aA _);rw[show t=few.9 by omega];omega
  have x1:=b4 H;have hj:=o j x1;have hi:=(aZ.mp H).1;have z0:∀x∈few.take i,x<Vy.9:=λx hx=>o x (gD hx);have hm:=mem_getD (d:=([]:ac)) hj;have u0:∀g:ac->Nat,sT g ((few.take i).map λi=>Vy.getD i []) (Vy.getD j [])<=sT g Vy q:=λg=>by
   have J:=o8 (g:=g) (q:=q) (nd.sublist (vG (i+1) few)) λx hx=>o x (gD hx);have O:sS g ((few.take (i+1)).map λi=>Vy.getD i []) q (few.take (i+1)).9=sT g ((few.take i).map λi=>Vy.getD i []) (Vy.getD j []):=by
    have G:(few.take (i+1)).9=((few.take (i+1)).map λi=>Vy.getD i []).9:=by rw[af]
    rw[G,u_,BU];have e2:few.take (i+1)=few.take i++[j]:=by rw[cY,H];rfl
    rw[e2,aR];rfl
   rw[O]at J;unfold sT at J ⊢;omega
  have lt:((few.take i).map λi=>Vy.getD i []).9<=Vy.9:=by rw[af,bV];omega
  refine#[#[IE k.1 z0,(k.1 _ hm).1,(k.1 _ hm).2,aQ (u0 dv) x0,λt e=>?_],λws hR=>?_]
  ·have z1:t<=i:=by rw[af,bV]at e;omega
   obtain⟨x,hx,J⟩:=RA (g:=λv=>l+bv v) (q:=q) nd o H z1;have O:=T x ();omega
  ·exists hR,#[J,O,#[p0,t0,h3,v0],h4,h5],_;rw[af]at J h3;refine RG P p k.1 (few:=few.take i) (j:=j) (nd.sublist (vG _ _)) z0 hj (λhx=>?_) (ws:=ws) (u:=ws.getD (few.take i).9 []) (O _ (mem_getD ())).1 (by rw[h3];simp) λc m n=>?_
   ·exists cU.mp hx,t,e,et;rw[List.getElem_take]at et;have u1:t<i:=by rw[bV]at e;omega
    have:=pO.mp Z t i () hi u1;have e2:=(aZ.mp H).2;omega
   ·rw[<-IG];exact h5 c m n
 len:=λVy q ws hR=>hR.1.1
 up:=λVy cs pl q few ws p k Z o fl hR=>by
  have nd:few.Nodup:=Z.imp λh=>by omega
  exists hR,#[J,O,#[p0,t0,h3,v0],h4,h5],hB;rw[af]at J h3;exists Ix (ws:=ws) Z o few.9 (aA _),g1,g2,g3;rw[fy]at g2;have Q:∀t,t<few.9->(spw Vy.9 few ws few.9).getD (few.getD t 0) []=ws.getD t []:=λt e=>by
   have G:few.getD t 0=few[t]:=by rw[az,aq e];rfl
   rw[G,az,g1 t e e];rfl
  have U:∀i,i<Vy.9->i∉few->(spw Vy.9 few ws few.9).getD i []=[]:=λi hi hn=>by rw[az,g2 i hi hn];rfl
  have I:(spw Vy.9 few ws few.9).getD Vy.9 []=ws.getD few.9 []:=by rw[az,g3];rfl
  exists hB,F,nF,F0,hF;have v1:UnB l Vy q (spw Vy.9 few ws few.9):=⟨F,nF,F0,λi hi=>by
   have lf:few.9<=Vy.9:=()
   by_cases z:i=Vy.9
   ·rw[z,I];exists hF few.9 #v[af,aA _],M,y0,y1,y2,y3;have s1:=o8 (g:=dv) (q:=q) nd o;have s2:=o8 (g:=λv=>l+bv v) (q:=q) nd o;rw[af]at y3;exact#[M,y0,y1,(),λc m=>(y3 c m).mono ()]
   ·by_cases y:i∈few
    ·exists cU.mp y,t,e,rfl;have G:few.getD t 0=few[t]:=by rw[az,aq e];rfl
     rw[<-G,Q t e,G];obtain⟨M,y0,y1,y2,y3⟩:=hF t (by rw[af];omega);have s1:=uX (g:=dv) (q:=q) nd o e;have s2:=uX (g:=λv=>l+bv v) (q:=q) nd o e;rw[af]at y3;exact#[M,y0,y1,(),λc m=>(y3 c m).mono ()]
    ·rw[U i () y];exact#[[],cH,λn=>by simp[val],by simp,λc m=>by simp at m]⟩
  refine#[#[jz _ _ _ _,λr hr=>?_,#[p0,t0,by rw[I,h3],v0],λs hs h=>h4 s hs λu hu=>?_,λc m n=>?_],v1]
  ·exists cU.mp hr,i,hi,rfl;rw[jz]at hi;have S:(spw Vy.9 few ws few.9)[i]'(#v[jz,hi])=(spw Vy.9 few ws few.9).getD i []:=by rw[az,aq #v[jz,hi]];rfl
   rw[S];by_cases z:i=Vy.9
   ·rw[z,I];exact O _ (mem_getD ())
   ·by_cases y:i∈few
    ·exists cU.mp y,t,e,rfl;have G:few.getD t 0=few[t]:=by rw[az,aq e];rfl
     rw[<-G,Q t e];exact O _ (mem_getD ())
    ·rw[U i () y];exact#[cH,by simp,λc m=>by simp at m]
  ·exists cU.mp hu,t,e,rfl;have S:ws[t]=ws.getD t []:=by rw[az,aq e];rfl
   rw[S];by_cases z:t<few.9
   ·rw[<-Q t z];exact h _ (mem_getD (by rw[jz];have:=o (few.getD t 0) (mem_getD z);omega))
   ·rw[show t=few.9 by omega,<-I];exact h _ (mem_getD (by rw[jz];omega))
  ·have h6:=h5 c m n;rw[IG,IF nd o]at h6;rw[oH,<-h6];congr 1
   ·refine b7 λx hx=>?_;rw[az (l:=Vy++[q]),cE hx,<-az,cT];congr 1;by_cases y:x∈few
    ·exists cU.mp y,t,e,rfl;have G:few.getD t 0=few[t]:=by rw[az,aq e];rfl
     rw[Iq few _ nd (by simp) t e (⇑e),ck,jc,<-Q t e,G]
    ·rw[U x hx y,uQ _ _ _ y];rfl
   ·rw[I,az (l:=Vy++[q]),cQ (aA _),gB];rfl
end
def RH {K:ao}(w B KM:Nat)(St:au->ay->Int->Prop)(Vq:au->ac->Prop)(Rl:au->ac->ac->Prop):Sp:=λvs H Q _=>∃(A:Addr)(us:am)(qs:au),vs=[.ref A]/\SqL K H A (us.map Z')/\VL K H us qs/\(∀q,qs[0]?=Zz q->q.9=w)/\qs≠[]/\(∀(i:Nat)(q:ac)(cs:ay)(pl:Int),qs[i]?=Zz q->St (qs.take i) cs pl->Vq (qs.take i) q)/\
 (∀(H':Hp)(i:Nat)(q:ac)(D:Addr)(bs:am)(ws:ac)(cs:ay)(pl:Int),qs[i]?=Zz q->St (qs.take i) cs pl->Rl (qs.take i) q ws->Same H H'->H D=Zy->H' D=Zz (.lst (bs.map Z'))->LH H' bs ws->(∀b∈bs,H b=Zy)->D∉bs->Q (.ref D) H')/\
 (∀(H':Hp)(cs:ay)(pl:Int),St qs cs pl->Same H H'->Q .non H')
theorem RI {P:Program}{wd:World}{K:ao}{mg:bH}{base:Heap}(T:Tx K mg){w B C:Nat}{St:au->ay->Int->Prop}{Vq:au->ac->Prop}{Rl:au->ac->ac->Prop}(Z:SpTh w B C St Vq Rl):FnOk P wd K mg base CX0 (2*(C+2)+10) T.UT.ax T.UT.dx ["vectors"] (RH (K:=K) w B C St Vq Rl):=by
 have F:=HZ (P:=P) (wd:=wd) (base:=base) T Z (C+2);refine T.UT.Fx.ok uv (λr H Q E h=>?_) (λv0 A outer s H r Q E hr h=>?_)
 ·exists h,A,R,d,rfl,_;rfl
 exists h,A,R,d,rfl,S,hL,hw,ne,x0,q1,q2;refine#[_,s!"̨ʍʧ̩ˁĶȼŹź0ŻɐżŽɥɏ#ʅɇ̬̭ɗ+ĶȼɿĶȼoɈpĳ0̰Ĵˬ/ɯâɓ̏ɓʒ`",?_]
 have lu:=hL.len;have b3:=Z.b3;have l0:0<d.9:=dw.mpr ne
 w_up
 refine#[_,.inl S,?_];rw[if_neg (by rw[af];omega)]
 w_up
 have G:R[0]?=Zz R[0]:=aq ();have I:d[0]?=Zz d[0]:=aq l0;exists hL.get 0 _ _ G I,y0,a1,a2;have ew:(y0.map Z').9=w:=by rw[af,a2.len,hw _ I]
 refine#[_,S,_,f8 (j:=0) (by rw[aI,G];rfl),_,rfl,_,.inl a1,?_];rw[ew];refine HY λx dx Kp Cl Tb M H1 s1 m1 S1=>?_
 w_up
 obtain⟨U,f⟩:∃U:Nat->L2.St->Hp->Prop,∀i σ J,U i σ J↔∃(r:am)(g:List (Key×V))(M:am)(m:ay)(pl:Int)(r2 r3:Option V),σ=[Zz (Z' A),Zz (Z' x),r2,r3]/\Spn T J x dx Kp Cl Tb r g M w (d.take i) m pl/\St (d.take i) m pl/\(∀a∈M,H a=Zy)/\g.9<=i*(2*B+2)/\Same H J:=#[_,λ_ _ _=>Iff.rfl]
 refine#[#[_,s1.seq S],jQ (xs:=R.map Z') U ((f _ _ _).mpr #[[],[],M,[],97,Zy,Zy,rfl,S1,Z.st0,m1,aU _,s1]) (λi σ J _ z=>by exists (f i σ J).mp z,_,_,_,_,_,_,_,_,_,_,_,_,z;exact z.seq S) ?_ ?_]
 ·intro i v σ H2 hv hp;exists (f _ _ _).mp hp,r,g,M,m,pl,r2,r3,rfl,S2,p,X,l2,k;rw[aI]at hv;exists de.mp hv,u,hu,rfl;have hi:i<d.9:=by have:=(aZ.mp hu).1;omega
  have Y:d[i]?=Zz d[i]:=aq hi;exists hL.get i u _ hu Y,as,w1,w2;have vq:=x0 i _ m pl Y p;have iK:=(Z.bd _ _ _ _ p vq).1;rw[bV]at iK;have et:d.take (i+1)=d.take i++[d[i]]:=by rw[cY,Y];rfl
  have lb:i*(2*B+2)+(2*B+2)<=900:=by
   have:(i+1)*(2*B+2)<=(C+2)*(2*B+2):=eh _ ();rw[gy,fU]at this;omega
  w_left;k_units
  refine#[dx,_,S2.hx,rfl,x,dx,Kp,Cl,Tb,u,r,g,M,_,m,pl,as,d[i],rfl,S2,k.seq w1,w2.same k,p,vq,by rw[bV];omega,(),λO z0 n M3 c u0 S3 t3 kx ms mf l3=>?_,λO n M3 D bs ws S3 hR kx ms mf l3 j0 nD eD lD nb Db=>?_]
  ·show if ¬V.non=V.non then _ else U (i+1) _ O
   rw[if_neg (λz=>z rfl)];have s3:Same H O:=λy o e=>kx y o (λz=>by rw[X y z]at e;cases e) (k y o e);refine (f _ _ _).mpr #[z0,n,M3,_,u0,_,_,rfl,#v[et,S3],#v[et,t3],λa ha=>?_,by rw[gy,fU];omega,s3];rcases mf a ha with h|h
   ·exact X a h
   ·exact k.free h
  ·show if ¬Z' D=V.non then Q (Z' D) O else _
   rw[if_pos (λz=>nomatch z)];exact q1 O i _ D bs ws m pl Y p hR (λy o e=>kx y o (λz=>by rw[X y z]at e;cases e) (k y o e)) (k.free nD) eD lD (λb hb=>k.free (nb b hb).2) Db
 intro σ H2 hp;exists (f _ _ _).mp hp,r,g,M,m,pl,r2,r3,rfl,S2,p,X,l2,k;rw[af,gS ()]at p
 w_left;k_units
 exact q2 H2 m pl p k
def RJ (K:ao):Sp:=λvs H Q _=>∃(a:Addr)(xs:aa)(b:Int)(k l:Nat),vs=[.ref a,.int b]/\SqL K H a (xs.map V')/\xs.9<=64/\(∀x∈xs,Bd k x)/\Bd l b/\k+l*5000<=60000000/\eI H Q ((aO (eJ b xs)).map V')
theorem BX:FnOk P w K mg base CX0 2 T.Ug.ax T.Ug.dx ["poly","by"] (RJ K):=by
 refine T.Ug.Fx.ok ul (λvs H Q E h=>?_) (λy0 A outer s H vs Q E hr h=>?_)
 ·exists h,a,f,b,k,l,rfl,_;rfl
 exists h,a,f,b,k,l,rfl,hS,hl,hk,Y,hf,q;refine#[_,s!"ɰķȼ̆ʄʹʋ˄ʌ˅ķ˔ɞòɻʋ˄%ʋɓ̉˰9ķ˔ëɉɘìɦɈʶʵɘɇí²˓îɐïðñˬ",?_]
 w_up
 refine#[_,.inl hS,λL hL=>?_]
 w_up
 refine#[_,.inl (Zw ak),by rw[af];omega,by rw[af];omega,?_];have Z:(((f.map V').9:Nat):Int)-1=(f.9:Int)-1:=by rw[af]
 have e1:((f.9:Int)-1).toNat=f.9-1:=()
 rw[Z,e1];clear Z e1;obtain⟨O,n⟩:∃O:Nat->L2.St->Hp->Prop,∀i σ g,O i σ g↔∃R I pre d,σ=[Zz (Z' a),Zz (V' b),Zz (Z' L),R,I]/\g=upd H L (.lst ((pre++d).map V'))/\pre.9=i/\pre.9+d.9=f.9/\
  eJ b f=pre++ik b d.9 d/\∀y∈pre++d,Bd (k+(l+1)*(i*64)) y:=#[_,λ_ _ _=>Iff.rfl]
 refine iC O ((n _ _ _).mpr #[Zy,Zy,[],f,rfl,rfl,rfl,by simp,rfl,λy hy=>(hk y hy).mono ()]) ?_ ?_
 ·intro low σ g x0 x;exists (n _ _ _).mp x,R,I,pre,d,rfl,rfl,u,v,o,C;have el:(0:Int)+(low:Int)=(low:Int):=i8 _
  w_left;simp![el]
  clear el;obtain⟨m,J⟩:∃m,d.9=m+1:=#[d.9-1,()]
  have hy:((pre++d).map V').9=f.9:=by rw[af,b8];exact v
  refine#[_,.inl (Zw ak),(),(),?_];rw[hy];clear hy;refine#[tj () () () (),m,tm (),?_];obtain⟨S,p⟩:∃S:Nat->L2.St->Hp->Prop,∀t σ g,S t σ g↔∃r,σ=[Zz (Z' a),Zz (V' b),Zz (Z' L),Zz (V' (low:Int)),r]/\g=upd H L (.lst ((pre++fI b d (m-t)).map V'))/\
   ∀y∈pre++fI b d (m-t),Bd (k+(l+1)*(low*64+t)) y:=#[_,λ_ _ _=>Iff.rfl]
  have hz:d≠[]:=by intro z;rw[z]at J;simp at J
  refine oi S ((p _ _ _).mpr #[I,rfl,?_,?_]) ?_ ?_
  ·rw[show m-0=d.9-1 by omega,Gj b d hz]
  ·rw[show m-0=d.9-1 by omega,Gj b d hz];exact C
  ·intro t σ g ht x;exists (p _ _ _).mp x,r,rfl,rfl,e;obtain⟨j,hj⟩:∃j,m-t=j+1:=#[m-t-1,()]
   have ej:m-(t+1)=j:=()
   have ep:(f.9:Int)-2+(t:Int) * -1=((low+j:Nat):Int):=()
   have F:(f.9:Int)-2+(t:Int) * -1+1=((low+j+1:Nat):Int):=()
   rw[hj]at e ⊢;have G:j<d.9:=()
   have g0:(pre++fI b d (j+1))[low+j]?=Zz d[j]:=by
    rw[cQ (),show low+j-pre.9=j by omega];exact OE b d j G
   have g1:(pre++fI b d (j+1))[low+j+1]?=Zz (hd (cu b (d.drop (j+1)))):=by
    rw[cQ (),show low+j+1-pre.9=j+1 by omega];exact OF b d j ()
   have gs:(pre++fI b d (j+1)).set (low+j) (d[j]+b*hd (cu b (d.drop (j+1))))=pre++fI b d j:=by
    rw[Tq _ _ (),show low+j-pre.9=j by omega,OG b d j G]
   have b0:=e _ (b4 g0);have b1:=e _ (b4 g1)
   w_left;simp![ep,F]
   clear ep F;have z0:(l+1)*(low*64+t)<=l*4097+4097:=by have:=d_ (l+1) (by omega:low*64+t<=4097);omega
   refine#[_,Zw ak,_,oj g0,_,Zw ak,_,oj g1,_,rfl,Y.fits b1 (),_,rfl,_,ak,low+j,jR (by rw[af,b8,OC];omega),(p _ _ _).mpr #[_,rfl,?_,?_]]
   ·rw[Mq,map_set,gs,ej]
   ·rw[ej,<-gs];intro y hy;have U:(l+1)*(low*64+(t+1))=(l+1)*(low*64+t)+(l+1):=by rw[<-Nat.add_assoc,jF]
    rcases TN hy with z|z
    ·exact (e y z).mono ()
    ·rw[z];exact ((b0.mono (by omega:k+(l+1)*(low*64+t)<=l+(k+(l+1)*(low*64+t)))).add (Y.mul b1)).mono ()
  ·intro σ g x;exists (p _ _ _).mp x,r,rfl,rfl,e;rw[gB,OD]at e ⊢;exists OH b m d J,M,s2,s3;rw[J,M]at o;refine (n _ _ _).mpr #[_,_,pre++[hd (cu b d)],(cu b d).tail,rfl,?_,by rw[b8,u];rfl,by rw[b8,s3,mV];omega,by rw[o,s3,pB];rfl,?_]
   ·rw[pB,TU,<-s2]
   ·rw[pB,TU,<-s2];have U:(l+1)*((low+1)*64)=(l+1)*(low*64+64):=by congr 1;omega
    have:=d_ (l+1) (by omega:low*64+m<=low*64+64);exact λy hy=>(e y hy).mono ()
 ·intro σ g x;exists (n _ _ _).mp x,R,I,pre,d,rfl,rfl,u,v,o,C;have X:pre++d=eJ b f:=by
   rw[o];by_cases h0:f.9=0
   ·have:d.9=0:=()
    rw[bD this];rfl
   ·have h1:d.9=1:=()
    exists CK.mp h1,c,rfl;rw[show [c].9=1 from rfl,OI]
  rw[X]
  w_left;k_units
  refine#[_,_,rfl,Zw ak,by rw[AR];omega,λr g hs hn he=>?_];have M:=aB hL (.lst ((eJ b f).map V'));exact q r g (M.trans hs) (M.free hn) he
theorem IU {b:Int}{k l:Nat}(f:Bd l b):∀a:aa,(∀x∈a,Bd k x)->∀y∈cu b a,Bd (k+(l+1)*a.9) y
 | [],_,_,h=>nomatch h
 | c :: r,hx,y,hy=>by
  have g:=IU f r λx d=>hx x (dC _ d);have i:Bd k c:=hx c dU;have e:(l+1)*(c :: r).9=(l+1)*r.9+(l+1):=by rw[cP,jF]
  have j:Bd (k+(l+1)*r.9) (hd (cu b r)):=by
   cases q:cu b r with
   | nil=>exact Bd.zero _
   | cons x s=>exact g x #v[q,dU]
  rcases bN.mp hy with rfl|hy
  ·exact ((i.mono (by omega:k<=l+(k+(l+1)*r.9))).add (f.mul j)).mono ()
  ·exact (g y hy).mono ()
theorem IV {b:Int}{l:Nat}(d:Bd l b):∀(n:Nat)(k:Nat)(a:aa),a.9<=64->(∀x∈a,Bd k x)->∀y∈ik b n a,Bd (k+(l+1)*(64*n)) y
 | 0,_,_,_,_,_,h=>nomatch h
 | n+1,k,a,hl,hx,y,hy=>by
  have g:=IU d a hx;have j:=d_ (l+1) hl;have f:∀x∈cu b a,Bd (k+(l+1)*64) x:=λx c=>(g x c).mono ();have e:(l+1)*(64*(n+1))=(l+1)*(64*n)+(l+1)*64:=by rw[jF,CD]
  rcases bN.mp hy with rfl|hy
  ·have i:Bd (k+(l+1)*64) (hd (cu b a)):=by
    cases q:cu b a with
    | nil=>exact Bd.zero _
    | cons x s=>exact f x #v[q,dU]
   exact i.mono ()
  ·exact (IV d n (k+(l+1)*64) (cu b a).tail (by rw[Lf,kP];omega) (λx c=>f x (List.mem_of_mem_tail c)) y hy).mono ()
theorem IW {b:Int}{k l:Nat}{xs:aa}(a:Bd l b)(c:xs.9<=64)(hx:∀x∈xs,Bd k x):∀y∈eJ b xs,Bd (k+(l+1)*(64*xs.9)) y:=IV a xs.9 k xs c hx
def ve (ps:ac):Prop:=ps≠[]/\(∀p,ps.getLast?=Zz p->p≠[])/\∀p∈ps,Nml p
def RK (K:ao):Sp:=λvs H Q _=>∃(R:Addr)(as:am)(ps:ac),vs=[.ref R]/\SqL K H R (as.map Z')/\LL K H as ps/\ps.9<=1000/\
 ((ve ps/\Q (.int ((ps.9:Int)-1)) H)\/(¬ve ps/\False))
theorem o9:FnOk P w K mg base CX0 1 T.T_.ax T.T_.dx ["rule"] (RK K):=by
 refine T.T_.Fx.ok GS (λX H Q E h=>?_) (λY A outer s H X Q E hr h=>?_)
 ·exists h,R,as,y,rfl,_;rfl
 exists h,R,as,y,rfl,k,j,hl,q;refine#[_,s!"ˮʓʍɑ³ʓɏ#˞$ɑøG̭ɗ,Ǳ˔ʕ̄˃˧ʓɊɈ̯øʒʃʍ%",?_]
 k_units
 refine#[_,.inl k,?_];rw[af];have G:¬ve y->False:=λh=>(q.resolve_left λz=>h z.1).2;refine bU (λh=>?_) (λh=>?_)
 ·exact (G λz=>z.1 (bD (by rw[<-j.len];omega))).elim
 have m:y≠[]:=by intro z;have:=j.len;rw[z]at this;simp at this;rw[this]at h;simp at h
 exists j.lastAt m,a,p,Z,e2,S,hp;refine#[_,k,_,Z,?_]
 k_units
 refine#[_,.inl hp,?_];rw[af];refine bU (λI=>(G λz=>z.2.1 p S (bD ())).elim) (λI=>#[#[_,k],?_]);have J:p≠[]:=by intro z;rw[z]at I;simp at I
 obtain⟨C,c⟩:∃C:Nat->L2.St->Hp->Prop,∀i σ f,C i σ f↔∃r:Option V,σ=[Zz (Z' R),r]/\f=H/\∀x∈y.take i,Nml x:=#[_,λ_ _ _=>Iff.rfl]
 refine jQ (xs:=as.map Z') C ((c _ _ _).mpr #[_,rfl,rfl,by simp]) (λi σ f _ z=>by exists (c i σ f).mp z,_,_,rfl,_;exact k) ?_ ?_
 ·intro i v σ f hv g;exists (c _ _ _).mp g,r,rfl,rfl,F;exists j.nth hv,a',n,rfl,ha,o,U;have u:Nml n->C (i+1) [Zz (Z' R),Zz (Z' a')] f:=λh=>(c _ _ _).mpr ⟨_,rfl,rfl,λx hx=>by
   rw[cY,o]at hx;rcases a8.mp hx with z|z
   ·exact F x z
   ·rw[show x=n by simpa using z];exact h⟩
  k_units
  refine#[_,.inl U,?_];rw[af];refine bU (λM=>?_) (λM=>u (by rw[bD (show n.9=0 by omega)];exact cH));have d:n≠[]:=by intro z;rw[z]at M;simp at M
  refine#[_,U,_,jS d,?_]
  k_units
  refine bU (λO=>(G λz=>eK.mp (z.2.2 n (b4 o)) _ (mW d) O).elim) (λO=>u (eK.mpr λx hx=>?_));rw[mW d]at hx;rw[<-Zv hx];exact O
 ·intro σ f g;exists (c _ _ _).mp g,r,rfl,rfl,F;rw[af,j.len,fy]at F
  k_units
  refine#[_,.inl k,?_];rw[af,j.len];exact (q.resolve_right λz=>z.1 #[m,λp2 e=>by rw[S]at e;cases e;exact J,F]).2
theorem fT (n:Int)(xs ys:aa):val n (aN xs ys)=val n xs*val n ys:=by
 rw[<-dH];refine f9 (λk=>?_) n;unfold aN;rw[cN,iT,gJ,Bm]
 split
 ·rfl
 ·rw[tY xs ys k ()]
theorem ir (xs ys:aa):Nml (aN xs ys):=cG _
theorem IX (xs ys:aa):Nml (jq xs ys):=cG _
theorem BY (xs ys:aa)(k:Nat):co (jq xs ys) k=co xs k-co ys k:=by
 unfold jq;rw[cN,iT]
 split
 ·rfl
 ·rw[aF (xs:=xs) (),aF (xs:=ys) ()];rfl
theorem iH (xs ys:aa)(k:Nat):co (aN xs ys) k=pm (co xs) (co ys) k:=by
 rw[<-gJ];exact fJ (λn=>by rw[fT,dH]) k
theorem RM (n:Int)(ys:aa):val n (ys.map λy=>-1*y)=- val n ys:=by rw[be];omega
theorem RN (n:Int)(xs ys:aa):val n (jq xs ys)=val n xs-val n ys:=by
 have e:val n (jq xs ys)=val n (bY xs (ys.map λy=>-1*y)):=f9 (λk=>by
  rw[BY,fX];have:co (ys.map λy=>-1*y) k=-1*co ys k:=by
   by_cases h:k<ys.9
   ·rw[aP #v[af,h],aP h,ck]
   ·rw[aF (by rw[af];omega),aF (xs:=ys) ()];simp
  rw[this];omega) n
 rw[e,fo,RM];omega
def pvL (ps:ac)(i:Nat)(n:Int):Int:=val n (ps.getD i [])
def kh (ps:ac):Prop:=ve ps/\ps.9<=3/\∀p∈ps,p.9<=3/\∀x∈p,Bd 60 x
def mO (us:ac)(m:Nat):Prop:=∀u∈us,Nml u/\u.9<=2*m+1/\∀x∈u,Bd (2400*m+1) x
theorem LH.cons {H:Hp}{as:am}{ps:ac}{a:Addr}{p:aa}(h:LH H as ps)(e:H a=Zz (.lst (p.map V'))):LH H (a :: as) (p :: ps):=by
 refine#[by simp[h.len],λi b r c d=>?_]
 cases i with
 | zero=>simp at c d;rw[<-c,<-d];exact e
 | succ i=>exact h.get i b r (⇑c) (⇑d)
theorem LH.init {H:Hp}{as:am}{ps:ac}(h:LH H as ps):LH H as.dropLast ps.dropLast:=by
 refine#[by simp[h.len],λi b r a c=>?_];rw[TW]at a c
 split at a
 ·rw[if_pos (by rw[<-h.len];assumption)]at c;exact h.get i b r a c
 ·cases a
theorem RO {us:ac}(g:aa->aa){i:Nat}(h:i<us.9):(us.map g).getD i []=g (us.getD i []):=by
 rw[az,az,aI,aq h];rfl
theorem getD_mem {us:ac}{i:Nat}(h:i<us.9):us.getD i []∈us:=by
 rw[az,aq h];exact b_ h
theorem getD_some {us:ac}{i:Nat}{p:aa}(h:us[i]?=Zz p):us.getD i []=p:=by rw[az,h];rfl
def mvL (us:ac):ac:=us.map λu=>aO (eJ 1 u)
def ahL (us:ac):ac:=[] :: (mvL us).dropLast
def fuL (ps us:ac)(i:Nat):aa:=jq (aN (ps.getD us.9 []) ((ahL us).getD i [])) (aN ((mvL us).getD (us.9-1) []) (ps.getD i []))
theorem IY (n:Int)(xs:aa):val n (aO xs)=val n xs:=f9 (λk=>cN xs k) n
theorem IZ {us:ac}{i:Nat}(h:i<us.9)(n:Int):val n ((mvL us).getD i [])=pvL us i (n+1):=by
 unfold mvL pvL;rw[RO _ h,IY,AQ]
theorem RP {us:ac}{i:Nat}(h:i<us.9)(n:Int):val n ((ahL us).getD i [])=if i=0 then 0 else pvL us (i-1) (n+1):=by
 unfold ahL
 cases i with
 | zero=>simp[val]
 | succ i=>
  rw[if_neg ()];have e:(([]:aa) :: (mvL us).dropLast).getD (i+1) []=(mvL us).getD i []:=by
   rw[List.getD_cons_succ,az,TW,if_pos (by unfold mvL;rw[af];omega),<-az]
  rw[e,IZ ()];rfl
theorem RQ {ps us:ac}{i:Nat}(h:i<us.9)(n:Int):val n (fuL ps us i)=f_ us.9 (pvL ps) (pvL us) i n:=by
 unfold fuL f_;rw[RN,fT,fT,RP h,IZ ()];rfl
theorem BZ {us:ac}{m:Nat}(h:mO us m)(e:m<=4):∀u∈mvL us,Nml u/\u.9<=2*m+1/\∀x∈u,Bd (2400*m+1+2200) x:=λu a=>by
 exists bC.mp a,y,hy,rfl;exists h y hy,f,c,d;refine#[cG _,aQ (ow _) #v[AR,c],dg λk=>?_];rw[cN];refine dy (P:=λx=>Bd (2400*m+1+2200) x) (λx hx=>(IW (l:=1) (Bd.one ()) () d x hx).mono ?_) (Bd.zero _) k;have:64*y.9<=1024:=()
 omega
theorem I0 {us:ac}{m:Nat}(h:mO us m)(c:m<=4):∀u∈ahL us,Nml u/\u.9<=2*m+1/\∀x∈u,Bd (2400*m+1+2200) x:=λu a=>by
 rcases bN.mp a with rfl|a
 ·exact#[cH,by simp,by simp]
 ·exact BZ h c u (List.dropLast_subset _ a)
theorem RS {ps us:ac}{m i:Nat}(a:kh ps)(u:us.9+1=ps.9)(h:mO us m)(d:m<=4)(hi:i<us.9):Nml (fuL ps us i)/\(fuL ps us i).9<=2*m+3/\∀x∈fuL ps us i,Bd (2400*(m+1)+1) x:=by
 obtain⟨g,v,j⟩:=I0 h d ((ahL us).getD i []) (getD_mem (by unfold ahL mvL;simp;omega));obtain⟨b1,b2,b3⟩:=BZ h d ((mvL us).getD (us.9-1) []) (getD_mem (by unfold mvL;rw[af];omega));have e:=getD_mem (us:=ps) (i:=us.9) ();have f:=getD_mem (us:=ps) (i:=i) ();have n:=a.2.2 _ e;have o:=a.2.2 _ f;have n1:=a.1.2.2 _ e;have p:=a.1.2.2 _ f;have y:=kY n1 g (ir _ _) (iH (ps.getD us.9 []) ((ahL us).getD i []));have l2:=kY b1 p (ir _ _) (iH ((mvL us).getD (us.9-1) []) (ps.getD i []));refine#[IX _ _,g_ (IX _ _) λk hk=>?_,dg λk=>?_]
 ·rw[BY,aF (xs:=aN (ps.getD us.9 []) _) (),aF (xs:=aN _ (ps.getD i [])) ()];rfl
 ·unfold fuL;rw[BY,iH,iH];have r:=jZ (c:=2) n.2 j () k;have s:=jZ (c:=4) b3 o.2 () k;exact ((r.mono (l:=2400*m+1+2200+64) ()).sub (s.mono ())).mono ()
theorem RT (xs:am)(h:0<xs.9):fG (xs.map Z') Zy (Zz (-1))=xs.dropLast.map Z':=by
 unfold fG;have e:HT.sIx (xs.map Z').9 (xs.map Z').9 (Zz (-1))=xs.9-1:=by
  show (if (-1:Int)<0 then ((-1:Int)+((xs.map Z').9:Int)).toNat else min (-1:Int).toNat (xs.map Z').9)=_;rw[if_pos (),af];omega
 rw[e,HT.sIx_none,mZ,Lm,List.dropLast_eq_take,K_]
def RU (K:ao):Sp:=λvs H Q _=>∃(R Ta:Addr)(as ts:am)(ps us:ac)(m:Nat),vs=[.ref R,.ref Ta]/\SqL K H R (as.map Z')/\LL K H as ps/\SqL K H Ta (ts.map Z')/\LL K H ts us/\kh ps/\us.9+1=ps.9/\us≠[]/\mO us m/\m<=4/\
 ∀(D:Addr)(ds:am) H',Same H H'->H D=Zy->H' D=Zz (.lst (ds.map Z'))->LH H' ds ((aM us.9).map (fuL ps us))->D∉ds->Q (.ref D) H'
theorem RV:FnOk P w K mg base CX0 4 T.UP.ax T.UP.dx ["rule","tops"] (RU K):=by
 refine T.UP.Fx.ok uu (λvs H Q E h=>?_) (λm3 A outer s H vs Q E hr h=>?_)
 ·exists h,R,Ta,as,ts,Z,f,m,rfl,_;rfl
 exists h,R,Ta,as,ts,Z,f,m,rfl,hR,hL,hT,hU,rk,hl,u0,tk,m7,q;have l3:=rk.2.1;refine#[_,s!"˘+ɤʙɈʉĸɐĹĺĻɩɭļɢɿļɛ°I#ɺ$̛ɉÕÖɜ%ʑļʇʶɼɅƁ̞ɪɸÙ(ǲɬÙ9ǳɬÚ˖ʖʄʉǴɐǵǶǷ˱ˉɥ̤ɉɼʄʢˉɄ4ɹ$",?_]
 w_up
 refine#[#[_,hT],λM hM=>?_];obtain⟨Pc,n⟩:∃Pc:cB,∀j g,Pc j g↔∃d:am,g M=Zz (.lst (d.map Z'))/\LH g d (mvL (f.take j))/\M∉d/\Same H g:=#[_,λ_ _=>Iff.rfl]
 refine ff (xs:=ts.map Z') Pc ((n _ _).mpr #[[],ak,LH.nil _,by simp,aB hM _]) (λi g _ z=>by exists (n i g).mp z,_,_,_,_,z4;exact z4.seq hT) ?_ ?_
 ·intro j v g hv F;exists (n _ _).mp F,d,G,u,k3,k4;exists hU.nth hv,a',p',rfl,ha,I,hA;have hj:j<f.9:=(aZ.mp I).1;have lk:=u.len;unfold mvL at lk;rw[af,bV]at lk;obtain⟨t1,t2,t3⟩:=tk p' (b4 I)
  w_left;simp![bst]
  refine#[a',p',1,2400*m+1,1,rfl,k4.seq hA,(),t3,Bd.one (),(),λl Hy J nl el=>?_];have k0:l≠M:=λz=>by rw[z,G]at nl;cases nl
  have m1:M∉d++[l]:=λz=>by
   rcases a8.mp z with z|z
   ·exact k3 z
   ·exact k0 (bj.mp z).symm
  refine#[_,J _ _ G,#v[af,bO ()],(n _ _).mpr #[d++[l],by rw[ak];simp,?_,m1,(k4.trans J).more hM]];have e:mvL (f.take (j+1))=mvL (f.take j)++[aO (eJ 1 p')]:=by unfold mvL;rw[cY,I];simp
  rw[e];exact ((u.same J).snoc el).upd m1
 intro G1 F;exists (n _ _).mp F,d,eM,lm,x4,s1;rw[af,hU.len,fy]at lm;have n0:d.9=f.9:=by rw[lm.len];unfold mvL;rw[af]
 have lu:0<f.9:=dw.mpr u0
 w_up
 refine#[aU _,λz nz=>#[(),λp1 n1=>?_]];have w1:=aB nz (.lst []);have w2:=aB n1 (.lst [Z' z]);have ez:=w2 _ _ (ak (H:=G1) (a:=z) (o:=.lst []));have C:fG (d.map Z') Zy (Zz (-1))=d.dropLast.map Z':=RT _ #v[n0,lu];refine#[_,Zw (w2 _ _ (w1 _ _ eM)),λp2 n2=>?_];rw[C];have w3:=aB n2 (.lst (d.dropLast.map Z'));refine#[_,w3 _ _ ak,_,ak,dz (bO (by simp;omega)),λAa n3=>?_];have ea:[Z' z]++d.dropLast.map Z'=(z :: d.dropLast).map Z':=rfl;rw[ea];have w4:=aB n3 (.lst ((z :: d.dropLast).map Z'));have wA:=w1.trans (w2.trans (w3.trans w4));have gA:upd (upd (upd (upd G1 z (.lst [])) p1 (.lst [Z' z])) p2 (.lst (d.dropLast.map Z'))) Aa (.lst ((z :: d.dropLast).map Z')) Aa=_:=ak;have gz:=w4 _ _ (w3 _ _ ez);generalize upd (upd (upd (upd G1 z (.lst [])) p1 (.lst [Z' z])) p2 (.lst (d.dropLast.map Z'))) Aa (.lst ((z :: d.dropLast).map Z'))=G2 at wA gA gz ⊢;have x0:=lm.same wA;have x1:=wA _ _ eM;have O:=s1.trans wA;have y1:LH G2 (z :: d.dropLast) (ahL f):=x0.init.cons (p:=[]) gz;have z1:mvL f≠[]:=λe=>by have:=congrArg kl e;unfold mvL at this;rw[af]at this;simp at this;exact u0 this
 exists (x0.ll (K:=K)).lastAt z1,W,wg,j1,_,gW,hW;have g1:wg=(mvL f).getD (f.9-1) []:=by
  have e:(mvL f).9=f.9:=by unfold mvL;rw[af]
  rw[gi,e]at gW;exact (getD_some gW).symm
 exists hL.lastAt rk.1.1,La,lst,x2,_,gL,y2;have z2:lst=Z.getD f.9 []:=by
  rw[gi,show Z.9-1=f.9 by omega]at gL;exact (getD_some gL).symm
 clear w1 w2 w3 w4 ez C ea nz n1 n2 n3
 w_up
 refine#[_,Zw x1,_,j1,?_]
 w_left;k_units
 refine#[_,Zw gA,_,O.seq hR,λD nD=>?_];have S:=BZ tk m7 wg (me gW);have y0:=rk.2.2 lst (me gL);obtain⟨Pz,r⟩:∃Pz:cB,∀j g,Pz j g↔∃ds:am,g D=Zz (.lst (ds.map Z'))/\LH g ds ((aM j).map (fuL Z f))/\D∉ds/\Same G2 g:=#[_,λ_ _=>Iff.rfl]
 refine tG (xs:=(z :: d.dropLast).map Z') (ys:=as.map Z') Pz ((r _ _).mpr #[[],ak,LH.nil _,by simp,aB nD _]) (λi g _ _ y=>by exists (r i g).mp y,_,_,_,_,z4;exact#[Zw (z4 _ _ gA),(O.trans z4).seq hR]) ?_ ?_
 ·intro j v1 v2 pt g j2 g2 hc m2;exists (r _ _).mp hc,ds,G,u,k3,k4;exists (y1.ll (K:=K)).nth j2,b1,q1,rfl,y4,U,x3;exists hL.nth g2,b2,q2,rfl,v4,X,y3;have lk:=u.len;rw[af,gC]at lk;have hj:j<f.9:=by
   have:=(aZ.mp U).1;unfold ahL mvL at this;simp at this;omega
  have u1:=aB m2 (.tup [Z' b1,Z' b2]);have u2:=k4.trans u1;have Y:=I0 tk m7 q1 (b4 U);have z0:=rk.2.2 q2 (b4 X)
  w_left;simp![fm,eG]
  refine#[_,(O.trans u2).seq hR,_,x2,?_];refine#[La,b1,lst,q1,rfl,(O.trans u2).seq y2,u2.seq x3,(),(),λx hx=>(y0.2 x hx).mono (),λx hx=>(Y.2.2 x hx).mono (),λX1 j4 J g4 z3=>?_];have u3:=u2.trans J;refine#[W,b2,wg,q2,rfl,u3.seq hW,(O.trans u3).seq y3,(),(),λx hx=>(S.2.2 x hx).mono (),λx hx=>(z0.2 x hx).mono (),λX2 m4 s6 n4 v3=>?_];have l1:(aN lst q1).9<=100:=aQ (kY (rk.1.2.2 lst (me gL)) Y.1 (ir _ _) (iH _ _)) ();have l2:(aN wg q2).9<=100:=aQ (kY S.1 (rk.1.2.2 q2 (b4 X)) (ir _ _) (iH _ _)) ();have c1:∀x∈aN lst q1,Bd 60000 x:=dg λk=>by rw[iH];exact (jZ (c:=2) y0.2 Y.2.2 () k).mono ()
  have c2:∀x∈aN wg q2,Bd 60000 x:=dg λk=>by rw[iH];exact (jZ (c:=4) S.2.2 z0.2 () k).mono ()
  refine#[X1,X2,_,_,rfl,Zw (s6 _ _ z3),Zw v3,l1,l2,c1,c2,λX3 x5 s7 v0 j3=>?_];have u4:=u3.trans (s6.trans s7);have g3:X3≠D:=λy=>by rw[y,s6 _ _ (J _ _ (u1 _ _ G))]at v0;cases v0
  have m1:D∉ds++[X3]:=λy=>by
   rcases a8.mp y with y|y
   ·exact k3 y
   ·exact g3 (bj.mp y).symm
  have j0:=u1.trans (J.trans (s6.trans s7));refine#[_,j0 _ _ G,#v[af,bO ()],(r _ _).mpr #[ds++[X3],by rw[ak];simp,?_,m1,u4.more nD]];have e:(aM (j+1)).map (fuL Z f)=(aM j).map (fuL Z f)++[jq (aN lst q1) (aN wg q2)]:=by
   rw[fZ,aR,z2,g1,<-getD_some U,<-getD_some X];rfl
  rw[e];exact ((u.same j0).snoc j3).upd m1
 ·intro g hc;exists (r _ _).mp hc,ds,G,u,k3,k4;have em:min ((z :: d.dropLast).map Z').9 (as.map Z').9=f.9:=by
   rw[af,af,hL.len,cP,K8];omega
  rw[em]at u;exact q D ds _ (O.trans k4) (O.free nD) G u k3
noncomputable def iI (f:Int->Int) (n:Int):aL
 | 0=>1
 | m+1=>iI f n m*f (n+m)
def Crd (ps:ac)(far:Nat)(us:ac)(bot:aa):Prop:=
 (far<us.9/\us=(aM us.9).map (λi=>if i=far then [1] else [])/\bot=[1])\/
 (us.9<=far/\(∀i n,i<us.9->val n (us.getD i [])=uIt us.9 (pvL ps) (far+1-us.9) i n)/\∀n,val n bot=iI (pvL ps us.9) n (far+1-us.9))
def RW (K:ao):Sp:=λvs H Q _=>∃(R:Addr)(as:am)(ps:ac)(far:Nat),vs=[.ref R,.int far]/\SqL K H R (as.map Z')/\LL K H as ps/\kh ps/\far<=4/\
 ∀(us:ac)(bot:aa),us.9+1=ps.9->(∀u∈us,Nml u/\u.9<=2*(far+1-us.9)+1/\∀x∈u,Bd 20000 x)->Nml bot->bot.9<=11->(∀x∈bot,Bd 20000 x)->Crd ps far us bot->
  ∀(tp D B:Addr)(ts:am) H',Same H H'->H' tp=Zz (.tup [.ref D,.ref B])->H' D=Zz (.lst (ts.map Z'))->LH H' ts us->H' B=Zz (.lst (bot.map V'))->H D=Zy->H B=Zy->D∉ts->Q (.ref tp) H'
noncomputable def unL (st:Int) (r:Nat):ac:=(aM r).map λi:Nat=>if (i:Int)=st then [1] else []
theorem RX {st:Int}{r j:Nat}(h:j<r):(unL st r).getD j []=if (j:Int)=st then [1] else []:=by
 unfold unL;rw[az,aI,iy h];rfl
theorem I_:FnOk P w K mg base CX0 5 T.Uu.ax T.Uu.dx ["rule","far"] (RW K):=by
 refine T.Uu.Fx.ok jW (λvs H Q E h=>?_) (λu2 A outer s H vs Q E hr h=>?_)
 ·exists h,R,as,g,a,rfl,_;rfl
 exists h,R,as,g,a,rfl,hR,hL,Y,f6,q;have l3:=Y.2.1;have v2:0<g.9:=dw.mpr Y.1.1;obtain⟨r,j2⟩:∃r:Nat,g.9=r+1:=#[g.9-1,()]
 refine#[_,s!"ɰÇɧãɐ̳ːɿÇʇ:Ĥ̦Ⱥ,ʋɉʌ˘9̠4Ǹ̡ʏKĝʓ˗Ɇ̇ɺÇɢˆÇȼ̇ʹʈʃɈɉ˰CÇȼ˿iɉɑɲ9ÇɧǹɐǺǻǼɩʩ$Gɲ@ÇɧˉɄ@ʢĸɐĹĺĻɥ˞ˎʎqʩ̕",?_]
 w_up
 refine#[R,as,g,rfl,hR,hL,(),.inl #[Y.1,?_]];have er:(g.9:Int)-1=(r:Int):=()
 rw[er]
 w_up
 w_up
 refine#[(),(),λX0 G=>?_];rw[i5];obtain⟨st,I⟩:∃st:Int,(if (r:Int)-1<(a:Int) then (r:Int)-1 else (a:Int))=st:=#[_,rfl]
 rw[I];obtain⟨Pc,J⟩:∃Pc:cB,∀j p,Pc j p↔∃f:am,p X0=Zz (.lst (f.map Z'))/\LH p f (unL st j)/\X0∉f/\Same H p:=#[_,λ_ _=>Iff.rfl]
 refine sO Pc ((J _ _).mpr #[[],ak,LH.nil _,by simp,aB G _]) ?_ ?_
 ·intro j p hj y0;exists (J _ _).mp y0,f,k1,k2,k3,k4;have lk:=k2.len;unfold unL at lk;rw[af,gC]at lk;have e0:(0:Int)+(j:Int)=(j:Int):=i8 _;have u0:∀(zs:aa)(F:Addr),(if (j:Int)=st then [1] else [])=zs->p F=Zy->∃ys,upd p F (.lst (zs.map V')) X0=Zz (.lst ys)/\ys.9<sizeLine/\Pc (j+1) (upd (upd p F (.lst (zs.map V'))) X0 (.lst (ys++[Z' F]))):=λzs F hz v=>by
   have Z:=aB v (.lst (zs.map V'));have j0:F≠X0:=λy=>by rw[y,k1]at v;cases v
   have m1:X0∉f++[F]:=λy=>by
    rcases a8.mp y with y|y
    ·exact k3 y
    ·exact j0 (bj.mp y).symm
   refine#[_,Z _ _ k1,#v[af,bO ()],(J _ _).mpr #[f++[F],by rw[ak];simp,?_,m1,(k4.trans Z).more G]];have e:unL st (j+1)=unL st j++[zs]:=by unfold unL;rw[fZ,aR,<-hz];rfl
   rw[e];exact ((k2.same Z).snoc ak).upd m1
  w_left;simp![bst,eG,e0]
  exact bU (λh=>#[(),λF v=>u0 [1] F (if_pos h) v]) (λh=>#[aU _,λF v=>u0 [] F (if_neg h) v])
 intro G1 y0;obtain⟨f,eX,lt,C,s1⟩:=(J _ _).mp y0
 w_up
 refine#[(),λB0 nB=>?_]
 w_up
 refine#[(),(),?_];have w1:=aB nB (.lst [V' 1]);obtain⟨N,hN⟩:∃N:Nat,((a:Int)-(r:Int)+1).toNat=N:=#[_,rfl]
 have k0:N=a+1-r:=()
 rw[hN];exists hL.lastAt Y.1.1,La,lst,n0,_,gL,x1;have y1:lst=g.getD r []:=by
  rw[gi,show g.9-1=r by omega]at gL;exact (getD_some gL).symm
 have z0:=Y.2.2 lst (me gL);have g2:=Y.1.2.2 lst (me gL);obtain⟨Pv,O⟩:∃Pv:Nat->L2.St->Hp->Prop,∀i σ p,Pv i σ p↔∃(X B:Addr)(f:am)(d:ac)(o:aa)(r6:Option V),σ=[Zz (Z' R),Zz (V' a),Zz (V' r),Zz (V' st),Zz (Z' X),Zz (Z' B),r6]/\p X=Zz (.lst (f.map Z'))/\LH p f d/\X∉f/\H X=Zy/\d.9=r/\mO d i/\(a<r->d=unL st r)/\
  (r<=a->∀j n,j<r->val n (d.getD j [])=uIt r (pvL g) i j n)/\p B=Zz (.lst (o.map V'))/\H B=Zy/\Nml o/\o.9<=1+2*i/\(∀x∈o,Bd (1000*i+1) x)/\(∀n,val n o=iI (pvL g r) n i)/\Same H p:=#[_,λ_ _ _=>Iff.rfl]
 refine iC Pv ((O _ _ _).mpr #[X0,B0,f,unL st r,[1],Zy,rfl,w1 _ _ eX,lt.same w1,C,G,by unfold unL;simp,λu U=>?_,λ_=>rfl,λhf j n hj=>?_,ak,s1.free nB,oP [],by simp,by simp[Bd.one],λn=>by simp[val,iI],s1.trans w1]) ?_ ?_
 ·obtain⟨i,_,rfl⟩:=bC.mp U
  split
  ·exact#[oP [],by simp,by simp[Bd.one]]
  ·exact#[cH,by simp,by simp]
 ·rw[RX hj];have x0:st=(r:Int)-1:=by rw[<-I,if_pos ()]
  show _=if j+1=r then (1:Int) else 0
  by_cases z:j+1=r
  ·rw[if_pos (),if_pos z];simp[val]
  ·rw[if_neg (),if_neg z];simp[val]
 ·intro i σ p hi hp;exists (O _ _ _).mp hp,X,B,f,d,o,r6,rfl,eX,lt,C,G,lu,tk,un,vl,eB,nB,nb,lb,bb,vb,sP;have v0:r<=a:=()
  clear I hN er un;obtain⟨M,hM⟩:∃M:L2.St->Hp->Prop,∀σ Hy,M σ Hy↔∃(X:Addr)(f:am)(d:ac),σ=[Zz (Z' R),Zz (V' a),Zz (V' r),Zz (V' st),Zz (Z' X),Zz (Z' B),Zz (V' (0+(i:Int)))]/\Hy X=Zz (.lst (f.map Z'))/\LH Hy f d/\X∉f/\H X=Zy/\d.9=r/\mO d (i+1)/\
   (∀j n,j<r->val n (d.getD j [])=uIt r (pvL g) (i+1) j n)/\Same p Hy:=#[_,λ_ _=>Iff.rfl]
  w_left;refine gq M ?_ ?_
  ·w_left;k_units
   refine bU (λh=>?_) (λh=>?_)
   ·refine#[R,X,as,f,g,d,i,rfl,sP.seq hR,hL.same sP,Zw eX,lt.ll,Y,(),λz=>by rw[z]at lu;simp at lu;omega,tk,(),λD ds Hy sy nD eD lD z1=>(hM _ _).mpr #[D,ds,_,rfl,eD,lD,z1,sP.free nD,by simp[lu],λu U=>?_,λj n hj=>?_,sy]]
    ·exists bC.mp U,j,hj,rfl;exact RS Y () tk () (dj.mp hj)
    ·have e:((aM d.9).map (fuL g d)).getD j []=fuL g d j:=by
      rw[az,aI,iy ()];rfl
     rw[e,RQ (),lu];show f_ r (pvL g) (pvL d) j n=f_ r (pvL g) (uIt r (pvL g) i) j n;unfold f_;have v1:pvL d (r-1) (n+1)=uIt r (pvL g) i (r-1) (n+1):=vl v0 (r-1) (n+1) ();rw[v1];by_cases z:j=0
     ·rw[if_pos z,if_pos z]
     ·rw[if_neg z,if_neg z,show pvL d (j-1) (n+1)=uIt r (pvL g) i (j-1) (n+1) from vl v0 (j-1) (n+1) ()]
   ·have r0:r=0:=()
    have j1:d=[]:=bD ();exact (hM _ _).mpr #[X,f,d,rfl,eX,lt,C,G,lu,by rw[j1];intro u U;simp at U,λj n hj=>by omega,Same.refl _]
  intro σ Hy hm;exists (hM _ _).mp hm,X,f,d,rfl,eX,lt,C,G,lu,tk,vl,sy;have s2:=sP.trans sy;have e0:(0:Int)+(i:Int)=(i:Int):=i8 _
  w_left;simp![e0]
  refine#[_,s2.seq hR,_,n0,?_];refine#[La,lst,(i:Int),60,3,rfl,s2.seq x1,(),z0.2,Bd.of_lt (m:=8) () (),(),λS Hz sz nS eS=>?_];have bs:∀x∈aO (eJ (i:Int) lst),Bd 900 x:=dg λk=>by
   rw[cN];exact dy (P:=λx=>Bd 900 x) (λx hx=>(IW (l:=3) (Bd.of_lt (m:=8) () ()) () z0.2 x hx).mono ()) (Bd.zero _) k
  have ls:(aO (eJ (i:Int) lst)).9<=3:=aQ (ow _) #v[AR,z0.1];refine#[B,S,o,_,rfl,Zw (sz _ _ (sy _ _ eB)),Zw eS,(),(),λx hx=>(bb x hx).mono (),λx hx=>(bs x hx).mono (),λB2 Hw sw g1 x2=>?_];have s3:=sz.trans sw;have l1:=kY nb (cG (eJ (i:Int) lst)) (ir _ _) (iH _ _);refine (O _ _ _).mpr #[X,B2,f,d,_,_,rfl,s3 _ _ eX,lt.same s3,C,G,lu,tk,λz=>by omega,λ_=>vl,x2,(s2.trans sz).free g1,ir _ _,(),dg λk=>?_,λn=>?_,s2.trans s3]
  ·rw[iH];exact (jZ (c:=4) bb bs () k).mono ()
  ·rw[fT,IY,AQ,vb n,y1];rfl
 ·intro σ p hp;exists (O _ _ _).mp hp,X,B,f,d,o,r6,rfl,eX,lt,C,G,lu,tk,un,vl,eB,nB,nb,lb,bb,vb,sP;clear hN er
  w_left;k_units
  refine#[(),λtp y2=>?_];have Z:=aB y2 (.tup [Z' X,Z' B]);refine q d o () (λu U=>?_) nb () (λx hx=>(bb x hx).mono ()) ?_ tp X B f _ (sP.trans Z) ak (Z _ _ eX) (lt.same Z) (Z _ _ eB) G nB C
  ·exists tk u U,t1,t2,t3;have N7:d≠[]:=λz=>by rw[z]at U;simp at U
   have:0<d.9:=dw.mpr N7;exact#[t1,(),λx hx=>(t3 x hx).mono ()]
  ·by_cases z:a<r
   ·refine .inl ?_;refine#[(),?_,?_]
    ·have z2:(unL st r).9=r:=by unfold unL;simp
     rw[un z,z2];have x0:st=(a:Int):=by rw[<-I,if_neg ()]
     unfold unL;rw[x0];refine fB λi _=>?_;by_cases y:i=a
     ·rw[if_pos (),if_pos y]
     ·rw[if_neg (),if_neg y]
    ·have N0:N=0:=()
     refine jp nb (oP []) λk=>fJ (λn=>?_) k;rw[vb n,N0];simp[iI,val]
   ·refine .inr ?_;rw[lu,<-k0];exact#[(),λi n hi=>vl () i n hi,vb]
def clr (m:Int)(xs:aa):Bool:=decide (hd (eJ m xs)≠0/\∀y∈eJ m xs,0<=y*hd (eJ m xs))
theorem B3 (m:Int)(xs:aa):clr m xs=true↔oD (eJ m xs):=by unfold clr oD;exact decide_eq_true_iff
theorem Ja (ys:aa):hd ys=co ys 0:=by cases ys <;> rfl
theorem Jb {ys:aa}{y:Int}(h:y∈ys):y∈aO ys\/y=0:=by
 exists cU.mp h,k,hk,rfl;rw[<-aP hk,<-cN];by_cases z:k<(aO ys).9
 ·rw[aP z];exact .inl (b_ z)
 ·exact .inr (aF ())
theorem Jc {ys:aa}{y:Int}(h:y∈aO ys):y∈ys:=by
 unfold aO at h;exact lZ.mp ((List.dropWhile_sublist _).subset (lZ.mp h))
theorem RY {m:Int}{xs:aa}(a:co (aO (eJ m xs)) 0≠0):clr m xs=true↔(∀y∈aO (eJ m xs),0<=y)\/(∀y∈aO (eJ m xs),y<=0):=by
 rw[cN,<-Ja]at a;rw[B3,OX a];constructor
 ·rintro (h|h)
  ·exact .inl λy hy=>h y (Jc hy)
  ·exact .inr λy hy=>h y (Jc hy)
 ·rintro (h|h)
  ·refine .inl λy hy=>(Jb hy).elim (h y) λz=>by omega
  ·refine .inr λy hy=>(Jb hy).elim (h y) λz=>by omega
theorem Jd {m:Int}{xs:aa}(h:co (eJ m xs) 0=0):clr m xs=false:=by
 rw[<-Ja]at h;refine Bool.eq_false_iff.mpr λz=>((B3 m xs).mp z).1 h
def RZ (K:ao):Sp:=λvs H Q _=>∃(a:Addr)(xs:aa)(m:Int)(k l:Nat),vs=[.ref a,.int m]/\SqL K H a (xs.map V')/\xs.9<=64/\(∀x∈xs,Bd k x)/\Bd l m/\k+l*5000<=60000000/\∀H',Same H H'->Q (.bl (clr m xs)) H'
theorem R6:FnOk P w K mg base CX0 3 T.UO.ax T.UO.dx ["poly","m"] (RZ K):=by
 refine T.UO.Fx.ok GR (λC H Q E h=>?_) (λF A outer s H C Q E G h=>?_)
 ·exists h,a,xs,m,k,l,rfl,_;rfl
 exists h,a,xs,m,k,l,rfl,I,J,hk,O,S,q;refine#[_,s!"ɰǽɧĸɁŰ ĹĺĻ˵ˮʓ˄ɑ³ʓʶɇʧ¤ʒǾÈŦ:Ŕ̦ʏɑƂÈǿ:ī̢ʏɑ",?_]
 k_units
 refine#[a,xs,m,k,l,rfl,I,J,hk,O,S,λR Y U Z g=>?_];refine#[R,rfl,_,.inl (Zw g),?_];have q:=q _ U;obtain⟨f,c⟩:∃f,aO (eJ m xs)=f:=#[_,rfl]
 rw[c]at g ⊢;rw[af];refine bU (λh=>?_) (λh=>?_)
 ·have X:f=[]:=bD ();have z:clr m xs=false:=Jd (by rw[<-cN,c,X];rfl);rw[z]at q;exact q
 have d:0<f.9:=()
 have j:f≠[]:=dw.mp d;refine#[R,rfl,_,Zw g,_,(show atI (f.map V') 0=Zz (V' f[0]) from iD d),?_]
 k_units
 refine bU (λo=>?_) (λo=>?_)
 ·have z:clr m xs=false:=Jd #v[<-cN,c,aP d,o];rw[z]at q;exact q
 have ct:=RY (m:=m) (xs:=xs) #v[c,aP d,o];rw[c]at ct;refine#[_,Zw g,j,λM p r=>bU (λu=>?_) (λu=>#[_,Zw g,j,λM2 v x=>?_])]
 ·rw[ct.mpr (.inl λy hy=>Int.le_trans u (r y hy))]at q;exact q
 ·have e:decide (M2<=0)=clr m xs:=by
   rw[Bool.eq_iff_iff,ct,decide_eq_true_iff];constructor
   ·intro n;exact .inr λy hy=>Int.le_trans (x y hy) n
   ·rintro (n|n)
    ·exact absurd (n M p) u
    ·exact n M2 v
  rw[e];exact q
theorem R7 {K:ao}{a:Addr}{as:am}{ns:aa}{n:List (Nat×Str)}{o:TE}{Q:VK}{σ:L2.St}{e:Hp}{D:Addr}(h:e D=Zy)(y:SqL K e a (as.map Z'))(hd:ns.9=as.9)(F:ns.9<=900)(hs:∀(i:Nat)(q:Addr)(v:Int)(c:Hp)(R:VK),as[i]?=Zz q->ns[i]?=Zz v->Same e c->(∀p,Same c p->R (.int v) p)->o (bst n σ (Zz (Z' q))) c R)(C:eI e Q (ns.map V')):jP (Itl K a) n o Q σ e D:=by
 obtain⟨k,d⟩:∃k:cB,∀j c,k j c↔c D=Zz (.lst ((ns.take j).map V'))/\Same e c:=#[_,λ_ _=>Iff.rfl]
 refine ff (xs:=as.map Z') k ((d _ _).mpr #[ak,aB h _]) (λi c _ z=>by exists (d i c).mp z,_,z;exact z.seq y) ?_ ?_
 ·intro j v c r m;exists (d _ _).mp m,f,g;rw[aI]at r;exists de.mp r,q,s,rfl;have u:j<ns.9:=by have:=(aZ.mp s).1;omega
  refine hs j q _ c _ s (aq u) g λG x=>?_;refine#[_,x _ _ f,#v[af,bV,bO ()],(d _ _).mpr #[?_,(g.trans x).more h]];rw[ak,<-TX u,aR];rfl
 intro c m;exists (d _ _).mp m,f,g;rw[af,<-hd,fy]at f;exact C D c g h f
def R8 (K:ao):Sp:=λvs H Q _=>∃(R:Addr)(as:am)(ps:ac)(m:Nat),vs=[.int (m:Int),.ref R]/\SqL K H R (as.map Z')/\LL K H as ps/\ps≠[]/\ps.9<=900/\(∀p∈ps,p.9<=1000)/\m<=5/\(∀p∈ps,m*m*p.9<=32)/\∀H',Same H H'->Q .non H'
theorem R9:FnOk P w K mg base CX0 2 T.UU.ax T.UU.dx ["width","polys"] (R8 K):=by
 refine T.UU.Fx.ok PL (λx H Q E h=>?_) (λy A outer s H x Q E Z h=>?_)
 ·exists h,R,as,g,m,rfl,_;rfl
 exists h,R,as,g,m,rfl,j,n,z,C,G,m5,I,q;refine#[_,s!"/ɯiɦɦȿȿ:ī̢̈˭:Ŋɶɍʄ$̟Ȁ ȁɠɆøG",?_]
 w_up
 have a:Bd 3 (m:Int):=Bd.of_lt (m:=8) () ();refine#[a.fits a (),#[_,j],λD J=>?_];refine R7 (as:=as) (ns:=g.map λp=>(p.9:Int)) J j (by rw[af,n.len]) #v[af,C] (λi r v Hx R' d o O f=>?_) (λF H1 S nF U=>?_)
 ·rw[aI]at o;obtain⟨p,c,rfl⟩:=de.mp o
  w_left;simp![bst]
  refine#[_,.inl (O.seq (n.get i r p d c)),?_];rw[af];exact f _ (Same.refl _)
 refine#[F,rfl,_,Zw U,by simp[z],λM X u=>?_];exists bC.mp X,p,c,rfl;have Y:=I p c;have e:(m:Int)*(m:Int)*(p.9:Int)<=32:=by
  have:((m*m*p.9:Nat):Int)<=32:=()
  rw[fW,fW]at this;exact this
 refine#[(a.mul a).fits (Bd.of_lt (k:=10) (m:=1001) (by have:=G p c;omega) ()) (),?_];rw[if_neg ()];exact q _ S
theorem R_ {K:ao}{a:Addr}{xs:aa}{g:Int->Int}{p:List (Nat×Str)}{r:TE}{Q:VK}{σ:L2.St}{e:Hp}{D:Addr}(k:e D=Zy)(s:SqL K e a (xs.map V'))(C:xs.9<=900)(hs:∀x∈xs,∀d R,Same e d->R (.int (g x)) d->r (bst p σ (Zz (V' x))) d R)(u:eI e Q ((xs.map g).map V')):jP (Itl K a) p r Q σ e D:=by
 obtain⟨m,c⟩:∃m:cB,∀i f,m i f↔f D=Zz (.lst (((xs.take i).map g).map V'))/\Same e f:=#[_,λ_ _=>Iff.rfl]
 refine ff (xs:=xs.map V') m ((c _ _).mpr #[by rw[ak];rfl,aB k _]) (λi d _ z=>((c i d).mp z).2.seq s) ?_ ?_
 ·intro i v d n o;exists (c _ _).mp o,h,j;have hi:i<xs.9:=by have:=(aZ.mp n).1;rw[af]at this;exact this
  rw[aI,aq hi]at n;obtain rfl:V' xs[i]=v:=Zv n;have y:xs.take (i+1)=xs.take i++[xs[i]]:=by rw[cY,aq hi];rfl
  refine hs _ (b_ hi) d _ j #[_,h,bO (by simp;omega),(c _ _).mpr #[?_,j.more k]];rw[ak,y,aR,aR];rfl
 intro f o;exists (c _ _).mp o,h,j;rw[af,fy]at h;exact u D f j k h
def gg (R l:aa):aa:=
 let s:=if clr 0 R=true then R else [((ai R:Nat):Int)]
 if l≠[]/\co l (l.9-1)<0 then s.map (λx=>-x) else s
def Sa (K:ao):Sp:=λvs H Q _=>∃(a:Addr)(as:am)(rows ds:ac)(l R:aa)(f:Nat->aa),vs=[.ref a]/\SqL K H a (as.map Z')/\LL K H as rows/\rows.getLast?=Zz l/\rows.9<=60/\(∀r∈rows,Nml r/\r.9<=20/\∀x∈r,Bd 5000 x)/\
 f 0=[]/\(∀i r,rows[i]?=Zz r->gu (f i) r (f (i+1)))/\(∀i,(f i).9<=1000)/\f rows.9=R/\R≠[]/\Nml R/\R.9<=20/\(∀x∈R,Bd 5000 x)/\
 ds.9=rows.9/\(∀(i:Nat) r d,rows[i]?=Zz r->ds[i]?=Zz d->Nml d/\Div r (gg R l) d)/\iZ H Q ds
theorem Sb:FnOk P w K mg base CX0 7 T.UV.ax T.UV.dx ["polys"] (Sa K):=by
 refine T.UV.Fx.ok uw (λvs H Q E h=>?_) (λn0 A outer s H vs Q E hr h=>?_)
 ·exists h,a,as,rows,ds,l,R,f,rfl,_;rfl
 exists h,a,as,rows,ds,l,R,f,rfl,v,hL,hl,lr,br,f0,fs,fl,fR,R0,nR,lR,bR,ld,hd,q;refine#[_,s!"ˁĽʇɃŲɐųŴŵːmF́ȂɐȃȄȅʯɭ̔ĽʇIʢûɐüýþ̀$Gmʕ̄ɏ#˞$˧=xɊ˞̯̔Ľʇʳ˭ɜȿʒˋ,ıʫȿʉÿɐĀāĂ˵",?_]
 w_up
 refine#[a,as,rows,f,rfl,v,hL,(),λr z0=>by have:=(br r z0).2.1;omega,fl,f0,fs,λX H1 s1 nX eX=>?_];rw[fR]at eX;have cb:Bd 5000 ((ai R:Nat):Int):=by show ((ai R:Nat):Int).8<2 ^ 5000;rw[dE];exact uH (eo 5000) R bR
 have cp:=hE nR R0;obtain⟨j,c⟩:∃j,j=if clr 0 R=true then R else [((ai R:Nat):Int)]:=#[_,rfl]
 have n:j≠[]:=by rw[c];split;exact R0;simp
 have C:Nml j:=by rw[c];split;exact nR;exact fK ()
 have G:j.9<=20:=by rw[c];split;exact lR;simp
 have I:∀x∈j,Bd 5000 x:=by
  rw[c];split
  ·exact bR
  ·intro x hx;rw[bj.mp hx];exact cb
 obtain⟨M,k⟩:∃M:L2.St->Hp->Prop,∀σ m,M σ m↔∃Y:Addr,σ=[Zz (Z' a),Zz (Z' Y)]/\m Y=Zz (.lst (j.map V'))/\Same H m:=#[_,λ_ _=>Iff.rfl]
 w_left;refine gq M ?_ ?_
 ·w_left;k_units
  refine#[X,R,0,5000,1,rfl,Zw eX,(),bR,Bd.zero _,(),λH2 s2=>?_];refine#[_,rfl,bU (λh=>?_) (λh=>?_)]
  ·refine#[X,R,rfl,Zw (s2 _ _ eX),λx hx=>cI (bR x hx) (fu () ()),λHc sc=>#[(),λp np=>(k _ _).mpr #[p,rfl,?_,s1.trans (s2.trans (sc.trans (aB np _)))]]];rw[ak,c,if_neg (by rw[h];decide)];rfl
  ·have hc:clr 0 R=true:=by simpa using h
   exact (k _ _).mpr #[X,rfl,#v[c,if_pos hc,s2 _ _ eX],s1.trans s2]
 intro σ H3 J;exists (k _ _).mp J,Y,rfl,eY,O;clear J k M;have u0:rows≠[]:=λz=>by rw[z]at hl;simp at hl
 obtain⟨S,hS⟩:∃S,gg R l=S:=#[_,rfl]
 have e:S=if l≠[]/\co l (l.9-1)<0 then j.map (λx=>-x) else j:=by rw[<-hS,c];rfl
 have en:j.map (λx:Int=>-x)=j.map λx=>(-1)*x:=by congr 1;funext x;omega
 have lS:S.9<=20:=by rw[e];split;rw[af];exact G;exact G
 have S1:S≠[]:=by rw[e];split;simpa using n;exact n
 have nS:Nml S:=by
  rw[e];split
  ·rw[en];exact oO (.inr #v[af,eQ,dO () (dG C n)])
  ·exact C
 have bS:∀x∈S,Bd 5000 x:=by
  rw[e];split
  ·intro x hx;exists bC.mp hx,y,hy,rfl;exact (I y hy).neg
  ·exact I
 rw[hS]at hd;obtain⟨M,k⟩:∃M:L2.St->Hp->Prop,∀σ m,M σ m↔∃Y:Addr,σ=[Zz (Z' a),Zz (Z' Y)]/\m Y=Zz (.lst (S.map V'))/\Same H m:=#[_,λ_ _=>Iff.rfl]
 w_left;refine gq M ?_ ?_
 ·w_left;k_units
  exists (hL.same O).lastAt u0,b,p,U,_,x0,y0;obtain rfl:p=l:=by rw[hl]at x0;exact (Zv x0).symm
  have no:¬(p≠[]/\co p (p.9-1)<0)->M [Zz (Z' a),Zz (Z' Y)] H3:=λh=>(k _ _).mpr #[Y,rfl,#v[e,if_neg h,eY],O];refine#[_,O.seq v,_,U,b,rfl,_,.inl y0,?_];rw[af];refine bU (λh=>?_) (λh=>no λz=>by have:=dw.mpr z.1;omega);have o:p≠[]:=by intro z;rw[z]at h;simp at h
  have ec:co p (p.9-1)=p.getLast o:=by rw[aP (),CC]
  refine#[_,O.seq v,_,U,b,rfl,_,y0,_,jS o,_,rfl,bU (λh0=>#[#[_,Zw eY],λD nD=>?_]) (λh0=>no λz=>h0 #v[<-ec,z.2])];refine R_ (g:=λx=>-x) nD (Zw eY) () (λx hx m R' sx hR=>?_) λF H5 s5 nF eF=>(k _ _).mpr #[F,rfl,?_,O.trans s5]
  ·w_left;simp![bst,eG];exact hR
  ·rw[eF,e,if_pos #[o,#v[ec,h0]]]
 intro σ H4 J;exists (k _ _).mp J,Z,rfl,eZ,u;clear J k M
 w_left;k_units
 refine#[#[_,u.seq v],λD nD=>li nD (u.seq v) (hL.same u) ld () (λi b p d m R' hp v0 sx hB hR=>?_) λD' bs H' s' j0 eD lh fr k0 nd=>q D' bs H' (u.trans s') (u.free j0) eD lh (λx hx=>u.free (fr x hx)) k0 nd]
 w_left;simp![bst,eG]
 exists hd i p d hp v0,d1,d2;have bp:=br p (b4 hp);exact#[b,Z,p,S,5000,5000,rfl,hB,Zw (sx _ _ eZ),(),(),bp.1,nS,bp.2.2,bS,(),(),.inr #[S1,.inl #[d,d1,d2,hR]]]
theorem Sc {K:ao}{a b:Addr}{as bs:am}{ps rs ds:ac}{X:List (Nat×Str)}{Y:TE}{Q:VK}{σ:L2.St}{h:Hp}{D:Addr}(v:h D=Zy)(hA:SqL K h a (as.map Z'))(Z:LL K h as ps)(hB:SqL K h b (bs.map Z'))(hM:LL K h bs rs)(hd:ds.9=ps.9)(hr:ps.9<=rs.9)(hl:ps.9<=900)(hs:∀(i:Nat)(x y:Addr)(p r d:aa)(c:Hp)(R:VK),ps[i]?=Zz p->rs[i]?=Zz r->ds[i]?=Zz d->Same h c->SqL K c x (p.map V')->SqL K c y (r.map V')->eI c R (d.map V')->Y (fm X σ (Zz (Z' x)) (Zz (Z' y))) c R)(he:iZ h Q ds):om K (Itz K a b) X Y Q σ h D:=by
 obtain⟨C,f⟩:∃C:cB,∀j c,C j c↔∃g:am,c D=Zz (.lst (g.map Z'))/\LH c g (ds.take j)/\D∉g/\g.Nodup/\(∀b∈g,h b=Zy)/\Same h c:=#[_,λ_ _=>Iff.rfl]
 refine tG (xs:=as.map Z') (ys:=bs.map Z') C ((f _ _).mpr #[[],ak,LH.nil _,by simp,l_,by simp,aB v _]) (λi c _ _ z=>by exists (f i c).mp z,_,_,_,_,_,_,z;exact#[z.seq hA,z.seq hB]) ?_ ?_
 ·intro j v1 v2 pt c h1 h2 G H;exists (f _ _).mp G,g,s,m,I,J,M,n;exists Z.nth h1,x,p,rfl,_,hp,hX;exists hM.nth h2,y,r,rfl,_,O,hY;have hj:j<ps.9:=(aZ.mp hp).1;have o:ds[j]?=Zz ds[j]:=aq ();have u:=aB H (.tup [Z' x,Z' y]);have P:=n.trans u;refine hs j x y p r _ _ _ hp O o P (P.seq hX) (P.seq hY) λF H2 s2 nF eF=>?_;have S:=u.trans s2;have lk:=m.len;rw[bV]at lk;have k:=u.free nF;have T:F≠D:=λz=>by rw[z,s]at k;cases k
  have U:F∉g:=m.notin k;have m1:D∉g++[F]:=λz=>by
   rcases a8.mp z with z|z
   ·exact I z
   ·exact T (bj.mp z).symm
  refine#[_,S _ _ s,#v[af,bO ()],(f _ _).mpr #[g++[F],by rw[ak];simp,?_,m1,?_,?_,(n.trans S).more v]]
  ·have e:ds.take (j+1)=ds.take j++[ds[j]]:=by rw[cY,o];rfl
   rw[e];exact ((m.same S).snoc eF).upd m1
  ·exact jE.mpr #[J,by simp,λx hx y hy z=>U (by rw[bj.mp hy]at z;rw[<-z];exact hx)]
  ·intro x hx;rcases a8.mp hx with z|z
   ·exact M x z
   ·rw[bj.mp z];exact n.free k
 ·intro H' G;exists (f _ _).mp G,g,s,m,I,J,M,n;have e1:=Z.len;have e2:=hM.len;rw[af,af,gS ()]at m;exact he D g H' n v s m M I J
def Sd {K:ao}(w B KM:Nat)(St:au->ay->Int->Prop)(Vq:au->ac->Prop)(Rl:au->ac->ac->Prop):Sp:=λvs H Q _=>∃(A Wa:Addr)(us wa:am)(qs:au)(wts:ac),vs=[.ref A,.ref Wa]/\SqL K H A (us.map Z')/\VL K H us qs/\(∀q,qs[0]?=Zz q->q.9=w)/\qs≠[]/\(∀(i:Nat)(q:ac)(cs:ay)(pl:Int),qs[i]?=Zz q->St (qs.take i) cs pl->Vq (qs.take i) q)/\
 SqL K H Wa (wa.map Z')/\LL K H wa wts/\wts.9=qs.9/\qs.9<=6/\(∀p∈wts,p.9<=12/\Nml p/\∀x∈p,Bd 3000 x)/\(∀cs pl,¬St qs cs pl)/\
 ∀(i:Nat)(q:ac)(ws:ac)(cs:ay)(pl:Int),qs[i]?=Zz q->St (qs.take i) cs pl->Rl (qs.take i) q ws->ws.9=i+1/\(∀p∈ws,p.9<=20/\Nml p/\∀x∈p,Bd 4480 x)/\∃(ds:ac)(l R:aa)(f:Nat->aa),(dX aN ws wts).getLast?=Zz l/\(∀r∈dX aN ws wts,Nml r/\r.9<=20/\∀x∈r,Bd 5000 x)/\
  f 0=[]/\(∀i r,(dX aN ws wts)[i]?=Zz r->gu (f i) r (f (i+1)))/\(∀i,(f i).9<=1000)/\f (dX aN ws wts).9=R/\R≠[]/\Nml R/\R.9<=20/\(∀x∈R,Bd 5000 x)/\ds.9=(dX aN ws wts).9/\(∀(i:Nat) r d,(dX aN ws wts)[i]?=Zz r->ds[i]?=Zz d->Nml d/\Div r (gg R l) d)/\iZ H Q ds
theorem Se {P:Program}{wd:World}{K:ao}{mg:bH}{base:Heap}(T:Tx K mg){w B n:Nat}{St:au->ay->Int->Prop}{Vq:au->ac->Prop}{Rl:au->ac->ac->Prop}(Z:SpTh w B n St Vq Rl):FnOk P wd K mg base CX0 (2*(n+2)+12) T.UW.ax T.UW.dx ["vectors","weights"] (Sd (K:=K) w B n St Vq Rl):=by
 have F:=RI (P:=P) (wd:=wd) (base:=base) T Z;refine T.UW.Fx.ok GT (λvs H Q E h=>?_) (λk0 A outer s H vs Q E o h=>?_)
 ·exists h,A,Wa,us,wa,qs,a,rfl,_;rfl
 exists h,A,Wa,us,wa,qs,a,rfl,hA,hL,hw,ne,u,hW,lW,lw,l6,bw,c,q;refine#[_,s!"ɰȆɧˡ˾ȇȈȉː˓Ȋ̮ȋȌȍɥƁ̞əÚ̌+ɹʉ¦̮ʸ˵$",?_]
 w_up
 refine#[A,us,qs,rfl,hA,hL,hw,ne,u,λH1 i qv D bs g v pl hq C hR m nD eD lD nb Db=>?_,λH1 v pl C _=>absurd C (c v pl)];exists q i qv g v pl hq C hR,n0,G,ds,l,R,f,t1,t2,t3,t4,t5,t6,t7,t8,t9,I,J,M,O;have hi:=(aZ.mp hq).1;refine#[D,rfl,_,Zw eD,_,m.seq hW,λD2 S=>?_];have lz:(dX aN g a).9=g.9:=by rw[ni];omega
 refine Sc (ps:=g) (rs:=a) (ds:=dX aN g a) S (Zw eD) lD.ll (m.seq hW) (lW.same m) lz () () (λj x y p r d Hx R' hp k hd sx hX hY hN=>?_) (λD3 U H3 s3 x1 X Y f3 n3 y1=>?_)
 ·w_left;simp![fm]
  have pb:=G p (b4 hp);have rb:=bw r (b4 k);rw[Lq,hp,k]at hd
  cases hd
  exact#[x,y,p,r,rfl,hX,hY,(),(),λz hz=>(pb.2.2 z hz).mono (),λz hz=>(rb.2.2 z hz).mono (),hN]
 have e:=m.trans s3;refine#[D3,U,_,ds,l,R,f,rfl,Zw X,Y.ll,t1,(),t2,t3,t4,t5,t6,t7,t8,t9,I,J,M,λD4 x0 H4 s4 y0 z0 u0 v0 n4 j0=>O D4 x0 H4 (e.trans s4) (e.free y0) z0 u0 (λb hb=>e.free (v0 b hb)) n4 j0]
theorem Sf {xs:aa}(h:xs≠[]):∃a,xs=a++[co xs (xs.9-1)]:=by
 have e:=TY h;have c:xs.9≠0:=λz=>h (bD z);refine#[xs.dropLast,?_];rw[aP (),<-CC h];exact e.symm
theorem Je {S d:aa}(a:Nml S)(nd:Nml d)(c:S≠[])(h:∀n,0=val n S*val n d):d=[]:=by
 by_cases z:d=[]
 ·exact z
 ·refine absurd (cW (cw _ _) cH λn=>?_) (gd a nd c z);rw[aK,<-h];rfl
def Jf (gs:ac)(l:aa)(ds:ac)(R:aa)(f:Nat->aa):Prop:=f 0=[]/\(∀i r,gs[i]?=Zz r->gu (f i) r (f (i+1)))/\(∀i,(f i).9<=1000)/\f gs.9=R/\R≠[]/\Nml R/\R.9<=20/\(∀x∈R,Bd 5000 x)/\ds.9=gs.9/\
  (∀(i:Nat) r d,gs[i]?=Zz r->ds[i]?=Zz d->Nml d/\Div r (gg R l) d/\(∀n,val n r=val n (gg R l)*val n d)/\d.9<=20/\∀x∈d,Bd 600 x)/\(∃p0 t0,ds.getLast?=Zz (p0++[t0])/\0<t0)/\(∀s:Nat,Prm s->(∀u∈ds,∀j,(s:Int)∣co u j)->False)/\∀n:Nat,val (n:Int) (gg R l)≠0
theorem Sg {gs Ms:ac}{l F:aa}{D b k:Nat}(nF:Nml F)(o:F≠[])(hD:D<=19)(hk:gs.9<=k)(x1:Ms.9=gs.9)(hg:∀(i:Nat)(r M:aa),gs[i]?=Zz r->Ms[i]?=Zz M->Nml r/\Nml M/\(∀n,val n M=val n F*val n r)/\M.9<=D+1/\∀z∈M,Bd b z)(big:6*(2*D+1)+(b+6*k)*D+b*D+(b+6*k)+b+(b+14*D+8)+1<=4480)(b6:b+14*D+8<=600)(hl:gs.getLast?=Zz l)(l0:l≠[]):
  ∃(ds:ac)(R:aa)(f:Nat->aa),Jf gs l ds R f:=by
 unfold Jf;exists BS nF o () hk x1 hg big gs.9 (aA _),f,f0,fl,fs,H,fz,fn;have g0:gs≠[]:=λz=>by rw[z]at hl;simp at hl
 have lg:0<gs.9:=dw.mpr g0;have Y:gs[gs.9-1]?=Zz l:=by rw[<-gi];exact hl
 have J:f gs.9≠[]:=λz=>l0 (fz z _ l () Y);exists fn J,tF,bF,us,u1,u2,u3,u4,u5;clear fn u5;have lR:=fl gs.9;have eM:∀i r,gs[i]?=Zz r->∃M,Ms[i]?=Zz M/\Nml r/\Nml M/\(∀n,val n M=val n F*val n r)/\M.9<=D+1/\(∀z∈M,Bd b z):=λi r h=>by
  have hi:=(aZ.mp h).1;have p:Ms[i]?=Zz (Ms[i]'()):=aq _;exact#[_,p,hg i r _ h p]
 exists eM _ l Y,_,_,O,_;obtain⟨R,hR⟩:∃R,f gs.9=R:=#[_,rfl]
 rw[hR]at H J tF bF u3 lR;have cp:=hE H J;obtain⟨R1,Z,P,x0⟩:=BN cp H λx hx=>gP R x hx;have c0:((ai R:Nat):Int)≠0:=()
 have y0:R1≠[]:=λz=>J (cW H cH λn=>by rw[P,z];simp[val]);have vc:∀(c n:Int),val n [c]=c:=λc n=>by simp[val]
 obtain⟨m,g⟩:∃m,m=if clr 0 R=true then R else [((ai R:Nat):Int)]:=#[_,rfl]
 obtain⟨C,y1,nC,C0,z0,z1⟩:∃C,(∀n,val n R=val n m*val n C)/\Nml C/\C≠[]/\0<co C (C.9-1)/\∀s:Nat,Prm s->(∀j,(s:Int)∣co C j)->False:=by
  by_cases z:clr 0 R=true
  ·refine#[[1],λn=>by rw[g,if_pos z,vc,vE],fK (),by simp,(),λs hs h=>?_];have v:(s:Int)∣1:=h 0;have p:s∣1:=by have:=iO.mpr v;simpa using this
   have:=Nat.dvd_one.mp p;have:=hs.1;omega
  ·have v1:R1.9=R.9:=by
    have h:=(d8 (fK c0) Z (by simp) y0).1;have e:pdL [((ai R:Nat):Int)] R1=R:=cW (cw _ _) H λn=>by rw[aK,vc,P]
    rw[e]at h;simp at h;omega
   refine#[R1,λn=>by rw[g,if_neg z,vc,P],Z,y0,?_,λs hs h=>?_]
   ·have v:=x0 (R.9-1);rw[v]at tF;rw[v1];exact CG tF ()
   ·have h3:s*ai R∣ai R:=iY _ _ λx hx=>by
     exists cU.mp hx,j,hj,rfl;exists h j,y,hy;rw[<-aP hj,x0,hy,fW];exact#[y,by grind]
    have h4:=jC cp h3;have:=hs.1;have:=eh (ai R) (show 2<=s by omega);omega
 have j1:m≠[]:=by rw[g];split;exact J;simp
 have k1:Nml m:=by rw[g];split;exact H;exact fK c0
 obtain⟨σ,v0,Q,sg⟩:∃σ:Int,(σ=1\/σ=-1)/\gg R l=m.map (λz=>σ * z)/\0 < σ * co l (l.9-1):=by
  have nl:=O;have m1:=dG nl l0;have eT:gg R l=if l≠[]/\co l (l.9-1)<0 then m.map (λx=>-x) else m:=by rw[g];rfl
  rw[eT];by_cases z:co l (l.9-1)<0
  ·refine#[-1,.inr rfl,?_,()];rw[if_pos #[l0,z]];exact fB λx _=>by omega
  ·refine#[1,.inl rfl,?_,()];rw[if_neg λh=>z h.2]
   conv=>lhs;rw[<-Ln m]
   exact fB λx _=>by show x=1*x;omega
 have S:σ≠0:=by rcases v0 with rfl|rfl <;> decide
 have I:σ * σ=1:=by rcases v0 with rfl|rfl <;> rfl
 have nT:Nml (gg R l):=by rw[Q];exact i0 S k1
 have T0:gg R l≠[]:=by rw[Q];intro z;exact j1 (lI.mp z)
 have vT:∀n,val n (gg R l)=σ * val n m:=λn=>by rw[Q,be]
 obtain⟨ds,T⟩:∃ds,ds=us.map λu=>(pdL C u).map λz=>σ * z:=#[_,rfl]
 have j0:ds.9=gs.9:=by rw[T,af,u1]
 have k0:∀(i:Nat) r d,gs[i]?=Zz r->ds[i]?=Zz d->∃u,us[i]?=Zz u/\d=(pdL C u).map (λz=>σ * z)/\Nml u/\Nml d/\∀n,val n r=val n (gg R l)*val n d:=λi r d U hd=>by
  rw[T,aI]at hd;exists de.mp hd,u,G,rfl;refine#[u,G,rfl,u2 u (b4 G),i0 S (cw _ _),λn=>?_];rw[vT,be,aK,u3 i r u U G n,y1];generalize val n m=a;generalize val n C=b;generalize val n u=c;have:σ * a*(σ * (b*c))=(σ * σ)*(a*b*c):=by grind
  rw[this,I,eE]
 refine#[ds,R,f,f0,λi r U=>fs i r (aZ.mp U).1 U,λi=>by have:=fl i;omega,hR,J,H,(),λx hx=>(bF x hx).mono (),j0,λi r d U hd=>?_,?_,λs hs h=>?_,λn=>?_]
 ·exists k0 i r d U hd,u,G,ed,nu,nd,X;exists eM i r U,M,_,nr,nM,vM,lM,bM;refine#[nd,λk=>?_,X,?_]
  ·rw[<-mF];exact fJ (λn=>by rw[aK,X]) k
  ·by_cases z:r=[]
   ·rw[Je nT nd T0 λn=>by rw[<-X,z];rfl];simp
   ·by_cases d0:d=[]
    ·rw[d0];simp
    have e:pdL (gg R l) d=r:=cW (cw _ _) nr λn=>by rw[aK,X]
    have v:=(d8 nT nd T0 d0).1;rw[e]at v;have t0:(gg R l).9≠0:=λz=>T0 (bD z);have g1:=(d8 nF nr o z).1;have n0:pdL F r=M:=cW (cw _ _) nM λn=>by rw[aK,vM]
    rw[n0]at g1;have M0:M≠[]:=by rw[<-n0];exact gd nF nr o z
    have x2:F.9≠0:=λz=>o (bD z);have ld:d.9<=D+1:=()
    exact#[(),λx hx=>(mN (e:=d) (t:=pdL F (gg R l)) nd nM M0 () lM ld bM (λn=>by rw[vM,X,aK];grind) x hx).mono ()]
 ·have hd:ds[gs.9-1]?=Zz (ds[gs.9-1]'()):=aq _;generalize ds[gs.9-1]'()=d at hd;exists k0 _ l d Y hd,u,G,ed,nu,nd,X;have u0:u≠[]:=λz=>l0 (cW O cH λn=>by rw[u3 _ l u Y G n,z];simp[val]);have p0:pdL C u≠[]:=gd nC nu C0 u0;have d0:d≠[]:=by rw[ed];intro z;exact p0 (lI.mp z)
  exists Sf d0,q0,hq;refine#[q0,_,by rw[gi,j0,hd,<-hq],?_];have e1:co d (d.9-1)=σ * (co C (C.9-1)*co u (u.9-1)):=by
   rw[ed,eQ,af,(d8 nC nu C0 u0).2]
  have e2:co l (l.9-1)=co R (R.9-1)*co u (u.9-1):=by
   have e:pdL R u=l:=cW (cw _ _) O λn=>by rw[aK,u3 _ l u Y G n]
   rw[<-(d8 H nu J u0).2,e]
  rw[e2]at sg;rw[e1];have v:σ * (co R (R.9-1)*co u (u.9-1))=co R (R.9-1)*(σ * co u (u.9-1)):=by grind
  rw[v]at sg;have p:=CG sg tF;have h3:σ * (co C (C.9-1)*co u (u.9-1))=co C (C.9-1)*(σ * co u (u.9-1)):=by grind
  rw[h3];exact vU z0 p
 ·refine u4 s hs λu G=>?_;have v:∀k,(s:Int)∣pm (co C) (co u) k:=λk=>by
   have p:=h _ #v[T,bC.mpr #[u,G,rfl]] k;rw[eQ,mF]at p;exists p,y,hy;refine#[σ * y,?_];have:pm (co C) (co u) k=σ * (σ * pm (co C) (co u) k):=by rw[<-cA,I,eE]
   rw[this,hy];grind
  rcases oE hs v with z|z
  ·exact (z1 s hs z).elim
  ·exact z
 ·rw[vT];refine dO S ?_;rw[g];by_cases z:clr 0 R=true
  ·rw[if_pos z];exact OW () ((B3 _ _).mp z)
  ·rw[if_neg z,vc];exact c0
def iJ (us:ac)(d1:aa)(ws:ac)(d2:aa):ac:=us.map (λu=>aN u d2)++ws.map λv=>aN v d1
def fN (us:ac)(_:aa)(ws:ac)(_:aa):ac:=us.flatMap λu=>ws.map λv=>aN u v
theorem LH.app {H:Hp}{as bs:am}{ps d:ac}(h:LH H as ps)(g:LH H bs d):LH H (as++bs) (ps++d):=by
 refine#[by simp[h.len,g.len],λi b r a c=>?_];by_cases z:i<as.9
 ·rw[cE z]at a;rw[cE #v[<-h.len,z]]at c;exact h.get i b r a c
 ·rw[cQ ()]at a;rw[cQ (by rw[<-h.len];omega),<-h.len]at c;exact g.get _ b r a c
structure CdH (H:Hp)(t:Addr)(us:ac)(d:aa)(D B:Addr)(as:am):Prop where
 t:H t=Zz (.tup [.ref D,.ref B])
 D:H D=Zz (.lst (as.map Z'))
 L:LH H as us
 B:H B=Zz (.lst (d.map V'))
 lu:us.9<=4
 bu:∀u∈us,u.9<=20/\∀x∈u,Bd 20000 x
 ld:d.9<=20
 bd:∀x∈d,Bd 20000 x
theorem CdH.same {H a:Hp}{t:Addr}{us:ac}{d:aa}{D B:Addr}{as:am}(h:CdH H t us d D B as)(s:Same H a):CdH a t us d D B as:=#[s _ _ h.t,s _ _ h.D,h.L.same s,s _ _ h.B,h.lu,h.bu,h.ld,h.bd]
def B4 (g:ac->aa->ac->aa->ac):Sp:=λvs H Q _=>∃(tl tr D1 B1 D2 B2:Addr)(as bs:am)(us ws:ac)(d1 d2:aa),vs=[.ref tl,.ref tr]/\CdH H tl us d1 D1 B1 as/\CdH H tr ws d2 D2 B2 bs/\iZ H Q (g us d1 ws d2)
theorem Sh:FnOk P w K mg base CX0 3 T.UE.ax T.UE.dx ["left","right"] (B4 iJ):=by
 refine T.UE.Fx.ok Be (λvs H Q E h=>?_) (λy0 A outer s H vs Q E hr h=>?_)
 ·exists h,tl,tr,D1,B1,D2,B2,as,bs,us,ws,M,O,rfl,_;rfl
 exists h,tl,tr,D1,B1,D2,B2,as,bs,us,ws,M,O,rfl,a,g,q;refine#[_,s!"˘+̠,Ȏʫɣ̂ʉˉɩ#̃$ƃɢ˘4̠(ȏʫɣʲʉˉɩ#̃$ƃɢɅ*°̝",?_]
 w_up
 have lu:=a.lu;have lw:=g.lu;refine#[_,SqT.of a.t,_,rfl,_,rfl,#[_,Zw a.D],λX R=>li R (Zw a.D) a.L.ll (ds:=us.map (λu=>aN u O)) (by simp) () (λi b p d Hx R' n hd o S U=>?_) λY yb H1 C nY eY j ny Yn nd=>?_]
 ·rw[aI,n]at hd
  cases hd
  have F:=a.bu p (b4 n)
  w_left;simp![bst,eG]
  exact#[_,SqT.of (o _ _ g.t),_,rfl,b,B2,p,O,rfl,S,Zw (o _ _ g.B),by have:=F.1;omega,by have:=g.ld;omega,λz k=>(F.2 z k).mono (),λz k=>(g.bd z k).mono (),U]
 have G:=a.same C;have c:=g.same C
 w_up
 refine#[_,SqT.of c.t,_,rfl,_,rfl,#[_,Zw c.D],λX R=>li R (Zw c.D) c.L.ll (ds:=ws.map (λv=>aN v M)) (by simp) () (λi b p d Hx R' n hd o S U=>?_) λZ zb H2 I nZ eZ m nz Zn x0=>?_]
 ·rw[aI,n]at hd
  cases hd
  have F:=g.bu p (b4 n)
  w_left;simp![bst,eG]
  exact#[_,SqT.of (o _ _ G.t),_,rfl,b,B1,p,M,rfl,S,Zw (o _ _ G.B),by have:=F.1;omega,by have:=a.ld;omega,λz k=>(F.2 z k).mono (),λz k=>(a.bd z k).mono (),U]
 w_up
 have ly:=j.len;have lz:=m.len;rw[af]at ly lz;refine#[_,I _ _ eY,_,eZ,by rw[af,af,sizeLine_eq];omega,λp J=>?_];have up:=aB J (.lst (yb.map Z'++zb.map Z'));have f:=j.same I;refine q p (yb++zb) _ (C.trans (I.trans up)) ((C.trans I).free J) (by rw[ak,aR]) ((f.app m).same up) (λb hb=>?_) (λz=>?_) (jE.mpr #[nd,x0,λx hx y hy z=>?_])
 ·rcases a8.mp hb with z|z
  ·exact ny b z
  ·exact C.free (nz b z)
 ·rcases a8.mp z with z|z
  ·exact f.notin J z
  ·exact m.notin J z
 ·exists j.mem hx,r,e;have:=nz y hy;rw[<-z,e]at this;cases this
theorem Si:FnOk P w K mg base CX0 3 T.UF.ax T.UF.dx ["left","right"] (B4 fN):=by
 refine T.UF.Fx.ok Bf (λvs H Q E h=>?_) (λu0 A outer s H vs Q E hr h=>?_)
 ·exists h,tl,tr,D1,B1,D2,B2,as,bs,g,n,J,M,rfl,_;rfl
 exists h,tl,tr,D1,B1,D2,B2,as,bs,g,n,J,M,rfl,C,c2,q;refine#[_,s!"ɰƄˇ˽ɣ̂˅Ƅʇ/ʜȐȑȒɉ#ˋ4ȓʫɣʲʉˉʯʄʎɉ",?_]
 have lu:=C.lu;have lw:=c2.lu
 w_up
 refine#[(),λX nX=>?_];have U:=aB nX (.lst []);have eX:upd H X (.lst []) X=Zz (.lst (([]:am).map Z')):=ak;generalize upd H X (.lst [])=H0 at U eX ⊢
 w_up
 refine#[_,SqT.of (U _ _ C.t),_,rfl,_,rfl,#[_,Zw (U _ _ C.D)],?_];obtain⟨Pv,f⟩:∃Pv:Nat->L2.St->Hp->Prop,∀i σ o,Pv i σ o↔∃(r3:Option V)(j:am),σ=[Zz (Z' tl),Zz (Z' tr),Zz (Z' X),r3]/\o X=Zz (.lst (j.map Z'))/\LH o j (fN (g.take i) J n M)/\j.Nodup/\X∉j/\(∀b∈j,H b=Zy)/\Same H o:=#[_,λ_ _ _=>Iff.rfl]
 refine jQ (xs:=as.map Z') Pv ((f _ _ _).mpr #[Zy,[],rfl,eX,LH.nil _,l_,by simp,by simp,U]) (λi σ o _ z=>by exists (f i σ o).mp z,_,_,_,_,_,_,_,_,z;exact z.seq (Zw C.D)) ?_ ?_
 ·intro i v σ o hv hp;exists (f _ _ _).mp hp,r3,j,rfl,a,G,F,Z,fx,I;exists (C.L.same I).ll.nth (K:=K) hv,b,p,rfl,hb,O,hB;have m:=c2.same I;have hu:=C.bu p (b4 O);have et:g.take (i+1)=g.take i++[p]:=by rw[cY,O];rfl
  w_left;k_units
  refine#[gn (Zw a),_,SqT.of m.t,_,rfl,_,rfl,#[_,Zw m.D],λY0 x0=>li x0 (Zw m.D) m.L.ll (ds:=n.map λv=>aN p v) (by simp) () (λk b' p' d Hx R' R hd sx y0 hR=>?_) λY yb H1 s1 nY eY S ny Yn z0=>?_]
  ·rw[aI,R]at hd
   cases hd
   have hw:=c2.bu p' (b4 R)
   w_left;simp![bst,eG]
   exact#[b,b',p,p',rfl,sx.seq hB,y0,by have:=hu.1;omega,by have:=hw.1;omega,λz hz=>(hu.2 z hz).mono (),λz hz=>(hw.2 z hz).mono (),hR]
  have v0:=G.len;have ly:=S.len;rw[af]at ly;have lT:(fN (g.take i) J n M).9<=16:=by
   unfold fN;rw[List.length_flatMap];have:∀xs:ac,xs.9<=4->(xs.map λu=>(n.map λv=>aN u v).9).sum<=xs.9*4:=λxs=>by
    induction xs with
    | nil=>intro _;simp
    | cons x xs ih=>
     intro h;have:=ih (by simp at h;omega);simp only[d9,iz,cP,af]at this ⊢;omega
   have h1:=this (g.take i) (by rw[bV];omega);have h2:(g.take i).9<=4:=by rw[bV];omega
   omega
  have j0:Y≠X:=λz=>by rw[z,a]at nY;cases nY
  have Xy:X∉yb:=λz=>by have:=ny X z;rw[a]at this;cases this
  refine#[Y,rfl,_,s1 _ _ a,_,eY,by rw[af,af,sizeLine_eq];omega,(f _ _ _).mpr #[_,j++yb,rfl,by rw[ak,aR],?_,jE.mpr #[F,z0,λx hx y hy z=>?_],λz=>?_,λc hc=>?_,(I.trans s1).more nX]]
  ·have e:fN (g.take (i+1)) J n M=fN (g.take i) J n M++n.map λv=>aN p v:=by unfold fN;rw[et,List.flatMap_append];simp
   rw[e];refine LH.upd ((G.same s1).app S) λz=>?_;rcases a8.mp z with z|z
   ·exact Z z
   ·exact Xy z
  ·exists G.mem hx,r,e;have:=ny y hy;rw[<-z,e]at this;cases this
  ·rcases a8.mp z with z|z
   ·exact Z z
   ·exact Xy z
  ·rcases a8.mp hc with z|z
   ·exact fx c z
   ·exact I.free (ny c z)
 ·intro σ o hp;exists (f _ _ _).mp hp,r3,j,rfl,a,G,F,Z,fx,I;rw[af,C.L.len,fy]at G
  w_left;k_units
  exact q X j _ I nX a G fx Z F
structure VH (H:Hp)(us:am)(qs:au):Prop where
 len:us.9=qs.9
 get:∀(i:Nat)(u:Addr)(q:ac),us[i]?=Zz u->qs[i]?=Zz q->∃as,H u=Zz (.lst (as.map Z'))/\LH H as q
theorem VH.same {H a:Hp}{us:am}{c:au}(h:VH H us c)(s:Same H a):VH a us c:=⟨h.len,λi u q d e=>by
 exists h.get i u q d e,as,f,g;exact#[as,s _ _ f,g.same s]⟩
theorem VH.nil (H:Hp):VH H [] []:=#[rfl,λi u q e=>by simp at e]
theorem VH.snoc {H:Hp}{us:am}{d:au}{u:Addr}{q:ac}{as:am}(h:VH H us d)(e:H u=Zz (.lst (as.map Z')))(l:LH H as q):VH H (us++[u]) (d++[q]):=by
 refine#[by simp[h.len],λi v r a c=>?_];by_cases z:i<us.9
 ·rw[cE z]at a;rw[cE #v[<-h.len,z]]at c;exact h.get i v r a c
 ·rw[cQ ()]at a;rw[cQ (by rw[<-h.len];omega),<-h.len]at c;have f:i-us.9=0:=by
   rcases Lr (i-us.9) with y|y
   ·exact y
   ·rw[iN (by simp;omega)]at a;cases a
  rw[f]at a c;simp at a c;rw[<-a,<-c];exact#[as,e,l]
theorem VH.vl {K:ao}{H:Hp}{us:am}{a:au}(h:VH H us a):VL K H us a:=⟨h.len,λi u q c d=>by
 exists h.get i u q c d,as,e,f;exact#[as,Zw e,f.ll]⟩
def B5 (w:Nat)(St:au->ay->Int->Prop)(Vq:au->ac->Prop)(Rl:au->ac->ac->Prop)(qs:au)(wts:ac)(G:ac->Prop):Prop:=
 (∀q,qs[0]?=Zz q->q.9=w)/\(∀(i:Nat)(q:ac)(cs:ay)(pl:Int),qs[i]?=Zz q->St (qs.take i) cs pl->Vq (qs.take i) q)/\(∀cs pl,¬St qs cs pl)/\(∀p∈wts,p.9<=12/\Nml p/\∀x∈p,Bd 3000 x)/\
 ∀(i:Nat)(q:ac)(ws:ac)(cs:ay)(pl:Int),qs[i]?=Zz q->St (qs.take i) cs pl->Rl (qs.take i) q ws->ws.9=i+1/\(∀p∈ws,p.9<=20/\Nml p/\∀x∈p,Bd 4480 x)/\∃(ds:ac)(l R:aa)(f:Nat->aa),(dX aN ws wts).getLast?=Zz l/\(∀r∈dX aN ws wts,Nml r/\r.9<=20/\∀x∈r,Bd 5000 x)/\
  f 0=[]/\(∀i r,(dX aN ws wts)[i]?=Zz r->gu (f i) r (f (i+1)))/\(∀i,(f i).9<=1000)/\f (dX aN ws wts).9=R/\R≠[]/\Nml R/\R.9<=20/\(∀x∈R,Bd 5000 x)/\ds.9=(dX aN ws wts).9/\(∀(i:Nat) r d,(dX aN ws wts)[i]?=Zz r->ds[i]?=Zz d->Nml d/\Div r (gg R l) d)/\G ds
abbrev VF:=ac->aa->ac->aa->ac
structure TwoV (ps1 ps2:ac)(g:VF)(j:Nat)(qs:au)(wts:ac):Prop where
 lq:qs.9=j
 lw:wts.9=j
 st:∀t,t<j->∃us1 b1 us2 b2,us1.9+1=ps1.9/\us2.9+1=ps2.9/\Crd ps1 t us1 b1/\Crd ps2 t us2 b2/\(∀u∈us1,Nml u)/\(∀u∈us2,Nml u)/\Nml b1/\Nml b2/\qs[t]?=Zz (g us1 b1 us2 b2)/\wts[t]?=Zz (aN b1 b2)
theorem TwoV.snoc {d e:ac}{g:VF}{j:Nat}{k:au}{f:ac}(h:TwoV d e g j k f){a c:ac}{b1 b2:aa}(l1:a.9+1=d.9)(l2:c.9+1=e.9)(m:Crd d j a b1)(n:Crd e j c b2)(n1:∀u∈a,Nml u)(o:∀u∈c,Nml u)(p:Nml b1)(r:Nml b2):TwoV d e g (j+1) (k++[g a b1 c b2]) (f++[aN b1 b2]):=by
 refine#[by rw[b8,h.lq];rfl,by rw[b8,h.lw];rfl,λt Q=>?_];by_cases z:t<j
 ·exists h.st t z,s,v,x,y,C,F,G,H,I,J,M,O,P,i;exact#[s,v,x,y,C,F,G,H,I,J,M,O,by rw[cE #v[h.lq,z]];exact P,by rw[cE #v[h.lw,z]];exact i]
 ·obtain rfl:t=j:=()
  exact#[a,b1,c,b2,l1,l2,m,n,n1,o,p,r,by rw[cQ #v[h.lq,aA _],h.lq,gB];rfl,by rw[cQ #v[h.lw,aA _],h.lw,gB];rfl]
def Sj (fv:Addr)(g:VF)(w:Nat)(St:au->ay->Int->Prop)(Vq:au->ac->Prop)(Rl:au->ac->ac->Prop):Sp:=λvs H Q _=>∃(R1 R2:Addr)(as1 as2:am)(ps1 ps2:ac)(wd:Nat),vs=[.ref R1,.ref R2,.int (wd:Int),.ref fv]/\H R1=Zz (.lst (as1.map Z'))/\LH H as1 ps1/\H R2=Zz (.lst (as2.map Z'))/\LH H as2 ps2/\kh ps1/\kh ps2/\wd<=4/\(∀p∈ps1++ps2,wd*wd*p.9<=32)/\
 ∀qs wts,TwoV ps1 ps2 g (wd+1) qs wts->B5 w St Vq Rl qs wts λds=>iZ H Q ds
theorem Jg {P:Program}{wd:World}{K:ao}{mg:bH}{base:Heap}(T:Tx K mg){w B KM:Nat}{St:au->ay->Int->Prop}{Vq:au->ac->Prop}{Rl:au->ac->ac->Prop}(Z:SpTh w B KM St Vq Rl){fv:Addr}{u3:FuncData}{g:VF}(Fd:FnOk P wd K mg base CX0 3 fv u3 ["left","right"] (B4 g))(kd:PySem.W.keepIn K (.ref fv)=true)(bd:Binds K u3 ["left","right"] []):FnOk P wd K mg base CX0 (2*(KM+2)+14) T.Ux.ax T.Ux.dx ["one","other","width","vector_of"] (Sj fv g w St Vq Rl):=by
 have F:=Se (P:=P) (wd:=wd) (base:=base) T Z;refine T.Ux.Fx.ok mv (λvs H Q E h=>?_) (λn8 A outer s H vs Q E hr h=>?_)
 ·exists h,R1,R2,n,v,C,I,wi,rfl,_;rfl
 exists h,R1,R2,n,v,C,I,wi,rfl,v3,g1,k3,m1,X,x2,w4,hw,q;refine#[_,s!"'cɃȔɐȕȖȗˏɒ°˗$ʑçˇˆçˇʹʈɉ˰Cçȼ˲çɧƅɐƆƇƈɩˎ̐çɧƅɐƆƇƈʯˎ˶ɘ#Ș0ș->ȚțȾ4ȺQȺd̬̪ɾʢˉɥ˝#ɣ̑ɇ$ʎɃ̰ ȜȝȞɄ9̕",?_]
 have l1:=X.2.1;have l2:=x2.2.1
 w_up
 have x9:=g1.len;have y9:=m1.len;refine#[_,v3,_,k3,by rw[af,af,sizeLine_eq];omega,λp0 g3=>?_];have u0:=aB g3 (.lst (n.map Z'++v.map Z'));have e0:Zx H p0 (.lst (n.map Z'++v.map Z')) p0=Zz (.lst ((n++v).map Z')):=by rw[ak,aR]
 have m3:∀p∈C++I,p.9<=3:=λp hp=>by
  rcases a8.mp hp with z|z
  ·exact (X.2.2 p z).1
  ·exact (x2.2.2 p z).1
 refine#[p0,n++v,C++I,wi,rfl,Zw e0,((g1.app m1).same u0).ll,λz=>X.1.1 (List.append_eq_nil_iff.mp z).1,by rw[b8];omega,λp hp=>by have:=m3 p hp;omega,(),hw,λH1 s1=>?_];have y7:=u0.trans s1;clear u0 e0 s1 g3
 w_up
 refine#[(),λc n3=>?_]
 w_up
 refine#[(),λd x=>?_];have y2:d≠c:=λz=>by rw[z,ak]at x;cases x
 have z7:H1 d=Zy:=by rw[aE y2]at x;exact x
 have w2:=aB n3 (.lst []);have w3:=aB x (.lst []);have y1:=w3 _ _ (ak (H:=H1) (a:=c) (o:=.lst []));have z1:=ak (H:=Zx H1 c (.lst [])) (a:=d) (o:=.lst []);have x4:=w2.trans w3;generalize Zx (Zx H1 c (.lst [])) d (.lst [])=H3 at y1 z1 x4 ⊢;clear w2 w3 x;obtain⟨Pv,x0⟩:∃Pv:Nat->L2.St->Hp->Prop,∀i σ Hx,Pv i σ Hx↔∃(G:Hp)(U e:am)(qs:au)(k:ac)(r6 r7 r8:Option V),σ=[Zz (Z' R1),Zz (Z' R2),Zz (V' (wi:Int)),Zz (Z' fv),Zz (Z' c),Zz (Z' d),r6,r7,r8]/\Same H G/\G c=Zy/\G d=Zy/\Same G Hx/\Hx c=Zz (.lst (U.map Z'))/\Hx d=Zz (.lst (e.map Z'))/\VH G U qs/\LH G e k/\TwoV C I g i qs k:=#[_,λ_ _ _=>Iff.rfl]
 have P0:Pv 0 [Zz (Z' R1),Zz (Z' R2),Zz (V' (wi:Int)),Zz (Z' fv),Zz (Z' c),Zz (Z' d),Zy,Zy,Zy] H3:=
  (x0 _ _ _).mpr #[H1,[],[],[],[],Zy,Zy,Zy,rfl,y7,n3,z7,x4,y1,z1,VH.nil _,LH.nil _,#[rfl,rfl,λt ht=>by omega]]
 w_up
 refine#[(),(),?_];rw[show ((wi:Int)+1).toNat=wi+1 by omega];refine iC Pv P0 ?_ ?_
 ·intro i σ Hx hi hp;exists (x0 _ _ _).mp hp,G,U,e,qs,k,r6,r7,r8,rfl,sG,y4,z4,sX,J,z2,y0,z0,TV;have sH:=sG.trans sX;have ei:(0:Int)+(i:Int)=((i:Nat):Int):=()
  w_up
  rw[ei];refine#[R1,n,C,i,rfl,Zw (sH _ _ v3),(g1.same sH).ll,X,(),λv0 b1 u7 u2 v7 z9 u4 v4 k4 D1 B1 g4 H4 s4 u1 m4 n4 x5 j7 v2 y5=>?_];have z5:=sH.trans s4
  w_up
  refine#[R2,v,I,i,rfl,Zw (z5 _ _ k3),(m1.same z5).ll,x2,(),λj0 b2 k7 k2 g7 u9 u5 v5 j5 D2 B2 k5 H5 s5 v1 g5 m5 n5 m7 g2 x6=>?_];have m2:=s4.trans s5;have y6:CdH H5 k4 v0 b1 D1 B1 g4:=#[s5 _ _ u1,s5 _ _ m4,n4.same s5,s5 _ _ x5,(),λu hu=>#[by have:=(u2 u hu).2.1;omega,(u2 u hu).2.2],(),u4]
  have z6:CdH H5 j5 j0 b2 D2 B2 k5:=#[v1,g5,m5,n5,(),λu hu=>#[by have:=(k2 u hu).2.1;omega,(k2 u hu).2.2],(),u5]
  have n7:B1≠c:=λz=>by rw[z,J]at v2;cases v2
  have x8:B2≠c:=λz=>by rw[z,s4 _ _ J]at g2;cases g2
  clear u1 m4 n4 x5 j7 v2 y5 v1 g5 m5 n5 m7 g2 x6;have M:=m2 _ _ J;have k1:=m2 _ _ z2;have lq:=TV.lq;have lw:=TV.lw;have v9:=y0.len;have j9:=z0.len
  w_up
  refine#[gn (Zw M),k4,j5,D1,B1,D2,B2,g4,k5,v0,j0,b1,b2,rfl,y6,z6,λY yb H6 s6 nY eY u6 ny Yn k9=>?_];have O:=s6 _ _ M;have v6:=s6 _ _ k1;have n2:∀a,H5 a=Zy->a≠c/\a≠d:=λa ha=>#[λz=>(by rw[z,M]at ha;cases ha),λz=>by rw[z,k1]at ha;cases ha]
  refine#[_,O,#v[af,bO ()],?_];have x3:=y6.same s6;have y3:=z6.same s6;have k6:∀a o,a≠c->H6 a=Zz o->Zx H6 c (.lst (U.map Z'++[Z' Y])) a=Zz o:=λa o ha h=>by rw[aE ha];exact h
  have S:Zx H6 c (.lst (U.map Z'++[Z' Y])) c=Zz (.lst ((U++[Y]).map Z')):=by rw[ak,aR];rfl
  have m:=k6 _ _ y2 v6;have j6:=k6 _ _ (zU x3.t O λz=>nomatch z) x3.t;have g6:=k6 _ _ (zU y3.t O λz=>nomatch z) y3.t;have m6:=k6 _ _ n7 x3.B;have n6:=k6 _ _ x8 y3.B;generalize Zx H6 c (.lst (U.map Z'++[Z' Y]))=g9 at k6 S m j6 g6 m6 n6 ⊢;refine#[gn (Zw m),_,SqT.of j6,_,rfl,_,SqT.of g6,_,rfl,B1,B2,b1,b2,rfl,Zw m6,Zw n6,(),(),λz hz=>(u4 z hz).mono (),λz hz=>(u5 z hz).mono (),λWn H7 s7 k0 y8=>#[_,s7 _ _ m,#v[af,bO ()],?_]];have x7:Wn≠c/\Wn≠d:=#[λz=>(by rw[z,S]at k0;cases k0),λz=>by rw[z,m]at k0;cases k0]
  obtain⟨G2,n0⟩:∃G2:Hp,∀a,G2 a=if a=c\/a=d then Zy else H7 a:=#[_,λ_=>rfl]
  have x1:∀a o,H7 a=Zz o->a≠c/\a≠d->G2 a=Zz o:=λa o h z=>by rw[n0,if_neg λy=>y.elim z.1 z.2];exact h
  have z3:Same G G2:=λa o h=>by
   have aV:a≠c:=λz=>by rw[z,y4]at h;cases h
   have aW:a≠d:=λz=>by rw[z,z4]at h;cases h
   exact x1 a o (s7 _ _ (k6 _ _ aV (s6 _ _ (m2 _ _ (sX _ _ h))))) #[aV,aW]
  have z8:Same G2 (Zx H7 d (.lst (e.map Z'++[Z' Wn]))):=λa o h=>by
   rw[n0]at h
   split at h
   ·cases h
   ·rename_i z;rw[aE λy=>z (.inr y)];exact h
  have u8:LH G2 yb (g v0 b1 j0 b2):=⟨u6.len,λj b r h1 h2=>by
   have ob:=n2 b (ny b (b4 h1));exact x1 _ _ (s7 _ _ (k6 _ _ ob.1 (u6.get j b r h1 h2))) ob⟩
  refine (x0 _ _ _).mpr #[G2,U++[Y],e++[Wn],qs++[g v0 b1 j0 b2],k++[aN b1 b2],_,_,_,rfl,sG.trans z3,by rw[n0,if_pos (.inl rfl)],by rw[n0,if_pos (.inr rfl)],z8,#v[aE (Ne.symm y2),s7 _ _ S],by rw[ak,aR];rfl,(y0.same z3).snoc (x1 _ _ (s7 _ _ (k6 _ _ (n2 Y nY).1 eY)) (n2 Y nY)) u8,(z0.same z3).snoc (x1 _ _ y8 x7),TV.snoc u7 k7 v4 v5 (λu hu=>(u2 u hu).1) (λu hu=>(k2 u hu).1) v7 g7]
 ·intro σ Hx hp;obtain⟨G,U,e,qs,k,r6,r7,r8,rfl,sG,y4,z4,sX,J,z2,y0,z0,TV⟩:=(x0 _ _ _).mp hp
  w_up
  exists q qs k TV,j1,j2,j3,jw,j4;have lq:=TV.lq;have lw:=TV.lw;have sH:=sG.trans sX;refine#[c,d,U,e,qs,k,rfl,Zw J,(y0.same sX).vl,j1,λz=>by rw[z]at lq;simp at lq,j2,Zw z2,(z0.same sX).ll,(),(),jw,j3,λi qv ws cs pl a1 a2 a3=>?_];exists j4 i qv ws cs pl a1 a2 a3,t0,t1,ds,l,R,f,t2,t3,t4,t5,t6,t7,t8,t9,v8,j8,k8,g8,m8;exact#[t0,t1,ds,l,R,f,t2,t3,t4,t5,t6,t7,t8,t9,v8,j8,k8,g8,λD bs H' s' nD eD lD nb Db nd=>m8 D bs H' (sH.trans s') (sH.free nD) eD lD (λb hb=>sH.free (nb b hb)) Db nd]
def Jh (g:VF)(wf:Nat->Nat->Nat)(w:Nat)(St:au->ay->Int->Prop)(Vq:au->ac->Prop)(Rl:au->ac->ac->Prop):Sp:=λvs H Q _=>∃(R1 R2:Addr)(as1 as2:am)(ps1 ps2:ac)(r1 r2:Nat),vs=[.ref R1,.ref R2]/\H R1=Zz (.lst (as1.map Z'))/\LH H as1 ps1/\H R2=Zz (.lst (as2.map Z'))/\LH H as2 ps2/\kh ps1/\kh ps2/\ps1.9=r1+1/\ps2.9=r2+1/\(∀p∈ps1++ps2,wf r1 r2*wf r1 r2*p.9<=32)/\
 ∀qs wts,TwoV ps1 ps2 g (wf r1 r2+1) qs wts->B5 w St Vq Rl qs wts λds=>iZ H Q ds
section
variable {P:Program}{wd:World}{K:ao}{mg:bH}{base:Heap}{w B KM:Nat}{St:au->ay->Int->Prop}{Vq:au->ac->Prop}{Rl:au->ac->ac->Prop}
theorem Sk (T:Tx K mg)(Z:SpTh w B KM St Vq Rl):FnOk P wd K mg base CX0 (2*(KM+2)+15) T.Um.ax T.Um.dx ["one","other"] (Jh iJ (λa b=>a+b) w St Vq Rl):=by
 have F:=Jg (P:=P) (wd:=wd) (base:=base) T Z (Sh T) T.UE.Fx.kp T.UE.bx;refine T.Um.Fx.ok PM (λx H Q E h=>?_) (λy A outer s H x Q E o h=>?_)
 ·exists h,p,R2,e,f,c,d,r,u,rfl,_;rfl
 exists h,p,R2,e,f,c,d,r,u,rfl,j,k,m,n,g,i,C,l2,z,q;refine#[_,s!"˓ˡ˾ƉƊƋɩȺ,ʈɃã̮̳ːɃã̮̳̀#˴ƌȟ Ƞ̴",?_];have G:=g.2.1;have I:=i.2.1
 k_units
 refine#[p,e,c,rfl,Zw j,k.ll,(),.inl #[g.1,R2,f,d,rfl,Zw m,n.ll,(),.inl #[i.1,_,rfl,_,rfl,?_]]];rw[show (c.9:Int)-1+((d.9:Int)-1)=((r+u:Nat):Int) by omega];exact#[p,R2,e,f,c,d,r+u,rfl,j,k,m,n,g,i,(),z,q]
theorem Sl (T:Tx K mg)(Z:SpTh w B KM St Vq Rl):FnOk P wd K mg base CX0 (2*(KM+2)+15) T.Uo.ax T.Uo.dx ["one","other"] (Jh fN (λa b=>a*b) w St Vq Rl):=by
 have F:=Jg (P:=P) (wd:=wd) (base:=base) T Z (Si T) T.UF.Fx.kp T.UF.bx;refine T.Uo.Fx.ok PN (λz H Q E h=>?_) (λC A outer s H z Q E x h=>?_)
 ·exists h,y,R2,f,g,c,d,k,n,rfl,_;rfl
 exists h,y,R2,f,g,c,d,k,n,rfl,o,p,r,u,i,j,O,l2,G,q;refine#[_,s!"˓ˡľ ƉƊƋɩȺ,̖ɃãɁľ ̳ːɃãɁľ ̳̀#˴ƌȡ Ȣ̴",?_];have R:=i.2.1;have S:=j.2.1
 k_units
 refine#[y,f,c,rfl,Zw o,p.ll,(),.inl #[i.1,R2,g,d,rfl,Zw r,u.ll,(),.inl #[j.1,?_]]];have I:Bd 3 ((c.9:Int)-1):=Bd.of_lt (m:=8) () ();have J:Bd 3 ((d.9:Int)-1):=Bd.of_lt (m:=8) () ();refine#[_,rfl,_,rfl,I.fits J (),?_];have e:((c.9:Int)-1)*((d.9:Int)-1)=((k*n:Nat):Int):=by
  rw[fW,show (c.9:Int)-1=(k:Int) by omega,show (d.9:Int)-1=(n:Int) by omega]
 rw[e];have M:k*n<=2*2:=dY () ();exact#[y,R2,f,g,c,d,k*n,rfl,o,p,r,u,i,j,(),G,q]
end
theorem o_ (f:Nat->Nat->Int)(m:Nat):∀r:Nat,ar m (λt=>ar r λj=>f t j)=ar r λj=>ar m λt=>f t j
 | 0=>fQ λ_ _=>rfl
 | r+1=>by
  show ar m (λt=>ar r (λj=>f t j)+f t r)=ar r (λj=>ar m λt=>f t j)+ar m (λt=>f t r);rw[jU,o_ f m r]
theorem Sm {k r1 r2:Nat}{W d1 d2 A B:aL}{u1 u2:Nat->Nat->Int}{a b:aL}(d:∀t,t<k->d1 t*A t=ar r1 λi=>u1 t i*a i)(f:∀t,t<k->d2 t*B t=ar r2 λj=>u2 t j*b j)(g:∀i,i<r1->ar k (λt=>u1 t i*d2 t*W t)=0)(h:∀j,j<r2->ar k (λt=>u2 t j*d1 t*W t)=0):
  ar k (λt=>W t*(d1 t*d2 t)*(A t+B t))=0:=by
 have m:ar k (λt=>W t*(d1 t*d2 t)*(A t+B t))=ar k (λt=>ar r1 λi=>u1 t i*d2 t*W t*a i)+ar k (λt=>ar r2 λj=>u2 t j*d1 t*W t*b j):=by
  rw[<-jU];refine b7 λt c=>?_;have n:ar r1 (λi=>u1 t i*d2 t*W t*a i)=(d2 t*W t)*(d1 t*A t):=by
   rw[d t c,<-eL];exact b7 λi _=>by grind
  have o:ar r2 (λj=>u2 t j*d1 t*W t*b j)=(d1 t*W t)*(d2 t*B t):=by
   rw[f t c,<-eL];exact b7 λi _=>by grind
  rw[n,o];grind
 rw[m,o_ (λt i=>u1 t i*d2 t*W t*a i),o_ (λt j=>u2 t j*d1 t*W t*b j)];have p:ar r1 (λi=>ar k λt=>u1 t i*d2 t*W t*a i)=0:=fQ λi hi=>by
  have:=g i hi;have e:ar k (λt=>u1 t i*d2 t*W t*a i)=a i*ar k (λt=>u1 t i*d2 t*W t):=by
   rw[<-eL];exact b7 λt _=>by grind
  rw[e,this,cX]
 have r:ar r2 (λi=>ar k λt=>u2 t i*d1 t*W t*b i)=0:=fQ λi hi=>by
  have:=h i hi;have e:ar k (λt=>u2 t i*d1 t*W t*b i)=b i*ar k (λt=>u2 t i*d1 t*W t):=by
   rw[<-eL];exact b7 λt _=>by grind
  rw[e,this,cX]
 rw[p,r];rfl
theorem Sn {k r1 r2:Nat}{W d1 d2 A B:aL}{u1 u2:Nat->Nat->Int}{a b:aL}(f:∀t,t<k->d1 t*A t=ar r1 λi=>u1 t i*a i)(g:∀t,t<k->d2 t*B t=ar r2 λj=>u2 t j*b j)(c:∀i,i<r1->∀j,j<r2->ar k (λt=>u1 t i*u2 t j*W t)=0):
  ar k (λt=>W t*(d1 t*d2 t)*(A t*B t))=0:=by
 have h:ar k (λt=>W t*(d1 t*d2 t)*(A t*B t))=ar k (λt=>ar r1 λi=>ar r2 λj=>u1 t i*u2 t j*W t*(a i*b j)):=by
  refine b7 λt d=>?_;have m:ar r1 (λi=>ar r2 λj=>u1 t i*u2 t j*W t*(a i*b j))=(W t*(d2 t*B t))*(d1 t*A t):=by
   rw[f t d,<-eL];refine b7 λi _=>?_;have n:ar r2 (λj=>u1 t i*u2 t j*W t*(a i*b j))=(u1 t i*W t*a i)*(d2 t*B t):=by
    rw[g t d,<-eL];exact b7 λj _=>by grind
   rw[n];grind
  rw[m];grind
 rw[h,o_];refine fQ λi hi=>?_;rw[o_];refine fQ λj o=>?_;have e:ar k (λt=>u1 t i*u2 t j*W t*(a i*b j))=(a i*b j)*ar k (λt=>u1 t i*u2 t j*W t):=by
  rw[<-eL];exact b7 λt _=>by grind
 rw[e,c i hi j o,cX]
def n1:aa->Nat
 | []=>0
 | x :: xs=>x.8+n1 xs
theorem B6:∀{a:aa}{x:Int},x∈a->x.8<=n1 a
 | y :: ys,x,h=>by
  simp only[n1];rcases bN.mp h with rfl|h
  ·omega
  ·have:=B6 h;omega
theorem Ji:∀(a c:aa),n1 (bY a c)<=n1 a+n1 c
 | [],c=>by simp[bY,n1]
 | x :: a,[]=>by simp[bY,n1]
 | x :: a,y :: c=>by
  simp only[bY,n1];have:=Ji a c;have:=i7 x y;omega
theorem Jj (c:Int):∀a:aa,n1 (a.map λz=>c*z)=c.8*n1 a
 | []=>rfl
 | x :: a=>by
  simp only[d9,n1];rw[Jj c a,cc,CD]
def FN (M:Nat)(f:Int->Int):Prop:=∃xs:aa,n1 xs<=M/\∀n,f n=val n xs
theorem FN.mono {M N:Nat}{f:Int->Int}(h:FN M f)(l:M<=N):FN N f:=by exists h,a,c,d;exact#[a,aQ c l,d]
theorem FN.congr {M:Nat}{f g:Int->Int}(h:FN M f)(e:∀n,g n=f n):FN M g:=by exists h,a,c,d;exact#[a,c,λn=>by rw[e,d]]
theorem FN.add {M N:Nat}{f g:Int->Int}(d:FN M f)(e:FN N g):FN (M+N) λn=>f n+g n:=by
 exists d,a,j,h;exists e,c,k,i;exact#[bY a c,aQ (Ji a c) (),λn=>by dsimp only;rw[fo,h,i]]
theorem FN.scale {M:Nat}{f:Int->Int}(c:Int)(h:FN M f):FN (c.8*M) λn=>c*f n:=by
 exists h,a,d,e;exact#[a.map λz=>c*z,#v[Jj,d_ _ d],λn=>by dsimp only;rw[be,e]]
theorem FN.zero {M:Nat}:FN M λ_=>0:=#[[],aU _,λ_=>rfl]
theorem FN.const (c:Int):FN c.8 λ_=>c:=#[[c],by simp[n1],λn=>by simp[val]]
theorem FN.line (a b:Int):FN (a.8+b.8) λn=>a+b*n:=#[[a,b],by simp[n1],λn=>by simp[val];grind]
theorem FN.up {M:Nat}{f:Int->Int}(h:FN M f):FN M λn=>n*f n:=by
 exists h,a,c,d;exact#[0 :: a,by simp[n1];exact c,λn=>by dsimp only;rw[d];simp[val]]
theorem FN.mul {N:Nat}{g:Int->Int}(c:FN N g):∀(a:aa),FN (n1 a*N) λn=>val n a*g n
 | []=>(FN.zero).congr λn=>by simp[val]
 | x :: a=>by
  have d:=c.scale x;have e:=(FN.mul c a).up;have f:=d.add e;simp only[n1];rw[gy];exact f.congr λn=>by simp only[val];grind
theorem FN.mul2 {M N:Nat}{f g:Int->Int}(a:FN M f)(c:FN N g):FN (M*N) λn=>f n*g n:=by
 exists a,d,e,h;exact ((FN.mul c d).mono (eh _ e)).congr λn=>by rw[h]
theorem So {M:Nat}{f:Int->Int}{ys:aa}(h:FN M f)(e:∀n,val n ys=f n):∀y∈ys,y.8<=M:=by
 exists h,a,c,d;refine dg (P:=λy=>y.8<=M) λj=>?_;rw[fJ (ys:=a) (λn=>by rw[e,d]) j];exact dy (P:=λy=>y.8<=M) (λx hx=>aQ (B6 hx) c) (aU _) j
noncomputable def pb (c:Nat->Nat) (s:Nat):Nat->Nat
 | 0=>1
 | m+1=>c s*pb c (s+1) m
theorem Jk (c:Nat->Nat):∀(m s:Nat),pb c s (m+1)=pb c s m*c (s+m)
 | 0,s=>by simp[pb]
 | m+1,s=>by
  have:=Jk c m (s+1);show c s*pb c (s+1) (m+1)=c s*pb c (s+1) m*c (s+(m+1));rw[this,gj,show s+1+m=s+(m+1) by omega]
theorem Jl {f:Int->Int}{c:Nat->Nat}(h:∀s,FN (c s) λn=>f (n+(s:Nat))):∀m,FN (pb c 0 m) λn=>iI f n m
 | 0=>(FN.const 1).congr λn=>rfl
 | m+1=>by
  rw[Jk,nw];exact ((Jl h m).mul2 (h m)).congr λn=>rfl
noncomputable def ga (r:Nat):Nat->Nat->Nat
 | 0,i=>if i+1=r then 1 else 0
 | m+1,i=>(if i=0 then 0 else ga r m (i-1))+ga r m (r-1)
theorem FN.neg {M:Nat}{f:Int->Int}(h:FN M f):FN M λn=>- f n:=by
 have:=(h.scale (-1))
 refine (this.mono ?_).congr λn=>by omega
 simp
theorem B7 {r:Nat}(d:0<r){p:Nat->Int->Int}{c:Nat->Nat}(h:∀i,i<=r->∀s,FN (c s) λn=>p i (n+(s:Nat))):∀(m s i:Nat),i<r->FN (ga r m i*pb c s m) λn=>uIt r p m i (n+(s:Nat))
 | 0,s,i,hi=>by
  show FN ((if i+1=r then 1 else 0)*1) λn=>if i+1=r then 1 else 0
  split
  ·exact FN.const 1
  ·exact FN.zero
 | m+1,s,i,hi=>by
  have a:=B7 d h m (s+1) (r-1) ();have e:∀n:Int,n+((s+1:Nat):Int)=n+(s:Int)+1:=λn=>by omega
  have f:=((a.mul2 (h i () s)).neg)
  show FN (((if i=0 then 0 else ga r m (i-1))+ga r m (r-1))*(c s*pb c (s+1) m)) λn=>f_ r p (uIt r p m) i (n+(s:Nat));by_cases z:i=0
  ·rw[if_pos z,nw];refine (f.mono (kk ?_)).congr λn=>?_
   ·rw[gj,fq (pb c (s+1) m)]
   ·unfold f_;rw[if_pos z,e];grind
  ·rw[if_neg z];have g:=(h r (aA _) s).mul2 (B7 d h m (s+1) (i-1) ());refine ((g.add f).mono (kk ?_)).congr λn=>?_
   ·rw[gy];congr 1
    ·rw[Nat.mul_left_comm]
    ·rw[gj,fq (pb c (s+1) m)]
   ·unfold f_;rw[if_neg z,e];grind
def cell (ns:aa)(k:Nat):Int:=ns.getD k 0
def Sq (K:ao):Sp:=λvs H Q _=>∃(a:Addr)(ns:aa)(k:Nat),vs=[.ref a,.int (k:Int)]/\SqL K H a (ns.map V')/\Q (.int (cell ns k)) H
theorem mQ:FnOk P w K mg base CX0 1 T.T8.ax T.T8.dx ["_law_script","_law_k"] (Sq K):=by
 refine T.T8.Fx.ok PP (λe H Q E h=>?_) (λf A outer s H e Q E g h=>?_)
 ·exists h,a,ns,k,rfl,_;rfl
 exists h,a,ns,k,rfl,c,q;refine#[_,s!"ʗxɈʍɆɅʅɈɂʒ%",?_]
 k_units
 refine#[_,.inl c,?_];rw[af];unfold cell at q;refine bU (λh=>?_) (λh=>?_)
 ·have d:k<ns.9:=()
  rw[az,aq d]at q;exact#[_,c,_,iD d,q]
 ·rw[az,iN ()]at q;exact q
def Sr:Sp:=λvs H Q _=>∃a b:Int,vs=[.int a,.int b]/\Q (.int (bT a.8 b.8:Nat)) H
theorem Jm:FnOk P w K mg base CX0 1 T.Uy.ax T.Uy.dx ["_law_one","_law_other"] Sr:=by
 refine T.Uy.Fx.ok mw (λf H Q E h=>?_) (λg A outer s H f Q E k h=>?_)
 ·exists h,a,b,rfl,_;rfl
 exists h,a,b,rfl,q;refine#[_,s!"ɀ(èȼ˼ʄˁèȼ˼ɹ˛Äȿɑɰè̓Ɉȿˁèȼȿɲ(èȼɉɅɈ",?_]
 w_left;simp![mB]
 refine ig (λm σ d=>∃(x y:Nat)(r:Option V),σ=[Zz (.int x),Zz (.int y),r]/\d=H/\m=x/\bT x y=bT a.8 b.8) a.8 #[a.8,b.8,Zy,rfl,rfl,rfl,rfl] ?_
 rintro m σ d ⟨x,y,r,rfl,rfl,rfl,hg⟩
 w_up
 refine bU (λh=>?_) (λh=>?_)
 ·skip
  w_up
  refine#[λc e=>c=[Zz (V' ((y:Int) % (m:Int))),Zz (V' m),Zz (V' ((y:Int) % (m:Int)))]/\e=d,?_,(),rfl,rfl]
  rintro c e ⟨rfl,rfl⟩
  refine#[y % m,nn _ (),y % m,m,_,by rw[<-Int.natCast_emod],rfl,rfl,?_];rw[<-Lu];exact hg
 ·have j:m=0:=()
  subst j;rw[Nat.gcd_zero_left]at hg;rw[hg];exact q
theorem B8:FnOk P w K mg base CX0 1 T.Uk.ax T.Uk.dx ["_law_poly","_law_n"] (Hl K):=by
 refine T.Uk.Fx.ok uy (λx H Q E h=>?_) (λy A outer s H x Q E F h=>?_)
 ·exists h,a,c,n,k,l,rfl,_;rfl
 exists h,a,c,n,k,l,rfl,p,G,hk,u,I,q;refine#[_,s!"ɰĿʞɨŇ ňʄ˅Ŀȼ̍Ŀ˳ɦɉɈɓɅɉ",?_]
 k_units
 refine#[_,p,?_];obtain⟨j,d⟩:∃j:Nat->L2.St->Hp->Prop,∀i σ f,j i σ f↔(∃r,σ=[Zz (Z' a),Zz (V' n),Zz (V' (val n (c.drop (c.9-i)))),r])/\Bd (k+(l+1)*i) (val n (c.drop (c.9-i)))/\f=H:=#[_,λ_ _ _=>Iff.rfl]
 refine FR j ((d _ _ _).mpr #[#[Zy,by simp[val]],by simp[val,Bd.zero],rfl]) (λi σ f _ z=>#v[((d i σ f).mp z).2.2,p]) ?_ ?_
 ·intro i v σ f hi m o;exists (d _ _ _).mp o,#[r,rfl],g,rfl;rw[af]at hi m;rw[aI,aq ()]at m;obtain rfl:V' c[c.9-1-i]=v:=Zv m
  k_units
  have hx:Bd k c[c.9-1-i]:=hk _ (b_ _);have e:c.9-(i+1)=c.9-1-i:=()
  have C:(l+1)*i<=l*64+64:=by have:=d_ (l+1) (by omega:i<=64);omega
  refine#[g.fits u (),(d _ _ _).mpr #[#[_,by rw[e,uC n c i hi]],?_,rfl]];rw[e,uC n c i hi];refine ((g.mul u).add (hx.mono (by omega:k<=k+(l+1)*i+l))).mono ?_;rw[jF];omega
 ·intro σ f o;obtain⟨⟨r,rfl⟩,_,rfl⟩:=(d _ _ _).mp o
  k_units
  rw[af,gB,mZ];exact q
theorem Jn (xs ys:aa):PyData.eqv (.list (xs.map PyData.int)) (.list (ys.map PyData.int))=decide (xs=ys):=by simp[PyData.eqv,Ay]
theorem vg (xs:aa):PyData.canLay0 (.list (xs.map PyData.int))=true:=by simp[PyData.canLay0,Az]
theorem Jo (xs:aa):PyData.depth (.list (xs.map PyData.int))<=64:=by simp[PyData.depth,AA]
def tmL (xs:aa)(m:Int):aa:=if xs=[] then [] else (aM (xs.9+1)).map λk=>co (0 :: xs) k-m*co xs k
def Ss (K:ao):Sp:=λvs H Q _=>∃(a:Addr)(xs:aa)(m:Int),vs=[.ref a,.int m]/\H a=Zz (.lst (xs.map V'))/\xs.9<=60/\(∀x∈xs,Bd 60 x)/\Bd 60 m/\eI H Q ((tmL xs m).map V')
theorem Su:FnOk P w K mg base CX0 1 T.UX.ax T.UX.dx ["_law_poly","_law_m"] (Ss K):=by
 refine T.UX.Fx.ok ux (λS H Q E h=>?_) (λU A outer s H S Q E X h=>?_)
 ·exists h,a,xs,m,rfl,_;rfl
 exists h,a,xs,m,rfl,r,Y,bx,Z,q;refine#[_,s!"ɰŀɛ°̇ȿʹ#ʍ$˅ŀ˔óʃʶ̋ɦɈʅ̋ô̝²˿ŁȣȿɺɆ̍ŀˇʒɉ",?_]
 w_up
 refine#[(),λI n2=>?_];have v:=aB n2 (.lst [V' 0]);refine#[_,ak,_,v _ _ r,?_,λD J=>?_]
 ·rw[af];exact dz (bO (by simp;omega))
 have e2:[V' 0]++xs.map V'=((aM (xs.9+1)).map λk=>if k<0 then co (0 :: xs) k-m*co xs k else co (0 :: xs) k).map V':=by
  have:(aM (xs.9+1)).map (λk=>if k<0 then co (0 :: xs) k-m*co xs k else co (0 :: xs) k)=0 :: xs:=by
   refine List.ext_getElem? λk=>?_;rw[aI];by_cases hk:k<xs.9+1
   ·rw[iy hk];show Zz (if k<0 then _ else co (0 :: xs) k)=_;rw[if_neg (),aP (⇑hk),aq (⇑hk)]
   ·rw[iN (by simp;omega),iN (by simp;omega)];rfl
  rw[this];rfl
 rw[e2];have x:=v.trans (aB J (.lst (((aM (xs.9+1)).map λk=>if k<0 then co (0 :: xs) k-m*co xs k else co (0 :: xs) k).map V')));have O:=ak (H:=Zx H I (.lst [V' 0])) (a:=D) (o:=.lst (((aM (xs.9+1)).map λk=>if k<0 then co (0 :: xs) k-m*co xs k else co (0 :: xs) k).map V'));have R:H D=Zy:=v.free J;generalize Zx (Zx H I (.lst [V' 0])) D (.lst (((aM (xs.9+1)).map λk=>if k<0 then co (0 :: xs) k-m*co xs k else co (0 :: xs) k).map V'))=H2 at x O ⊢
 w_up
 refine#[_,.inl (Zw (x _ _ r)),?_];rw[af];refine#[(),(),?_];rw[i5];obtain⟨C,c⟩:∃C:Nat->L2.St->Hp->Prop,∀i σ f,C i σ f↔∃u:Option V,σ=[Zz (Z' a),Zz (V' m),Zz (Z' D),u]/\f D=Zz (.lst (((aM (xs.9+1)).map λk=>if k<i then co (0 :: xs) k-m*co xs k else co (0 :: xs) k).map V'))/\Same H f:=#[_,λ_ _ _=>Iff.rfl]
 refine iC C ((c _ _ _).mpr #[Zy,rfl,O,x]) ?_ ?_
 ·intro i σ f hi F;obtain⟨u,rfl,d,sS⟩:=(c _ _ _).mp F
  w_up
  rw[i8 (i:Int)];have a1:atI (((aM (xs.9+1)).map λk=>if k<i then co (0 :: xs) k-m*co xs k else co (0 :: xs) k).map V') (i:Int)=Zz (V' (co (0 :: xs) i)):=f8 (by
   rw[aI,aI,iy ()];show Zz (V' (if i<i then _ else co (0 :: xs) i))=_;rw[if_neg ()])
  have a2:atI (xs.map V') (i:Int)=Zz (V' (co xs i)):=f8 (by rw[aI,aq hi,aP hi];rfl);refine#[_,Zw d,_,a1,_,Zw (sS _ _ r),_,a2,_,rfl,Z.fits (dy (P:=λz=>Bd 60 z) bx (Bd.zero _) i) (),_,rfl,_,d,i,?_,(c _ _ _).mpr #[_,rfl,?_,sS.more R]]
  ·rw[af,af,gC];exact jR ()
  ·rw[ak];congr 2;refine List.ext_getElem? λk=>?_;rw[List.getElem?_set];by_cases z:i=k
   ·subst z;rw[if_pos rfl,if_pos (by simp;omega),aI,aI,iy ()];show _=Zz (V' (if i<i+1 then co (0 :: xs) i-m*co xs i else co (0 :: xs) i));rw[if_pos ()]
   ·rw[if_neg z,aI,aI,aI,aI];by_cases hk:k<xs.9+1
    ·rw[iy hk];show Zz (V' (if k<i then _ else _))=Zz (V' (if k<i+1 then _ else _));by_cases y:k<i
     ·rw[if_pos y,if_pos ()]
     ·rw[if_neg y,if_neg ()]
    ·rw[iN (by simp;omega)];rfl
 intro σ f F;exists (c _ _ _).mp F,u,rfl,d,sS;obtain⟨M,G⟩:∃M:L2.St->Hp->Prop,∀σ g,M σ g↔∃j:Addr,σ=[Zz (Z' a),Zz (V' m),Zz (Z' j),u]/\g j=Zz (.lst ((tmL xs m).map V'))/\H j=Zy/\Same H g:=#[_,λ_ _=>Iff.rfl]
 w_left;refine gq M ?_ ?_
 ·w_left;k_units
  refine#[(),λp np=>?_];have n:=aB np (.lst []);refine#[_,DV.ints (Zw (n _ _ (sS _ _ r))),_,DV.ints (ns:=[]) (Zw ak),vg _,vg _,Jo _,?_];rw[Jn];refine bU (λz=>#[(),λp1 n1=>(G _ _).mpr #[p1,rfl,?_,(sS.trans n).free n1,sS.trans (n.trans (aB n1 _))]]) (λz=>(G _ _).mpr #[D,rfl,?_,R,sS.trans n])
  ·have z':xs=[]:=by simpa using z
   have e:tmL xs m=[]:=by unfold tmL;rw[if_pos z']
   rw[e];exact ak
  have x0:xs≠[]:=by simpa using z
  have e:tmL xs m=(aM (xs.9+1)).map λk=>co (0 :: xs) k-m*co xs k:=by unfold tmL;rw[if_neg x0]
  rw[e,n _ _ d];congr 3;refine fB λk hk=>?_;have:=dj.mp hk;by_cases z:k<xs.9
  ·rw[if_pos z]
  ·rw[if_neg z,aF (xs:=xs) ()];simp
 ·intro σ g hm;obtain⟨j,rfl,h1,h2,h3⟩:=(G _ _).mp hm
  w_left;k_units
  exact q j g h3 h2 h1
theorem Sv {xs:aa}(h:xs≠[])(a:xs.getLast h=0):aO xs.dropLast=aO xs:=by
 have e:=TY h;rw[a]at e
 conv=>rhs;rw[<-e]
 rw[AK]
theorem B9 (xs:aa)(m:Int)(k:Nat):co (tmL xs m) k=co (0 :: xs) k-m*co xs k:=by
 unfold tmL;by_cases z:xs=[]
 ·rw[if_pos z,z]
  cases k with
  | zero=>rw[fg];simp[fP]
  | succ k=>rw[fg];simp[fP]
 ·rw[if_neg z];by_cases h:k<xs.9+1
  ·rw[aP (⇑h),ck,jc]
  ·rw[aF (by simp;omega),aF (xs:=0 :: xs) (by simp;omega),aF (xs:=xs) ()];simp
theorem Sw (xs:aa)(m n:Int):val n (tmL xs m)=(n-m)*val n xs:=by
 have e:val n (tmL xs m)=val n (bY (0 :: xs) (xs.map λz=>-m*z)):=f9 (λk=>by rw[B9,fX,eQ];grind) n;rw[e,fo,be];simp only[val];grind
theorem B_ (xs:aa)(m:Int):(tmL xs m).9<=xs.9+1/\(tmL xs m=[]->xs=[]):=by
 unfold tmL;by_cases z:xs=[]
 ·rw[if_pos z,z];simp
 ·rw[if_neg z];simp
theorem Sx {xs:aa}(h:Nml xs)(m:Int):Nml (tmL xs m):=by
 by_cases z:xs=[]
 ·rw[z];exact cH
 ·have d:xs.9≠0:=λy=>z (bD y);have lt:(tmL xs m).9=xs.9+1:=by unfold tmL;rw[if_neg z];simp
  refine eK.mpr λa c=>?_;rw[gi,lt,aq ()]at c;rw[<-Zv c,<-aP,B9,aF (xs:=xs) (),fg,if_neg ()];have:=dG h z;rw[show xs.9+1-1-1=xs.9-1 by omega]
  simpa using this
theorem Sy {xs:aa}{A:Nat}{m:Int}(m0:0<=m)(e:m<=9)(h:∀x∈xs,x.8<=A):∀x∈tmL xs m,x.8<=10*A:=by
 refine dg (P:=λy=>y.8<=10*A) λj=>?_;rw[B9];have a:=dy (P:=λy=>y.8<=A) (xs:=0 :: xs) (λy hy=>by rcases bN.mp hy with rfl|hy;exact aU _;exact h y hy) (aU _) j;have c:=dy (P:=λy=>y.8<=A) h (aU _) j;have d:(m*co xs j).8<=9*A:=by rw[cc];exact dY () c
 rw[show 10*A=A+9*A by omega];exact aQ (lQ _ _) (lP a d)
structure BaseL (zl:aa):Prop where
 ne:zl≠[]
 nm:Nml zl
 ln:zl.9<=2
 bd:∀x∈zl,x.8<=5
 vl:∀n:Nat,1<=val n zl/\(n<=16->val n zl<=21)
theorem Sz {e:Int}(a:1<=e)(c:e<=3):BaseL [e]:=#[by simp,fK (),by simp,by simp;omega,λn=>by simp[val];omega]
theorem SB {e:Int}(a:1<=e)(c:e<=5):BaseL [e,1]:=#[by simp,oP [e],by simp,by simp;omega,λn=>by simp only[val];omega]
theorem pd (c:ac)(a:aa)(n:Int):pvL (c++[a]) ((c++[a]).9-1) n=val n a:=by
 unfold pvL;rw[b8,mV,ma,az,cQ (aA _),gB];rfl
theorem pf (ps:ac)(m n:Int)(i:Nat):pvL (ps.map λp=>tmL p m) i n=(n-m)*pvL ps i n:=by
 unfold pvL;rw[<-Sw];congr 1;rw[az,aI,az]
 cases ps[i]? with
 | none=>rfl
 | some p=>rfl
structure QOk (qs:ac):Prop where
 l2:qs.9<=2
 q:∀p∈qs,Nml p/\p.9<=2/\∀x∈p,x.8<=3
def RuleK (r:Nat)(j:Bool)(ps:ac):Prop:=∃(qs:ac)(zl:aa),qs.9=r/\QOk qs/\BaseL zl/\(ps=qs++[zl]\/j=true/\∃m:Int,0<=m/\m<=9/\ps=(qs++[zl]).map λp=>tmL p m)
theorem QOk.all {c:ac}{d:aa}(h:QOk c)(a:BaseL d):∀p∈c++[d],Nml p/\p.9<=2/\∀x∈p,x.8<=5:=λp e=>by
 rcases a8.mp e with z|z
 ·exact#[(h.q p z).1,(h.q p z).2.1,λx hx=>by have:=(h.q p z).2.2 x hx;omega]
 ·rw[bj.mp z];exact#[a.nm,a.ln,a.bd]
theorem SC {K:ao}{a:Addr}{as:am}{ps ds:ac}{O:List (Nat×Str)}{P:TE}{Q:VK}{σ:L2.St}{g:Hp}{D:Addr}(r:g D=Zy)(X:SqL K g a (as.map Z'))(S:LL K g as ps)(hd:ds.9=ps.9)(hl:ps.9<=900)(hs:∀(i:Nat)(b:Addr)(p d:aa)(c:Hp)(R:VK),ps[i]?=Zz p->ds[i]?=Zz d->Same g c->as[i]?=Zz b->eI c R (d.map V')->P (bst O σ (Zz (Z' b))) c R)(Y:iZ g Q ds):jP (Itl K a) O P Q σ g D:=by
 obtain⟨s,f⟩:∃s:cB,∀j c,s j c↔∃bs:am,c D=Zz (.lst (bs.map Z'))/\LH c bs (ds.take j)/\D∉bs/\bs.Nodup/\(∀b∈bs,g b=Zy)/\Same g c:=#[_,λ_ _=>Iff.rfl]
 refine ff (xs:=as.map Z') s ((f _ _).mpr #[[],ak,LH.nil _,by simp,l_,by simp,aB r _]) (λi c _ z=>by exists (f i c).mp z,_,_,_,_,_,_,z;exact z.seq X) ?_ ?_
 ·intro j v c Z u;exists (f _ _).mp u,bs,n,h,C,G,H,k;exists S.nth Z,b,p,rfl,hb,T,hB;have hj:j<ps.9:=(aZ.mp T).1;have m:ds[j]?=Zz ds[j]:=aq ();refine hs j b p _ c _ T m k hb λF H2 I o eF=>?_;have lk:=h.len;rw[bV]at lk;have J:F≠D:=λz=>by rw[z,n]at o;cases o
  have M:F∉bs:=h.notin o;have U:D∉bs++[F]:=λz=>by
   rcases a8.mp z with z|z
   ·exact C z
   ·exact J (bj.mp z).symm
  refine#[_,I _ _ n,#v[af,bO ()],(f _ _).mpr #[bs++[F],by rw[ak];simp,?_,U,?_,?_,(k.trans I).more r]]
  ·have e:ds.take (j+1)=ds.take j++[ds[j]]:=by rw[cY,m];rfl
   rw[e];exact ((h.same I).snoc eF).upd U
  ·exact jE.mpr #[G,by simp,λx hx y hy z=>M (by rw[bj.mp hy]at z;rw[<-z];exact hx)]
  ·intro x hx;rcases a8.mp hx with z|z
   ·exact H x z
   ·rw[bj.mp z];exact k.free o
 ·intro H' u;exists (f _ _).mp u,bs,n,h,C,G,H,k;rw[af,S.len,<-hd,fy]at h;exact Y D bs H' k r n h H C G
def SD (K:ao):Sp:=λvs H Q _=>∃(a:Addr)(ns:aa)(t r:Nat)(jm:Bool),vs=[.ref a,.int (t:Int),.int (r:Int),.bl jm]/\SqL K H a (ns.map V')/\r<=2/\∀ps:ac,RuleK r jm ps->iZ H Q ps
theorem Jp:FnOk P w K mg base CX0 2 T.Uz.ax T.Uz.dx ["_law_script","_law_start","_law_order","_law_jumps"] (SD K):=by
 refine T.Uz.Fx.ok jY (λvs H Q E h=>?_) (λj3 A outer s H vs Q E hr h=>?_)
 ·exists h,a,ns,t,r,O,rfl,_;rfl
 exists h,a,ns,t,r,O,rfl,hS,r2,q;refine#[_,s!"ʑÉˇʹʏɗ@ÉȼʨÉɧÏɐ̵ʈɈɾ$˲ÉȼIʋʥ̶ʋˢ̶ʌmʝḡɔQ$˧ʓɊʊ̯/c÷kȤȥȦʊ̪ɘȺQ$ʨÉɧÏɐ̵ʈɈʌ˶ɘ#ɊI#Iʈ%ˢɱ%ʌ#Iʈ%ˢ̶ɭ$ʥ̫$mʕ­uɓ®ʓˢ̶ɑ̐Éʇˢ̶/ˊ9̠dȧʫɘʉȨɐȩȪȫ˵Éɢʒɘ",?_]
 w_up
 refine#[(),λD nD=>?_]
 w_up
 have u0:=aB nD (.lst []);refine#[(),(),?_];rw[i5];obtain⟨Pv,R⟩:∃Pv:Nat->L2.St->Hp->Prop,∀i σ n,Pv i σ n↔∃(bs:am)(u:ac)(r2 r3 r4:Option V),σ=[Zz (Z' a),Zz (V' (t:Int)),Zz (V' (r:Int)),Zz (V.bl O),Zz (Z' D),r2,r3,r4,Zy]/\n D=Zz (.lst (bs.map Z'))/\LH n bs u/\D∉bs/\bs.Nodup/\(∀b∈bs,H b=Zy)/\u.9=i/\(∀p∈u,Nml p/\p.9<=2/\∀x∈p,x.8<=3)/\Same H n:=#[_,λ_ _ _=>Iff.rfl]
 refine iC Pv ((R _ _ _).mpr #[[],[],Zy,Zy,Zy,rfl,ak,LH.nil _,by simp,l_,by simp,rfl,by simp,u0]) ?_ ?_
 ·intro i σ n hi S;obtain⟨bs,u,z0,r3,r4,rfl,eD,lB,v0,nd,fb,lq,bq,sP⟩:=(R _ _ _).mp S
  w_up
  rw[show (t:Int)+(0+(i:Int))=((t+i:Nat):Int) by omega];refine#[a,ns,t+i,rfl,sP.seq hS,?_];generalize cell ns (t+i)=c
  w_up
  refine#[(),#[(),()],(),(),λC F=>?_];obtain⟨I,j1,k3⟩:∃I:Int,c % 7-3=I/\I.8<=3:=#[_,rfl,()]
  obtain⟨J,k1,g3⟩:∃J:Int,c / 7 % 7-3=J/\J.8<=3:=#[_,rfl,()]
  rw[j1,k1];clear j1 k1;have u2:=aB F (.lst [V' I,V' J]);have g1:=ak (H:=n) (a:=C) (o:=.lst [V' I,V' J]);have j0:C≠D:=λz=>by rw[z,eD]at F;cases F
  have k0:C∉bs:=lB.notin F;have g2:=sP.free F;generalize Zx n C (.lst [V' I,V' J])=H2 at u2 g1 ⊢;obtain⟨M,hM⟩:∃M:L2.St->Hp->Prop,∀σ f,M σ f↔σ=[Zz (Z' a),Zz (V' (t:Int)),Zz (V' (r:Int)),Zz (V.bl O),Zz (Z' D),Zz (V' (0+(i:Int))),Zz (V' c),Zz (Z' C),Zy]/\f C=Zz (.lst ((aO [I,J]).map V'))/\Same n f:=#[_,λ_ _=>Iff.rfl]
  w_left;refine gq M ?_ ?_
  ·w_left;k_units
   obtain⟨Pu,n0⟩:∃Pu:Nat->L2.St->Hp->Prop,∀m' σ f,Pu m' σ f↔∃ys:aa,ys.9=m'/\σ=[Zz (Z' a),Zz (V' (t:Int)),Zz (V' (r:Int)),Zz (V.bl O),Zz (Z' D),Zz (V' (0+(i:Int))),Zz (V' c),Zz (Z' C),Zy]/\f C=Zz (.lst (ys.map V'))/\aO ys=aO [I,J]/\Same n f:=#[_,λ_ _ _=>Iff.rfl]
   refine ig Pu 2 ((n0 _ _ _).mpr #[[I,J],rfl,rfl,g1,rfl,u2]) ?_;intro m' σ f hu;obtain⟨g,m3,rfl,hy,he,sy⟩:=(n0 _ _ _).mp hu
   w_left;k_units
   refine#[_,.inl (Zw hy),?_];rw[af];have x2:Nml g->M [Zz (Z' a),Zz (V' (t:Int)),Zz (V' (r:Int)),Zz (V.bl O),Zz (Z' D),Zz (V' (0+(i:Int))),Zz (V' c),Zz (Z' C),Zy] f:=λhn=>by
    have e:g=aO [I,J]:=by rw[<-he,Ox hn]
    exact (hM _ _).mpr #[rfl,#v[<-e,hy],sy]
   refine bU (λh=>?_) (λh=>?_)
   ·have G:g≠[]:=by intro z;rw[z]at h;simp at h
    refine#[_,Zw hy,_,jS G,?_]
    w_left;k_units
    refine bU (λh0=>?_) (λh0=>?_)
    ·refine#[λy2 Hz=>y2=[Zz (Z' a),Zz (V' (t:Int)),Zz (V' (r:Int)),Zz (V.bl O),Zz (Z' D),Zz (V' (0+(i:Int))),Zz (V' c),Zz (Z' C),Zy]/\Hz=upd f C (.lst (g.dropLast.map V')),?_,gn (Zw hy),_,hy,V' (g.getLast G),?_,rfl,?_]
     ·rintro y2 Hz ⟨rfl,rfl⟩
      exact#[g.9-1,by have:=dw.mpr G;omega,(n0 _ _ _).mpr #[g.dropLast,K8,rfl,ak,#v[Sv G h0,he],sy.more F]]
     ·rw[aI,af,<-gi,mW G];rfl
     ·rw[<-List.map_dropLast]
    ·refine x2 (eK.mpr λx hx=>?_);rw[mW G]at hx;rw[<-Zv hx];exact h0
   ·have hn:g=[]:=bD ();exact x2 #v[hn,cH]
  ·intro σ f hm;obtain⟨rfl,eP,sy⟩:=(hM _ _).mp hm
   w_left;k_units
   have y1:=sy;have z2:=y1 _ _ eD;have lb:=lB.len;have m1:D∉bs++[C]:=λz=>by
    rcases a8.mp z with z|z
    ·exact v0 z
    ·exact j0 (bj.mp z).symm
   refine#[gn (Zw z2),_,z2,#v[af,bO ()],(R _ _ _).mpr #[bs++[C],u++[aO [I,J]],_,_,_,rfl,by rw[ak];simp,((lB.same y1).snoc eP).upd m1,m1,?_,λb hb=>?_,by simp[lq],λp S=>?_,(sP.trans y1).more nD]]
   ·exact jE.mpr #[nd,by simp,λx hx y hy z=>k0 (by rw[bj.mp hy]at z;rw[<-z];exact hx)]
   ·rcases a8.mp hb with z|z
    ·exact fb b z
    ·rw[bj.mp z];exact g2
   ·rcases a8.mp S with z|z
    ·exact bq p z
    ·rw[bj.mp z];refine#[cG _,ow _,dg (P:=λy=>y.8<=3) λk=>?_];rw[cN];exact dy (P:=λy=>y.8<=3) (by simp;omega) (aU _) k
 ·intro σ n S;obtain⟨bs,u,z0,r3,r4,rfl,eD,lB,v0,nd,fb,lq,bq,sP⟩:=(R _ _ _).mp S
  w_up
  rw[show (t:Int)+2=((t+2:Nat):Int) by omega];refine#[a,ns,t+2,rfl,sP.seq hS,?_];generalize cell ns (t+2)=c
  w_up
  refine#[gn (Zw eD),#[(),()],(),(),λp1 z1=>#[#[(),()],(),(),λp2 u1=>#[(),λp3 j2=>#[(),_,Zw ak,?_]]]];obtain⟨pl,U,m2,k2,Y,hz⟩:∃(pl:Addr)(U:aa),atI [Z' p1,Z' p2] (c % 2)=Zz (Z' pl)/\Zx (Zx (Zx n p1 (.lst [V' (1+c / 2 % 3)])) p2 (.lst [V' (1+c / 2 % 5),V' 1])) p3 (.lst [Z' p1,Z' p2]) pl=Zz (.lst (U.map V'))/\n pl=Zy/\BaseL U:=by
   have v1:=aB z1 (.lst [V' (1+c / 2 % 3)]);have v2:=aB u1 (.lst [V' (1+c / 2 % 5),V' 1]);have v3:=aB j2 (.lst [Z' p1,Z' p2]);rcases (show c % 2=0\/c % 2=1 by omega) with e|e <;> rw[e]
   ·exact#[p1,[1+c / 2 % 3],rfl,v3 _ _ (v2 _ _ ak),z1,Sz () ()]
   ·exact#[p2,[1+c / 2 % 5,1],rfl,v3 _ _ ak,v1.free u1,SB () ()]
  have v:=(aB z1 (.lst [V' (1+c / 2 % 3)])).trans ((aB u1 (.lst [V' (1+c / 2 % 5),V' 1])).trans (aB j2 (.lst [Z' p1,Z' p2])));generalize Zx (Zx (Zx n p1 (.lst [V' (1+c / 2 % 3)])) p2 (.lst [V' (1+c / 2 % 5),V' 1])) p3 (.lst [Z' p1,Z' p2])=H1 at k2 v ⊢;have lb:=lB.len;have j0:pl≠D:=λz=>by rw[z,eD]at Y;cases Y
  have k0:pl∉bs:=lB.notin Y;have m1:D∉bs++[pl]:=λz=>by
   rcases a8.mp z with z|z
   ·exact v0 z
   ·exact j0 (bj.mp z).symm
  refine#[_,m2,_,v _ _ eD,#v[af,bO ()],?_];rw[show bs.map Z'++[Z' pl]=(bs++[pl]).map Z' by simp];have Z:=ak (H:=H1) (a:=D) (o:=.lst ((bs++[pl]).map Z'));have y0:=(((lB.same v).snoc k2).upd m1 (o:=.lst ((bs++[pl]).map Z')))
  have n2:(bs++[pl]).Nodup:=jE.mpr #[nd,by simp,λx hx y hy z=>k0 (by rw[bj.mp hy]at z;rw[<-z];exact hx)];have x3:∀b∈bs++[pl],H b=Zy:=λb hb=>by
   rcases a8.mp hb with z|z
   ·exact fb b z
   ·rw[bj.mp z];exact sP.free Y
  have s2:=(sP.trans v).more (o:=.lst ((bs++[pl]).map Z')) nD;generalize Zx H1 D (.lst ((bs++[pl]).map Z'))=H2 at Z y0 s2 ⊢;obtain⟨M,hM⟩:∃M:L2.St->Hp->Prop,∀σ f,M σ f↔∃(D':Addr)(cs:am)(ps:ac)(r6:Option V),σ=[Zz (Z' a),Zz (V' (t:Int)),Zz (V' (r:Int)),Zz (V.bl O),Zz (Z' D'),z0,Zz (V' c),r4,r6]/\RuleK r O ps/\Same H f/\H D'=Zy/\f D'=Zz (.lst (cs.map Z'))/\LH f cs ps/\(∀b∈cs,H b=Zy)/\D'∉cs/\cs.Nodup:=#[_,λ_ _=>Iff.rfl]
  w_left;refine gq M ?_ ?_
  ·w_left;k_units
   have q0:QOk u:=#[(),bq]
   have keep:M [Zz (Z' a),Zz (V' (t:Int)),Zz (V' (r:Int)),Zz (V.bl O),Zz (Z' D),z0,Zz (V' c),r4,Zy] H2:=(hM _ _).mpr #[D,bs++[pl],u++[U],_,rfl,#[u,U,lq,q0,hz,.inl rfl],s2,nD,Z,y0,x3,m1,n2]
   cases O with
   | false=>exact keep
   | true=>
   refine#[#[(),()],(),bU (λh=>?_) (λh=>keep)];obtain⟨m,hm,m0,m9⟩:∃m:Int,c / 60 % 10=m/\0<=m/\m<=9:=#[_,rfl,(),()]
   rw[hm];have RL:RuleK r true ((u++[U]).map λp=>tmL p m):=#[u,U,lq,q0,hz,.inr #[rfl,m,m0,m9,rfl]]
   refine#[#[(),()],(),#[_,Zw Z],λD3 y3=>SC (K:=K) (ps:=u++[U]) (ds:=(u++[U]).map λp=>tmL p m) y3 (Zw Z) y0.ll (by simp) (by simp;omega) (λj b p d Hz R' S hd sz hb hN=>?_) (λX cs Hz sz nX eX lX nb z3 u3=>(hM _ _).mpr #[X,cs,_,_,rfl,RL,s2.trans sz,s2.free nX,eX,lX,λb hb=>s2.free (nb b hb),z3,u3])]
   w_left;simp![bst]
   rw[aI,S]at hd
   cases hd
   have pb:=q0.all hz p (b4 S);exact#[_,rfl,b,p,m,rfl,sz _ _ (y0.get j b p hb S),(),λx hx=>Bd.of_lt (m:=6) (by have:=pb.2.2 x hx;omega) (),Bd.of_lt (m:=10) () (),hN]
  ·intro σ f hm;obtain⟨D',cs,ps,r6,rfl,h1,h2,h3,h4,h5,h6,h7,h8⟩:=(hM _ _).mp hm
   w_left;k_units
   exact q ps h1 D' cs f h2 h3 h4 h5 h6 h7 h8
structure RuleL (ps:ac):Prop where
 ok:kh ps
 bd:∀p∈ps,∀x∈p,x.8<=30000010
 dead:∀n:Nat,pvL ps (ps.9-1) n=0->∀i,i<ps.9-1->pvL ps i n=0
 lb:∀n:Nat,n<=16->Bd 10 (pvL ps (ps.9-1) n)
theorem SE {d:ac}{e:aa}(f:∀p∈d,Nml p/\p.9<=2/\∀x∈p,x.8<=3000001)(l2:d.9<=2)(c:BaseL e):RuleL (d++[e]):=by
 have all:∀p∈d++[e],Nml p/\p.9<=2/\∀x∈p,x.8<=3000001:=λp a=>by
  rcases a8.mp a with z|z
  ·exact f p z
  ·rw[bj.mp z];exact#[c.nm,c.ln,λx hx=>by have:=c.bd x hx;omega]
 refine#[#[#[by simp,λp a=>?_,λp a=>(all p a).1],by simp;omega,λp a=>#[by have:=(all p a).2.1;omega,λx hx=>Bd.of_lt (m:=3000002) (by have:=(all p a).2.2 x hx;omega) ()]],λp a x hx=>by have:=(all p a).2.2 x hx;omega,λn h=>?_,λn g=>?_]
 ·rw[vP]at a;rw[<-Zv a];exact c.ne
 ·rw[pd]at h;have:=(c.vl n).1;omega
 ·rw[pd];have:=c.vl n;exact Bd.of_lt (m:=22) () ()
theorem SF {d:ac}{c:aa}{m:Int}(m0:0<=m)(g:m<=9)(j:∀p∈d,Nml p/\p.9<=2/\∀x∈p,x.8<=3000001)(l2:d.9<=2)(e:BaseL c):RuleL ((d++[c]).map λp=>tmL p m):=by
 have all:∀p∈d++[c],Nml p/\p.9<=2/\∀x∈p,x.8<=3000001:=λp a=>by
  rcases a8.mp a with z|z
  ·exact j p z
  ·rw[bj.mp z];exact#[e.nm,e.ln,λx hx=>by have:=e.bd x hx;omega]
 have bd:∀p∈(d++[c]).map λp=>tmL p m,Nml p/\p.9<=3/\∀x∈p,x.8<=30000010:=λp a=>by
  exists bC.mp a,y,hy,rfl;exists all y hy,k,v,o;exact#[Sx k m,by have:=(B_ y m).1;omega,Sy m0 g o]
 have f:((d++[c]).map λp=>tmL p m).9-1=(d++[c]).9-1:=by rw[af]
 refine#[#[#[by simp,λp a=>?_,λp a=>(bd p a).1],by simp;omega,λp a=>#[(bd p a).2.1,λx hx=>Bd.of_lt (m:=30000011) (by have:=(bd p a).2.2 x hx;omega) ()]],λp a=>(bd p a).2.2,λn h i hi=>?_,λn C=>?_]
 ·rw[wh,vP]at a;rw[<-Zv a];exact λz=>e.ne ((B_ c m).2 z)
 ·rw[f,pf,pd]at h;rw[pf];have r:=(e.vl n).1;rcases i9.mp h with z|z
  ·rw[z,i_]
  ·omega
 ·rw[f,pf,pd];have r:=e.vl n;have s:((n:Int)-m).8<=16:=()
  have u:(val (n:Int) c).8<=21:=()
  refine Bd.of_lt (m:=16*21+1) ?_ ();rw[cc];have:=dY s u;omega
theorem RuleK.all {r:Nat}{j:Bool}{ps:ac}(h:RuleK r j ps):RuleL ps/\ps.9=r+1:=by
 exists h,e,g,lq,Q,c,h;have d:∀p∈e,Nml p/\p.9<=2/\∀x∈p,x.8<=3000001:=λp a=>#[(Q.q p a).1,(Q.q p a).2.1,λx hx=>by have:=(Q.q p a).2.2 x hx;omega]
 rcases h with rfl|⟨_,m,m0,f,rfl⟩
 ·exact#[SE d Q.l2 c,by simp[lq]]
 ·exact#[SF m0 f d Q.l2 c,by simp[lq]]
def Keeps (r:Nat)(p:Nat->Int->Int)(A:aL)(N:Nat):Prop:=∀n:Nat,n<N->ar (r+1) (λi=>p i (n:Int)*A (n+i))=0
theorem Jq {r:Nat}{p:Nat->Int->Int}{A:aL}{N:Nat}(k:Keeps r p A N)(n:Nat):∀(m:Nat),n+m<=N->∀i,i<r->jV r p (n:Int) (λi=>A (n+i)) m i=iI (p r) (n:Int) m*A (n+m+i)
 | 0,_,i,_=>by
  show A (n+i)=1*A (n+0+i);rw[eE];rfl
 | m+1,hm,i,hi=>by
  have a:=Jq k n m ();have c:=k (n+m) ();rw[oH]at c;show im r p ((n:Int)+(m:Int)) _ i=iI (p r) (n:Int) m*p r ((n:Int)+(m:Int))*A (n+(m+1)+i);have d:((n:Int)+(m:Int))=((n+m:Nat):Int):=()
  rw[d];unfold im;by_cases z:i+1<r
  ·rw[if_pos z,a (i+1) z,show n+m+(i+1)=n+(m+1)+i by omega];grind
  ·rw[if_neg z,if_pos ()];have e:ar r (λj=>p j ((n+m:Nat):Int)*jV r p (n:Int) (λi=>A (n+i)) m j)=iI (p r) (n:Int) m*ar r (λj=>p j ((n+m:Nat):Int)*A (n+m+j)):=by
    rw[<-eL];refine b7 λj f=>?_;rw[a j f];grind
   rw[e,show n+(m+1)+i=n+m+r by omega];have g:ar r (λj=>p j ((n+m:Nat):Int)*A (n+m+j))=- (p r ((n+m:Nat):Int)*A (n+m+r)):=()
   rw[g];grind
theorem SG {ps us:ac}{d:aa}{a:Nat}{A:aL}{N:Nat}(o:0<us.9)(c:Crd ps a us d)(k:Keeps us.9 (pvL ps) A N)(n:Nat)(p:us.9<=a->n+a+1<=N+us.9):val (n:Int) d*A (n+a)=ar us.9 λi=>val (n:Int) (us.getD i [])*A (n+i):=by
 rcases c with ⟨f,g,h⟩|⟨f,g,h⟩
 ·have e:∀i,i<us.9->us.getD i []=if i=a then [1] else []:=λi hi=>by
   rw[g,az,aI,iy (⇑hi)];rfl
  rw[mq (i:=a) f (λj r m=>by rw[e j r,if_neg m];show (0:Int)*_=0;rw[i_]),e a f,if_pos rfl,h]
 ·have hk:=Jq k n (a+1-us.9) (by have:=p f;omega) (us.9-1) ();rw[<-GQ o]at hk;rw[h,show n+a=n+(a+1-us.9)+(us.9-1) by omega,<-hk];exact (b7 λi hi=>by rw[g i n hi]).symm
theorem Jr {m:Nat}{s:Int}{x d S:aL}(hs:s≠0)(e:∀t,t<m->x t=s*d t)(h:ar m (λt=>x t*S t)=0):ar m (λt=>d t*S t)=0:=by
 have a:ar m (λt=>x t*S t)=s*ar m λt=>d t*S t:=by
  rw[<-eL];exact b7 λt c=>by rw[e t c,cA]
 rw[a]at h;exact (i9.mp h).resolve_left hs
noncomputable def bW (x:aL) (fs:Nat->Int×Int):Nat->Int×Int
 | 0=>(0,1)
 | j+1=>((bW x fs j).1*(fs j).2+x j*(fs j).1*(bW x fs j).2,(bW x fs j).2*(fs j).2)
theorem vh {x A:aL}{fs:Nat->Int×Int}{M:Int}:∀(j:Nat),(∀i,i<j->M*(fs i).1=A i*(fs i).2)->(bW x fs j).1*M=(bW x fs j).2*ar j λi=>x i*A i
 | 0,_=>by show (0:Int)*M=1*0;rw[i_];rfl
 | j+1,h=>by
  have a:=vh (x:=x) j λi hi=>h i ();have e:=h j ();show ((bW x fs j).1*(fs j).2+x j*(fs j).1*(bW x fs j).2)*M=(bW x fs j).2*(fs j).2*(ar j (λi=>x i*A i)+x j*A j);grind
theorem vi {x:aL}{fs:Nat->Int×Int}:∀(j:Nat),(∀i,i<j->1<=(fs i).2)->1<=(bW x fs j).2
 | 0,_=>Int.le_refl 1
 | j+1,h=>by
  have a:=vi (x:=x) j λi hi=>h i ();have c:=h j ();have:=vU (show 0<(bW x fs j).2 by omega) (show 0<(fs j).2 by omega);show 1<=(bW x fs j).2*(fs j).2;omega
theorem SH {x A:aL}{fs:Nat->Int×Int}{M:Int}{j:Nat}(m0:M≠0)(h:∀i,i<j->M*(fs i).1=A i*(fs i).2)(z:ar j (λi=>x i*A i)=0):(bW x fs j).1=0:=by
 have e:=vh (x:=x) j h;rw[z,cX]at e;exact (i9.mp e).resolve_right m0
theorem SI {x A:aL}{fs:Nat->Int×Int}{M c a p q:Int}{j:Nat}(h:∀i,i<j->M*(fs i).1=A i*(fs i).2)(d:∀i,i<j->1<=(fs i).2)(n:1<=q)(e:p*((bW x fs j).2*c)=- (bW x fs j).1*q)(f:M*p=a*q):ar j (λi=>x i*A i)+c*a=0:=by
 have b:=vh (x:=x) j h;have b1:=vi (x:=x) j d;generalize bW x fs j=T at *;generalize ar j (λi=>x i*A i)=Y at *;have g:q≠0:=()
 have k:T.2≠0:=()
 have m:(Y+c*a)*(T.2*q)=0:=by
  have:M*(p*(T.2*c))=M*(- T.1*q):=by rw[e]
  have o:a*q*(T.2*c)=- (T.2*Y)*q:=by
   rw[<-f,<-b];grind
  grind
 exact (i9.mp m).resolve_right (dO k g)
def Frc (f:Int×Int):Prop:=1<=f.2/\bT f.1.8 f.2.8=1
noncomputable def gf (fs:List (Int×Int)) (i:Nat):Int×Int:=fs.getD i (0,1)
theorem vj {fs:List (Int×Int)}{z:Int×Int}{i:Nat}(h:i<fs.9):gf (fs++[z]) i=gf fs i:=by
 unfold gf;rw[az,cE h,<-az]
theorem Ca {fs:List (Int×Int)}{z:Int×Int}{j:Nat}(h:fs.9=j):gf (fs++[z]) j=z:=by
 unfold gf;rw[az,cQ (),h,gB];rfl
theorem Js {fs:List (Int×Int)}{f:Int×Int}{i:Nat}(h:fs[i]?=Zz f):gf fs i=f:=by
 unfold gf;rw[az,h];rfl
theorem Jt {x:aL}{f g:Nat->Int×Int}:∀j,(∀i,i<j->f i=g i)->bW x f j=bW x g j
 | 0,_=>rfl
 | j+1,h=>by
  simp only[bW];rw[Jt j λi hi=>h i (),h j ()]
theorem Ju {t:Int×Int}{D S:Int}(d:Frc t)(j:D≠0)(h:D*t.1=S*t.2):t.2∣D/\t.2.8<=D.8/\t.1.8<=S.8:=by
 exists d,k,e;have f:t.2.8∣D.8*t.1.8:=by
  rw[<-cc,h,cc];exact Nat.dvd_mul_left _ _
 have a:t.2.8∣D.8:=Nat.Coprime.dvd_of_dvd_mul_right (show Nat.Coprime t.2.8 t.1.8 by rw[Nat.Coprime,wc];exact e) f;have c:t.2.8<=D.8:=jC () a;refine#[iO.mp a,c,?_];have g:D.8*t.1.8=S.8*t.2.8:=by rw[<-cc,<-cc,h]
 have i:D.8*t.1.8<=D.8*S.8:=by rw[g,fq D.8];exact d_ _ c
 exact Nat.le_of_mul_le_mul_left i ()
structure FVals (ps:ac)(r:Nat)(fs:List (Int×Int)):Prop where
 fr:∀i,i<fs.9->Frc (gf fs i)
 bd:∀i,i<fs.9->Bd (210*i+10) (gf fs i).1
 E:∃E:Int,1<=E/\Bd (10*fs.9+1) E/\∀i,i<fs.9->(gf fs i).2∣E
 kp:∀n:Nat,n+r<fs.9->pvL ps r n≠0->(gf fs (n+r)).1*((bW (λi=>pvL ps i n) (λi=>gf fs (n+i)) r).2*pvL ps r n)=-(bW (λi=>pvL ps i n) (λi=>gf fs (n+i)) r).1*(gf fs (n+r)).2
theorem FVals.nil {ps:ac}{r:Nat}:FVals ps r []:=#[by simp,by simp,#[1,(),Bd.one (by simp),by simp],by simp]
theorem FVals.snoc {ps:ac}{r:Nat}{fs:List (Int×Int)}{z:Int×Int}{d:Int}(V:FVals ps r fs)(h:Frc z)(j:Bd (210*fs.9+10) z.1)(d1:1<=d)(hd:Bd 10 d)(k:∀E:Int,E≠0->(∀i,i<fs.9->(gf fs i).2∣E)->z.2∣E*d)(hk:∀n:Nat,n+r=fs.9->pvL ps r n≠0->z.1*((bW (λi=>pvL ps i n) (λi=>gf fs (n+i)) r).2*pvL ps r n)=-(bW (λi=>pvL ps i n) (λi=>gf fs (n+i)) r).1*z.2):FVals ps r (fs++[z]):=by
 have le:(fs++[z]).9=fs.9+1:=by simp
 have a:∀{P:Nat->Int×Int->Prop},(∀i,i<fs.9->P i (gf fs i))->P fs.9 z->∀i,i<(fs++[z]).9->P i (gf (fs++[z]) i):=λ{P} m o i hi=>by
  by_cases y:i<fs.9
  ·rw[vj y];exact m i y
  ·have e:fs.9=i:=()
   rw[Ca e,<-e];exact o
 exists V.E,E,p,s,c;refine#[a (P:=λ_ f=>Frc f) V.fr h,a (P:=λi f=>Bd (210*i+10) f.1) V.bd j,#[E*d,?_,?_,a (P:=λ_ f=>f.2∣E*d) (λi hi=>fV (c i hi) (kr _ _)) (k E () c)],λn u g=>?_]
 ·have:=Int.mul_le_mul p d1 () ();omega
 ·rw[le];exact (s.mul hd).mono ()
 ·rw[le]at u;have v:bW (λi=>pvL ps i n) (λi=>gf (fs++[z]) (n+i)) r=bW (λi=>pvL ps i n) (λi=>gf fs (n+i)) r:=Jt r λi hi=>vj ();rw[v];by_cases y:n+r<fs.9
  ·rw[vj y];exact V.kp n y g
  ·have e:fs.9=n+r:=()
   rw[Ca e];exact hk n e.symm g
theorem FVals.draw {ps:ac}{r:Nat}{fs:List (Int×Int)}{z:Int×Int}(V:FVals ps r fs)(a:Frc z)(hx:Bd 10 z.1)(hy:z.2.8<=4)(c:∀n:Nat,n+r=fs.9->pvL ps r n=0):FVals ps r (fs++[z]):=
 V.snoc a (hx.mono ()) a.1 (Bd.of_lt (m:=5) () ()) (λE _ _=>pJ _ _) λn d e=>absurd (c n d) e
def ovA (E:Int)(fs:List (Int×Int))(i:Nat):Int:=(gf fs i).1*(E / (gf fs i).2)
theorem Jv {E:Int}{fs:List (Int×Int)}{i:Nat}(h:(gf fs i).2∣E):E*(gf fs i).1=ovA E fs i*(gf fs i).2:=by
 unfold ovA;have:=Int.ediv_mul_cancel h
 conv=>lhs;rw[<-this]
 grind
theorem Jw {E:Int}{fs:List (Int×Int)}{i k l:Nat}(d:1<=(gf fs i).2)(a:Bd l E)(c:Bd k (gf fs i).1):Bd (k+l) (ovA E fs i):=by
 unfold ovA;refine c.mul (cx ?_ a);exact Int.natAbs_ediv_le_natAbs _ _
theorem Jx {A:aL}{b:Nat}:∀k,(∀i,i<k->Bd b (A i))->Bd (b+k) (ar k A)
 | 0,_=>Bd.zero _
 | k+1,h=>((Jx k λi hi=>h i ()).add ((h k ()).mono ())).mono ()
theorem FVals.next {ps:ac}{r n:Nat}{fs:List (Int×Int)}{z:Int×Int}(V:FVals ps r fs)(v:n+r=fs.9)(r2:r<=2)(y:fs.9<=16)(a:pvL ps r n≠0)(lb:Bd 10 (pvL ps r n))(j:∀i,i<r->Bd 43 (pvL ps i n))(f:Frc z)(e:z.1*((bW (λi=>pvL ps i n) (λi=>gf fs (n+i)) r).2*pvL ps r n)=-(bW (λi=>pvL ps i n) (λi=>gf fs (n+i)) r).1*z.2):FVals ps r (fs++[z]):=by
 have k:=vi (x:=λi=>pvL ps i n) (fs:=λi=>gf fs (n+i)) r λi hi=>(V.fr (n+i) ()).1;have c:∀E:Int,(∀i,i<fs.9->(gf fs i).2∣E)->pvL ps r n*E*z.1=-(ar r λi=>pvL ps i n*ovA E fs (n+i))*z.2:=λE g=>by
  have h:=vh (x:=λi=>pvL ps i n) (fs:=λi=>gf fs (n+i)) (M:=E) (A:=λi=>ovA E fs (n+i)) r λi hi=>Jv (g _ ());generalize bW (λi=>pvL ps i n) (λi=>gf fs (n+i)) r=W at e k h;generalize (ar r λi=>pvL ps i n*ovA E fs (n+i))=S at h ⊢;generalize pvL ps r n=l at e ⊢;refine lV (show W.2≠0 by omega) ?_;have o:W.2*(l*E*z.1)=(z.1*(W.2*l))*E:=by grind
  have p:W.2*(-S*z.2)=- (W.2*S)*z.2:=by grind
  rw[o,p,e,<-h];grind
 refine V.snoc (d:=((pvL ps r n).8:Int)) f ?_ () (by show ((pvL ps r n).8:Int).8<2 ^ 10;rw[dE];exact lb) (λE E0 g=>?_) λm C F=>?_
 ·exists V.E,E,G,s,u;have:=(Ju f (dO a (show E≠0 by omega)) (c E u)).2.2;rw[Co]at this;refine cx this ?_;have bA:∀i,i<r->Bd (210*fs.9+8) (pvL ps i n*ovA E fs (n+i)):=λi hi=>((j i hi).mul (Jw (V.fr (n+i) ()).1 s (V.bd (n+i) ()))).mono ();show Bd (210*fs.9+10) _;exact (Jx r bA).mono ()
 ·have:=(Ju f (dO a E0) (c E g)).1;rw[cT]at this;refine fV this ?_;exact Int.mul_dvd_mul (vX _) (we.mpr (vX _))
 ·have:m=n:=()
  subst this;exact e
theorem FVals.keep {ps:ac}{r:Nat}{fs:List (Int×Int)}(V:FVals ps r fs)(dead:∀n:Nat,pvL ps r n=0->∀i,i<r->pvL ps i n=0):∃(E:Int)(A:aL),1<=E/\Bd (10*fs.9+1) E/\(∀i,i<fs.9->E*(gf fs i).1=A i*(gf fs i).2)/\(∀i,i<fs.9->Bd (220*fs.9+11) (A i))/\Keeps r (pvL ps) A (fs.9-r):=by
 exists V.E,E,d,c,e;have a:∀i,i<fs.9->E*(gf fs i).1=ovA E fs i*(gf fs i).2:=λi hi=>Jv (e i hi);refine#[E,ovA E fs,d,c,a,λi hi=>(Jw (V.fr i hi).1 c (V.bd i hi)).mono (),λn f=>?_];show ar r (λi=>pvL ps i n*ovA E fs (n+i))+pvL ps r n*ovA E fs (n+r)=0;by_cases z:pvL ps r n=0
 ·rw[z,i_,pF];exact fQ λi hi=>by rw[dead n z i hi,i_]
 ·exact SI (x:=λi=>pvL ps i n) (fs:=λi=>gf fs (n+i)) (M:=E) (A:=λi=>ovA E fs (n+i)) (λi hi=>a _ ()) (λi hi=>(V.fr _ ()).1) (V.fr (n+r) ()).1 (V.kp n () z) (a _ ())
theorem SJ {E S A:Int}{s f t:Int×Int}(g:1<=s.2)(h:1<=f.2)(hs:E*s.1=S*s.2)(a:E*f.1=A*f.2)(c:t.1*(s.2*f.2)=(s.1*f.2+f.1*s.2)*t.2):E*t.1=(S+A)*t.2:=by
 refine lV (show s.2*f.2≠0 from dO () ()) ?_;have d:s.2*f.2*(E*t.1)=E*(t.1*(s.2*f.2)):=by grind
 have e:E*((s.1*f.2+f.1*s.2)*t.2)=(E*s.1)*f.2*t.2+(E*f.1)*s.2*t.2:=by grind
 rw[d,c,e,hs,a];grind
def mkT (H:Hp)(Q:VK)(x y:Int):Prop:=∀p,H p=Zy->Q (.ref p) (upd H p (.tup [.int x,.int y]))
structure TH (H:Hp)(as:am)(fs:List (Int×Int)):Prop where
 len:as.9=fs.9
 get:∀(i:Nat)(a:Addr)(f:Int×Int),as[i]?=Zz a->fs[i]?=Zz f->H a=Zz (.tup [.int f.1,.int f.2])
theorem TH.same {H c:Hp}{as:am}{fs:List (Int×Int)}(h:TH H as fs)(s:Same H c):TH c as fs:=#[h.len,λi a f d e=>s _ _ (h.get i a f d e)]
theorem TH.nil (H:Hp):TH H [] []:=#[rfl,λi a f c _=>by simp at c]
theorem TH.snoc {H:Hp}{as:am}{fs:List (Int×Int)}{a:Addr}{f:Int×Int}(h:TH H as fs)(e:H a=Zz (.tup [.int f.1,.int f.2])):TH H (as++[a]) (fs++[f]):=by
 refine#[by simp[h.len],λi b r c d=>?_];by_cases z:i<as.9
 ·rw[cE z]at c;rw[cE #v[<-h.len,z]]at d;exact h.get i b r c d
 ·rw[cQ ()]at c;rw[cQ (by rw[<-h.len];omega),<-h.len]at d;have g:i-as.9=0:=by
   rcases Lr (i-as.9) with y|y
   ·exact y
   ·rw[iN (by simp;omega)]at c;cases c
  rw[g]at c d;simp at c d;rw[<-c,<-d];exact e
theorem TH.upd {H:Hp}{as:am}{fs:List (Int×Int)}{D:Addr}{ys c:List V}(h:TH H as fs)(d:H D=Zz (.lst ys)):TH (Zx H D (.lst c)) as fs:=by
 refine#[h.len,λi a f g j=>?_];have e:=h.get i a f g j;rw[aE (λz=>by rw[z,d]at e;cases e)];exact e
def SK:Sp:=λvs H Q _=>∃t b:Int,vs=[.int t,.int b]/\b≠0/\Bd 8900 b/\∀x y:Int,1<=y->bT x.8 y.8=1->x*b=t*y->x.8<=t.8->y.8<=b.8->mkT H Q x y
theorem vk:FnOk P w K mg base CX0 2 T.Ud.ax T.Ud.dx ["_law_top","_law_bottom"] SK:=by
 refine T.Ud.Fx.ok Bg (λp H Q E h=>?_) (λr A outer s H p Q E u h=>?_)
 ·exists h,t,b,rfl,_;rfl
 exists h,t,b,rfl,v,z,q;refine#[_,s!"ɰƍɧƎɁõ ƏƐƑ˵ʗxɈɑ̍ƍȼɜɉʒqɒ´ȿɉɒ´Ɉɉ$",?_]
 k_units
 refine#[t,b,rfl,?_];have a:∀s:Int,s.8=bT t.8 b.8->s.8<2 ^ 9000:=λs e=>by
  rw[e];exact cx (Nat.gcd_le_right _ ()) (cI z (fu () ()))
 have d:∀s:Int,(s=if b<0 then -((bT t.8 b.8:Nat):Int) else ((bT t.8 b.8:Nat):Int))->(s≠0/\s.8<2 ^ 9000)/\(s≠0/\s.8<2 ^ 9000)/\mkT H Q (t.fdiv s) (b.fdiv s):=λs e=>by
  exists OJ v e,j,n,o,k,C,F;refine#[#[j,a s n],#[j,a s n],q _ _ C F ?_ (Gk j o) (Gk j k)];rw[cT,k,cA,<-k];generalize b.fdiv s=y at *;generalize t.fdiv s=x at *;rw[o,cA,cT x y]
 refine bU (λc=>?_) (λc=>?_)
 ·obtain⟨f,g,m⟩:=d _ (by rw[if_pos c]);exact#[_,rfl,f.1,f.2,g.1,g.2,(),m]
 ·obtain⟨f,g,m⟩:=d _ (by rw[if_neg c]);exact#[_,rfl,f.1,f.2,_,rfl,g.1,g.2,(),m]
def Jy (K:ao):Sp:=λvs H Q _=>∃(D:Addr)(cs:am)(ds:ac)(n:Nat),vs=[.ref D,.int (n:Int)]/\H D=Zz (.lst (cs.map Z'))/\LH H cs ds/\0<ds.9/\ds.9<=n+1/\n<=900/\(∀d∈ds,Nml d/\d.9<=20)/\(∃p0 t0,ds.getLast?=Zz (p0++[t0])/\0<t0)/\(∀s:Nat,Prm s->(∀u∈ds,∀j,(s:Int)∣co u j)->False)/\∀H',Same H H'->Q (.bl true) H'
theorem Jz:FnOk P w K mg base CX0 3 T.UB.ax T.UB.dx ["_law_found","_law_order"] (Jy K):=by
 refine T.UB.Fx.ok oN (λvs H Q E h=>?_) (λu0 A outer s H vs Q E hr h=>?_)
 ·exists h,D,cs,ds,n,rfl,_;rfl
 exists h,D,cs,ds,n,rfl,J,C,d0,dn,n9,x0,#[p0,t0,top,t1],prm,q;refine#[_,s!"ˮʿ:ă ĄąȺ(#Ć£ćƒ˒̴¥ʓʍɑ¥=iʍʵɈɑ³=ŁȬ˞ɺɆɅ̙ɰĈʞ̭˅Ĉȼmʕ¥ʿ:ă Ąąʖ#Ć£ćƒ˒̴³ḡɔ4$˧ʓɊɓɼʧ̙/ɞTɓɗ9Ĉȼˮʿ:ă Ąąʩ#Ć£ćȭ Ȯȯ̴³u:ă Ąąʩ#Ć£ćȰ ȱȲ ʎ̙̍ĈɧƎɐƏƐƑˏʩʎȳÈ^ɉɑƂÈiɊ˞̯",?_]
 w_up
 have ne:ds≠[]:=λz=>by rw[z]at d0;simp at d0
 refine#[_,.lst J,true,rfl,?_];rw[if_neg ()];refine#[_,.inl (Zw J),?_];rw[af,C.len,if_neg ()];refine#[_,.inl (Zw J),?_];rw[af,C.len,if_neg ()];exists (C.ll (K:=K)).lastAt ne,La,lst,O,_,gL,R;rw[top]at gL
 cases gL
 refine#[_,Zw J,_,O,(),λp np=>?_];have u:=aB np (.lst []);refine#[_,DV.ints (u.seq R),_,DV.ints (ns:=[]) (Zw ak),vg _,vg _,Jo _,?_];rw[Jn,if_neg (by simp)];have f:=u _ _ J;have S:=C.same u;generalize Zx H p (.lst [])=H1 at u f S ⊢
 w_up
 w_up
 obtain⟨Pv,a⟩:∃Pv:Nat->L2.St->Hp->Prop,∀i σ o,Pv i σ o↔∃(g:Nat)(r3 m:Option V),σ=[Zz (Z' D),Zz (V' n),Zz (V' (g:Int)),r3,m]/\o=H1/\∀t,t<i->∀j,(g:Int)∣co (ds.getD t []) j:=#[_,λ_ _ _=>Iff.rfl]
 refine#[#[_,Zw f],jQ (xs:=cs.map Z') Pv ((a _ _ _).mpr #[0,Zy,Zy,rfl,rfl,λt F=>by omega]) (λi σ o _ z=>by exists (a i σ o).mp z,_,_,_,_,rfl,_;exact Zw f) ?_ ?_]
 ·intro i v σ o U r;exists (a _ _ _).mp r,g,r3,m,rfl,rfl,Y;rw[aI]at U;exists de.mp U,b,hb,rfl;have hi:i<ds.9:=by have:=(aZ.mp hb).1;rw[C.len]at this;exact this
  have hd:ds[i]?=Zz (ds.getD i []):=by rw[az,aq hi];rfl
  have G:=S.get i b _ hb hd;exists x0 _ (b4 hd),nd,ld;generalize y0:ds.getD i []=d at hd G nd ld
  w_up
  obtain⟨M,hM⟩:∃M:L2.St->Hp->Prop,∀σ Z,M σ Z↔σ=[Zz (Z' D),Zz (V' n),Zz (V' (g:Int)),Zz (Z' b),m]/\Z=o:=#[_,λ_ _=>Iff.rfl]
  w_left;refine gq M ?_ ?_
  ·w_left;k_units
   refine#[_,.lst G,true,rfl,?_];rw[if_neg ()];refine#[_,.inl (Zw G),?_];rw[af];refine bU (λh=>?_) (λh=>(hM _ _).mpr #[rfl,rfl]);have X:d≠[]:=by intro z;rw[z]at h;simp at h
   refine#[_,Zw G,_,jS X,?_]
   w_left;k_units
   rw[if_neg (eK.mp nd _ (mW X))];exact (hM _ _).mpr #[rfl,rfl]
  intro σ Z hm;obtain⟨rfl,rfl⟩:=(hM _ _).mp hm
  k_typeOf
  obtain⟨Pw,c⟩:∃Pw:Nat->L2.St->Hp->Prop,∀k σ I,Pw k σ I↔∃(g:Nat)(m:Option V),σ=[Zz (Z' D),Zz (V' n),Zz (V' (g:Int)),Zz (Z' b),m]/\I=Z/\(∀t,t<i->∀j,(g:Int)∣co (ds.getD t []) j)/\∀j,j<k->(g:Int)∣co d j:=#[_,λ_ _ _=>Iff.rfl]
  refine#[#[_,Zw G],jQ (xs:=d.map V') Pw ((c _ _ _).mpr #[g,m,rfl,rfl,Y,λj hj=>by omega]) (λk σ I _ z=>by exists (c k σ I).mp z,_,_,_,rfl,_;exact Zw G) ?_ ?_]
  ·intro k v σ I U r;exists (c _ _ _).mp r,g2,m,rfl,rfl,h1,h2;rw[aI]at U;obtain⟨x,hx,rfl⟩:=de.mp U
   w_left;k_units
   refine#[_,.int _,true,rfl,?_];rw[if_neg ()];refine#[_,.int _,false,rfl,?_];rw[if_neg ()];refine#[_,_,rfl,(c _ _ _).mpr #[_,_,rfl,rfl,λt F j=>?_,λj hj=>?_]]
   ·exact fV (iw.mpr (kq _ _)) (h1 t F j)
   ·by_cases z:j<k
    ·exact fV (iw.mpr (kq _ _)) (h2 j z)
    ·have e:j=k:=()
     subst e;exists aZ.mp hx,z0,ex;rw[aP z0,ex];exact nj.mpr (lJ _ _)
  ·intro σ I r;exists (c _ _ _).mp r,g2,m,rfl,rfl,h1,h2;refine (a _ _ _).mpr #[g2,_,_,rfl,rfl,λt F j=>?_];by_cases z:t<i
   ·exact h1 t z j
   ·have e:t=i:=()
    subst e;rw[y0];by_cases y:j<d.9
    ·exact h2 j #v[af,y]
    ·rw[aF ()];exact pI _
 ·intro σ o r;obtain⟨g,r3,m,rfl,rfl,Y⟩:=(a _ _ _).mp r
  w_left;k_units
  rw[af,C.len]at Y;have all:∀d∈ds,∀j,(g:Int)∣co d j:=λd hd j=>by
   exists cU.mp hd,t,F,rfl;have:=Y t F j
   rwa [az,aq F]at this
  have g1:g=1:=Classical.byContradiction λz=>by
   obtain⟨s,s1,s2⟩:∃s,s∣g/\Prm s:=by
    by_cases y:g=0
    ·exact#[2,#v[y,Nat.dvd_zero _],Gs]
    ·exact AV g ()
   exact prm s s2 λu hu j=>fV (iw.mpr s1) (all u hu j)
  rw[g1,if_pos ()];have z:p0++[t0]≠[]:=by simp
  refine#[_,Zw f,_,O,La,rfl,_,u.seq R,_,jS z,_,rfl,?_];rw[show (p0++[t0]).getLast z=t0 by simp,decide_eq_true t1];exact q o u
def JA (K:ao):Sp:=λvs H Q _=>∃(D S:Addr)(cs bs:am)(ds:ac)(fs:List (Int×Int)),vs=[.ref D,.ref S]/\SqL K H D (cs.map Z')/\LL K H cs ds/\H S=Zz (.lst (bs.map Z'))/\TH H bs fs/\0<ds.9/\ds.9<=5/\fs.9<=16/\(∀d∈ds,d.9<=20/\∀x∈d,Bd 600 x)/\(∀f∈fs,Bd 6400 f.1/\Bd 330 f.2)/\(∀n,n+ds.9<=fs.9->(bW (λi=>val (n:Int) (ds.getD i [])) (λi=>gf fs (n+i)) ds.9).1=0)/\Q (.bl true) H
theorem vm:FnOk P w K mg base CX0 3 T.Ue.ax T.Ue.dx ["_law_rule_here","_law_values_here"] (JA K):=by
 refine T.Ue.Fx.ok ju (λvs H Q E h=>?_) (λx0 A outer s H vs Q E hr h=>?_)
 ·exists h,D,S,v,bs,ds,fs,rfl,_;rfl
 exists h,D,S,v,bs,ds,fs,rfl,hD,x,hS,hT,d0,d4,y0,F,G,z0,q;refine#[_,s!"ɰ»˷ʍ%ʹʋ˃ɉ$˅»ȼʑ»ʞˆ»ʞʹʈɉ˰C»ȼ˲»ȼɊɈʵɓɱɂʑ»˳ɦɘ˝ɦɦɃłɐŃńŅɥʅɱɂ˚˝ɾɲ@»ɛMɾ˝/ɯÄɘʧ¤ʒ¤",?_]
 obtain⟨k,hk⟩:∃k:Nat,ds.9=k+1:=#[ds.9-1,()]
 w_up
 refine#[_,.inl hD,?_];rw[af,x.len,show (ds.9:Int)-1=(k:Int) by omega]
 w_up
 refine#[_,.inl (Zw hS),?_];rw[af,hT.len];refine#[(),(),?_];obtain⟨N,hN⟩:∃N:Nat,((fs.9:Int)-(k:Int)).toNat=N:=#[_,rfl]
 rw[hN];obtain⟨I,a⟩:∃I:Nat->L2.St->Hp->Prop,∀i σ r,I i σ r↔∃(J M O d e:Option V),σ=[Zz (Z' D),Zz (Z' S),Zz (V' k),J,M,O,d,e]/\r=H:=#[_,λ_ _ _=>Iff.rfl]
 refine iC I ((a _ _ _).mpr #[Zy,Zy,Zy,Zy,Zy,rfl,rfl]) ?_ ?_
 ·intro n σ r hn f;exists (a _ _ _).mp f,J,M,O,d,e,rfl,rfl;rw[show (0:Int)+(n:Int)=(n:Int) by omega]
  w_up
  w_up
  w_up
  have nk:n+ds.9<=fs.9:=()
  have z1:=z0 n nk;rw[hk]at z1;refine#[(),(),?_];rw[show ((k:Int)+1).toNat=k+1 by omega];obtain⟨R,c⟩:∃R:Nat->L2.St->Hp->Prop,∀j σ y,R j σ y↔∃(d e:Option V),σ=[Zz (Z' D),Zz (Z' S),Zz (V' k),Zz (V' (n:Int)),Zz (V' (bW (λi=>val (n:Int) (ds.getD i [])) (λi=>gf fs (n+i)) j).1),Zz (V' (bW (λi=>val (n:Int) (ds.getD i [])) (λi=>gf fs (n+i)) j).2),d,e]/\y=r/\Bd (331*j+7000) (bW (λi=>val (n:Int) (ds.getD i [])) (λi=>gf fs (n+i)) j).1/\Bd (330*j+1) (bW (λi=>val (n:Int) (ds.getD i [])) (λi=>gf fs (n+i)) j).2:=#[_,λ_ _ _=>Iff.rfl]
  refine iC R ((c _ _ _).mpr #[_,_,rfl,rfl,Bd.zero _,Bd.one ()]) ?_ ?_
  ·intro j σ y hj f;obtain⟨d,e,rfl,rfl,b1,b2⟩:=(c _ _ _).mp f
   w_left;k_units
   have U:n+j<fs.9:=()
   have ge:fs[n+j]?=Zz (gf fs (n+j)):=by unfold gf;rw[az,aq U];rfl
   have g:bs[n+j]?=Zz (bs[n+j]'(#v[hT.len,U])):=aq _;generalize bs[n+j]'(#v[hT.len,U])=b5 at g;have X:=SqT.of (K:=K) (hT.get (n+j) b5 _ g ge);have u:ds[j]?=Zz (ds.getD j []):=by rw[az,aq ()];rfl
   have o:v[j]?=Zz (v[j]'(by rw[x.len];omega)):=aq _;generalize v[j]'(by rw[x.len];omega)=pa at o;have Y:=x.get j pa _ o u;have p:=F _ (b4 u);exists G _ (b4 ge),Z,z;have xj:Bd 750 (val (n:Int) (ds.getD j [])):=(j_ (k:=600) (l:=5) (n:=(n:Int)) (Bd.of_lt (m:=17) () ()) _ p.2).mono (by have:=p.1;omega);have i1:(n:Int)+(0+(j:Int))=((n+j:Nat):Int):=()
   have i2:(0:Int)+(j:Int)=((j:Nat):Int):=()
   have C:bW (λi=>val (n:Int) (ds.getD i [])) (λi=>gf fs (n+i)) (j+1)=((bW (λi=>val (n:Int) (ds.getD i [])) (λi=>gf fs (n+i)) j).1*(gf fs (n+j)).2+val (n:Int) (ds.getD j [])*(gf fs (n+j)).1*(bW (λi=>val (n:Int) (ds.getD i [])) (λi=>gf fs (n+i)) j).2,(bW (λi=>val (n:Int) (ds.getD i [])) (λi=>gf fs (n+i)) j).2*(gf fs (n+j)).2):=rfl;generalize bW (λi=>val (n:Int) (ds.getD i [])) (λi=>gf fs (n+i)) j=W at b1 b2 C ⊢;refine#[_,Zw hS,_,(by rw[i1];exact f8 (by rw[aI,g];rfl)),b5,rfl,_,X,_,rfl,_,rfl,b1.fits z (),_,hD,_,(by rw[i2];exact f8 (by rw[aI,o];rfl)),pa,_,_,600,5,rfl,Y,(),p.2,Bd.of_lt (m:=17) () (),(),b5,rfl,_,X,_,rfl,_,rfl,_,rfl,xj.fits Z (),(xj.mul Z).fits b2 (),b5,rfl,_,X,_,rfl,_,rfl,b2.fits z (),(c _ _ _).mpr #[Zz (V' (0+(j:Int))),Zz (Z' b5),by rw[C],rfl,?_,?_]]
   ·rw[C];exact (((b1.mul z).mono (show _<=331*j+7330 by omega)).add (((xj.mul Z).mul b2).mono ())).mono ()
   ·rw[C];exact (b2.mul z).mono ()
  ·intro σ y f;exists (c _ _ _).mp f,d,e,rfl,rfl,b1,b2;rw[z1]
   w_left;k_units
   rw[if_neg (by simp)];exact (a _ _ _).mpr #[_,_,_,_,_,rfl,rfl]
 ·intro σ r f;obtain⟨J,M,O,d,e,rfl,rfl⟩:=(a _ _ _).mp f
  w_left;k_units
  exact q
theorem SL {n:Nat}{ns:aa}{o:List (Nat×Str)}{p:TE}{Q:VK}{σ:L2.St}{d:Hp}{D:Addr}(g:d D=Zy)(hd:ns.9=n)(y:n<=900)(hs:∀(i:Nat)(v:Int)(a:Hp)(R:VK),i<n->ns[i]?=Zz v->Same d a->(∀r,Same a r->R (.int v) r)->p (bst o σ (Zz (V' (0+(i:Int))))) a R)(x:eI d Q (ns.map V')):jP (Itr 0 n) o p Q σ d D:=by
 obtain⟨h,c⟩:∃h:cB,∀j a,h j a↔a D=Zz (.lst ((ns.take j).map V'))/\Same d a:=#[_,λ_ _=>Iff.rfl]
 refine sO h ((c _ _).mpr #[ak,aB g _]) ?_ ?_
 ·intro j a k m;exists (c _ _).mp m,e,f;have s:j<ns.9:=()
  refine hs j _ a _ k (aq s) f λz u=>?_;refine#[_,u _ _ e,#v[af,bV,bO ()],(c _ _).mpr #[?_,(f.trans u).more g]];rw[ak,<-TX s,aR];rfl
 intro a m;exists (c _ _).mp m,e,f;rw[<-hd,fy]at e;exact x D a f g e
def SM (K:ao):Sp:=λvs H Q _=>∃(a R:Addr)(ns:aa)(as:am)(ps:ac)(r t:Nat),vs=[.ref a,.int (t:Int),.ref R]/\SqL K H a (ns.map V')/\SqL K H R (as.map Z')/\LL K H as ps/\RuleL ps/\ps.9=r+1/\∀fs,FVals ps r fs->fs.9=16->∀(D:Addr)(bs:am)(H':Hp),Same H H'->H D=Zy->H' D=Zz (.lst (bs.map Z'))->TH H' bs fs->Q (.ref D) H'
theorem JB:FnOk P w K mg base CX0 3 T.UA.ax T.UA.dx ["_law_script","_law_start","_law_rule_here"] (SM K):=by
 refine T.UA.Fx.ok gr (λvs H Q E h=>?_) (λz3 A outer s H vs Q E hr h=>?_)
 ·exists h,a,R,ns,as,f,r,t,rfl,_;rfl
 exists h,a,R,ns,as,f,r,t,rfl,hS,hR,hL,RL,lp,q;have r2:r<=2:=by have:=RL.ok.2.1;omega
 refine#[_,s!"ɿs˷˄%˘9ɤɪʀ(ȴɷ],ȵ̡ɭʉÏɐ̘ʯʈɉȿ$sɢ˘@ɤʙ̛ɘÕÖɓʉĉɐĊċČȾʋʥȿʪʈ%ˢȿ%ʌsɢ˛x̱ɑʨs˷̱ɓ˲sɧłɐŃńŅɥʶɼˎ̐sʞɀasʞʹ˚ɗrsȼɀ¼sȼɊɾʵɱˀ̐s˷ɦ̑ɣ!¼ɇɦɦɃłɐŃńŅɥʶˀˎɣ!¼ɇʘɲasɛMʘɣ!¼ɇ˿^ʊɑ̐s˷ʥɊɘ̱ɂʪɀas˳%ˢɊɘ̱ɂʪɲQsʞG̪ɾʢĉɐĊċČɄd̖ʘʊ$ʎɾ",?_]
 w_up
 refine#[_,.inl hR,?_];rw[af,hL.len,show (f.9:Int)-1=(r:Int) by omega]
 w_up
 obtain⟨Z,x1,lc⟩:∃Z:aa,Z=(aM 18).map (λi=>cell ns (t+i))/\Z.9=18:=#[_,rfl,by simp]
 refine#[(),(),λC nC=>SL (ns:=Z) nC lc () (λi v u R' hi hv sx hQ=>?_) ?_]
 ·w_left;simp![bst]
  refine#[_,rfl,_,rfl,_,rfl,?_];rw[show (t:Int)+(0+(i:Int))=((t+i:Nat):Int) by omega];refine#[a,ns,t+i,rfl,sx.seq hS,?_];have e:v=cell ns (t+i):=by
   rw[x1,aI,iy (show i<18 from hi)]at hv;exact (Zv hv).symm
  rw[<-e];exact hQ _ (Same.refl _)
 intro C' H1 u1 u3 eC
 w_up
 refine#[_,Zw eC,λp np=>?_];obtain⟨es,z1,le⟩:∃es:aa,fG (Z.map V') Zy (Zz (r:Int))=es.map V'/\es.9=r:=by
  refine#[_,FM Z _ _,?_];rw[bV,pu];unfold HT.sIx;simp;rw[if_neg ()];omega
 rw[z1];have u2:=aB np (.lst (es.map V'));have ep:=ak (H:=H1) (a:=p) (o:=.lst (es.map V'));have s2:=u1.trans u2;have v0:=u2 _ _ eC;generalize Zx H1 p (.lst (es.map V'))=H2 at u2 ep s2 v0 ⊢;refine#[#[_,Zw ep],λD nD=>?_];obtain⟨Pc,J⟩:∃Pc:cB,∀j u,Pc j u↔∃(bs:am)(fs:List (Int×Int)),u D=Zz (.lst (bs.map Z'))/\TH u bs fs/\fs.9=j/\FVals f r fs/\Same H2 u:=#[_,λ_ _=>Iff.rfl]
 have draw:∀(c:Int)(bs:am)(fs:List (Int×Int))(x y:Int)(u:Hp)(X:Addr),u D=Zz (.lst (bs.map Z'))->TH u bs fs->FVals f r (fs++[(x,y)])->fs.9<=16->Same H2 u->u X=Zy->∃ys,Zx u X (.tup [.int x,.int y]) D=Zz (.lst ys)/\ys.9<sizeLine/\Pc (fs.9+1) (Zx (Zx u X (.tup [.int x,.int y])) D (.lst (ys++[Z' X]))):=λc bs fs x y u X F hT O lf Y S=>by
  have u5:=aB S (.tup [.int x,.int y]);have e5:=u5 _ _ F;have lb:=hT.len;exact#[_,e5,#v[af,bO ()],(J _ _).mpr #[bs++[X],fs++[(x,y)],by rw[ak];simp,((hT.same u5).snoc ak).upd e5,by simp,O,(Y.trans u5).more nD]]
 refine ff (xs:=es.map V') Pc ((J _ _).mpr #[[],[],ak,TH.nil _,rfl,FVals.nil,aB nD _]) (λi u _ z=>by exists (J i u).mp z,_,_,_,_,_,_,z;exact Zw (z _ _ ep)) ?_ ?_
 ·intro j v u hv hc;exists (J _ _).mp hc,bs,fs,F,hT,lf,O,Y;rw[aI]at hv;exists de.mp hv,c,hc,rfl;have hj:=(aZ.mp hc).1
  w_left;simp![bst]
  refine#[(),#[(),()],(),_,_,rfl,(),Bd.of_lt (m:=5) () (aQ (show 5<=2 ^ 3 by decide) (fu () ())),λx y y1 g e lx ly X S=>?_];rw[<-lf];exact draw c bs fs x y u X F hT (O.draw #[y1,g] (Bd.of_lt (m:=10) (by show x.8<10;omega) ()) (by show y.8<=4;omega) λn hn=>by omega) () Y S
 intro H3 hc;exists (J _ _).mp hc,bs,fs,F,hT,lf,O,Y;rw[af,le]at lf;have fD:H D=Zy:=s2.free nD
 w_up
 obtain⟨Pu,y0⟩:∃Pu:Nat->L2.St->Hp->Prop,∀m' σ u,Pu m' σ u↔∃(bs:am)(fs:List (Int×Int))(r6 r7 r8 r9 G I:Option V),σ=[Zz (Z' a),Zz (V' (t:Int)),Zz (Z' R),Zz (V' r),Zz (Z' C'),Zz (Z' D),r6,r7,r8,r9,G,I]/\u D=Zz (.lst (bs.map Z'))/\TH u bs fs/\r<=fs.9/\fs.9+m'=16/\FVals f r fs/\Same H2 u:=#[_,λ_ _ _=>Iff.rfl]
 refine ig Pu (16-r) ((y0 _ _ _).mpr #[bs,fs,Zy,Zy,Zy,Zy,Zy,Zy,rfl,F,hT,(),(),O,Y]) ?_;clear F hT lf O Y;intro m' σ u hu;exists (y0 _ _ _).mp hu,bs,fs,r6,r7,r8,r9,G,I,rfl,F,hT,lr,lf,O,Y;have lb:=hT.len
 w_left;k_units
 refine#[_,.inl (Zw F),?_];rw[af,lb];have sH:=s2.trans Y;refine bU (λh=>#[λv1 H'=>Pu (m'-1) v1 H',λ_ _ z=>#[m'-1,(),z],_,.inl (Zw F),?_]) (λh=>q fs O () D bs u sH fD F hT);obtain⟨n,hn⟩:∃n:Nat,fs.9=n+r:=#[fs.9-r,()]
 have m1:n<=16:=()
 have en:(fs.9:Int)-(r:Int)=(n:Int):=()
 rw[af,lb,en];exists hL.lastAt RL.ok.1.1,La,lst,x2,_,gL,y2;have z2:lst=f.getD r []:=by
  rw[gi,show f.9-1=r by omega]at gL;exact (getD_some gL).symm
 have v2:=RL.ok.2.2 lst (me gL);refine#[_,sH.seq hR,_,x2,La,lst,_,60,5,rfl,sH.seq y2,(),v2.2,Bd.of_lt (m:=17) () (),(),(),(),?_];obtain⟨l,hl⟩:∃l:Int,val (n:Int) lst=l:=#[_,rfl]
 have U:l=pvL f r (n:Int):=by rw[<-hl,z2];rfl
 rw[hl,i5];have xb:∀j,Bd 43 (pvL f j (n:Int)):=λj=>by
  refine (j_ (k:=25) (l:=5) (n:=(n:Int)) (Bd.of_lt (m:=17) () ()) (f.getD j []) λy hy=>?_).mono ?_
  ·by_cases z:j<f.9
   ·exact Bd.of_lt (m:=30000011) (by have:=RL.bd _ (mem_getD z) y hy;omega) ()
   ·rw[az,iN ()]at hy;simp at hy
  ·by_cases z:j<f.9
   ·have:=(RL.ok.2.2 _ (mem_getD (d:=[]) z)).1;omega
   ·rw[az,iN ()];simp
 exists O.E,Ee,E1,Eb,Ed;have gb:∀k,k<fs.9->Bd 3210 (gf fs k).1/\Bd 161 (gf fs k).2:=λk hk=>#[(O.bd k hk).mono (),cx (jC () (iO.mpr (Ed k hk))) (Eb.mono ())]
 obtain⟨Pw,x0⟩:∃Pw:Nat->L2.St->Hp->Prop,∀j σ Hz,Pw j σ Hz↔∃(G I:Option V),σ=[Zz (Z' a),Zz (V' (t:Int)),Zz (Z' R),Zz (V' r),Zz (Z' C'),Zz (Z' D),Zz (V' (n:Int)),Zz (V' l),Zz (V' (-(bW (λj=>pvL f j (n:Int)) (λj=>gf fs (n+j)) j).1)),Zz (V' (bW (λj=>pvL f j (n:Int)) (λj=>gf fs (n+j)) j).2),G,I]/\Hz=u/\Bd (4000*j+1) (bW (λj=>pvL f j (n:Int)) (λj=>gf fs (n+j)) j).1/\Bd (161*j+1) (bW (λj=>pvL f j (n:Int)) (λj=>gf fs (n+j)) j).2:=#[_,λ_ _ _=>Iff.rfl]
 refine iC Pw ((x0 _ _ _).mpr #[_,_,rfl,rfl,Bd.zero _,Bd.one ()]) ?_ ?_
 ·intro j σ Hz hj hp;obtain⟨G,I,rfl,rfl,b1,b2⟩:=(x0 _ _ _).mp hp
  w_left;k_units
  have hk:n+j<fs.9:=()
  have ge:fs[n+j]?=Zz (gf fs (n+j)):=by unfold gf;rw[az,aq hk];rfl
  have z0:bs[n+j]?=Zz (bs[n+j]'()):=aq _;generalize bs[n+j]'()=b5 at z0;have et:=SqT.of (K:=K) (hT.get (n+j) b5 _ z0 ge);have j0:f[j]?=Zz (f.getD j []):=by rw[az,aq ()];rfl
  have u0:as[j]?=Zz (as[j]'(by have:=hL.len;omega)):=aq _;generalize as[j]'(by have:=hL.len;omega)=pa at u0;have m2:=sH.seq (hL.get j pa _ u0 j0);have n2:=RL.ok.2.2 _ (b4 j0);exists gb (n+j) hk,g1,g2;have xj:Bd 43 (val (n:Int) (f.getD j [])):=xb j;have i1:(n:Int)+(0+(j:Int))=((n+j:Nat):Int):=()
  have i2:(0:Int)+(j:Int)=((j:Nat):Int):=()
  have wj:bW (λj=>pvL f j (n:Int)) (λj=>gf fs (n+j)) (j+1)=((bW (λj=>pvL f j (n:Int)) (λj=>gf fs (n+j)) j).1*(gf fs (n+j)).2+val (n:Int) (f.getD j [])*(gf fs (n+j)).1*(bW (λj=>pvL f j (n:Int)) (λj=>gf fs (n+j)) j).2,(bW (λj=>pvL f j (n:Int)) (λj=>gf fs (n+j)) j).2*(gf fs (n+j)).2):=rfl;generalize bW (λj=>pvL f j (n:Int)) (λj=>gf fs (n+j)) j=W at b1 b2 wj ⊢;refine#[_,Zw F,_,(by rw[i1];exact f8 (by rw[aI,z0];rfl)),b5,rfl,_,et,_,rfl,_,rfl,b1.neg.fits g2 (),_,sH.seq hR,_,(by rw[i2];exact f8 (by rw[aI,u0];rfl)),pa,_,_,60,5,rfl,m2,(),n2.2,Bd.of_lt (m:=17) () (),(),b5,rfl,_,et,_,rfl,_,rfl,_,rfl,xj.fits g1 (),(xj.mul g1).fits b2 (),b5,rfl,_,et,_,rfl,_,rfl,b2.fits g2 (),(x0 _ _ _).mpr #[Zz (V' (0+(j:Int))),Zz (Z' b5),?_,rfl,?_,?_]]
  ·rw[wj,show -W.1*(gf fs (n+j)).2-val (n:Int) (f.getD j [])*(gf fs (n+j)).1*W.2=-(W.1*(gf fs (n+j)).2+val (n:Int) (f.getD j [])*(gf fs (n+j)).1*W.2) by grind]
  ·rw[wj];exact (((b1.mul g2).mono (show _<=4000*j+4000 by omega)).add (((xj.mul g1).mul b2).mono ())).mono ()
  ·rw[wj];exact (b2.mul g2).mono ()
 intro σ Hz hp;exists (x0 _ _ _).mp hp,G,I,rfl,rfl,b1,b2;have k0:Bd 10 l:=by rw[U];have:=RL.lb n m1;rw[lp,ma]at this;exact this
 have wp:=vi (x:=λj=>pvL f j (n:Int)) (fs:=λj=>gf fs (n+j)) r λk hk=>(O.fr (n+k) ()).1;obtain⟨M,hM⟩:∃M:L2.St->Hp->Prop,∀σ Hy,M σ Hy↔∃(t0 b0 l0:Int),σ=[Zz (Z' a),Zz (V' (t:Int)),Zz (Z' R),Zz (V' r),Zz (Z' C'),Zz (Z' D),Zz (V' (n:Int)),Zz (V' l0),Zz (V' t0),Zz (V' b0),G,I]/\Hy=Hz/\b0*l0≠0/\Bd 400 b0/\Bd 10 l0/\∀z:Int×Int,Frc z->z.1*(b0*l0)=t0*z.2->z.1.8<=t0.8->z.2.8<=(b0*l0).8->FVals f r (fs++[z]):=#[_,λ_ _=>Iff.rfl]
 w_left;refine gq M ?_ ?_
 ·w_left;k_units
  refine bU (λh0=>?_) (λh0=>(hM _ _).mpr #[_,_,l,rfl,rfl,dO () h0,b2.mono (),k0,λz hz e _ _=>O.next (n:=n) () r2 () #v[<-U,h0] #v[<-U,k0] (λk _=>xb k) hz #v[<-U,e]]);have ec:atI (Z.map V') (fs.9:Int)=Zz (V' (co Z fs.9)):=f8 (by rw[aI,aq (),aP ()];rfl);generalize co Z fs.9=c at ec;have n0:=Y _ _ v0;refine#[_,.inl (Zw F),_,Zw n0,_,#v[af,lb,ec],_,rfl,(),_,.inl (Zw F),_,Zw n0,_,#v[af,lb,ec],_,rfl,#[(),()],(),(hM _ _).mpr #[_,_,1,rfl,rfl,(),Bd.of_lt (m:=5) () (aQ (show 5<=2 ^ 3 by decide) (fu () ())),Bd.one (),λz hz _ h1 h2=>O.draw hz (Bd.of_lt (m:=10) () ()) () λn' v3=>?_]];rw[show n'=n by omega,<-U];exact h0
 intro σ Hy hm;obtain⟨t0,b0,l0,rfl,rfl,c0,bb,bl,hF⟩:=(hM _ _).mp hm
 w_left;k_units
 refine#[gn (Zw F),bb.fits bl (),t0,b0*l0,rfl,c0,(bb.mul bl).mono (),λx y y1 g e lx ly X S=>?_];exists draw 0 bs fs x y Hy X F hT (hF (x,y) #[y1,g] e lx ly) () Y S,ys,k1,k2,k3;refine#[ys,k1,k2,?_];exists (J _ _).mp k3,x3,y3,j1,j2,j3,j4,j5;exact (y0 _ _ _).mpr #[x3,y3,_,_,_,_,_,_,rfl,j1,j2,(),(),j4,j5]
def FD (d:Nat)(f:Int->Int):Prop:=∃xs:aa,(∀k,d<k->co xs k=0)/\∀n,f n=val n xs
theorem FD.mono {d e:Nat}{f:Int->Int}(h:FD d f)(l:d<=e):FD e f:=by exists h,a,c,g;exact#[a,λk hk=>c k (),g]
theorem FD.congr {d:Nat}{f g:Int->Int}(h:FD d f)(e:∀n,g n=f n):FD d g:=by exists h,a,c,i;exact#[a,c,λn=>by rw[e,i]]
theorem FD.zero {d:Nat}:FD d λ_=>0:=#[[],λk _=>fP k,λ_=>rfl]
theorem FD.add {d:Nat}{f g:Int->Int}(a:FD d f)(c:FD d g):FD d λn=>f n+g n:=by
 exists a,e,h,i;exists c,j,m,o;exact#[bY e j,λk hk=>by rw[fX,h k hk,m k hk];rfl,λn=>by dsimp only;rw[fo,i,o]]
theorem FD.scale {d:Nat}{f:Int->Int}(c:Int)(h:FD d f):FD d λn=>c*f n:=by
 exists h,a,e,g;exact#[a.map λz=>c*z,λk hk=>by rw[eQ,e k hk,cX],λn=>by dsimp only;rw[be,g]]
theorem FD.neg {d:Nat}{f:Int->Int}(h:FD d f):FD d λn=>- f n:=(h.scale (-1)).congr λn=>by omega
theorem FD.up {d:Nat}{f:Int->Int}(h:FD d f):FD (d+1) λn=>n*f n:=by
 exists h,a,c,e;exact#[0 :: a,λk hk=>#v[fg,if_neg (),c _ ()],λn=>by dsimp only;rw[e];simp[val]]
theorem FD.line (a b:Int):FD 1 λn=>a+b*n:=#[[a,b],λk hk=>aF (by simp;omega),λn=>by simp[val];grind]
theorem FD.const (c:Int):FD 0 λ_=>c:=#[[c],λk hk=>aF (by simp;omega),λn=>by simp[val]]
theorem FD.mulx {e:Nat}{g:Int->Int}(a:FD e g):∀(c:aa),FD (c.9-1+e) λn=>val n c*g n
 | []=>(FD.zero).congr λn=>by simp[val]
 | [x]=>((a.scale x).mono (by simp)).congr λn=>by simp[val]
 | x :: y :: ys=>by
  have d:=(FD.mulx a (y :: ys)).up;have f:=(a.scale x).mono (show e<=(y :: ys).9-1+e+1 by omega);refine ((f.add d).mono (by simp;omega)).congr λn=>?_;rw[show val n (x :: y :: ys)=x+n*val n (y :: ys) from rfl];grind
theorem FD.len {d:Nat}{f:Int->Int}(h:FD d f):∃a:aa,Nml a/\a.9<=d+1/\∀n,f n=val n a:=by
 exists h,a,c,e;exact#[aO a,cG a,g_ (cG a) λk hk=>#v[cN,c k ()],λn=>by rw[e];exact f9 (λk=>by rw[cN]) n]
theorem FD.mul2 {d e:Nat}{f g:Int->Int}(a:FD d f)(c:FD e g):FD (d+e) λn=>f n*g n:=by
 exists a.len,h,_,j,i;exact ((FD.mulx c h).mono ()).congr λn=>by rw[i]
theorem SN {d:Nat}{f:Int->Int}{ys:aa}(h:FD d f)(a:Nml ys)(e:∀n,val n ys=f n):ys.9<=d+1:=by
 exists h,c,g,i;exact g_ a λk hk=>by rw[fJ (ys:=c) (λn=>by rw[e,i]) k];exact g k ()
theorem JC {f:Int->Int}{d:Nat}(h:∀s:Nat,FD d λn=>f (n+(s:Nat))):∀m,FD (d*m) λn=>iI f n m
 | 0=>(FD.const 1).congr λn=>rfl
 | m+1=>by
  rw[jF];exact ((JC h m).mul2 (h m)).congr λn=>rfl
theorem Cb {r d:Nat}(a:0<r){p:Nat->Int->Int}(h:∀i,i<=r->∀s:Nat,FD d λn=>p i (n+(s:Nat))):∀(m s i:Nat),i<r->FD (d*m) λn=>uIt r p m i (n+(s:Nat))
 | 0,s,i,hi=>by
  show FD (d*0) λn=>if i+1=r then 1 else 0
  split
  ·exact (FD.const 1).mono ()
  ·exact FD.zero
 | m+1,s,i,hi=>by
  have c:∀n:Int,n+((s+1:Nat):Int)=n+(s:Int)+1:=λn=>by omega
  have e:=(((Cb a h m (s+1) (r-1) ()).mul2 (h i () s)).neg)
  rw[jF];show FD (d*m+d) λn=>f_ r p (uIt r p m) i (n+(s:Nat));by_cases z:i=0
  ·refine e.congr λn=>?_;unfold f_;rw[if_pos z,c];grind
  ·have f:=((h r (aA _) s).mul2 (Cb a h m (s+1) (i-1) ())).mono (show d+d*m<=d*m+d by omega);refine (f.add e).congr λn=>?_;unfold f_;rw[if_neg z,c];grind
noncomputable def cJ (j:Bool) (s:Nat):Nat:=(6+3*s)*if j=true then 1+max (9-s) s else 1
noncomputable def dJ (j:Bool):Nat:=if j=true then 2 else 1
theorem JD {p:aa}(h:p.9<=2):∃a b:Int,(∀n,val n p=a+b*n)/\(a=0\/a∈p)/\(b=0\/b∈p):=
 match p,h with
 | [],_=>#[0,0,λn=>by simp[val],.inl rfl,.inl rfl]
 | [a],_=>#[a,0,λn=>by simp[val],.inr (by simp),.inl rfl]
 | [a,b],_=>#[a,b,λn=>by simp[val];grind,.inr (by simp),.inr (by simp)]
theorem JE {a b:Int}{s:Nat}(h:a.8+b.8*(s+1)<=6+3*s):FN (6+3*s) (λn=>a+b*(n+(s:Nat)))/\FD 1 λn=>a+b*(n+(s:Nat)):=by
 refine#[((FN.line (a+b*s) b).mono ?_).congr λn=>by grind,(FD.line (a+b*s) b).congr λn=>by grind];have c:=i7 a (b*s);rw[cc,dE]at c;rw[jF]at h;omega
theorem SO {c:ac}{d:aa}(Q:QOk c)(g:BaseL d)(i s:Nat):FN (6+3*s) (λn=>pvL (c++[d]) i (n+(s:Nat)))/\FD 1 λn=>pvL (c++[d]) i (n+(s:Nat)):=by
 unfold pvL;by_cases z:i<c.9+1
 ·have j:(c++[d]).getD i []∈c++[d]:=mem_getD (⇑z);generalize (c++[d]).getD i []=p at j;rcases a8.mp j with y|y
  ·exists Q.q p y,_,l2,b3;exists JD l2,a,b,e,f,h;have r:a.8<=3:=by rcases f with rfl|f;decide;exact b3 a f
   have k:b.8<=3:=by rcases h with rfl|h;decide;exact b3 b h
   have:=JE (a:=a) (b:=b) (s:=s) (by have:=eh (s+1) k;omega);exact#[this.1.congr λn=>e _,this.2.congr λn=>e _]
  ·rw[bj.mp y];exists JD g.ln,a,b,e,f,h;have m:=g.vl 0;have o:=g.vl 16;rw[e]at m o;have u:a.8<=5:=by rcases f with rfl|f;decide;exact g.bd a f
   have b1:b.8<=1:=()
   have:=JE (a:=a) (b:=b) (s:=s) (by have:=eh (s+1) b1;omega);exact#[this.1.congr λn=>e _,this.2.congr λn=>e _]
 ·have e:(c++[d]).getD i []=[]:=by rw[az,iN (by simp;omega)];rfl
  rw[e];exact#[FN.zero,FD.zero]
theorem vn {r:Nat}{j:Bool}{ps:ac}(h:RuleK r j ps)(i s:Nat):FN (cJ j s) (λn=>pvL ps i (n+(s:Nat)))/\FD (dJ j) λn=>pvL ps i (n+(s:Nat)):=by
 exists h,c,d,lq,Q,a,h;have B:=SO Q a i s;rcases h with rfl|⟨rfl,m,m0,e,rfl⟩
 ·refine#[B.1.mono ?_,B.2.mono (by unfold dJ;split <;> omega)];unfold cJ;refine iu _ ?_
  split <;> omega
 ·have L:FN (1+max (9-s) s) (λn:Int=>((s:Int)-m)+1*n):=(FN.line ((s:Int)-m) 1).mono ();refine#[((B.1.mul2 L).mono (kk (by unfold cJ;rw[if_pos rfl]))).congr λn=>?_,((B.2.mul2 (FD.line ((s:Int)-m) 1)).mono (by unfold dJ;rw[if_pos rfl];omega)).congr λn=>?_] <;> (rw[pf];grind)
def gx (r m:Nat):Nat:=max (ga r m 0) (ga r m 1)
theorem mR {r t:Nat}{j:Bool}{ps us:ac}{b:aa}(h:RuleK r j ps)(m:us.9=r)(c:Crd ps t us b):
  (∀u∈us,FN (gx r (t+1-r)*pb (cJ j) 0 (t+1-r)) (λn=>val n u)/\FD (dJ j*(t+1-r)) λn=>val n u)/\FN (pb (cJ j) 0 (t+1-r)) (λn=>val n b)/\FD (dJ j*(t+1-r)) λn=>val n b:=by
 have F:r<=2:=by exists h,G,H,lq,Q,_;have:=Q.l2;omega
 rcases c with ⟨o,a,g⟩|⟨o,a,g⟩
 ·rw[m]at o a;have v:t+1-r=0:=()
  rw[v,g];have one:FN 1 (λn=>val n [1])/\FD 0 λn=>val n [1]:=#[(FN.const 1).congr λn=>by simp[val],(FD.const 1).congr λn=>by simp[val]]
  refine#[λu k=>?_,one.1,one.2.mono ()];rw[a]at k;exists bC.mp k,i,_,rfl;have x:1<=gx r 0*pb (cJ j) 0 0:=by
   rcases (show r=1\/r=2 by omega) with rfl|rfl
   ·show 1<=gx 1 0*1;decide
   ·show 1<=gx 2 0*1;decide
  split
  ·exact#[one.1.mono x,one.2.mono ()]
  ·exact#[FN.zero,FD.zero]
 ·rw[m]at o a g;have y:=Jl (f:=pvL ps r) (c:=cJ j) λs=>(vn h r s).1;have db:=JC (f:=pvL ps r) (d:=dJ j) λs=>(vn h r s).2;refine#[λu k=>?_,(y _).congr λn=>g n,(db _).congr λn=>g n];exists cU.mp k,i,hi,rfl;rw[m]at hi;have e:us.getD i []=us[i]'():=by rw[az,aq ()];rfl
  have z:=B7 (r:=r) (p:=pvL ps) (c:=cJ j) () (λi _ s=>(vn h i s).1) (t+1-r) 0 i hi;have C:=Cb (r:=r) (p:=pvL ps) (d:=dJ j) () (λi _ s=>(vn h i s).2) (t+1-r) 0 i hi;have ev:∀n:Int,val n us[i]=uIt r (pvL ps) (t+1-r) i (n+((0:Nat):Int)):=λn=>by rw[<-e,a i n hi];simp
  refine#[(z.mono (eh _ ?_)).congr ev,C.congr ev];unfold gx;rcases (show i=0\/i=1 by omega) with rfl|rfl
  ·exact Lz _ _
  ·exact LA _ _
def PB (d M:Nat)(f:aa):Prop:=Nml f/\f.9<=d+1/\∀x∈f,x.8<=M
theorem SQ {d M:Nat}{f:aa}(a:Nml f)(c:FN M λn=>val n f)(e:FD d λn=>val n f):PB d M f:=#[a,SN e a λ_=>rfl,So c λ_=>rfl]
theorem mS {d e M N:Nat}{f g:aa}(a:FN M λn=>val n f)(c:FD d λn=>val n f)(h:FN N λn=>val n g)(i:FD e λn=>val n g):PB (d+e) (M*N) (aN f g):=SQ (ir _ _) ((a.mul2 h).congr λn=>fT n f g) ((c.mul2 i).congr λn=>fT n f g)
theorem PB.mono {d e M N:Nat}{f:aa}(h:PB d M f)(l:d<=e)(k:M<=N):PB e N f:=#[h.1,by have:=h.2.1;omega,λx hx=>aQ (h.2.2 x hx) k]
def dT (r1 r2:Nat)(j:Bool)(t:Nat):Nat:=dJ j*(t+1-r1)+dJ j*(t+1-r2)
def wT (r1 r2:Nat)(j:Bool)(t:Nat):Nat:=pb (cJ j) 0 (t+1-r1)*pb (cJ j) 0 (t+1-r2)
theorem JF {r1 r2 k:Nat}{j:Bool}{a c:ac}{i:au}{d:ac}(m:RuleK r1 j a)(n:RuleK r2 j c)(T:TwoV a c iJ k i d)(t:Nat)(I:t<k):
  ∃v p,i[t]?=Zz v/\d[t]?=Zz p/\v.9=r1+r2/\(∀f∈v,PB (dT r1 r2 j t) (max (gx r1 (t+1-r1)) (gx r2 (t+1-r2))*wT r1 r2 j t) f)/\PB (dT r1 r2 j t) (wT r1 r2 j t) p:=by
 exists T.st t I,g,b1,h,b2,Q,l2,J,M,_,_,_,_,O,P;have o:g.9=r1:=by have:=m.all.2;omega
 have r:h.9=r2:=by have:=n.all.2;omega
 exists mR m o J,s,x,z;exists mR n r M,C,F,G;refine#[_,_,O,P,by unfold iJ;simp[o,r],λf H=>?_,mS x z F G];unfold iJ at H;rcases a8.mp H with y|y
 ·exists bC.mp y,u,e,rfl;refine (mS (s u e).1 (s u e).2 F G).mono (aA _) ?_;rw[gj];exact eh _ (Lz _ _)
 ·exists bC.mp y,u,e,rfl;refine (mS (C u e).1 (C u e).2 x z).mono (by unfold dT;omega) ?_;rw[gj,fq (pb (cJ j) 0 (t+1-r2))];exact eh _ (LA _ _)
theorem JG (b1 b2:aa)(a:ac):∀c:ac,(fN c b1 a b2).9=c.9*a.9
 | []=>by simp[fN]
 | u :: us=>by
  have d:=JG b1 b2 a us;unfold fN at d ⊢;rw[List.flatMap_cons,b8,d,af,cP,vJ,km]
theorem JH {r1 r2 k:Nat}{j:Bool}{a c:ac}{h:au}{d:ac}(i:RuleK r1 j a)(m:RuleK r2 j c)(T:TwoV a c fN k h d)(t:Nat)(F:t<k):
  ∃v p,h[t]?=Zz v/\d[t]?=Zz p/\v.9=r1*r2/\(∀f∈v,PB (dT r1 r2 j t) (gx r1 (t+1-r1)*gx r2 (t+1-r2)*wT r1 r2 j t) f)/\PB (dT r1 r2 j t) (wT r1 r2 j t) p:=by
 exists T.st t F,e,b1,g,b2,R,l2,G,H,_,_,_,_,I,J;have n:e.9=r1:=by have:=i.all.2;omega
 have o:g.9=r2:=by have:=m.all.2;omega
 exists mR i n G,r,M,O;exists mR m o H,s,P,Q;refine#[_,_,I,J,?_,λf x=>?_,mS M O P Q]
 ·rw[JG,n,o]
 ·unfold fN at x;exists List.mem_flatMap.mp x,u,z,y;exists bC.mp y,v,C,rfl;refine (mS (r u z).1 (r u z).2 (s v C).1 (s v C).2).mono (aA _) (kk ?_);unfold wT;grind
theorem Cc {xs:ay}{m:Nat}(h:∀x∈xs,x<=m):mxl xs<=m:=by
 induction xs with
 | nil=>exact aU _
 | cons y ys ih=>
  show max y (mxl ys)<=m;exact Nat.max_le.mpr #[h y (by simp),ih λx hx=>h x (by simp[hx])]
theorem JI {f g:Nat->Nat}:∀m,(∀s,s<m->f s<=g s)->((aM m).map f).sum<=((aM m).map g).sum
 | 0,_=>by simp
 | m+1,h=>by
  rw[fZ,aR,aR,gk,gk];have a:=JI m λs hs=>h s ();have c:=h m ();simp only[List.sum_nil,vK,iz,d9];omega
theorem pbv {v:ac}{d M b:Nat}(h:∀f∈v,PB d M f)(g:M<2 ^ b)(b1:1<=b):dv v<=d/\bv v<=b:=by
 have i:mxl (v.map kl)<=d+1:=Cc λx hx=>by exists bC.mp hx,f,a,rfl;exact (h f a).2.1
 have c:mxl (v.map λf=>mxl (f.map nE))<=M:=Cc λx hx=>by
  exists bC.mp hx,f,a,rfl;exact Cc λy hy=>by exists bC.mp hy,z,e,rfl;exact (h f a).2.2 z e
 refine#[by unfold dv;omega,?_];unfold bv;generalize mxl (v.map λf=>mxl (f.map nE))=X at c;by_cases z:X=0
 ·rw[z];simpa using b1
 ·have:=(K9 z (k:=b)).mpr ();omega
theorem vo {f g:Nat->Nat}{m t:Nat}(h:∀s,s<m->f s<=g s):dgS f m t<=dgS g m t:=by
 unfold dgS;exact JI m λs hs=>by split;exact aA _;exact h s hs
theorem Cd (f:Nat->Nat){i:Nat}:∀{k},i<=k->((aM i).map f).sum<=((aM k).map f).sum
 | 0,h=>by
  obtain rfl:i=0:=()
  exact aA _
 | k+1,h=>by
  by_cases z:i=k+1
  ·rw[z];exact aA _
  ·have:=Cd f (i:=i) (k:=k) ();rw[fZ,aR,gk];omega
theorem JJ {w L b l D β k:Nat}{a:au}{dd bb:Nat->Nat}(lq:a.9=k)(V:∀t v,a[t]?=Zz v->v.9=w/\∃M,M<2 ^ bb t/\∀f∈v,PB (dd t) M f)(y:∀t,t<k->1<=bb t/\bb t<=b/\dd t+1<=L)(H:((aM k).map dd).sum<=D)(p:∀i t,i<k->t<=i->dgS (λs=>l+bb s) (i+1) t+3*i+4<=β){i:Nat}{q:ac}(d:a[i]?=Zz q):VqF w L b l D β (a.take i) q:=by
 have hi:=(aZ.mp d).1;have lt:(a.take i).9=i:=by rw[bV];omega
 have one:∀t v,a[t]?=Zz v->v.9=w/\(∀f∈v,Nml f/\f.9<=L/\∀c∈f,Bd b c)/\dv v<=dd t/\bv v<=bb t:=λt v n=>by
  exists V t v n,r,M,o,h;have j:=(aZ.mp n).1;exists y t (),z,C,I;refine#[r,λf u=>#[(h f u).1,by have:=(h f u).2.1;omega,λc F=>?_],pbv h o z];exact cx ((h f u).2.2 c F) (cI o (fu () C))
 have e:a.take i++[q]=a.take (i+1):=by rw[cY,d];rfl
 have x:∀s,s<i+1->a[s]?=Zz ((a.take i++[q]).getD s []):=λs hs=>by
  rw[e,az,List.getElem?_take,if_pos hs,aq ()];rfl
 have G:(a.take i++[q]).getD i []=q:=by
  have:=x i ();rw[d]at this;exact (Zv this).symm
 refine#[λv n=>?_,(one i q d).1,(one i q d).2.1,?_,λt j=>?_]
 ·exists cU.mp n,t,j,rfl;rw[bV]at j;rw[List.getElem_take];have:=one t _ (aq ());exact#[this.1,this.2.1]
 ·unfold sT sS;rw[lt];have r:=vo (f:=λs=>dv ((a.take i++[q]).getD s [])) (g:=dd) (m:=i+1) (t:=i) λs hs=>(one s _ (x s hs)).2.2.1;have o:=(one i q d).2.2.1;have h:=uR dd (i+1) i ();have J:=Cd dd (show i+1<=k by omega);omega
 ·rw[lt]at j ⊢;unfold sS;rw[lt];have r:=vo (f:=λs=>l+bv ((a.take i++[q]).getD s [])) (g:=λs=>l+bb s) (m:=i+1) (t:=t) λs hs=>CI (one s _ (x s hs)).2.2.2 l;have o:=p i t () j;dsimp only;omega
def gh (k:Nat)(dd MM bb:Nat->Nat)(L b l D β:Nat):Prop:=(∀t,t<k->MM t<2 ^ bb t/\1<=bb t/\bb t<=b/\dd t+1<=L)/\((aM k).map dd).sum<=D/\∀i,i<k->∀t,t<i+1->dgS (λs=>l+bb s) (i+1) t+3*i+4<=β
instance {k:Nat}{dd MM bb:Nat->Nat}{L b l D β:Nat}:Decidable (gh k dd MM bb L b l D β):=by unfold gh;infer_instance
def mPl (r1 r2:Nat)(j:Bool)(t:Nat):Nat:=max (gx r1 (t+1-r1)) (gx r2 (t+1-r2))*wT r1 r2 j t
def mTi (r1 r2:Nat)(j:Bool)(t:Nat):Nat:=gx r1 (t+1-r1)*gx r2 (t+1-r2)*wT r1 r2 j t
def bOf (xs:ay)(t:Nat):Nat:=xs.getD t 1
theorem SR {r1 r2 L b l D β:Nat}{j:Bool}{bb:Nat->Nat}{a c:ac}{e:au}{f:ac}(m:RuleK r1 j a)(n:RuleK r2 j c)(T:TwoV a c iJ (r1+r2+1) e f)(N:gh (r1+r2+1) (dT r1 r2 j) (mPl r1 r2 j) bb L b l D β){i:Nat}{q:ac}(o:e[i]?=Zz q):VqF (r1+r2) L b l D β (e.take i) q:=by
 exists N,n1,r,s;refine JJ (dd:=dT r1 r2 j) (bb:=bb) T.lq (λt v h=>?_) (λt d=>(n1 t d).2) r (λi t hi d=>s i hi t ()) o;have d:t<r1+r2+1:=by rw[<-T.lq];exact (aZ.mp h).1
 exists JF m n T t d,x,p,k,_,u,g,_;rw[h]at k
 cases k
 exact#[u,_,(n1 t d).1,g]
theorem SS {r1 r2 L b l D β:Nat}{j:Bool}{bb:Nat->Nat}{a c:ac}{e:au}{f:ac}(m:RuleK r1 j a)(n:RuleK r2 j c)(T:TwoV a c fN (r1*r2+1) e f)(N:gh (r1*r2+1) (dT r1 r2 j) (mTi r1 r2 j) bb L b l D β){i:Nat}{q:ac}(o:e[i]?=Zz q):VqF (r1*r2) L b l D β (e.take i) q:=by
 exists N,n1,r,s;refine JJ (dd:=dT r1 r2 j) (bb:=bb) T.lq (λt v h=>?_) (λt d=>(n1 t d).2) r (λi t hi d=>s i hi t ()) o;have d:t<r1*r2+1:=by rw[<-T.lq];exact (aZ.mp h).1
 exists JH m n T t d,x,p,k,_,u,g,_;rw[h]at k
 cases k
 exact#[u,_,(n1 t d).1,g]
theorem JK:PF 2 9 26 4 37 12 57/\gh 3 (dT 1 1 true) (mPl 1 1 true) (bOf [1,13,26]) 9 26 4 12 57:=#[by constructor <;> decide,()]
theorem JL:PF 1 5 14 3 9 4 24/\gh 2 (dT 1 1 true) (mTi 1 1 true) (bOf [1,14]) 5 14 3 4 24:=#[by constructor <;> decide,()]
theorem vt:PF 3 11 33 4 73 18 85/\gh 4 (dT 1 2 true) (mPl 1 2 true) (bOf [1,7,20,33]) 11 33 4 18 85/\gh 4 (dT 2 1 true) (mPl 2 1 true) (bOf [1,7,20,33]) 11 33 4 18 85:=#[by constructor <;> decide,(),()]
theorem vv:PF 2 7 20 3 25 8 43/\gh 3 (dT 1 2 true) (mTi 1 2 true) (bOf [1,7,20]) 7 20 3 8 43/\gh 3 (dT 2 1 true) (mTi 2 1 true) (bOf [1,7,20]) 7 20 3 8 43:=#[by constructor <;> decide,(),()]
theorem vw:PF 1 7 20 3 17 8 30/\gh 2 (dT 0 1 true) (mPl 0 1 true) (bOf [6,20]) 7 20 3 8 30/\gh 2 (dT 1 0 true) (mPl 1 0 true) (bOf [6,20]) 7 20 3 8 30:=#[by constructor <;> decide,(),()]
theorem JM:PF 4 7 21 3 61 12 69/\gh 5 (dT 2 2 false) (mPl 2 2 false) (bOf [1,1,6,13,21]) 7 21 3 12 69:=#[by constructor <;> decide,()]
theorem JN:PF 4 7 22 3 61 12 71/\gh 5 (dT 2 2 false) (mTi 2 2 false) (bOf [1,1,6,14,22]) 7 22 3 12 71:=#[by constructor <;> decide,()]
theorem JO {M:Nat}{xs:aa}(hx:∀x∈xs,x.8<=M):∀c:aa,∃a:aa,(∀j,(co a j).8<=n1 c*M)/\∀n,val n a=val n c*val n xs
 | []=>#[[],λj=>by rw[fP];simp,λn=>by simp[val]]
 | y :: c=>by
  exists JO hx c,a,d,e;refine#[bY (xs.map λz=>y*z) (0 :: a),λj=>?_,λn=>?_]
  ·rw[fX,eQ,fg];have f:=i7 (y*co xs j) (if j=0 then 0 else co a (j-1));have g:(co xs j).8<=M:=dy (P:=λy=>y.8<=M) hx (aU _) j;have h:(if j=0 then (0:Int) else co a (j-1)).8<=n1 c*M:=by split;exact aU _;exact d _
   have i:=d_ y.8 g;rw[cc]at f;simp only[n1];rw[gy];generalize (y*co xs j+if j=0 then 0 else co a (j-1)).8=X at *;generalize (if j=0 then (0:Int) else co a (j-1)).8=Y at *;omega
  ·rw[fo,be];simp only[val];rw[e];grind
theorem JP {k b:Nat}{f g:aa}(a:∀x∈f,Bd k x)(c:n1 g<2 ^ b):∀z∈aN f g,Bd (k+b) z:=by
 obtain⟨d,e,h⟩:=JO (M:=2 ^ k) (xs:=f) (λx hx=>dz (a x hx)) g;refine dg (P:=λz=>Bd (k+b) z) λj=>?_;rw[fJ (xs:=aN f g) (ys:=d) (λn=>by rw[fT,h,cT]) j];refine cx (e j) ?_;rw[dN,fq];exact (Nat.mul_lt_mul_left (eo k)).mpr c
theorem Ce:∀(a c:aa),(∀k,co a k=co c k)->n1 a<=n1 c
 | [],_,_=>aU _
 | y :: a,[],h=>by
  have d:=h 0;rw[fg,if_pos rfl,fP]at d;have:=Ce a [] λk=>by
   have:=h (k+1);rw[fg,if_neg (),fP]at this;rw[fP];exact this
  simp only[n1]at this ⊢;omega
 | y :: a,x :: c,h=>by
  have d:=h 0;rw[fg,if_pos rfl,fg,if_pos rfl]at d;have:=Ce a c λk=>by
   have:=h (k+1);rw[fg,if_neg (),fg,if_neg ()]at this;exact this
  simp only[n1];rw[d];omega
theorem SU {M:Nat}{f:Int->Int}{ys:aa}(h:FN M f)(e:∀n,val n ys=f n):n1 ys<=M:=by
 exists h,a,c,d;exact aQ (Ce ys a λk=>fJ (λn=>by rw[e,d]) k) c
def ph (k:Nat)(W bb:Nat->Nat)(l D b:Nat):Prop:=(∀t,t<k->W t<2 ^ bb t)/\(∀i,i<k->∀t,t<i+1->dgS (λs=>l+bb s) (i+1) t+3*i+4+bb t<=b)/\D<=19/\6*(2*D+1)+(b+6*k)*D+b*D+(b+6*k)+b+(b+14*D+8)+1<=4480/\b+14*D+8<=600
instance {k:Nat}{W bb:Nat->Nat}{l D b:Nat}:Decidable (ph k W bb l D b):=by unfold ph;infer_instance
structure Out32 (w:Nat)(qs:au)(wts ds:ac):Prop where
 l:0<ds.9/\ds.9<=w+1
 nm:∀d∈ds,Nml d/\d.9<=20/\∀x∈d,Bd 600 x
 top:∃p0 t0,ds.getLast?=Zz (p0++[t0])/\0<t0
 prm:∀s:Nat,Prm s->(∀u∈ds,∀j,(s:Int)∣co u j)->False
 rel:∃ws:ac,(∀c,c<w->∀n,ar ds.9 (λt=>val n ((qs.getD t []).getD c [])*val n (ws.getD t []))=0)/\∀n:Nat,∃s:Int,s≠0/\∀t,t<ds.9->val (n:Int) (ws.getD t [])*val (n:Int) (wts.getD t [])=s*val (n:Int) (ds.getD t [])
theorem JQ {w L b l B D β Z:Nat}{y:au}{a:ac}{dd W bb:Nat->Nat}(P:PF w L b l B D β)(lq:y.9=w+1)(lw:a.9=w+1)(V:∀t v,y[t]?=Zz v->v.9=w/\dv v<=dd t/\bv v<=bb t)(Vq:∀i q,y[i]?=Zz q->VqF w L b l D β (y.take i) q)(Wt:∀t p,a[t]?=Zz p->p≠[]/\Nml p/\p.9<=dd t+1/\n1 p<=W t)(hd:∀t,t<w+1->dd t+1<=12/\bb t<=500)(hD:((aM (w+1)).map dd).sum<=D)(N:ph (w+1) W bb l D Z){G:ac->Prop}(hG:∀ds,Out32 w y a ds->G ds):B5 w (StG w B) (VqF w L b l D β) (RlF w D (β+14*D+8) l) y a G:=by
 exists N,N1,N2,N3,N4,N5;refine#[λq Q=>(V 0 q Q).1,λi q cs pl Q hS=>Vq i q Q,λcs pl hS=>?_,λp hp=>?_,λi q u cs pl Q hS hR=>?_]
 ·have:=hS.few;omega
 ·exists cU.mp hp,t,o,rfl;exists Wt t _ (aq o),_,a2,a3,a4;exists hd t (),e1,e2;exact#[(),a2,λx hx=>cx (aQ (B6 hx) a4) (cI (N1 t ()) (fu () ()))]
 exists hR,#[R1,R2,#[p0,t0,R3,k0],R4,R5],F,nF,F0,U;have hi:=(aZ.mp Q).1;have lk:(y.take i).9=i:=by rw[bV];omega
 rw[lk]at R1 R3 R5 U;have eq:y.take i++[q]=y.take (i+1):=by rw[cY,Q];rfl
 have O:∀s,s<i+1->(y.take i++[q]).getD s []=y.getD s []:=λs hs=>by rw[eq,az,vF hs,<-az]
 have H:∀t,t<i+1->(dX aN u a)[t]?=Zz (aN (u.getD t []) (a.getD t [])):=λt o=>by rw[Lq,iX (d:=[]) (show t<u.9 by omega),iX (d:=[]) (show t<a.9 by omega)]
 have S:(dX aN u a).9=i+1:=by rw[ni,R1,lw];omega
 have T:∀t,t<i+1->u.getD t []∈u:=λt o=>mem_getD ();have wt:∀t,t<i+1->a.getD t []≠[]/\Nml (a.getD t [])/\(a.getD t []).9<=dd t+1/\n1 (a.getD t [])<2 ^ bb t:=λt o=>by
  obtain⟨a1,a2,a3,a4⟩:=Wt t _ (iX (d:=[]) (show t<a.9 by omega));exact#[a1,a2,a3,cx a4 (N1 t ())]
 have sk:∀t:Nat,∃M:aa,t<i+1->Nml M/\(∀n,val n M=val n F*val n (u.getD t []))/\M.9<=dgS dd (i+1) t+1/\∀z∈M,Bd (dgS (λs=>l+bb s) (i+1) t+3*i+4) z:=λt=>by
  by_cases o:t<i+1
  ·exists U t (),M,m1,m2,m3,m4;refine#[M,λ_=>#[m1,m2,?_,λz hz=>(m4 z hz).mono ?_]]
   ·unfold sS at m3;rw[lk]at m3;have:=vo (f:=λs=>dv ((y.take i++[q]).getD s [])) (g:=dd) (m:=i+1) (t:=t) λs hs=>by rw[O s hs];exact (V s _ (iX ())).2.1
    omega
   ·unfold sS;rw[lk];have:=vo (f:=λs=>l+bv ((y.take i++[q]).getD s [])) (g:=λs=>l+bb s) (m:=i+1) (t:=t) λs hs=>by rw[O s hs];exact CI (V s _ (iX ())).2.2 l
    dsimp only;omega
  ·exact#[[],λh=>absurd h o]
 obtain⟨C,x0⟩:∃C:Nat->aa,∀t,t<i+1->Nml (C t)/\(∀n,val n (C t)=val n F*val n (u.getD t []))/\(C t).9<=dgS dd (i+1) t+1/\∀z∈C t,Bd (dgS (λs=>l+bb s) (i+1) t+3*i+4) z:=#[λt=>Classical.choose (sk t),λt=>Classical.choose_spec (sk t)]
 have hg:∀t,t<i+1->Nml (aN (C t) (a.getD t []))/\(∀n,val n (aN (C t) (a.getD t []))=val n F*val n (aN (u.getD t []) (a.getD t [])))/\(aN (C t) (a.getD t [])).9<=D+1/\∀z∈aN (C t) (a.getD t []),Bd Z z:=λt o=>by
  exists x0 t o,m1,m2,m3,m4;exists wt t o,_,w2,w3,w4;refine#[ir _ _,λn=>by rw[fT,fT,m2,cA],?_,λz hz=>(JP m4 w4 z hz).mono (N2 i () t o)];have lp:=kY m1 w2 (ir _ _) (iH (C t) (a.getD t []));have h3:=uR dd (i+1) t o;have h4:=Cd dd (show i+1<=w+1 by omega);omega
 have rows:∀r∈dX aN u a,Nml r/\r.9<=20/\∀x∈r,Bd 5000 x:=λr X=>by
  exists cU.mp X,t,o,rfl;have e:=aq o;rw[H t ()]at e;rw[<-Zv e];have Y:=R2 _ (T t ());exists hg t (),g1,g2,g3,_;have big:=P.big;refine#[ir _ _,?_,λx hx=>(JP Y.2.2 (wt t ()).2.2.2 x hx).mono (by have:=(hd t ()).2;omega)];have nr:=ir (u.getD t []) (a.getD t []);generalize aN (u.getD t []) (a.getD t [])=r at nr g2;generalize aN (C t) (a.getD t [])=M at g1 g2 g3;by_cases z:r=[]
  ·rw[z];exact aU _
  have y0:=(d8 nF nr F0 z).1;rw[cW (cw F r) g1 λn=>by rw[aK,g2]]at y0;have n0:F.9≠0:=λz=>F0 (bD z);omega
 have I:(dX aN u a).getLast?=Zz (aN (u.getD i []) (a.getD i [])):=by rw[gi,S,ma];exact H i ()
 have l1:aN (u.getD i []) (a.getD i [])≠[]:=λz=>by
  exists wt i (),w1,w2,_;refine w1 (Je (R2 _ (T i ())).1 w2 (by rw[R3];simp) λn=>?_);rw[<-fT,z];rfl
 obtain⟨ds,R,f,t1,t2,t3,t4,t5,t6,t7,t8,t9,J,z0,u0,v0⟩:=Sg (gs:=dX aN u a) (Ms:=(aM (i+1)).map λt=>aN (C t) (a.getD t [])) (D:=D) (b:=Z) (k:=w+1) nF F0 N3 () (by rw[af,gC,S]) (λt r M X hM=>by
  have o:t<i+1:=by rw[<-S];exact (aZ.mp X).1
  rw[H t o]at X;rw[aI,iy o]at hM
  cases X
  cases hM
  exact#[ir _ _,hg t o]) N4 N5 I l1
 rw[S]at t9;have big:=P.big;refine#[R1,λp j0=>?_,ds,_,R,f,I,rows,t1,t2,t3,t4,t5,t6,t7,t8,#v[S,t9],λj g d Y h2=>#[(J j g d Y h2).1,(J j g d Y h2).2.1],hG ds #[(),λd hd=>?_,z0,u0,u,λc hc n=>?_,λn=>#[_,v0 n,λt o=>?_]]]
 ·have:=R2 p j0;exact#[(),this.1,λx hx=>(this.2.2 x hx).mono ()]
 ·exists cU.mp hd,t,o,rfl;have:=J t _ _ (H t ()) (aq o);exact#[this.1,this.2.2.2]
 ·rw[t9,<-R5 c hc n];exact b7 λt o=>by rw[O t o]
 ·rw[<-fT];exact (J t _ _ (H t ()) (iX ())).2.2.1 n
theorem vz {ps us:ac}{d:aa}{a:Nat}{A:aL}{N:Nat}(c:Crd ps a us d)(k:Keeps us.9 (pvL ps) A N)(n:Nat)(f:us.9<=a->n+a+1<=N+us.9):val (n:Int) d*A (n+a)=ar us.9 λi=>val (n:Int) (us.getD i [])*A (n+i):=by
 by_cases hr:0<us.9
 ·exact SG hr c k n f
 have j:us.9=0:=()
 rcases c with ⟨g,_⟩|⟨g,_,m⟩
 ·omega
 have h:=k (n+a) (by have:=f g;omega);rw[m];rw[j]at h ⊢;show iI (pvL ps 0) (n:Int) a*pvL ps 0 ((n:Int)+(a:Int))*A (n+a)=0;have e:0+pvL ps 0 ((n+a:Nat):Int)*A (n+a+0)=0:=h;rw[i8,Lx,Int.natCast_add]at e;rw[cA,e,cX]
theorem Keeps.scale {r:Nat}{p:Nat->Int->Int}{A:aL}{N:Nat}(c:Int)(h:Keeps r p A N):Keeps r p (λi=>c*A i) N:=λn a=>by
 have:=h n a;have e:ar (r+1) (λi=>p i (n:Int)*(c*A (n+i)))=c*ar (r+1) λi=>p i (n:Int)*A (n+i):=by
  rw[<-eL];exact b7 λi _=>by grind
 rw[e,this,cX]
theorem JR {a c:ac}{g:VF}{k r1 r2:Nat}{j:au}{d:ac}(T:TwoV a c g k j d)(l1:a.9=r1+1)(l2:c.9=r2+1):∃(m n:Nat->ac)(b1 b2:Nat->aa),∀t,t<k->(m t).9=r1/\(n t).9=r2/\Crd a t (m t) (b1 t)/\Crd c t (n t) (b2 t)/\j.getD t []=g (m t) (b1 t) (n t) (b2 t)/\d.getD t []=aN (b1 t) (b2 t):=by
 have e:∀t:Nat,∃X:(ac×ac)×(aa×aa),t<k->X.1.1.9=r1/\X.1.2.9=r2/\Crd a t X.1.1 X.2.1/\Crd c t X.1.2 X.2.2/\j.getD t []=g X.1.1 X.2.1 X.1.2 X.2.2/\d.getD t []=aN X.2.1 X.2.2:=λt=>by
  by_cases ht:t<k
  ·exists T.st t ht,f,b1,i,b2,u,v,o,p,_,_,_,_,r,s;exact#[((f,i),(b1,b2)),λ_=>#[by show f.9=r1;omega,by show i.9=r2;omega,o,p,by rw[az,r];rfl,by rw[az,s];rfl]]
  ·exact#[(([],[]),([],[])),λh=>absurd h ht]
 exact#[λt=>(Classical.choose (e t)).1.1,λt=>(Classical.choose (e t)).1.2,λt=>(Classical.choose (e t)).2.1,λt=>(Classical.choose (e t)).2.2,λt=>Classical.choose_spec (e t)]
theorem Cf {f:aa->aa}{us:ac}{i:Nat}(h:i<us.9):(us.map f).getD i []=f (us.getD i []):=by
 rw[az,aI,az,aq h];rfl
theorem SV {u1 u2:ac}{b1 b2:aa}{i:Nat}(h:i<u1.9):(iJ u1 b1 u2 b2).getD i []=aN (u1.getD i []) b2:=by
 unfold iJ;rw[az,cE #v[af,h],<-az];exact Cf (f:=λu=>aN u b2) h
theorem SW {u1 u2:ac}{b1 b2:aa}{i:Nat}(h:i<u2.9):(iJ u1 b1 u2 b2).getD (u1.9+i) []=aN (u2.getD i []) b1:=by
 unfold iJ;rw[az,cQ (by rw[af];omega),af,TQ,<-az];exact Cf (f:=λu=>aN u b1) h
theorem JS {u2:ac}{b1 b2:aa}{j:Nat}(h:j<u2.9):∀(a:ac)(i:Nat),i<a.9->(fN a b1 u2 b2).getD (i*u2.9+j) []=aN (a.getD i []) (u2.getD j [])
 | [],i,hi=>by simp at hi
 | u :: us,i,hi=>by
  have e:fN (u :: us) b1 u2 b2=u2.map (λv=>aN u v)++fN us b1 u2 b2:=by unfold fN;rw[List.flatMap_cons]
  rw[e,az]
  cases i with
  | zero=>
   rw[Lg,nw,cE #v[af,h],<-az];exact Cf (f:=λv=>aN u v) h
  | succ i=>
   have c:=JS (b1:=b1) (b2:=b2) h us i (⇑hi);rw[vJ,cQ (by rw[af];omega),af,show i*u2.9+u2.9+j-u2.9=i*u2.9+j by omega,<-az,c];rfl
section
variable {ps1 ps2:ac}{r1 r2:Nat}{qs:au}{wts ds:ac}{A B:aL}{N1 N2 n:Nat}
theorem SX (T:TwoV ps1 ps2 iJ (r1+r2+1) qs wts)(l1:ps1.9=r1+1)(l2:ps2.9=r2+1)(O:Out32 (r1+r2) qs wts ds)(k1:Keeps r1 (pvL ps1) A N1)(j:Keeps r2 (pvL ps2) B N2)(u:n+ds.9<=N1+r1)(v:n+ds.9<=N2+r2):ar ds.9 (λt=>val (n:Int) (ds.getD t [])*(A (n+t)+B (n+t)))=0:=by
 exists JR T l1 l2,u1,u2,b1,b2,X;exists O.rel,h,z,hs;exists hs n,s,m,hs;have lw:=O.l.2;refine Jr (x:=λt=>val (n:Int) (h.getD t [])*val (n:Int) (wts.getD t [])) m hs ?_;have f:=Sm (k:=ds.9) (r1:=r1) (r2:=r2) (W:=λt=>val (n:Int) (h.getD t [])) (d1:=λt=>val (n:Int) (b1 t)) (d2:=λt=>val (n:Int) (b2 t)) (A:=λt=>A (n+t)) (B:=λt=>B (n+t)) (u1:=λt i=>val (n:Int) ((u1 t).getD i [])) (u2:=λt i=>val (n:Int) ((u2 t).getD i [])) (a:=λi=>A (n+i)) (b:=λi=>B (n+i)) (λt d=>by
   exists X t (),c,_,o,_;have:=vz (A:=A) (N:=N1) o #v[c,k1] n (λ_=>by omega);rw[c]at this;exact this) (λt d=>by
   exists X t (),_,e,_,p,_;have:=vz (A:=B) (N:=N2) p #v[e,j] n (λ_=>by omega);rw[e]at this;exact this) (λi hi=>by
   rw[<-z i () n];refine b7 λt d=>?_;exists X t (),c,e,_,_,g,_;rw[g,SV (),fT]) (λi hi=>by
   rw[<-z (r1+i) () n];refine b7 λt d=>?_;exists X t (),c,e,_,_,g,_;rw[g];rw[<-c,SW (),fT])
 rw[<-f];refine b7 λt d=>?_;exists X t (),_,_,_,_,_,r;rw[r,fT]
theorem SY (T:TwoV ps1 ps2 fN (r1*r2+1) qs wts)(l1:ps1.9=r1+1)(l2:ps2.9=r2+1)(O:Out32 (r1*r2) qs wts ds)(k1:Keeps r1 (pvL ps1) A N1)(h:Keeps r2 (pvL ps2) B N2)(y:n+ds.9<=N1+r1)(C:n+ds.9<=N2+r2):ar ds.9 (λt=>val (n:Int) (ds.getD t [])*(A (n+t)*B (n+t)))=0:=by
 exists JR T l1 l2,u1,u2,b1,b2,X;exists O.rel,g,z,hs;exists hs n,s,m,hs;have lw:=O.l.2;refine Jr (x:=λt=>val (n:Int) (g.getD t [])*val (n:Int) (wts.getD t [])) m hs ?_;have d:=Sn (k:=ds.9) (r1:=r1) (r2:=r2) (W:=λt=>val (n:Int) (g.getD t [])) (d1:=λt=>val (n:Int) (b1 t)) (d2:=λt=>val (n:Int) (b2 t)) (A:=λt=>A (n+t)) (B:=λt=>B (n+t)) (u1:=λt i=>val (n:Int) ((u1 t).getD i [])) (u2:=λt i=>val (n:Int) ((u2 t).getD i [])) (a:=λi=>A (n+i)) (b:=λi=>B (n+i)) (λt e=>by
   exists X t (),f,_,o,_;have:=vz (A:=A) (N:=N1) o #v[f,k1] n (λ_=>by omega);rw[f]at this;exact this) (λt e=>by
   exists X t (),_,c,_,p,_;have:=vz (A:=B) (N:=N2) p #v[c,h] n (λ_=>by omega);rw[c]at this;exact this) (λi hi j F=>by
   have r:i*r2+j<r1*r2:=cI (show i*r2+j<i*r2+r2 by omega) #v[<-vJ,eh _ hi];rw[<-z (i*r2+j) r n];refine b7 λt e=>?_;exists X t (),f,c,_,_,u,_;rw[u]
   conv=>rhs;rw[<-c,JS () _ _ (),fT])
 rw[<-d];refine b7 λt e=>?_;exists X t (),_,_,_,_,_,v;rw[v,fT]
end
theorem SZ {r:Nat}{j:Bool}{ps:ac}(h:RuleK r j ps)(n:Nat)(f:10<=n):pvL ps r n≠0:=by
 exists h,c,a,lq,Q,d,h;have e:pvL (c++[a]) r n=val n a:=by
  have:=pd c a n
  rwa [b8,lq]at this
 have v:=(d.vl n).1;rcases h with rfl|⟨_,m,m0,g,rfl⟩
 ·rw[e];omega
 ·rw[pf,e];exact dO () ()
theorem JT {r t:Nat}{j:Bool}{ps us:ac}{b:aa}(h:RuleK r j ps)(a:us.9=r)(c:Crd ps t us b):val 10 b≠0:=by
 rcases c with ⟨_,_,rfl⟩|⟨_,_,d⟩
 ·simp[val]
 ·rw[d,a];generalize t+1-r=m
  induction m with
  | zero=>exact Int.one_ne_zero
  | succ m ih=>exact dO ih (by have:=SZ h (10+m) ();rwa [Int.natCast_add]at this)
def iL (r1 r2:Nat)(j:Bool):Prop:=∃(L b l B D β b':Nat)(bb:ay),PF (r1+r2) L b l B D β/\gh (r1+r2+1) (dT r1 r2 j) (mPl r1 r2 j) (bOf bb) L b l D β/\ph (r1+r2+1) (wT r1 r2 j) (bOf bb) l D b'/\L<=12/\b<=500/\(r1+r2)*(r1+r2)*(if j then 3 else 2)<=32
def iM (r1 r2:Nat)(j:Bool):Prop:=∃(L b l B D β b':Nat)(bb:ay),PF (r1*r2) L b l B D β/\gh (r1*r2+1) (dT r1 r2 j) (mTi r1 r2 j) (bOf bb) L b l D β/\ph (r1*r2+1) (wT r1 r2 j) (bOf bb) l D b'/\L<=12/\b<=500/\(r1*r2)*(r1*r2)*(if j then 3 else 2)<=32
theorem vA:iL 1 1 true:=#[9,26,4,37,12,57,70,[1,13,26],JK.1,JK.2,(),(),(),()]
theorem vB:iM 1 1 true:=#[5,14,3,9,4,24,40,[1,14],JL.1,JL.2,(),(),(),()]
theorem Cg:iL 1 2 true:=#[11,33,4,73,18,85,88,[1,7,20,33],vt.1,vt.2.1,(),(),(),()]
theorem Ch:iL 2 1 true:=#[11,33,4,73,18,85,88,[1,7,20,33],vt.1,vt.2.2,(),(),(),()]
theorem Ci:iM 1 2 true:=#[7,20,3,25,8,43,60,[1,7,20],vv.1,vv.2.1,(),(),(),()]
theorem Cj:iM 2 1 true:=#[7,20,3,25,8,43,60,[1,7,20],vv.1,vv.2.2,(),(),(),()]
theorem JU:iL 0 1 true:=#[7,20,3,17,8,30,50,[6,20],vw.1,vw.2.1,(),(),(),()]
theorem JV:iL 1 0 true:=#[7,20,3,17,8,30,50,[6,20],vw.1,vw.2.2,(),(),(),()]
theorem JW:iM 0 1 true:=#[3,6,2,3,2,4,20,[6],by constructor <;> decide,(),(),(),(),()]
theorem JX:iM 1 0 true:=#[3,6,2,3,2,4,20,[6],by constructor <;> decide,(),(),(),(),()]
theorem JY:iL 2 2 false:=#[7,21,3,61,12,69,85,[1,1,6,13,21],JM.1,JM.2,(),(),(),()]
theorem JZ:iM 2 2 false:=#[7,22,3,61,12,71,85,[1,1,6,14,22],JN.1,JN.2,(),(),(),()]
theorem RuleK.len {r:Nat}{j:Bool}{ps:ac}(h:RuleK r j ps):∀p∈ps,p.9<=if j then 3 else 2:=λp a=>by
 exists h,d,e,lq,Q,c,h;rcases h with rfl|⟨rfl,m,m0,f,rfl⟩
 ·have:=(Q.all c p a).2.1
  split <;> omega
 ·exists bC.mp a,y,hy,rfl;have:=(Q.all c y hy).2.1;have:=(B_ y m).1;rw[if_pos rfl];omega
theorem J0 {r1 r2 k t:Nat}{j:Bool}{g:VF}{a c:ac}{y:au}{d:ac}{p:aa}(e:RuleK r1 j a)(f:RuleK r2 j c)(T:TwoV a c g k y d)(h:d[t]?=Zz p):p≠[]/\Nml p/\p.9<=dT r1 r2 j t+1/\n1 p<=wT r1 r2 j t:=by
 have C:t<k:=by rw[<-T.lw];exact (aZ.mp h).1
 exists T.st t C,i,b1,m,b2,I,l2,o,r,_,_,_,_,_,F;have s:i.9=r1:=by have:=e.all.2;omega
 have u:m.9=r2:=by have:=f.all.2;omega
 exists mR e s o,_,v,G;exists mR f u r,_,x,H;rw[F]at h
 cases h
 have pb:=mS v G x H;refine#[λz=>?_,pb.1,pb.2.1,SU (v.mul2 x) λn=>fT n b1 b2];have:=fT 10 b1 b2;rw[z]at this;exact dO (JT e s o) (JT f u r) this.symm
structure Outc (w r1 r2:Nat)(op:Int->Int->Int)(ps1 ps2 ds:ac):Prop where
 l:0<ds.9/\ds.9<=w+1
 nm:∀d∈ds,Nml d/\d.9<=20/\∀x∈d,Bd 600 x
 top:∃p0 t0,ds.getLast?=Zz (p0++[t0])/\0<t0
 prm:∀s:Nat,Prm s->(∀u∈ds,∀j,(s:Int)∣co u j)->False
 kp:∀(A B:aL)(N1 N2 n:Nat),Keeps r1 (pvL ps1) A N1->Keeps r2 (pvL ps2) B N2->n+ds.9<=N1+r1->n+ds.9<=N2+r2->ar ds.9 (λt=>val (n:Int) (ds.getD t [])*op (A (n+t)) (B (n+t)))=0
def J1 (C:Nat->Nat->Bool->Prop)(wf:Nat->Nat->Nat)(op:Int->Int->Int):Sp:=λvs H Q _=>∃(R1 R2:Addr)(as1 as2:am)(ps1 ps2:ac)(r1 r2:Nat)(j:Bool),vs=[.ref R1,.ref R2]/\H R1=Zz (.lst (as1.map Z'))/\LH H as1 ps1/\H R2=Zz (.lst (as2.map Z'))/\LH H as2 ps2/\RuleK r1 j ps1/\RuleK r2 j ps2/\C r1 r2 j/\∀ds,Outc (wf r1 r2) r1 r2 op ps1 ps2 ds->iZ H Q ds
section
variable {P:Program}{w:World}{K:ao}{mg:bH}{base:Heap}
theorem J2 (T:Tx K mg):FnOk P w K mg base CX0 27 T.Um.ax T.Um.dx ["one","other"] (J1 iL (λa b=>a+b) λa b=>a+b):=
 ⟨λvs H Q E h=>by exists h,X,R2,d,e,f,g,y,C,j,rfl,_;rfl,
  λA outer s H k us vs Q E hr I hb F h=>by
  exists h,X,R2,d,e,f,g,y,C,j,rfl,G,J,M,R,m,o,#[L,b,l,B,D,β,b',bb,Y,N,NT,x0,b5,wk],q;exists m.all,r,Z;exists o.all,u,e2;have m1:=r.ok.2.1;have m2:=u.ok.2.1;refine (FnOk.mono (Sk (P:=P) (wd:=w) (base:=base) T (IT Y)) ()).run A outer s H k us _ Q E hr I hb F #[X,R2,d,e,f,g,y,C,rfl,G,J,M,R,r.ok,u.ok,Z,e2,λp S=>?_,λqs y0 c=>JQ (dd:=dT y C j) (bb:=bOf bb) Y c.lq c.lw (λt v F=>?_) (λi q hq=>SR m o c N hq) (λt p S=>J0 m o c S) (λt x=>?_) N.2.1 NT λds O=>q ds #[O.l,O.nm,O.top,O.prm,λA B N1 N2 n k1 k2 h1 h2=>SX c Z e2 O k1 k2 h1 h2]]
  ·have:p.9<=if j then 3 else 2:=by
    rcases a8.mp S with z|z
    ·exact m.len p z
    ·exact o.len p z
   exact aQ (d_ _ this) wk
  ·have x:t<y+C+1:=by rw[<-c.lq];exact (aZ.mp F).1
   exists JF m o c t x,v',p,f1,_,lv,U,_;rw[F]at f1
   cases f1
   exact#[lv,pbv U (N.1 t x).1 (N.1 t x).2.1]
  ·have:=(N.1 t x).2;omega⟩
theorem J3 (T:Tx K mg):FnOk P w K mg base CX0 27 T.Uo.ax T.Uo.dx ["one","other"] (J1 iM (λa b=>a*b) λa b=>a*b):=
 ⟨λvs H Q E h=>by exists h,X,R2,d,e,f,g,k,m,j,rfl,_;rfl,
  λA outer s H o us vs Q E hr I hb F h=>by
  exists h,X,R2,d,e,f,g,k,m,j,rfl,G,J,M,R,r,u,#[L,b,l,B,D,β,b',bb,Y,N,NT,x0,b5,wk],q;exists r.all,x,Z;exists u.all,y,e2;have m1:=x.ok.2.1;have m2:=y.ok.2.1;have y0:k*m<=2*2:=dY () ();refine (FnOk.mono (Sl (P:=P) (wd:=w) (base:=base) T (IT Y)) ()).run A outer s H o us _ Q E hr I hb F #[X,R2,d,e,f,g,k,m,rfl,G,J,M,R,x.ok,y.ok,Z,e2,λp S=>?_,λqs z0 c=>JQ (dd:=dT k m j) (bb:=bOf bb) Y c.lq c.lw (λt v F=>?_) (λi q hq=>SS r u c N hq) (λt p S=>J0 r u c S) (λt C=>?_) N.2.1 NT λds O=>q ds #[O.l,O.nm,O.top,O.prm,λA B N1 N2 n k1 k2 h1 h2=>SY c Z e2 O k1 k2 h1 h2]]
  ·have:p.9<=if j then 3 else 2:=by
    rcases a8.mp S with z|z
    ·exact r.len p z
    ·exact u.len p z
   exact aQ (d_ _ this) wk
  ·have C:t<k*m+1:=by rw[<-c.lq];exact (aZ.mp F).1
   exists JH r u c t C,v',p,f1,_,lv,U,_;rw[F]at f1
   cases f1
   exact#[lv,pbv U (N.1 t C).1 (N.1 t C).2.1]
  ·have:=(N.1 t C).2;omega⟩
end
theorem J4 {K:ao}{a b:Addr}{as bs:am}{fs gs:List (Int×Int)}{I:List (Nat×Str)}{J:TE}{Q:VK}{σ:L2.St}{f:Hp}{D:Addr}(Z:Nat->Int×Int->Prop)(r:f D=Zy)(U:f a=Zz (.lst (as.map Z')))(hT:TH f as fs)(X:f b=Zz (.lst (bs.map Z')))(M:TH f bs gs)(Y:fs.9=16)(lg:gs.9=16)(hs:∀(i:Nat)(x y:Addr)(c:Hp)(R:VK),i<16->c x=Zz (.tup [.int (gf fs i).1,.int (gf fs i).2])->c y=Zz (.tup [.int (gf gs i).1,.int (gf gs i).2])->(∀z:Int×Int,Z i z->mkT c R z.1 z.2)->J (fm I σ (Zz (Z' x)) (Zz (Z' y))) c R)(he:∀(D:Addr)(g:am)(h:Hp)(d:List (Int×Int)),Same f h->f D=Zy->h D=Zz (.lst (g.map Z'))->TH h g d->d.9=16->(∀i,i<16->Z i (gf d i))->Q (.ref D) h):om K (Itz K a b) I J Q σ f D:=by
 obtain⟨s,e⟩:∃s:cB,∀j c,s j c↔∃(g:am)(d:List (Int×Int)),c D=Zz (.lst (g.map Z'))/\TH c g d/\d.9=j/\(∀i,i<j->Z i (gf d i))/\Same f c:=#[_,λ_ _=>Iff.rfl]
 refine tG (xs:=as.map Z') (ys:=bs.map Z') s ((e _ _).mpr #[[],[],ak,TH.nil _,rfl,λi hi=>by omega,aB r _]) (λi c _ _ z=>by exists (e i c).mp z,_,_,_,_,_,_,z;exact#[Zw (z _ _ U),Zw (z _ _ X)]) ?_ ?_
 ·intro j v1 v2 pt c O P v C;exists (e _ _).mp v,g,d,F,n,k,o,p;rw[aI]at O P;exists de.mp O,x,hx,rfl;exists de.mp P,y,hy,rfl;have hj:j<16:=by have:=(aZ.mp hx).1;have:=hT.len;omega
  have u:=aB C (.tup [Z' x,Z' y]);have S:=p.trans u;have m:∀{fs:List (Int×Int)},fs.9=16->fs[j]?=Zz (gf fs j):=λ{fs} l=>by unfold gf;rw[az,aq ()];rfl
  refine hs j x y _ _ hj (S _ _ (hT.get j x _ hx (m Y))) (S _ _ (M.get j y _ hy (m lg))) λz hz p5 G=>?_;have u5:=aB G (.tup [.int z.1,.int z.2]);have H:=u.trans u5;have T:=H _ _ F;have lk:=n.len;refine#[_,T,#v[af,bO ()],(e _ _).mpr #[g++[p5],d++[z],by rw[ak];simp,((n.same H).snoc ak).upd T,by simp[k],λi hi=>?_,(p.trans H).more r]];by_cases w:i<j
  ·rw[vj ()];exact o i w
  ·obtain rfl:i=j:=()
   rw[Ca k];exact hz
 ·intro h v;exists (e _ _).mp v,g,d,F,n,k,o,p;have e1:=hT.len;have e2:=M.len;rw[af,af,show min as.9 bs.9=16 by omega]at k o;exact he D g h d p r F n k o
def Kp2 (op:Int->Int->Int)(r1 r2:Nat)(ps1 ps2:ac)(ss:List (Int×Int)):Prop:=∃(M:Int)(A B:aL),M≠0/\Keeps r1 (pvL ps1) A (16-r1)/\Keeps r2 (pvL ps2) B (16-r2)/\∀i,i<16->M*(gf ss i).1=op (A i) (B i)*(gf ss i).2
theorem Kp2.symm {e:Int->Int->Int}{r1 r2:Nat}{c d:ac}{g:List (Int×Int)}(f:∀a b,e a b=e b a)(h:Kp2 e r1 r2 c d g):Kp2 e r2 r1 d c g:=by
 exists h,M,A,B,m0,j,k,h;exact#[M,B,A,m0,k,j,λi hi=>#v[f,h i hi]]
theorem Kp2.zero {d:Int->Int->Int}{w r1 r2 n:Nat}{a c ds:ac}{e:List (Int×Int)}(l1:r1<=2)(l2:r2<=2)(h:Kp2 d r1 r2 a c e)(O:Outc w r1 r2 d a c ds)(j:n+ds.9<=16):(bW (λi=>val (n:Int) (ds.getD i [])) (λi=>gf e (n+i)) ds.9).1=0:=by
 exists h,M,A,B,m0,f,g,h;exact SH (M:=M) (A:=λi=>d (A (n+i)) (B (n+i))) m0 (λi hi=>h (n+i) ()) (O.kp A B _ _ n f g () ())
def ZS (fs gs:List (Int×Int))(i:Nat)(z:Int×Int):Prop:=Frc z/\z.1*((gf fs i).2*(gf gs i).2)=((gf fs i).1*(gf gs i).2+(gf gs i).1*(gf fs i).2)*z.2/\Bd 6400 z.1/\Bd 330 z.2
def ZP (fs gs:List (Int×Int))(i:Nat)(z:Int×Int):Prop:=Frc z/\z.1*((gf fs i).2*(gf gs i).2)=((gf fs i).1*(gf gs i).1)*z.2/\Bd 6400 z.1/\Bd 330 z.2
section
variable {r1 r2:Nat}{ps1 ps2:ac}{fs gs zs:List (Int×Int)}
theorem S_ (c:FVals ps1 r1 fs)(d:FVals ps2 r2 gs)(l1:fs.9=16)(l2:gs.9=16)(d1:∀n:Nat,pvL ps1 r1 n=0->∀i,i<r1->pvL ps1 i n=0)(d2:∀n:Nat,pvL ps2 r2 n=0->∀i,i<r2->pvL ps2 i n=0)(h:∀i,i<16->ZS fs gs i (gf zs i)):Kp2 (λa b=>a+b) r1 r2 ps1 ps2 zs:=by
 exists c.keep d1,E,A,o,_,e,_,f;exists d.keep d2,F,B,p,_,g,_,j;rw[l1]at f e;rw[l2]at j g;refine#[E*F,λi=>F*A i,λi=>E*B i,dO () (),f.scale F,j.scale E,λi hi=>?_];have k:=e i hi;have m:=g i hi;exact SJ (c.fr i ()).1 (d.fr i ()).1 (by rw[cT E,cA,k,cA]) (by rw[cA,m,cA]) (h i hi).2.1
theorem Tc (c:FVals ps1 r1 fs)(d:FVals ps2 r2 gs)(l1:fs.9=16)(l2:gs.9=16)(d1:∀n:Nat,pvL ps1 r1 n=0->∀i,i<r1->pvL ps1 i n=0)(d2:∀n:Nat,pvL ps2 r2 n=0->∀i,i<r2->pvL ps2 i n=0)(h:∀i,i<16->ZP fs gs i (gf zs i)):Kp2 (λa b=>a*b) r1 r2 ps1 ps2 zs:=by
 exists c.keep d1,E,A,v,_,j,_,k;exists d.keep d2,F,B,x,_,m,_,o;rw[l1]at k j;rw[l2]at o m;refine#[E*F,A,B,dO () (),k,o,λi hi=>?_];have p:=j i hi;have r:=m i hi;have e:=(h i hi).2.1;have y:=(c.fr i ()).1;have C:=(d.fr i ()).1;generalize gf fs i=f at *;generalize gf gs i=g at *;generalize gf zs i=z at *;refine lV (show f.2*g.2≠0 from dO () ()) ?_;have s:f.2*g.2*(E*F*z.1)=E*F*(z.1*(f.2*g.2)):=by grind
 have u:E*F*(f.1*g.1*z.2)=(E*f.1)*(F*g.1)*z.2:=by grind
 rw[s,e,u,p,r];grind
theorem FVals.b (V:FVals ps1 r1 fs)(l:fs.9=16){i:Nat}(hi:i<16):Bd 3160 (gf fs i).1/\Bd 161 (gf fs i).2/\1<=(gf fs i).2:=by
 exists V.E,E,d,a,c;refine#[(V.bd i ()).mono (),?_,(V.fr i ()).1];rw[l]at a;refine cx (jC () (iO.mpr (c i ()))) a
end
def J5 (K:ao):Sp:=λvs H Q _=>∃(a:Addr)(ns:aa),vs=[.ref a]/\SqL K H a (ns.map V')/\ns.9<=63/\∀H',Q (.bl true) H'
def Cs (r1 r2:Nat)(j:Bool):Prop:=r1<=2/\r2<=2/\iL r1 r2 j/\iL r2 r1 j/\iM r1 r2 j/\iM r2 r1 j
theorem Td {a d e f g h i j:Addr}{H:Hp}(n:H a=Zz (.tup [.int 1,.int 1]))(o:H d=Zz (.tup [.int 1,.int 2]))(p:H e=Zz (.tup [.int 2,.int 1]))(r:H f=Zz (.tup [.int 0,.int 1]))(s:H g=Zz (.tup [.int 1,.int 0]))(u:H h=Zz (.tup [.int 1,.int 1]))(v:H i=Zz (.tup [.int 1,.int 2]))(x:H j=Zz (.tup [.int 2,.int 2])){c:Int}(y:0<=c)(z:c<8):∃(pl:Addr)(k m:Nat),atI [Z' a,Z' d,Z' e,Z' f,Z' g,Z' h,Z' i,Z' j] c=Zz (Z' pl)/\H pl=Zz (.tup [.int (k:Int),.int (m:Int)])/\Cs k m (decide (c<7)):=by
 rcases (show c=0\/c=1\/c=2\/c=3\/c=4\/c=5\/c=6\/c=7 by omega) with rfl|rfl|rfl|rfl|rfl|rfl|rfl|rfl
 ·exact#[a,1,1,rfl,n,(),(),vA,vA,vB,vB]
 ·exact#[d,1,2,rfl,o,(),(),Cg,Ch,Ci,Cj]
 ·exact#[e,2,1,rfl,p,(),(),Ch,Cg,Cj,Ci]
 ·exact#[f,0,1,rfl,r,(),(),JU,JV,JW,JX]
 ·exact#[g,1,0,rfl,s,(),(),JV,JU,JX,JW]
 ·exact#[h,1,1,rfl,u,(),(),vA,vA,vB,vB]
 ·exact#[i,1,2,rfl,v,(),(),Cg,Ch,Ci,Cj]
 ·exact#[j,2,2,rfl,x,(),(),JY,JY,JZ,JZ]
theorem J7 {K:ao}{h:Int->Int->Int}{w r1 r2:Nat}{c e ds:ac}(O:Outc w r1 r2 h c e ds)(o:w<=4){a:Hp}{D:Addr}{cs:am}{f:VK}{n:Int}(i:n=(w:Int))(j:a D=Zz (.lst (cs.map Z')))(k:LH a cs ds)(m:∀g,Same a g->f (.bl true) g):Jy K [Z' D,V' n] a f E0:=
 #[D,cs,ds,w,by rw[i],j,k,O.l.1,O.l.2,(),λd hd=>#[(O.nm d hd).1,(O.nm d hd).2.1],O.top,O.prm,m]
theorem vC {K:ao}{h:Int->Int->Int}{w r1 r2:Nat}{c e ds:ac}{g:List (Int×Int)}(O:Outc w r1 r2 h c e ds)(u:w<=4)(j:r1<=2)(k:r2<=2)(hK:Kp2 h r1 r2 c e g)(m:∀f∈g,Bd 6400 f.1/\Bd 330 f.2)(v:g.9=16){a:Hp}{D S:Addr}{cs bs:am}{i:VK}(o:a D=Zz (.lst (cs.map Z')))(p:LH a cs ds)(r:a S=Zz (.lst (bs.map Z')))(s:TH a bs g)(q:i (.bl true) a):JA K [Z' D,Z' S] a i E0:=
 #[D,S,cs,bs,ds,g,rfl,Zw o,p.ll,r,s,O.l.1,by have:=O.l.2;omega,(),λd hd=>(O.nm d hd).2,m,λn x=>hK.zero j k O (),q]
theorem J8 (ps:ac):PyData.depth (.list (ps.map dL))<=2:=by
 have h:∀ps:ac,PyData.depthAll (ps.map dL)<=1:=λps=>by
  induction ps with
  | nil=>exact aU _
  | cons p ps ih=>simp[PyData.depthAll,PyData.depth,AA,dL];omega
 have:=h ps;simp[PyData.depth];omega
theorem Te {K:ao}{Q:VK}{H:Hp}{p n R1 R2 o r:Addr}{g h i j:am}{a c:ac}(s:H p=Zy)(m:H n=Zz (.lst [Z' o,Z' r]))(v:H o=Zz (.lst (i.map Z')))(l1:LH H i a)(y:H r=Zz (.lst (j.map Z')))(l2:LH H j c)(z:H R1=Zz (.lst (g.map Z')))(C:LH H g a)(F:H R2=Zz (.lst (h.map Z')))(G:LH H h c)(q:∀I,Q (.bl true) I):
  ∃da,DV K (Zx H p (.lst [Z' R1,Z' R2])) (Z' n) da/\∃x,DV K (Zx H p (.lst [Z' R1,Z' R2])) (Z' p) x/\da.canLay0=true/\x.canLay0=true/\da.depth<=64/\Q (V.bl (da.eqv x)) (Zx H p (.lst [Z' R1,Z' R2])):=by
 have u:=aB s (.lst [Z' R1,Z' R2]);have k:PyData.canLay0 (.list [.list (a.map dL),.list (c.map dL)])=true:=by
  have d:=Hj a;have f:=Hj c;simp only[PyData.canLay0,PyData.canLayAll0]at d f ⊢;simp[d,f]
 refine#[_,DV.lst (Zw (u _ _ m)) (.cons (uB (Zw (u _ _ v)) (l1.same u).ll) (.cons (uB (Zw (u _ _ y)) (l2.same u).ll) .nil)),_,DV.lst (Zw ak) (.cons (uB (Zw (u _ _ z)) (C.same u).ll) (.cons (uB (Zw (u _ _ F)) (G.same u).ll) .nil)),k,k,?_,?_]
 ·have d:=J8 a;have f:=J8 c;simp only[PyData.depth,PyData.depthAll]at d f ⊢;omega
 ·have e:PyData.eqv (.list [.list (a.map dL),.list (c.map dL)]) (.list [.list (a.map dL),.list (c.map dL)])=true:=by
   have d:=G_ a;have f:=G_ c;simp only[PyData.eqv,PyData.eqvAll]at d f ⊢;simp[d,f]
  rw[e];exact q _
theorem Tf {H:Hp}{a d f h j m o r u:Addr}{c e g i k n p s v:HO}(n1:H a=Zy)(O:Zx H a c d=Zy)(P:Zx (Zx H a c) d e f=Zy)(Q:Zx (Zx (Zx H a c) d e) f g h=Zy)(R:Zx (Zx (Zx (Zx H a c) d e) f g) h i j=Zy)(S:Zx (Zx (Zx (Zx (Zx H a c) d e) f g) h i) j k m=Zy)(T:Zx (Zx (Zx (Zx (Zx (Zx H a c) d e) f g) h i) j k) m n o=Zy)(U:Zx (Zx (Zx (Zx (Zx (Zx (Zx H a c) d e) f g) h i) j k) m n) o p r=Zy)(X:Zx (Zx (Zx (Zx (Zx (Zx (Zx (Zx H a c) d e) f g) h i) j k) m n) o p) r s u=Zy):
  ∃G:Hp,G=Zx (Zx (Zx (Zx (Zx (Zx (Zx (Zx (Zx H a c) d e) f g) h i) j k) m n) o p) r s) u v/\Same H G/\G a=Zz c/\G d=Zz e/\G f=Zz g/\G h=Zz i/\G j=Zz k/\G m=Zz n/\G o=Zz p/\G r=Zz s/\G u=Zz v:=by
 have x:=aB X v;have y:=(aB U s).trans x;have z:=(aB T p).trans y;have C:=(aB S n).trans z;have F:=(aB R k).trans C;have I:=(aB Q i).trans F;have J:=(aB P g).trans I;have M:=(aB O e).trans J;exact#[_,rfl,(aB n1 c).trans M,M _ _ ak,J _ _ ak,I _ _ ak,F _ _ ak,C _ _ ak,z _ _ ak,y _ _ ak,x _ _ ak,ak]
theorem Tg:FnOk P w K mg base CX0 28 T.UC.ax T.UC.dx ["_law_script"] (J5 K):=by
 refine T.UC.Fx.ok gO (λvs H Q E h=>?_) (λcdv A outer s H vs Q E Z h=>?_)
 ·exists h,a,ns,rfl,_;rfl
 exists h,a,ns,rfl,hS,_,q;refine#[_,s!"ˁv̓ɃÏʂ̵ɭ%˿iˢɃÏʂ̵ɭʪɑ̔v̓Ɉ%GɰvȼɊIˣˣˣˣˣˣˣˣ$Ɉɂɿ̚ƓʂƔƕƖɩɖ#˥#ÈxɈɑ$ʑ̚ƓʂƔƕƖɩɖ#˥#ÈxɈɑ$ˆ̚ƗʂƘƙƚɩɖ˚ʨ̚ƗʂƘƙƚɩɖʩ$'Ě)Q̞əÚ̌@ˎʉĉʂĊċČȾʈɦ̷̃ɦ̷̷̖̃̃$vɢ'Ě)d̞əÚ̌@ˎʉĉʂĊċČȾ̷̷̖̖̃̃$vɢɀavȼÏɓK¯ĵɮɢʦʄ̈ɘK¯ĵɮɢʦʄ$ɀrv̓ʺɃÏʂ̵ɭʪɀ¼̚ƛʂƜƝƞɥ˦ˀ#˦ʃ%ˀ$ˮ́ƟʂƠơƢɄ¼ʈ˥˥$³́čʂĎďĐɄ¼ȺQʎ̙ɀđ̚ƣʂƤƥƦɥ˦ˀ#˦ʃ%ˀ$ˮ́ƟʂƠơƢɄđ̖˥˥$³́čʂĎďĐɄđȺdʎ̙˶Ɋ!¼ɼɭ'c÷kȶȷȸ!đ'F́čʂĎďĐ˱ƣʂƤƥƦɥ˦ʃ%ˀ#˦ˀ$Ⱥdʎ̙ʴˑxʵ˥˥˧́čʂĎďĐ˱ƛʂƜƝƞɥ˦ʃ%ˀ#˦ˀ$ȺQʎ¤ʒÈŁȹʘIʖʩ$Ɇ",?_]
 w_up
 refine#[a,ns,0,rfl,hS,_,rfl,(),?_]
 w_up
 obtain⟨M,hM⟩:∃M:L2.St->Hp->Prop,∀σ Hy,M σ Hy↔∃c:Int,0<=c/\c<8/\σ=[Zz (Z' a),Zz (V' c),Zy,Zy,Zy,Zy,Zy,Zy,Zy,Zy,Zy,Zy,Zy]/\Hy=H:=#[_,λ_ _=>Iff.rfl]
 w_left;refine gq M ?_ ?_
 ·w_left;k_units
  refine#[a,ns,0,rfl,hS,_,rfl,#[(),()],(),bU (λh=>#[(),(hM _ _).mpr #[_,(),(),rfl,rfl]]) (λh=>(hM _ _).mpr #[_,(),(),rfl,rfl])]
 intro σ Hy hm;obtain⟨c,c0,c8,rfl,rfl⟩:=(hM _ _).mp hm
 w_up
 refine#[(),λp1 n1=>#[(),λp2 n2=>#[(),λp3 n3=>#[(),λp4 n4=>#[(),λp5 n5=>#[(),λp6 n6=>#[(),λp7 n7=>#[(),λp8 n8=>#[(),λp9 n9=>?_]]]]]]]]];exists Tf n1 n2 n3 n4 n5 n6 n7 n8 n9,H9,h9,s9,e1,e2,e3,e4,e5,e6,e7,e8,e9;rw[<-h9];clear h9 n1 n2 n3 n4 n5 n6 n7 n8 n9;exists Td e1 e2 e3 e4 e5 e6 e7 e8 c0 c8,pl,r1,r2,z5,v2,C;refine#[_,Zw e9,_,z5,?_]
 w_up
 refine#[_,SqT.of v2,_,rfl,a,ns,1,r1,_,rfl,s9.seq hS,C.1,λv0 K1 R1 j7 H1 s1 nR1 v3 j3 fb1 nb1 nd1=>?_]
 w_up
 have t1:=s9.trans s1;refine#[_,SqT.of (s1 _ _ v2),_,rfl,a,ns,4,r2,_,rfl,t1.seq hS,C.2.1,λj0 K2 R2 k7 H2 s2 nR2 k3 g3 fb2 nb2 nd2=>?_];generalize decide (c<7)=j at C K1 K2;exists K1.all,m3,l1;exists K2.all,x4,l2;have t2:=t1.trans s2
 w_up
 refine#[a,R1,ns,j7,v0,r1,7,rfl,t2.seq hS,Zw (s2 _ _ v3),(j3.same s2).ll,m3,l1,λfs FV lf X xb H3 s3 nX eX hX=>?_];have t3:=t2.trans s3
 w_up
 refine#[a,R2,ns,k7,j0,r2,25,rfl,t3.seq hS,Zw (s3 _ _ k3),(g3.same s3).ll,x4,l2,λgs GV lg Y yb H4 s4 nY eY hY=>?_];have t4:=t3.trans s4
 w_up
 refine#[_,Zw (s4 _ _ eX),_,Zw eY,λS0 g7=>J4 (ZS fs gs) g7 (s4 _ _ eX) (hX.same s4) eY hY lf lg (λi x y Hx R' hi ex ey hm=>?_) (λS sb H5 zs s5 nS eS u5 lz hz=>?_)]
 ·w_left;simp![fm]
  exists FV.b lf hi,x1,x2,x3;exists GV.b lg hi,y1,y2,y3;refine#[_,SqT.of ex,_,rfl,_,SqT.of ey,_,rfl,_,rfl,_,rfl,x1.fits y2 (),_,SqT.of ey,_,rfl,_,SqT.of ex,_,rfl,_,rfl,_,rfl,y1.fits x2 (),_,SqT.of ex,_,rfl,_,SqT.of ey,_,rfl,_,rfl,_,rfl,x2.fits y2 (),_,_,rfl,dO () (),(x2.mul y2).mono (),λu v v1 g e lu lv=>hm (u,v) #[#[v1,g],e,?_,?_]]
  ·exact cx lu (((x1.mul y2).add (y1.mul x2)).mono ())
  ·exact cx lv ((x2.mul y2).mono ())
 have y4:=s5 _ _ (s4 _ _ eX);have z4:=s5 _ _ eY
 w_up
 refine#[_,Zw y4,_,Zw z4,λU0 m7=>J4 (ZP fs gs) m7 y4 ((hX.same s4).same s5) z4 (hY.same s5) lf lg (λi x y Hx R' hi ex ey hm=>?_) (λU ub H6 ws s6 nU eU hU lw hw=>?_)]
 ·w_left;simp![fm]
  exists FV.b lf hi,x1,x2,x3;exists GV.b lg hi,y1,y2,y3;refine#[_,SqT.of ex,_,rfl,_,SqT.of ey,_,rfl,_,rfl,_,rfl,x1.fits y1 (),_,SqT.of ex,_,rfl,_,SqT.of ey,_,rfl,_,rfl,_,rfl,x2.fits y2 (),_,_,rfl,dO () (),(x2.mul y2).mono (),λu v v1 g e lu lv=>hm (u,v) #[#[v1,g],e,?_,?_]]
  ·exact cx lu ((x1.mul y1).mono ())
  ·exact cx lv ((x2.mul y2).mono ())
 have d1:=m3.dead;have d2:=x4.dead;rw[l1,ma]at d1;rw[l2,ma]at d2;have KS:=S_ FV GV lf lg d1 d2 hz;have KP:=Tc FV GV lf lg d1 d2 hw;have bS:∀f∈zs,Bd 6400 f.1/\Bd 330 f.2:=λf hf=>by
  exists cU.mp hf,i,hi,rfl;have:=hz i ();rw[Js (aq hi)]at this;exact this.2.2
 have bP:∀f∈ws,Bd 6400 f.1/\Bd 330 f.2:=λf hf=>by
  exists cU.mp hf,i,hi,rfl;have:=hw i ();rw[Js (aq hi)]at this;exact this.2.2
 have v5:=s4.trans (s5.trans s6);have k0:=s3.trans v5;have z0:=k0 _ _ (s2 _ _ v3);have n0:=(j3.same s2).same k0;have u0:=k0 _ _ k3;have z1:=g3.same k0;have u3:=k0 _ _ (s2 _ _ (s1 _ _ v2));have j5:=s6 _ _ eS;have k5:=u5.same s6;have t6:=(t4.trans s5).trans s6;clear d1 d2 hz hw FV GV hX hY y4 z4 eX eY nX nY lf lg v3 j3 k3 g3 v2 u5 eS v5 k0 s1 s2 s3 s4 s5 s6 t1 t2 t3 t4 m3 x4 e1 e2 e3 e4 e5 e6 e7 e8 e9 z5
 w_up
 have m1:v0.9<=3:=by have:=C.1;omega
 have m2:j0.9<=3:=by have:=C.2.1;omega
 refine#[#[_,Zw z0],λD0 x8=>li (ps:=v0) (ds:=v0) x8 (Zw z0) n0.ll rfl () (λj b p d Hz R' hp hd sz hB hN=>?_) (λX1 g5 H7 s7 nX1 m5 x6 fX1 nXx1 ndX1=>#[#[_,Zw (s7 _ _ u0)],λD1 y8=>li (ps:=j0) (ds:=j0) y8 (Zw (s7 _ _ u0)) (z1.same s7).ll rfl () (λj b p d Hz R' hp hd sz hB hN=>?_) (λX2 y6 H8 s8 nX2 z6 u6 fX2 nXx2 ndX2=>#[(),λHd z8=>?_])])]
 ·w_left;simp![bst]
  rw[hp]at hd
  cases hd
  exact#[_,.inl hB,λl nl=>hN l _ (aB nl _) nl ak]
 ·w_left;simp![bst]
  rw[hp]at hd
  cases hd
  exact#[_,.inl hB,λl nl=>hN l _ (aB nl _) nl ak]
 have s9:=aB z8 (.lst [Z' X1,Z' X2]);have R:=ak (H:=H8) (a:=Hd) (o:=.lst [Z' X1,Z' X2]);generalize Zx H8 Hd (.lst [Z' X1,Z' X2])=H9 at s9 R ⊢;have j2:=s8.trans s9;have r:=s7.trans j2;have t9:=t6.trans r;have u1:=j2 _ _ m5;have j1:=x6.same j2;have k1:=s9 _ _ z6;have g1:=u6.same s9
 w_up
 refine#[a,ns,0,rfl,t9.seq hS,_,rfl,#[(),()],(),?_];obtain⟨k,hk,u8⟩:∃k:Int,cell ns 0 / 8 % 2=k/\(k=0\/k=1):=#[_,rfl,()]
 rw[hk];obtain⟨Xa,Xb,xa,xb,pa,pc,G,I,ha,hb,ea,la,eb,lb,Ka,Kb,v8,j8,k8,g8,m8,x9,y9,z9,hsum,u4,z2,u2⟩:∃(Xa Xb:Addr)(xa xb:am)(pa pc:ac)(G I:Nat),atI [Z' X1,Z' X2] k=Zz (Z' Xa)/\atI [Z' X1,Z' X2] (1-k)=Zz (Z' Xb)/\H9 Xa=Zz (.lst (xa.map Z'))/\LH H9 xa pa/\H9 Xb=Zz (.lst (xb.map Z'))/\LH H9 xb pc/\RuleK G j pa/\RuleK I j pc/\iL G I j/\iL I G j/\iM G I j/\iM I G j/\Kp2 (λa b=>a+b) G I pa pc zs/\Kp2 (λa b=>a+b) I G pc pa zs/\Kp2 (λa b=>a*b) G I pa pc ws/\Kp2 (λa b=>a*b) I G pc pa ws/\r1+r2=G+I/\r1*r2=G*I/\G<=2/\I<=2:=by
  exists C,C1,C2,C3,C4,C5,C6;rcases u8 with rfl|rfl
  ·exact#[X1,X2,g5,y6,v0,j0,r1,r2,rfl,rfl,u1,j1,k1,g1,K1,K2,C3,C4,C5,C6,KS,KS.symm Int.add_comm,KP,KP.symm cT,rfl,rfl,C1,C2]
  ·exact#[X2,X1,y6,g5,j0,v0,r2,r1,rfl,rfl,k1,g1,u1,j1,K2,K1,C4,C3,C6,C5,KS.symm Int.add_comm,KS,KP.symm cT,KP,km _ _,fq _ _,C2,C1]
 have v6:=r _ _ j5;have j6:=k5.same r;have k6:=r _ _ eU;have g6:=hU.same r;have x0:=r _ _ u3;have m6:=r _ _ z0;have x7:=n0.same r;have y7:=r _ _ u0;have z7:=z1.same r;clear j5 k5 eU hU u3 z0 n0 u0 z1 s7 s8 s9 j2 r m5 x6 z6 u6 hk KS KP C K1 K2
 w_up
 refine#[_,Zw R,_,ha,_,Zw R,_,hb,Xa,Xb,xa,xb,pa,pc,G,I,j,rfl,ea,la,eb,lb,Ka,Kb,v8,λds O D cs Ha sa nD eD lD fD nDc ndc=>?_];have wS:G+I<=4:=()
 have wP:G*I<=2*2:=dY z2 u2;have nS:(r1:Int)+(r2:Int)=((G+I:Nat):Int):=()
 have nP:(r1:Int)*(r2:Int)=((G*I:Nat):Int):=by rw[<-fW,u4]
 w_up
 refine#[_,SqT.of (sa _ _ x0),_,rfl,_,SqT.of (sa _ _ x0),_,rfl,_,rfl,_,rfl,J7 O wS nS eD lD λHb sb=>#[_,rfl,?_]];rw[if_neg ()];have J:=sa.trans sb;refine vC O wS z2 u2 m8 bS lz (sb _ _ eD) (lD.same sb) (J _ _ v6) (j6.same J) #[_,rfl,?_];rw[if_neg ()]
 w_up
 refine#[_,Zw (J _ _ R),_,ha,_,Zw (J _ _ R),_,hb,Xa,Xb,xa,xb,pa,pc,G,I,j,rfl,J _ _ ea,la.same J,J _ _ eb,lb.same J,Ka,Kb,k8,λes O2 F u9 Hc sc nF eF lF fF nFc ndF=>?_];have k2:=J.trans sc;have f1:Bd 2 (r1:Int):=Bd.of_lt (m:=4) () ();have f2:Bd 2 (r2:Int):=Bd.of_lt (m:=4) () ()
 w_up
 refine#[_,SqT.of (k2 _ _ x0),_,rfl,_,SqT.of (k2 _ _ x0),_,rfl,_,rfl,_,rfl,f1.fits f2 (),J7 O2 wP nP eF lF λHe se=>#[_,rfl,?_]];rw[if_neg ()];have g2:=k2.trans se;refine vC O2 wP z2 u2 y9 bP lw (se _ _ eF) (lF.same se) (g2 _ _ k6) (g6.same g2) #[_,rfl,?_];rw[if_neg ()]
 w_up
 have d0:=O.l.1;obtain⟨cl,dl,v9,j9,k9,_⟩:=(lD.ll (K:=K)).lastAt (λz=>by rw[z]at d0;simp at d0);have v4:cs[cs.9-1]?=Zz cl:=by rw[<-gi];exact j9
 have j4:ds[cs.9-1]?=Zz dl:=by rw[lD.len,<-gi];exact k9
 have k4:=sc.trans se;have g4:=sb _ _ (lD.get _ _ _ v4 j4);have m4:=k4 _ _ g4;have g9:H9 cl=Zy:=fD cl (b4 v4);have u7:F≠cl:=λz=>by rw[z,g4]at nF;cases nF
 have ldl:=(O.nm dl (b4 j4)).2.1;refine#[_,Zw (k4 _ _ (sb _ _ eD)),_,v9,gn (Zw m4),cl,rfl,_,m4,#v[af,bO ()],?_];have z3:Zx He cl (.lst (dl.map V'++[V' 7])) F=Zz (.lst (u9.map Z')):=by rw[aE u7];exact se _ _ eF
 have x5:=g2.more (o:=.lst (dl.map V'++[V' 7])) g9;generalize Zx He cl (.lst (dl.map V'++[V' 7]))=Hf at x5 z3 ⊢;have m9:=J.free nF
 w_up
 refine#[gn (Zw z3),_,z3,?_];have y0:=x5.more (o:=.lst []) m9;generalize Zx Hf F (.lst [])=Hg at y0 ⊢;clear sa sb sc se k4 J k2 g2 x5 g4 m4 eF z3 lF eD lD v4 j4 O O2
 w_up
 refine#[_,Zw (y0 _ _ R),_,hb,_,Zw (y0 _ _ R),_,ha,Xb,Xa,xb,xa,pc,pa,I,G,j,rfl,y0 _ _ eb,lb.same y0,y0 _ _ ea,la.same y0,Kb,Ka,g8,λfs3 O3 F3 cs3 Hh sh nF3 eF3 lF3 _ _ _=>?_];have n:=y0.trans sh;refine vC O3 (by show I*G<=4;rw[fq];exact wP) u2 z2 z9 bP lw eF3 lF3 (n _ _ k6) (g6.same n) #[_,rfl,?_];rw[if_neg ()]
 w_up
 refine#[_,SqT.of (n _ _ x0),_,rfl,_,SqT.of (n _ _ x0),_,rfl,_,rfl,_,rfl,?_];have v7:∀Hz,Same H9 Hz->0+1+1<=sizeLine/\∀p,Hz p=Zy->∃da,DV K (Zx Hz p (.lst [Z' R1,Z' R2])) (Z' Hd) da/\∃x,DV K (Zx Hz p (.lst [Z' R1,Z' R2])) (Z' p) x/\da.canLay0=true/\x.canLay0=true/\da.depth<=64/\Q (V.bl (da.eqv x)) (Zx Hz p (.lst [Z' R1,Z' R2])):=λHz sz=>#[(),λp np=>Te np (sz _ _ R) (sz _ _ u1) (j1.same sz) (sz _ _ k1) (g1.same sz) (sz _ _ m6) (x7.same sz) (sz _ _ y7) (z7.same sz) q]
 refine bU (λ_=>?_) (λ_=>v7 _ n);refine#[_,Zw (n _ _ R),_,hb,_,Zw (n _ _ R),_,ha,Xb,Xa,xb,xa,pc,pa,I,G,j,rfl,n _ _ eb,lb.same n,n _ _ ea,la.same n,Kb,Ka,j8,λfs4 O4 F4 cs4 Hi si nF4 eF4 lF4 _ _ _=>?_];have y5:=n.trans si;refine vC O4 (by show I+G<=4;omega) u2 z2 x9 bS lz eF4 lF4 (y5 _ _ v6) (j6.same y5) #[_,rfl,?_];rw[if_neg ()];exact v7 _ y5
theorem Th {us:List Value}(h:us.9=1):∃a,us=[a]:=by
 exists jG h,a,c,rfl;exact#[a,by rw[bD (Nat.succ.inj h)]]
theorem Ti {us:List Value}(h:us.9=2):∃a c,us=[a,c]:=by
 exists jG h,a,d,rfl;exists jG (Nat.succ.inj h),c,e,rfl;exact#[a,c,by rw[bD (Nat.succ.inj (Nat.succ.inj h))]]
theorem Tj {us:List Value}(h:us.9=3):∃a c d,us=[a,c,d]:=by
 exists jG h,a,e,rfl;exists jG (Nat.succ.inj h),c,f,rfl;exists jG (Nat.succ.inj (Nat.succ.inj h)),d,g,rfl;exact#[a,c,d,by rw[bD (Nat.succ.inj (Nat.succ.inj (Nat.succ.inj h)))]]
theorem Tk {us:List Value}(h:us.9=4):∃a c d e,us=[a,c,d,e]:=by
 exists jG h,a,f,rfl;exists jG (Nat.succ.inj h),c,g,rfl;exists jG (Nat.succ.inj (Nat.succ.inj h)),d,i,rfl;exists jG (Nat.succ.inj (Nat.succ.inj (Nat.succ.inj h))),e,j,rfl;exact#[a,c,d,e,by rw[bD (Nat.succ.inj (Nat.succ.inj (Nat.succ.inj (Nat.succ.inj h))))]]
local macro_rules | `(tactic| o_law)=>`(tactic| (intro _ _ _ _ _ _ us hl;first|(obtain⟨x0,e⟩:=Th hl;subst e;rfl)|(obtain⟨x0,x1,e⟩:=Ti hl;subst e;rfl)|(obtain⟨x0,x1,x2,e⟩:=Tj hl;subst e;rfl)|(obtain⟨x0,x1,x2,x3,e⟩:=Tk hl;subst e;rfl)))
abbrev fdK (x q:Str) (st:Stmt) (pm:Value) (c:Nat):FuncData:=PySem.W.fnOf x q (oa st) (ml st) (bh st) .none .none .none pm Zy (.ref c) .none
abbrev FU (P:Params) (x q:Str) (st:Stmt) (f:Addr) (pm:Value) (c:Nat):Prop:=Fun (KK P) x q st f (fdK x q st pm c)
theorem fuk {P:Params}{x q:Str}{st:Stmt}{f:Addr}{pm:Value}{c:Nat}(l:(KK P).lookup f=Zz #[.type "function",Zy,.func (fdK x q st pm c),(List.toArray [])]:=by kernel_rfl)(h:PySem.W.codeIn (KK P) (.ref c) q=true:=by kernel_rfl)(k:PySem.W.keepIn (KK P) (.ref f)=true:=by kernel_rfl):FU P x q st f pm c:=Nz l h k
abbrev pm0:Value:=.str "sumcraft.polys" 255
abbrev pm1:Value:=.str "sumcraft.ratios" 332
abbrev pm2:Value:=.str "sumcraft.reaches" 367
abbrev pm3:Value:=.str "sumcraft.rules" 440
abbrev pm4:Value:=.str "sumcraft.coords" 450
abbrev pm5:Value:=.str "sumcraft.spans" 464
abbrev pm6:Value:=.str "sumcraft.joins" 621
abbrev pm7:Value:=.str "law_sumcraft_k32_sums_and_products_keep" 686
theorem kf0 (P:Params):FU P "trimmed" "trimmed" wl 70 pm0 69:=fuk
theorem kf1 (P:Params):FU P "poly_plus" "poly_plus" wm 77 pm0 76:=fuk
theorem kf2 (P:Params):FU P "poly_less" "poly_less" wn 82 pm0 81:=fuk
theorem kf3 (P:Params):FU P "poly_times" "poly_times" wo 89 pm0 88:=fuk
theorem kf4 (P:Params):FU P "shifted" "shifted" wq 96 pm0 95:=fuk
theorem kf5 (P:Params):FU P "poly_value" "poly_value" wu 103 pm0 102:=fuk
theorem kf6 (P:Params):FU P "quotient" "quotient" wv 110 pm0 109:=fuk
theorem kf7 (P:Params):FU P "shortened" "shortened" ww 117 pm1 116:=fuk
theorem kf8 (P:Params):FU P "divisor" "divisor" wx 124 pm1 123:=fuk
theorem kf9 (P:Params):FU P "content" "content" wy 131 pm2 130:=fuk
theorem J9 (P:Params):FU P "over" "over" wz 136 pm2 135:=fuk
theorem J_ (P:Params):FU P "upright" "upright" wB 141 pm2 140:=fuk
theorem Kc (P:Params):FU P "spread" "spread" wC 148 pm2 147:=fuk
theorem Kd (P:Params):FU P "greatest_size" "greatest_size" wD 153 pm2 152:=fuk
theorem Ke (P:Params):FU P "bare_common" "bare_common" wE 160 pm2 159:=fuk
theorem Kf (P:Params):FU P "common" "common" wF 165 pm2 164:=fuk
theorem Kg (P:Params):FU P "common_of" "common_of" wG 172 pm2 171:=fuk
theorem Kh (P:Params):FU P "clear" "clear" wH 179 pm2 178:=fuk
theorem Ki (P:Params):FU P "order_of" "order_of" wI 186 pm3 185:=fuk
theorem Kj (P:Params):FU P "further" "further" wJ 191 pm4 190:=fuk
theorem Kk (P:Params):FU P "coords" "coords" wK 196 pm4 195:=fuk
theorem Kl (P:Params):FU P "lowered" "lowered" wL 201 pm5 200:=fuk
theorem Km (P:Params):FU P "through" "through" wM 208 pm5 207:=fuk
theorem Kn (P:Params):FU P "greatest_degree" "greatest_degree" wN 213 pm5 212:=fuk
theorem Ko (P:Params):FU P "degree_bound" "degree_bound" wO 218 pm5 217:=fuk
theorem Kq (P:Params):FU P "cleared" "cleared" wQ 223 pm5 222:=fuk
theorem Kr (P:Params):FU P "relation" "relation" wR 306 pm5 305:=fuk
theorem Ks (P:Params):FU P "check_work" "check_work" wU 311 pm6 310:=fuk
theorem Kt (P:Params):FU P "thinned" "thinned" wV 316 pm6 315:=fuk
theorem Ku (P:Params):FU P "joined" "joined" wW 321 pm6 320:=fuk
theorem Kv (P:Params):FU P "of_two" "of_two" wX 328 pm6 327:=fuk
theorem Kw (P:Params):FU P "plus_vector" "plus_vector" wY 333 pm6 332:=fuk
theorem Kx (P:Params):FU P "times_vector" "times_vector" wZ 338 pm6 337:=fuk
theorem Ky (P:Params):FU P "plus_rule" "plus_rule" w6 345 pm6 344:=fuk
theorem Kz (P:Params):FU P "times_rule" "times_rule" w8 352 pm6 351:=fuk
theorem KC (P:Params):FU P "_law_cell_at" "_law_cell_at" w_ 359 pm7 358:=fuk
theorem KD (P:Params):FU P "_law_divisor" "_law_divisor" xf 366 pm7 365:=fuk
theorem KE (P:Params):FU P "_law_rule" "_law_rule" xi 371 pm7 370:=fuk
theorem KF (P:Params):FU P "_law_times" "_law_times" xk 378 pm7 377:=fuk
theorem KG (P:Params):FU P "_law_value" "_law_value" xm 385 pm7 384:=fuk
theorem KH (P:Params):FU P "_law_lowest" "_law_lowest" xn 392 pm7 391:=fuk
theorem KI (P:Params):FU P "_law_values" "_law_values" xo 397 pm7 396:=fuk
theorem KJ (P:Params):FU P "_law_is_rule" "_law_is_rule" xq 404 pm7 403:=fuk
theorem KL (P:Params):FU P "_law_keeps" "_law_keeps" xr 411 pm7 410:=fuk
theorem KN (P:Params):FU P "law" "law" xu 416 pm7 415:=fuk
theorem KO (P:Params):FU P "__init__" "Span.__init__" xv 237 pm5 236:=fuk
theorem KQ (P:Params):FU P "row_at" "Span.row_at" xw 242 pm5 241:=fuk
theorem KR (P:Params):FU P "table_at" "Span.table_at" xx 249 pm5 248:=fuk
theorem KT (P:Params):FU P "lowered_at" "Span.lowered_at" xy 256 pm5 255:=fuk
theorem KU (P:Params):FU P "only_choice" "Span.only_choice" xz 261 pm5 260:=fuk
theorem KY (P:Params):FU P "failing_column" "Span.failing_column" xC 268 pm5 267:=fuk
theorem KZ (P:Params):FU P "keep" "Span.keep" xD 275 pm5 274:=fuk
theorem K0 (P:Params):FU P "by_few" "Span.by_few" xE 280 pm5 279:=fuk
theorem K3 (P:Params):FU P "take" "Span.take" xF 285 pm5 284:=fuk
theorem K4 (P:Params):FU P "apart" "Span.apart" CL 292 pm5 291:=fuk
theorem Tl {l:PySem.W.OpenLaw}{q:Program}{loose:List Str}{XP:bH->Heap->Prop}{YP:World->Heap->Prop}{d:DefRec}{K:Params->ao}(j:l.most=Zz 63)(g:d.params.defaults=[])(m:∀(w:World)(h:Heap),YP w h->(K w.params).In h)(F:∀(w:World)(mg:bH)(c:Addr)(h:Heap),(K w.params).In h->h.Ns mainGlobals mg->mg d.name=Zz (.ref c)->
   ∃T:Tx (K w.params) mg,T.UC.ax=c/\∀(s:Shared)(v:Value),BindsTo s T.UC.dx #[[v],[]] [("_law_script",v)]):
  PySem.W.WalkO q loose XP YP l.row.toRowW d [] (λf o=>PySem.call f o):=
 L2.Ny (n:=63) (k:=30) (x := "_law_script") (CX:=λ_=>CX0) (sp:=λw=>J5 (K w.params)) j () g #[rfl,(),()] m
  (λw mg c h KX G i=>by
   exists F w mg c h KX G i,T,e,p;subst e;exact#[T.UC.dx,p,λbase _ _=>FnOk.mono (Tg T) ()])
  (λ_ H a ns r _ u=>#[a,ns,rfl,u,r,λ_=>rfl]) λ_ _ _ _ _ z=>z
theorem facts (w:World)(mg:bH)(g:Addr)(h:Heap)(KX:(KK w.params).In h)(G:h.Ns mainGlobals mg)(d:mg "law" = Zz (.ref g)):
  ∃T:Tx (KK w.params) mg,T.UC.ax=g/\∀(s:Shared)(v:Value),BindsTo s T.UC.dx #[[v],[]] [("_law_script",v)]:=by
 have a:∀{x:Str}{f:Addr},PySem.W.nsIn (KK w.params) mainGlobals x=Zz (Zz (.ref f))->mg x=Zz (.ref f):=λe=>PySem.W.mg_of KX G e;have mi:∀{x:Str}{i:Int}{t:Tok},PySem.W.nsIn (KK w.params) mainGlobals x=Zz (Zz (.int i t))->mg x=Zz (.int i t):=λe=>PySem.W.mg_of KX G e;have c:∀{x:Str},PySem.W.nsIn (KK w.params) mainGlobals x=Zz Zy->mg x=Zy:=λe=>PySem.W.mg_none_of KX G e;have e:=d.symm.trans (a (f:=416) ∅)
 cases e
 exact#[#[#[_,_,kf0 _,a ∅,(kf0 _).binds (by o_law)],#[_,_,kf1 _,a ∅,(kf1 _).binds (by o_law)],#[_,_,kf2 _,a ∅,(kf2 _).binds (by o_law)],#[_,_,kf3 _,a ∅,(kf3 _).binds (by o_law)],#[_,_,kf4 _,a ∅,(kf4 _).binds (by o_law)],#[_,_,kf5 _,a ∅,(kf5 _).binds (by o_law)],#[_,_,kf6 _,a ∅,(kf6 _).binds (by o_law)],#[_,_,kf7 _,a ∅,(kf7 _).binds (by o_law)],#[_,_,kf8 _,a ∅,(kf8 _).binds (by o_law)],#[_,_,kf9 _,a ∅,(kf9 _).binds (by o_law)],#[_,_,J9 _,a ∅,(J9 _).binds (by o_law)],#[_,_,J_ _,a ∅,(J_ _).binds (by o_law)],#[_,_,Kc _,a ∅,(Kc _).binds (by o_law)],#[_,_,Kd _,a ∅,(Kd _).binds (by o_law)],#[_,_,Ke _,a ∅,(Ke _).binds (by o_law)],#[_,_,Kf _,a ∅,(Kf _).binds (by o_law)],#[_,_,Kg _,a ∅,(Kg _).binds (by o_law)],#[_,_,Kh _,a ∅,(Kh _).binds (by o_law)],#[_,_,Ki _,a ∅,(Ki _).binds (by o_law)],#[_,_,Kj _,a ∅,(Kj _).binds (by o_law)],#[_,_,Kk _,a ∅,(Kk _).binds (by o_law)],#[_,_,Kl _,a ∅,(Kl _).binds (by o_law)],#[_,_,Km _,a ∅,(Km _).binds (by o_law)],#[_,_,Kn _,a ∅,(Kn _).binds (by o_law)],#[_,_,Ko _,a ∅,(Ko _).binds (by o_law)],#[_,_,Kq _,a ∅,(Kq _).binds (by o_law)],#[_,_,Kr _,a ∅,(Kr _).binds (by o_law)],#[_,_,Ks _,a ∅,(Ks _).binds (by o_law)],#[_,_,Kt _,a ∅,(Kt _).binds (by o_law)],#[_,_,Ku _,a ∅,(Ku _).binds (by o_law)],#[_,_,Kv _,a ∅,(Kv _).binds (by o_law)],#[_,_,Kw _,a ∅,(Kw _).binds (by o_law)],#[_,_,Kx _,a ∅,(Kx _).binds (by o_law)],#[_,_,Ky _,a ∅,(Ky _).binds (by o_law)],#[_,_,Kz _,a ∅,(Kz _).binds (by o_law)],#[_,_,KC _,a ∅,(KC _).binds (by o_law)],#[_,_,KD _,a ∅,(KD _).binds (by o_law)],#[_,_,KE _,a ∅,(KE _).binds (by o_law)],#[_,_,KF _,a ∅,(KF _).binds (by o_law)],#[_,_,KG _,a ∅,(KG _).binds (by o_law)],#[_,_,KH _,a ∅,(KH _).binds (by o_law)],#[_,_,KI _,a ∅,(KI _).binds (by o_law)],#[_,_,KJ _,a ∅,(KJ _).binds (by o_law)],#[_,_,KL _,a ∅,(KL _).binds (by o_law)],#[_,_,KN _,a ∅,(KN _).binds (by o_law)],#[_,_,KO _,(KO _).binds (by o_law)],#[_,_,KQ _,(KQ _).binds (by o_law)],#[_,_,KR _,(KR _).binds (by o_law)],#[_,_,KT _,(KT _).binds (by o_law)],#[_,_,KU _,(KU _).binds (by o_law)],#[_,_,KY _,(KY _).binds (by o_law)],#[_,_,KZ _,(KZ _).binds (by o_law)],#[_,_,K0 _,(K0 _).binds (by o_law)],#[_,_,K3 _,(K3 _).binds (by o_law)],#[_,_,K4 _,(K4 _).binds (by o_law)],295,a ∅,#[∅,∅,∅,∅],#[∅,∅,∅,∅],#[∅,∅,∅],#[∅,∅,∅],#[∅,∅,∅],#[∅,∅,∅],#[∅,∅,∅],#[∅,∅,∅],#[∅,∅,∅],#[∅,∅,∅],#[∅,∅,∅],by show PySem.W.findIn _ _ _=_;kernel_rfl,by show PySem.W.findIn _ _ _=_;kernel_rfl,by show PySem.W.findIn _ _ _=_;kernel_rfl,by show PySem.W.findIn _ _ _=_;kernel_rfl,by show PySem.W.findIn _ _ _=_;kernel_rfl,c ∅,c ∅,c ∅,c ∅,c ∅,c ∅,c ∅,c ∅,c ∅,c ∅,c ∅,c ∅,c ∅,#[336,mi ∅],#[334,mi ∅],#[623,mi ∅],#[466,mi ∅]],rfl,λs v=>.of_eq rfl]
end My
open PySem PySem.W PyProof.Rows
set_option maxRecDepth 100000 in
set_option maxHeartbeats 0 in
theorem PySem.Challenge.cw_sumcraft_k32_sums_and_products_keep_holds : PySem.Challenge.rw_sumcraft_k32_sums_and_products_keep.Holds := by
 refine holds_law My.Me λa=>?_;refine holds_open (r:=PySem.Challenge.rw_sumcraft_k32_sums_and_products_keep.row)
  (q:=My.qv) (loose:=[]) (Xt:=My.xt)
  (XP:=XL My.qv []) (Yf:=My.hk.obs) (Ya:=My.hk.val)
  (YP:=My.hk.says) (N:=5712)
  My.left My.hk.of My.hk.keeps
  (λs e=>xl_of s (Bool.and_eq_true_iff.mp e).1)
  XL.keeps (by rfl) (by rfl) (by rfl)
  (λs e=>recFacts_of (Bool.and_eq_true_iff.mp e).2)
  (by rfl) a (by decide +kernel)
  My.Mf ?wit ?go
 case wit=>w_witness2
 case go=>exact My.Tl (l:=PySem.Challenge.rw_sumcraft_k32_sums_and_products_keep) rfl rfl (λw h Y=>kIn_of Y) My.facts
