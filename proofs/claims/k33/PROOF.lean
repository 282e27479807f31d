import PyProof.Rows.All
import Wide.All
import OpenK.AllK
import Wide.FinOn
import Lean
import PyProof.EqAt
import PyProof.EqKinds
import PyProof.TupleCall
import PySem.Challenge.RW_sumcraft_k33_sums_so_far_keep
set_option Elab.async false
set_option linter.all false
set_option maxRecDepth 100000
set_option maxHeartbeats 4000000
local macro_rules | `(∅) => `(by kernel_rfl)
local macro_rules | `(⇑$x) => `(by simpa using $x)
local macro_rules | `(tactic| simp! [$x,*]) => `(tactic| (iterate 3 (k_units; (try simp only [$x,*])); k_units))
local macro_rules | `(#v[$x,*]) => do
  let y := x.getElems.back!
  let r : Array (Lean.TSyntax `Lean.Parser.Tactic.rwRule) ← x.getElems.pop.mapM fun e => if e.raw[0].getAtomVal == "<-" then let z : Lean.Term := ⟨e.raw[1][0]⟩; `(Lean.Parser.Tactic.rwRule| ← $z:term) else `(Lean.Parser.Tactic.rwRule| $e:term)
  `(by rw [$r,*]; exact $y)
namespace Dc
open Lean
def tb : String := "rfl0 pv1 _0 ab2 ae0 Or.inl1 ag0 aj2 :i1 #00 ar3 av5 #10 #20 ay1 #30 ()0 FnOk.mono2 .nil0 aE0 _0 T0 #40 aK9 aN4 ^21 aO5 aS1 aU1 aX4 hr0 #50 T.QU0 bE0 bH0 #60 bM0 bU1 PassesOwn.never0 bZ4 cj3 ce0 cq0 ^41 cF2 cG0 cH0 cJ5 cK0 cW1 dc0 dg0 #70 <2 dC3 dB2 dQ2 dO0 eC0 T.QX0 _0 eo0 eN1 #80 fc8 fo4 Or.inr1 fD0 fM6 PySem.F.plainAttrs_list0 fI.nd0 PW.pt1 f70 fC2 fZ3 :K1 K0 f92 f89 T.QV0 PySem.F.slot_list_append0 PySem.F.type_list_append0 fN0 gg.nd0 gT3 T.QZ0 gX0 n0 gF.nd0 iT5 iU0 _0 iR2 _0 :v1 iS0 #90 L0 iu.nd0 jr0 jt0 jC1 T.Q10 T.Q0.kp0 T.Q20 js8 jp0 i4.nd0 jo0 i3.nd0 jk1 jj0 d0 i5.nd0 i6.nd0 jU2 jS1 jn2 jm0 jT1 jB.nd0 kf3 T.Q60 jY1 jX0 T.Q50 ke0 i7.nd0 jA.nd0 j_0 kW1 km.nd0 T.Q80 #100 ko.nd0 kq.nd0 F0 kT4 kR1 mX4 mY0 lG.nd0 nE7 mW3 mS4 .int1 kY0 oi2 T.Rf0 nj0 lI.nd0 mU0 lH.nd0 qk0 rO3 T.RF0 p_6 rM0 qc0 tO1 T.Rg0 T.Q9.kp0 T.Rh0 tQ1 T.Ri0 T.Q_.kp0 T.Rj0 qp3 p92 p83 si3 se0 pY3 qh0 qg0 pZ0 n_.nd0 oa.nd0 uc1 T.Rt0 T.Rc.kp0 T.Ru0 t_1 T.Rq0 T.Rb.kp0 T.Rr0 uv1 T.Rk0 T.Ra.kp0 T.Rm0 rN1 qq0 T.RG0 rH0 pX5 .ty1 oe.nd0 yW6 yX0 tq.nd0 zi0 tw.nd0 'number0 As1 T.RV0 T.Rn.kp0 T.RW0 zE3 At3 y_1 tL.nd0 t0 zh5 tD.nd0 Aw1 T.R80 T.Rs.kp0 T.R90 zz1 Ax1 T.Sd0 T.Rv.kp0 T.Se0 tE.nd0 'shared0 tG.nd0 T.T90 T.T80 Ar2 tI.nd0 tu.nd0 tH.nd0 yQ1 tJ.nd0 o0 tK.nd0 A_1 T.Th0 T.Rz.kp0 T.Ti0 Ba1 T.Tu0 T.RA.kp0 T.Tv0 yS2 Ac.nd0 Dj3 EE8 'factor0 Ep3 T.U30 Dw1 Fx2 ED8 FH1 T.Ut0 T.SN.kp0 T.Uu0 Ad.nd0 Ez1 T.U40 boot_sum0 Ev1 FC1 T.Uq0 T.SI.kp0 T.Ur0 T.UX0 FG1 T.UO0 T.UY0 FI1 T.UP0 PySem.F.plainAttrs_int0 PySem.F.slot_int_bit_length0 PySem.F.type_int_bit_length0 El0 #3000 T.U5.20 Do0 Dn0 FR1 T.Ue0 T.Sm.kp0 T.Uf0 FQ1 T.Ub0 T.Sh.kp0 T.Uc0 Ae.nd0 F51 Y0 T.Ui0 T.Sv.kp0 T.Uj0 T.UZ0 FJ1 T.UQ0 DM9 T.UW0 FF1 T.UV0 T.UN0 T.U10 FM1 T.UR0 Ex4 G71 T.Ul0 T.Sz.kp0 T.Um0 Af.nd0 Ag.nd0 HI1 T.UD0 T.Tl.kp0 T.UE0 HN1 T.UH0 T.TB.kp0 T.UI0 'list0 HR1 T.UB0 T.Te.kp0 T.UC0 HQ1 T.UK0 T.TK.kp0 T.UL0 L.units0 G0 'pivot0 'before0 #970 T.Wg.20 Lr0 Fo.nd0 'place0 U0 LD5 KD2 KC0 'columns0 'vector0 'vectors0 'column0 PySem.F.plainAttrs_dict0 PySem.F.slot_dict_setdefault0 PySem.F.type_dict_setdefault0 LP0 Fp.nd0 KO0 !u0 Ka0 Ku3 Kv0 Kk0 #40000 T.We.20 Nt1 T.U80 T.Ua.kp0 T.U90 NA1 T.U_0 T.Ud.kp0 T.Va0 NE1 T.Vb0 T.Ug.kp0 T.Vd0 NG1 B0 T.Ve0 T.Uh.kp0 T.Vf0 Ng1 T.Vo0 T.Uv.kp0 T.Vp0 NQ1 T.Vr0 T.Uw.kp0 T.Vs0 LN4 'places0 'marks0 Na1 T.Vm0 T.Us.kp0 T.Vn0 Lz9 'row0 'self0 LO4 T.Wb0 T.VZ0 T.V90 NV1 T.VU0 T.V_0 No1 T.VW0 Fm.nd0 'rule0 'weight0 MZ1 T.U60 T.T_.kp0 T.U70 'start0 OV1 T.Vi0 T.Uo.kp0 T.Vj0 Fl.nd0 C0 J92 Kl0 #320 T.Wf.20 O81 T.Vg0 T.Uk.kp0 T.Vh0 Fn.nd0 T.Vt0 T.Ux.kp0 T.Vu0 Pe1 T.Vx0 T.Uz.kp0 T.Vy0 Pa1 T.Vv0 T.Uy.kp0 T.Vw0 OY1 T.Vk0 T.Up.kp0 T.Vl0 T.Vz0 T.UA.kp0 T.VC0 M.units0 Kj0 PySem.F.slot_list_pop0 PySem.F.type_list_pop0 KR0 '_law_m0 PY1 T.VD0 T.UF.kp0 T.VE0 u0 hr.units0 'int0 T.Wd0 K90 'bool0 T.Wc0 K_0 Qa1 T.VF0 T.UG.kp0 T.VG0 Qd1 T.VI0 T.UJ.kp0 T.VJ0 Qf1 T.VM0 T.UM.kp0 T.VN0"
def rl : String := "#! %Ȟ +('Ƞ!)2350719 ȣȝ.;<4!,!/ @ȬA&ȦȤ>!-:Bȱȭ8Dȯ &ȩ)$Ȳȝ,$G(!6*J&$LM*NOFȿ -$ P*R  'ɀU4Ɇ H=ȡ- Vȟȥȣ#WȢɍ ȝȸ!C.Ƞȡ/ XȞȟɔɇ8YE#SQE$ȧ)!? [ȽȮȳȢȝȶ&#ȝɁɓɂ0ɕȟ*aɊɜ# bɧ ɢ`ȷȶ'Ɉiȹklȝ/ȡ6^dɰeɱpɲqɳr!Tfȟ=ZɎ$IȨ*c?$ȷȸɂɘȪKȡ,tFuvHgȵȨjɦɭ nȢʆoȤwʈ ɗȼȡ?$$ȡCɚɏȩȨ#ȥȟ&ȼȹȝ6ɣɘ#ɸsȟ*¡Ȥ£ʘ ɞɝȧȶȝɻ'ʀ=h ʁɥɽ'ʂȷɁȟ.ȳȰ¨©ʥªɃȾ«(ɥɩKȥȧ,Ʌʄ'ɴ!_ɅQȧ-ɮ$Ȥ²ʲ ɺʗȫ&· ʶɬȟɬȟ¸ȨȥȧɁȹ/ȺȮ§ȴʾʦ» ˀ¼ȡTȢȪ'ʨɣSɖɵˆȮ:¾ˈ ˉ¿ˊÀmɈʴʵµʞȵ¶yÃːʟɤzʡ|ɠȽȺȦȫȦȟə#ȼʓ$ȨȰɄÆ#Ȼʝ=.ɴ]ʏ­ȟȳȪÊ0Ì°´ȟÍÎʹ.Iɉ*¦ȟɑɌȥˁȝÒ~ˬÓ˛Ôɠȼ8Õ˰ʅɄÖ˲×ȲʕɫZ]I½#ȾʮɐȮȧ/ɖʽʯȢȧȸɝȵɃ&ȹ6ˢ>"
def ix (c : Char) : Nat := if c.toNat < 127 then c.toNat - 32 else c.toNat - 66
def go (r : Array Char) (n : Nat) : Nat → Char → List Nat
  | 0, _ => []
  | k + 1, c => if ix c < n then [ix c] else go r n k (r.getD (2 * (ix c - n)) ' ') ++ go r n k (r.getD (2 * (ix c - n) + 1) ' ')
def nm (s : String) : Name := (s.splitOn ".").foldl (fun n x => .str n x) .anonymous
def mk (s : String) (a : Array Syntax) : MacroM Syntax := do
  let c := s.front
  let r := (s.drop 1).toString
  let x : Term := ⟨a.getD 0 .missing⟩
  if c == '#' then return Syntax.mkNumLit r
  else if c == '\'' then return Syntax.mkStrLit r
  else if c == '_' && r == "" then `(_)
  else if c == '(' then `(())
  else if c == '<' then let ys : Array Term := a.map (⟨·⟩); `(⟨$ys,*⟩)
  else if c == '^' then let hs <- (Array.replicate (r.toNat?.getD 0) ()).mapM fun _ => `(_); `(fun $hs:term* => $x)
  else if c == ':' then let f <- `(x ($(mkIdent (nm r)):ident := $x)); return f.raw[1][0]
  else if c == '!' then (if r == "d" then `(by decide) else if r == "o" then `(by omega) else if r == "u" then `(by with_unfolding_all rfl) else `(by exact $x))
  else
    let h <- if c == '.' then let i := mkIdent (nm r); `(.$i) else if s.endsWith ".2.1" then `($(mkIdent (nm (s.dropEnd 4).toString)).2.1) else if s.endsWith ".2" then `($(mkIdent (nm (s.dropEnd 2).toString)).2) else if s.endsWith ".1" then `($(mkIdent (nm (s.dropEnd 2).toString)).1) else pure ⟨(mkIdent (nm s)).raw⟩
    return if a.isEmpty then h else Syntax.node .none `Lean.Parser.Term.app #[h, mkNullNode a]
def rd (t : Array String) : Nat → List Nat → MacroM (Syntax × List Nat)
  | 0, _ => Macro.throwUnsupported
  | _, [] => Macro.throwUnsupported
  | k + 1, i :: l => do
    let s := t.getD i "_0"
    let mut a : Array Syntax := #[]
    let mut l := l
    for _ in List.range ((s.takeEnd 1).toString.toNat?.getD 0) do
      let (x, m) <- rd t k l
      a := a.push x
      l := m
    return (<- mk (s.dropEnd 1).toString a, l)
def all (s : String) : MacroM Syntax := do
  let t := (tb.splitOn " ").toArray
  let l := s.toList.flatMap (go rl.toList.toArray t.size 99)
  return (<- rd t (l.length + 1) l).1
end Dc
local macro_rules | `(s! $x) => Dc.all ((x.raw[0].isInterpolatedStrLit?).getD "")
namespace Xob
section
variable {A B C D E F H I J K L M N O P G : Prop}
theorem xR_2 (k : A → B → G)(h : A/\B) : G := k h.1 h.2
theorem xR_3 (k : A → B → C → G) : A/\B/\C → G := xR_2 fun a => xR_2 (k a)
theorem xR_4 (k : A → B → C → D → G) : A/\B/\C/\D → G := xR_2 fun a => xR_3 (k a)
theorem xR_5 (k : A → B → C → D → E → G) : A/\B/\C/\D/\E → G := xR_2 fun a => xR_4 (k a)
theorem xR_6 (k : A → B → C → D → E → F → G) : A/\B/\C/\D/\E/\F → G := xR_2 fun a => xR_5 (k a)
theorem xR_7 (k : A → B → C → D → E → F → H → G) : A/\B/\C/\D/\E/\F/\H → G := xR_2 fun a => xR_6 (k a)
theorem xR_8 (k : A → B → C → D → E → F → H → I → G) : A/\B/\C/\D/\E/\F/\H/\I → G := xR_2 fun a => xR_7 (k a)
theorem xR_9 (k : A → B → C → D → E → F → H → I → J → G) : A/\B/\C/\D/\E/\F/\H/\I/\J → G := xR_2 fun a => xR_8 (k a)
theorem xR_10 (k : A → B → C → D → E → F → H → I → J → K → G) : A/\B/\C/\D/\E/\F/\H/\I/\J/\K → G := xR_2 fun a => xR_9 (k a)
theorem xR_11 (k : A → B → C → D → E → F → H → I → J → K → L → G) : A/\B/\C/\D/\E/\F/\H/\I/\J/\K/\L → G := xR_2 fun a => xR_10 (k a)
theorem xR_12 (k : A → B → C → D → E → F → H → I → J → K → L → M → G) : A/\B/\C/\D/\E/\F/\H/\I/\J/\K/\L/\M → G := xR_2 fun a => xR_11 (k a)
theorem xR_13 (k : A → B → C → D → E → F → H → I → J → K → L → M → N → G) : A/\B/\C/\D/\E/\F/\H/\I/\J/\K/\L/\M/\N → G := xR_2 fun a => xR_12 (k a)
theorem xR_14 (k : A → B → C → D → E → F → H → I → J → K → L → M → N → O → G) : A/\B/\C/\D/\E/\F/\H/\I/\J/\K/\L/\M/\N/\O → G := xR_2 fun a => xR_13 (k a)
end
section
variable {A B C D E F H I J : Sort _} {G : Prop}
theorem xX_1 {P : A → Prop}(k : ∀ x, P x → G)(h : ∃ x, P x) : G := h.elim k
theorem xX_2 {P : A → B → Prop}(k : ∀ x0 x1, P x0 x1 → G) : (∃ x0 x1, P x0 x1) → G := xX_1 fun x => xX_1 (k x)
theorem xX_3 {P : A → B → C → Prop}(k : ∀ x0 x1 x2, P x0 x1 x2 → G) : (∃ x0 x1 x2, P x0 x1 x2) → G := xX_1 fun x => xX_2 (k x)
theorem xX_4 {P : A → B → C → D → Prop}(k : ∀ x0 x1 x2 x3, P x0 x1 x2 x3 → G) : (∃ x0 x1 x2 x3, P x0 x1 x2 x3) → G := xX_1 fun x => xX_3 (k x)
theorem xX_5 {P : A → B → C → D → E → Prop}(k : ∀ x0 x1 x2 x3 x4, P x0 x1 x2 x3 x4 → G) : (∃ x0 x1 x2 x3 x4, P x0 x1 x2 x3 x4) → G := xX_1 fun x => xX_4 (k x)
theorem xX_6 {P : A → B → C → D → E → F → Prop}(k : ∀ x0 x1 x2 x3 x4 x5, P x0 x1 x2 x3 x4 x5 → G) : (∃ x0 x1 x2 x3 x4 x5, P x0 x1 x2 x3 x4 x5) → G := xX_1 fun x => xX_5 (k x)
theorem xX_7 {P : A → B → C → D → E → F → H → Prop}(k : ∀ x0 x1 x2 x3 x4 x5 x6, P x0 x1 x2 x3 x4 x5 x6 → G) : (∃ x0 x1 x2 x3 x4 x5 x6, P x0 x1 x2 x3 x4 x5 x6) → G := xX_1 fun x => xX_6 (k x)
theorem xX_8 {P : A → B → C → D → E → F → H → I → Prop}(k : ∀ x0 x1 x2 x3 x4 x5 x6 x7, P x0 x1 x2 x3 x4 x5 x6 x7 → G) : (∃ x0 x1 x2 x3 x4 x5 x6 x7, P x0 x1 x2 x3 x4 x5 x6 x7) → G := xX_1 fun x => xX_7 (k x)
end
end Xob
namespace Xob
open Lean
def oK (q : Syntax) (k : String) : Bool := q[0][0].isOfKind (.str `Lean.Parser.Tactic.rcasesPat k)
def oA : Nat → Syntax → Bool
  | 0, _ => true
  | k + 1, p => p[0].getNumArgs != 1 || !(oK p "one" || oK p "ignore" || oK p "tuple" && !p[0][0][1].getSepArgs.any fun q => q[1].getNumArgs != 0 || oA k q[0])
def oM (p : Syntax) (l : List Syntax) : TSyntax `Lean.Parser.Tactic.rcasesPatMed := ⟨if l.length == 1 then l.head![0] else p.setArg 0 (p[0].setArg 0 (p[0][0].setArg 1 (mkNullNode (mkSepArray l.toArray (mkAtom ",")))))⟩
def oN (p : Syntax) (i : Nat) (l : List Syntax) : MacroM (Term × List (TSyntax `tactic)) := do
  let m := l.head![0]
  let r : Ident := mkIdent (<- MonadQuotation.addMacroScope (.mkSimple ("e" ++ toString i)))
  if l.length == 1 && oK m "one" then
    if m[0][0][0].getId == `rfl then return (⟨r.raw⟩, [<- `(tactic| subst $r)]) else return (⟨m[0][0][0]⟩, [])
  else if l.length == 1 && oK m "ignore" then return (<- `(_), [])
  else let mm := oM p l; return (⟨r.raw⟩, [<- `(tactic| obtain $mm:rcasesPatMed := $r)])
def oO (p : Syntax) (e : Term) : MacroM (TSyntax `tactic) := do
  let ps := (if oK p "tuple" then p[0][0][1].getSepArgs else #[]).toList
  let N := ps.length
  if N < 2 || oA 9 p then Macro.throwUnsupported
  let mut s : Array (TSyntax `tactic) := #[]
  for b in [false, true] do
    for j in List.range (N - 1) do
      let n := N - j - if b then 1 else 0
      if n ≤ if b then 8 else 14 then
        let k := if b then n else n - 1
        let q := (ps.take k).map ([·]) ++ [ps.drop k]
        let zs <- (q.zip (List.range N)).mapM fun (l, i) => oN p i l
        let l := mkIdent (`_root_.Xob ++ .mkSimple ((if b then "xX_" else "xR_") ++ toString n))
        let f <- `(fun $((zs.map (·.1)).toArray):term* => ?_)
        let t := (zs.flatMap (·.2)).toArray
        s := s.push (<- if e.raw.isIdent then `(tactic| (revert $e:term; refine $l $f; $t;*)) else `(tactic| (refine $l $f $e; $t;*)))
  let mm : TSyntax `Lean.Parser.Tactic.rcasesPatLo := ⟨mkNode `Lean.Parser.Tactic.rcasesPatLo #[p, mkNullNode]⟩
  s := s.push (<- `(tactic| rcases $e:term with $mm))
  `(tactic| first $[| $s:tactic]*)
end Xob
local macro_rules | `(tactic| obtain $p:rcasesPatMed := $e:term) => Xob.oO p e
set_option compiler.extract_closed false
set_option bootstrap.genMatcherCode false
local macro_rules | `(tactic| omega) => `(tactic| first|lia|omega +splitDisjunctions)
local macro_rules | `(()) => `(by first|omega|decide)
noncomputable section
abbrev aa:=List Int
abbrev ac:=List aa
abbrev ax:=List ac
open List renaming length_map→af,getElem?_eq_getElem→ao,getD_eq_getElem?_getD→aq,getElem?_map→aG,range→aJ,map_append→aT,mem_singleton→aW,getElem?_eq_some_iff→aY,mem_map→aZ,mem_append→a8,mem_cons→bj,eq_nil_of_length_eq_zero→bC,replicate→bI,mem_of_getElem?→bT,length_take→bX,getElem_mem→bY,length_append→b4,mem_iff_getElem→cm,getElem?_append_left→cA,length_cons→cC,getElem_map→cE,getElem?_append_right→cQ,mem_range→cU,zipWith→cV,mem_cons_of_mem→cX,take_succ→cY,length_pos_iff→de,mem_cons_self→dr,size_toArray→dF,map_cons→dY,map_congr_left→eK,take_length→e_,getLast?_eq_getElem?→fK,range_succ→fL,nil_append→gk,take_of_length_le→gl,mem_append_right→gv,length_range→gw,sum_append→gx,getElem?_eq_none→ic,ext_getElem→ie,getElem?_range→ij,mem_of_mem_take→ik,mem_of_getLast?→il,mem_append_left→iC,replicate_succ→iE,sum_cons→iM,getElem?_replicate→jc,map_map→jg,map_singleton→jh,exists_cons_of_length_eq_add_one→ji,length→jM,nodup_append→jQ,getElem_range→jR,mem_filter→kF,nodup_cons→kH,cons_append→kK,nodup_nil→kO,lookup→mn,append_nil→mo,getElem?_take_of_lt→mq,length_replicate→mr,length_singleton→mu,not_mem_nil→mw,drop_zero→mD,mem_reverse→mF,length_zipWith→mI,sum_singleton→mO,getElem?_set_ne→oE,length_drop→oI,length_set→oJ,append_assoc→oM,getLast?_eq_some_getLast→oP,map_eq_nil_iff→oQ,map→oV,getLast?_eq_some_iff→oW,pairwise_iff_getElem→oY,length_reverse→oZ,getElem?_set_self→uI,any_cons→uK,flatten_cons→uL,map_nil→uM,eq_nil_or_concat→uN,concat_eq_append→uO,getLast?_concat→uR,getLast?_eq_none_iff→uW,getElem?_zipWith→uX,getLast?_map→u_,lookup_cons→Bf,find?_cons→Bh,length_nil→Bi,drop_eq_getElem_cons→Bj,getLast_eq_getElem→Bv,length_eq_one_iff→BA,filterMap_cons→IM,of_mem_zip→IP,take_sublist→IQ,length_dropLast→IR,map_take→IT,map_drop→IU,getElem?_cons_zero→IV,headD_cons→IW,tail_cons→IX,length_tail→IY,take_append_drop→IZ,map_id→Jc,filter_append→Jk,getElem_cons_zero→Jl,getElem_cons_succ→Jm,sum_replicate_nat→Jn,reverse_append→Qp,take_succ_eq_append_getElem→Qq,set_append_right→Qr,take_succ_cons→Qw,drop_eq_nil_of_le→Qx,getElem?_cons_succ→Qy,replicate_zero→Qz,drop_of_length_le→QF,mem_or_eq_of_mem_set→QG,countP_eq_length_filter→QI,eq_of_mem_replicate→QJ,eq_replicate_iff→QK,singleton_append→QL,getElem?_dropLast→QM,dropLast_concat_getLast→QN
open Nat renaming le_refl→aA,le_trans→aM,zero_le→aR,gcd→bJ,lt_of_le_of_lt→ca,lt_of_lt_of_le→cP,ne_of_lt→dj,le_of_lt→dm,pow_add→du,mul_le_mul_right→dA,two_pow_pos→dG,mul_le_mul→dJ,mul_le_mul_left→dZ,one_mul→eI,pow_le_pow_right→e9,sub_self→fB,mul_comm→fW,le_mul_of_pos_left→gm,mul_pos→gM,add_mul→gP,mul_assoc→gQ,pow_succ→iF,le_mul_of_pos_right→iJ,le_of_dvd→jd,gcd_dvd_left→je,lt_irrefl→jL,gcd_dvd_right→jN,le_of_eq→kG,add_le_add→kJ,mul_one→kP,add_comm→mv,lt_of_not_le→mz,pos_of_ne_zero→mB,add_sub_cancel→mG,pow_lt_pow_right→mH,mul_succ→mJ,mod_lt→mK,pow_le_pow_left→mL,pow_mul→mN,lt_succ_self→oH,le_of_not_lt→oN,lt_succ_of_lt→oO,dvd_gcd→oX,le_succ→uJ,gcd_comm→uY,eq_of_mul_eq_mul_left→Bk,strongRecOn→Bn,eq_zero_of_zero_dvd→Bo,div_add_mod'→Bu,dvd_zero→Bw,add_le_add_right→BB,zero_add→BC,ne_of_gt→IN,log2_lt→IS,sub_zero→Jb,mul_lt_mul_of_pos_left→Jd,eq_zero_or_pos→Je,lt_or_ge→Jf,dvd_antisymm→Jg,gcd_rec→Jh,mul_add→Ji,gcd_pos_of_pos_left→Jj,sub_le_of_le_add→Qt,mul_lt_mul_of_pos_right→Qu,div_lt_iff_lt_mul→QB,div_le_div_right→QC,eq_one_of_mul_eq_one_right→QE,add_le_add_left→QH
open Int renaming natAbs_mul→b6,mul_comm→cw,mul_assoc→cD,mul_zero→dq,natAbs_natCast→dy,one_mul→dS,dvd_trans→eJ,natCast_mul→fm,mul_ne_zero→fX,zero_mul→gJ,natCast_dvd_natCast→gO,ofNat_dvd_left→gS,natAbs_add_le→ib,mul_add→ig,zero_add→ii,toNat_natCast→iD,add_zero→iG,natAbs_dvd_natAbs→iH,mul_eq_zero→iI,dvd_mul_right→iL,natAbs_pos→jf,mul_left_comm→jO,eq_of_mul_eq_mul_left→jP,mul_fdiv_cancel_left→kI,pow_succ→kL,natAbs_sub_le→my,dvd_refl→mC,mul_le_mul_of_nonneg_left→mE,natAbs→mQ,mul_one→oG,le_of_lt→oR,dvd_zero→oS,dvd_mul_left→oU,mul_sub→uP,mul_neg→uQ,add_mul→uS,mul_pos→uT,mul_ediv_cancel'→uU,natAbs_dvd→uV,dvd_natAbs→uZ,fdiv_eq_ediv_of_nonneg→Be,natAbs_neg→Bg,mul_nonneg→Bl,lt_or_gt_of_ne→Bm,mul_le_mul_of_nonneg_right→Br,natAbs_pow→Bs,natCast_pow→Bx,pos_of_mul_pos_right→By,lt_of_not_ge→Bz,dvd_add→I0,zero_dvd→I_,mul_dvd_mul_left→Ja,mul_dvd_mul→Jo,mul_nonneg_of_nonpos_of_nonpos→Qs,dvd_of_mul_dvd_mul_left→Qv,fmod_nonneg_of_pos→QD
open Option renaming map_eq_some_iff→cZ,getD_some→eL,isSome_iff_exists→Qo
namespace My
open PySem PySem.Spec PyProof.Rows PySem.W
noncomputable def top (i:Nat):Stmt:=PySem.Challenge.pw_sumcraft_k33_sums_so_far_keep.main.body.getD i (.Pass ⟨0,0,0,0⟩)
def c_ (s:Stmt)(j:Nat):Stmt:=match s with
 | .ClassDef _ _ _ b _ _ _ _ _ _ _=>b.getD j (.Pass ⟨0,0,0,0⟩)
 | _=>.Pass ⟨0,0,0,0⟩
abbrev ve:Stmt:=top 6
abbrev vf:Stmt:=top 7
abbrev vg:Stmt:=top 8
abbrev vh:Stmt:=top 9
abbrev vi:Stmt:=top 10
abbrev vj:Stmt:=top 11
abbrev vk:Stmt:=top 12
abbrev vm:Stmt:=top 16
abbrev vn:Stmt:=top 17
abbrev vo:Stmt:=top 19
abbrev vr:Stmt:=top 20
abbrev vt:Stmt:=top 21
abbrev vv:Stmt:=top 22
abbrev vw:Stmt:=top 23
abbrev vz:Stmt:=top 24
abbrev vB:Stmt:=top 25
abbrev vD:Stmt:=top 26
abbrev vE:Stmt:=top 27
abbrev vG:Stmt:=top 29
abbrev vH:Stmt:=top 31
abbrev vI:Stmt:=top 32
abbrev vJ:Stmt:=top 35
abbrev vK:Stmt:=top 36
abbrev vL:Stmt:=top 37
abbrev vM:Stmt:=top 38
abbrev vN:Stmt:=top 39
abbrev vO:Stmt:=top 41
abbrev vP:Stmt:=top 44
abbrev vQ:Stmt:=top 45
abbrev vR:Stmt:=top 46
abbrev vU:Stmt:=top 47
abbrev vV:Stmt:=top 49
abbrev vW:Stmt:=top 50
abbrev vX:Stmt:=top 51
abbrev vY:Stmt:=top 52
abbrev vZ:Stmt:=top 53
abbrev v_:Stmt:=top 54
abbrev we:Stmt:=top 55
abbrev wf:Stmt:=top 56
abbrev wg:Stmt:=top 57
abbrev wh:Stmt:=top 58
abbrev wk:Stmt:=c_ (top 40) 0
abbrev wl:Stmt:=c_ (top 40) 1
abbrev wm:Stmt:=c_ (top 40) 2
abbrev wn:Stmt:=c_ (top 40) 3
abbrev wo:Stmt:=c_ (top 40) 4
abbrev wq:Stmt:=c_ (top 40) 5
abbrev wt:Stmt:=c_ (top 40) 6
abbrev wu:Stmt:=c_ (top 40) 7
abbrev wv:Stmt:=c_ (top 40) 8
abbrev BD:Stmt:=c_ (top 40) 9
noncomputable def kE (P:Params) (x:String) (n:Nat) (v:Value):DictEntry:=⟨PyData.keyHash P (Str.ofString x),.str (Str.ofString x) n,v⟩
noncomputable def kM (x q:Str) (s:Stmt) (m:Str) (k c:Nat):Obj:=match s with
 | .FunctionDef _ a b _ _ _ sc _ _ _=>⟨.type "function",none,.func (fnOf x q a b sc .none .none .none (.str m k) none (.ref c) .none),#[]⟩
 | _=>⟨.none,none,.plain,#[]⟩
def kN (x q:Str)(s:Stmt):Obj:=match s with
 | .FunctionDef _ a b _ _ _ sc _ _ _=>⟨.none,none,.func { name:=x,qualname:=q,params:=a,body:=.stmts b,scope:=sc,globals:=0,closure:=[],defaults:=.none,kwdefaults:=.none },#[]⟩
 | _=>⟨.none,none,.plain,#[]⟩
noncomputable def oT (x:Array Value):Obj:={ cls:=.type "tuple",data:=Data.seq x }
noncomputable def oF (x:Array Value):Obj:={ cls:=.none,data:=Data.fields x }
noncomputable def oK (x:Array Value):Obj:={ cls:=.type "code",data:=Data.fields x }
noncomputable def oB (x:Array Value):Obj:={ cls:=.type "builtin_function_or_method",data:=Data.fields x }
def cp (n:Nat):Value:=.str "/claim/cut.py" n
noncomputable def frC (x q:Str) (n L a f r:Nat) (b:Bool) (c k:Nat):Obj:=oK #[.str x n,.str q (n+1),cp (n+2),.int L 0,.int a 0,.int 0 0,.int 0 0,.int f 0,.ref r,.bool b,.int c 0,.ref (r+1),.none,.ref (r+2),.ref (r+3),.ref (r+4),.int k 0,.int L 0,cp (k+1)]
noncomputable def frT:Nat->List String->List Value
 | _,[]=>[]
 | n,x :: r=>.str (Str.ofString x) n :: frT (n+1) r
noncomputable def frS (n:Nat) (l:List String):Obj:=oT ⟨frT n l⟩
noncomputable def frL (l:List (Nat×Nat)):Obj:=oF ⟨l.flatMap λp=>[.int p.1 0,.int 0 0,.ref p.2]⟩
noncomputable def frD (e:DictEntry) (l:List DictEntry) (n:Nat):Obj:={ cls:=.type "dict",data:=Data.dict ⟨e :: l⟩ n }
def ai:Obj:=oT #[]
def aB:Obj:=oF #[]
def o0:Obj:=oK #[.str "<module>" 182,.str "<module>" 183,cp 184,.int 1 0,.int 0 0,.int 0 0,.int 0 0,.int 0 0,.ref 11,.bool false,.int 181 0,.ref 12,.none,.none,.none,.none,.int 185 0,.int 1 0,cp 186]
def o3:Obj:={ cls:=.type "frame",slots:=#[some (.ref 13),some (.ref 3),some (.ref 3),none,some (.str "__main__" 164),none,some (.ref 0)] }
noncomputable def BE (P:Params):List DictEntry:=[kE P "__doc__" 166 (.none),kE P "__package__" 167 (.none),kE P "__loader__" 168 (.builtin "__main__.__loader__#opaque"),kE P "__spec__" 169 (.none),kE P "__annotations__" 170 (.ref 6),kE P "__builtins__" 171 (.ref 4),kE P "__file__" 173 (cp 172),kE P "__cached__" 174 (.none),kE P "SumError" 206 (.ref 24),kE P "NoNumber" 222 (.ref 37),kE P "NoRule" 238 (.ref 49),kE P "TooGreat" 254 (.ref 61),kE P "trimmed" 264 (.ref 70),kE P "poly_plus" 275 (.ref 77),kE P "poly_less" 281 (.ref 82),kE P "poly_times" 294 (.ref 89),kE P "shifted" 305 (.ref 96),kE P "poly_value" 315 (.ref 103),kE P "quotient" 331 (.ref 110),kE P "LONG" 335 (.int 4000 334),kE P "WINDOW" 337 (.int 300 336),kE P "shortened" 354 (.ref 117),kE P "divisor" 366 (.ref 124),kE P "content" 377 (.ref 131)]
noncomputable def ob3 (P:Params):Obj:=frD (kE P "__name__" 165 (.str "sumcraft.reaches" 367)) (BE P) 25
def Jp:Obj:=frL [(2,20),(4,33),(6,45),(8,57),(11,69),(16,76),(21,81),(23,88),(31,95),(37,102),(42,109),(62,116),(78,123),(91,130)]
def ww:Obj:=oT #[.type "ValueError"]
def fY:Obj:=oB #[.builtin "type.__prepare__",.type "type"]
def o4 (P:Params):Obj:={ cls:=.type "dict",data:=Data.dict #[kE P "__module__" 196 (.str "sumcraft.errors" 187),kE P "__qualname__" 198 (.str "SumError" 197),kE P "__firstlineno__" 200 (.int 2 199),kE P "__static_attributes__" 201 (.ref 22)] 4 }
def wx:Obj:=oK #[.str "SumError" 191,.str "SumError" 192,cp 193,.int 2 0,.int 0 0,.int 0 0,.int 0 0,.int 0 0,.ref 18,.bool false,.int 181 0,.ref 19,.none,.none,.none,.none,.int 194 0,.int 2 0,cp 195]
def wy:Obj:={ cls:=.type "frame",slots:=#[some (.ref 20),some (.ref 3),some (.ref 17),none,some (.str "sumcraft.errors" 187),none,some (.ref 0)] }
def o7 (P:Params):Obj:={ cls:=.type "dict",data:=Data.dict #[kE P "__module__" 196 (.str "sumcraft.errors" 187),kE P "__firstlineno__" 200 (.int 2 199),kE P "__static_attributes__" 201 (.ref 22),kE P "__weakref__" 203 (.ref 25),kE P "__doc__" 204 (.none)] 3 }
def o8:Obj:={ cls:=.type "type",data:=Data.cls { name := "SumError",bases:=[.type "ValueError"],mro:=[.ref 24,.type "ValueError",.type "Exception",.type "BaseException",.type "object"],ns:=23,qualname := "SumError",subclasses:=[.ref 37,.ref 49,.ref 61] },slots:=#[some (.ref 15),none,some (.str "SumError" 189),some (.str "SumError" 197),some (.builtin "ValueError.__new__"),some (.bool true)] }
def wz:Obj:={ cls:=.type "getset_descriptor",data:=Data.fields #[.str "__weakref__" 202,.ref 24,.builtin "ExceptionGroup.__weakref__",.none] }
def wB:Obj:={ cls:=.type "super",data:=Data.fields #[.ref 24,.ref 24,.ref 24] }
def wC:Obj:=oB #[.builtin "object.__init_subclass__",.ref 24]
def iN:Obj:=oT #[.ref 24]
def o9 (P:Params):Obj:={ cls:=.type "dict",data:=Data.dict #[kE P "__module__" 214 (.str "sumcraft.errors" 187),kE P "__qualname__" 216 (.str "NoNumber" 215),kE P "__firstlineno__" 218 (.int 4 217),kE P "__static_attributes__" 219 (.ref 35)] 4 }
def wD:Obj:=oK #[.str "NoNumber" 209,.str "NoNumber" 210,cp 211,.int 4 0,.int 0 0,.int 0 0,.int 0 0,.int 0 0,.ref 31,.bool false,.int 181 0,.ref 32,.none,.none,.none,.none,.int 212 0,.int 4 0,cp 213]
def wE:Obj:={ cls:=.type "frame",slots:=#[some (.ref 33),some (.ref 3),some (.ref 30),none,some (.str "sumcraft.errors" 187),none,some (.ref 0)] }
def o_ (P:Params):Obj:={ cls:=.type "dict",data:=Data.dict #[kE P "__module__" 214 (.str "sumcraft.errors" 187),kE P "__firstlineno__" 218 (.int 4 217),kE P "__static_attributes__" 219 (.ref 35),kE P "__doc__" 220 (.none)] 2 }
def pd:Obj:={ cls:=.type "type",data:=Data.cls { name := "NoNumber",bases:=[.ref 24],mro:=[.ref 37,.ref 24,.type "ValueError",.type "Exception",.type "BaseException",.type "object"],ns:=36,qualname := "NoNumber" },slots:=#[some (.ref 28),none,some (.str "NoNumber" 207),some (.str "NoNumber" 215),some (.builtin "ValueError.__new__"),some (.bool true)] }
def wF:Obj:={ cls:=.type "super",data:=Data.fields #[.ref 37,.ref 37,.ref 37] }
def wG:Obj:=oB #[.builtin "object.__init_subclass__",.ref 37]
def pf (P:Params):Obj:={ cls:=.type "dict",data:=Data.dict #[kE P "__module__" 230 (.str "sumcraft.errors" 187),kE P "__qualname__" 232 (.str "NoRule" 231),kE P "__firstlineno__" 234 (.int 6 233),kE P "__static_attributes__" 235 (.ref 47)] 4 }
def wH:Obj:=oK #[.str "NoRule" 225,.str "NoRule" 226,cp 227,.int 6 0,.int 0 0,.int 0 0,.int 0 0,.int 0 0,.ref 43,.bool false,.int 181 0,.ref 44,.none,.none,.none,.none,.int 228 0,.int 6 0,cp 229]
def wI:Obj:={ cls:=.type "frame",slots:=#[some (.ref 45),some (.ref 3),some (.ref 42),none,some (.str "sumcraft.errors" 187),none,some (.ref 0)] }
def ph (P:Params):Obj:={ cls:=.type "dict",data:=Data.dict #[kE P "__module__" 230 (.str "sumcraft.errors" 187),kE P "__firstlineno__" 234 (.int 6 233),kE P "__static_attributes__" 235 (.ref 47),kE P "__doc__" 236 (.none)] 2 }
def pi:Obj:={ cls:=.type "type",data:=Data.cls { name := "NoRule",bases:=[.ref 24],mro:=[.ref 49,.ref 24,.type "ValueError",.type "Exception",.type "BaseException",.type "object"],ns:=48,qualname := "NoRule" },slots:=#[some (.ref 40),none,some (.str "NoRule" 223),some (.str "NoRule" 231),some (.builtin "ValueError.__new__"),some (.bool true)] }
def wJ:Obj:={ cls:=.type "super",data:=Data.fields #[.ref 49,.ref 49,.ref 49] }
def wK:Obj:=oB #[.builtin "object.__init_subclass__",.ref 49]
def pj (P:Params):Obj:={ cls:=.type "dict",data:=Data.dict #[kE P "__module__" 246 (.str "sumcraft.errors" 187),kE P "__qualname__" 248 (.str "TooGreat" 247),kE P "__firstlineno__" 250 (.int 8 249),kE P "__static_attributes__" 251 (.ref 59)] 4 }
def wL:Obj:=oK #[.str "TooGreat" 241,.str "TooGreat" 242,cp 243,.int 8 0,.int 0 0,.int 0 0,.int 0 0,.int 0 0,.ref 55,.bool false,.int 181 0,.ref 56,.none,.none,.none,.none,.int 244 0,.int 8 0,cp 245]
def wM:Obj:={ cls:=.type "frame",slots:=#[some (.ref 57),some (.ref 3),some (.ref 54),none,some (.str "sumcraft.errors" 187),none,some (.ref 0)] }
def pk (P:Params):Obj:={ cls:=.type "dict",data:=Data.dict #[kE P "__module__" 246 (.str "sumcraft.errors" 187),kE P "__firstlineno__" 250 (.int 8 249),kE P "__static_attributes__" 251 (.ref 59),kE P "__doc__" 252 (.none)] 2 }
def pu:Obj:={ cls:=.type "type",data:=Data.cls { name := "TooGreat",bases:=[.ref 24],mro:=[.ref 61,.ref 24,.type "ValueError",.type "Exception",.type "BaseException",.type "object"],ns:=60,qualname := "TooGreat" },slots:=#[some (.ref 52),none,some (.str "TooGreat" 239),some (.str "TooGreat" 247),some (.builtin "ValueError.__new__"),some (.bool true)] }
def wN:Obj:={ cls:=.type "super",data:=Data.fields #[.ref 61,.ref 61,.ref 61] }
def wO:Obj:=oB #[.builtin "object.__init_subclass__",.ref 61]
def wP:Obj:=frS 260 ["numbers","size"]
def wQ:Obj:=kN "trimmed" "trimmed" (top 6)
def py:Obj:=frC "trimmed" "trimmed" 257 11 1 3 64 true 181 262
def pB:Obj:=kM "trimmed" "trimmed" (top 6) "sumcraft.polys" 255 69
def wR:Obj:=frS 268 ["one","other","answer","place","number"]
def wS:Obj:=kN "poly_plus" "poly_plus" (top 7)
def pC:Obj:=frC "poly_plus" "poly_plus" 265 16 2 3 71 true 181 273
def pD:Obj:=kM "poly_plus" "poly_plus" (top 7) "sumcraft.polys" 255 76
def wT:Obj:=kN "poly_less" "poly_less" (top 8)
def pE:Obj:=oK #[.str "poly_less" 276,.str "poly_less" 277,cp 278,.int 21 0,.int 2 0,.int 0 0,.int 0 0,.int 3 0,.ref 78,.bool true,.int 181 0,.ref 79,.none,.none,.none,.ref 80,.int 279 0,.int 21 0,cp 280]
def pF:Obj:=kM "poly_less" "poly_less" (top 8) "sumcraft.polys" 255 81
def wU:Obj:=frS 285 ["one","other","answer","low","number","place","factor"]
def wV:Obj:=kN "poly_times" "poly_times" (top 9)
def pG:Obj:=frC "poly_times" "poly_times" 282 23 2 3 83 true 181 292
def pH:Obj:=kM "poly_times" "poly_times" (top 9) "sumcraft.polys" 255 88
def wW:Obj:=frS 298 ["poly","by","answer","low","place"]
def wX:Obj:=kN "shifted" "shifted" (top 10)
def pI:Obj:=frC "shifted" "shifted" 295 31 2 3 90 true 181 303
def pJ:Obj:=kM "shifted" "shifted" (top 10) "sumcraft.polys" 255 95
def wY:Obj:=frS 309 ["poly","n","answer","number"]
def wZ:Obj:=kN "poly_value" "poly_value" (top 11)
def pK:Obj:=frC "poly_value" "poly_value" 306 37 2 3 97 true 181 313
def pL:Obj:=kM "poly_value" "poly_value" (top 11) "sumcraft.polys" 255 102
def w6:Obj:=frS 319 ["one","other","rest","steps","answer","low","top","factor","place","number"]
def w8:Obj:=kN "quotient" "quotient" (top 12)
def pM:Obj:=frC "quotient" "quotient" 316 42 2 3 104 true 181 329
def pO:Obj:=kM "quotient" "quotient" (top 12) "sumcraft.polys" 255 109
def w_:Obj:=frS 341 ["big","small","cut","ahead","behind","half","upper","lower","times","rest","further"]
def xa:Obj:=kN "shortened" "shortened" (top 16)
def pP:Obj:=frC "shortened" "shortened" 338 62 2 3 111 true 181 352
def pQ:Obj:=kM "shortened" "shortened" (top 16) "sumcraft.ratios" 332 116
def xf:Obj:=frS 358 ["one","other","big","small","pair","rest"]
def xi:Obj:=kN "divisor" "divisor" (top 17)
def pR:Obj:=frC "divisor" "divisor" 355 78 2 3 118 true 181 364
def pT:Obj:=kM "divisor" "divisor" (top 17) "sumcraft.ratios" 332 123
def xk:Obj:=frS 372 ["poly","answer","number"]
def xm:Obj:=kN "content" "content" (top 19)
def pU:Obj:=frC "content" "content" 369 91 1 3 125 true 181 375
def pV:Obj:=kM "content" "content" (top 19) "sumcraft.reaches" 367 130
noncomputable def BF (P:Params):List DictEntry:=BE P++[kE P "over" 383 (.ref 136),kE P "upright" 389 (.ref 141),kE P "spread" 399 (.ref 148),kE P "greatest_size" 405 (.ref 153),kE P "bare_common" 415 (.ref 160),kE P "common" 421 (.ref 165),kE P "common_of" 430 (.ref 172),kE P "clear" 439 (.ref 179),kE P "order_of" 449 (.ref 186),kE P "further" 457 (.ref 191),kE P "coords" 463 (.ref 196),kE P "START" 467 (.int 97 466),kE P "lowered" 473 (.ref 201),kE P "through" 485 (.ref 208),kE P "greatest_degree" 491 (.ref 213),kE P "degree_bound" 497 (.ref 218),kE P "cleared" 503 (.ref 223),kE P "Span" 610 (.ref 295),kE P "relation" 620 (.ref 306),kE P "GREATEST_WORK" 624 (.int 32 623),kE P "check_work" 630 (.ref 311),kE P "thinned" 636 (.ref 316),kE P "joined" 642 (.ref 321),kE P "summed_rule" 648 (.ref 326),kE P "_law_cell_at" 658 (.ref 333),kE P "_law_divisor" 667 (.ref 340)]
noncomputable def Jq (P:Params):Obj:=frD (kE P "__name__" 165 (.str "law_sumcraft_k33_sums_so_far_keep" 649)) (BF P) 51
def Jr:Obj:=frL [(2,20),(4,33),(6,45),(8,57),(11,69),(16,76),(21,81),(23,88),(31,95),(37,102),(42,109),(62,116),(78,123),(91,130),(96,135),(98,140),(102,147),(111,152),(113,159),(121,164),(130,171),(135,178),(141,185),(149,190),(154,195),(166,200),(174,207),(183,212),(185,217),(189,222),(194,229),(285,305),(296,310),(299,315),(306,320),(309,325),(326,332),(330,339)]
def BG:Obj:=kN "over" "over" (top 20)
def xn:Obj:=oK #[.str "over" 378,.str "over" 379,cp 380,.int 96 0,.int 2 0,.int 0 0,.int 0 0,.int 3 0,.ref 132,.bool true,.int 181 0,.ref 133,.none,.none,.none,.ref 134,.int 381 0,.int 96 0,cp 382]
def xo:Obj:=kM "over" "over" (top 20) "sumcraft.reaches" 367 135
def BH:Obj:=kN "upright" "upright" (top 21)
def xq:Obj:=oK #[.str "upright" 384,.str "upright" 385,cp 386,.int 98 0,.int 1 0,.int 0 0,.int 0 0,.int 3 0,.ref 137,.bool true,.int 181 0,.ref 138,.none,.none,.none,.ref 139,.int 387 0,.int 98 0,cp 388]
def xr:Obj:=kM "upright" "upright" (top 21) "sumcraft.reaches" 367 140
def BI:Obj:=frS 393 ["number","base","answer","low"]
def BJ:Obj:=kN "spread" "spread" (top 22)
def xu:Obj:=frC "spread" "spread" 390 102 2 3 142 true 181 397
def xv:Obj:=kM "spread" "spread" (top 22) "sumcraft.reaches" 367 147
def BK:Obj:=kN "greatest_size" "greatest_size" (top 23)
def xw:Obj:=oK #[.str "greatest_size" 400,.str "greatest_size" 401,cp 402,.int 111 0,.int 1 0,.int 0 0,.int 0 0,.int 3 0,.ref 149,.bool true,.int 181 0,.ref 150,.none,.none,.none,.ref 151,.int 403 0,.int 111 0,cp 404]
def xx:Obj:=kM "greatest_size" "greatest_size" (top 23) "sumcraft.reaches" 367 152
def BL:Obj:=frS 409 ["one","other","place","found"]
def BM:Obj:=kN "bare_common" "bare_common" (top 24)
def xy:Obj:=frC "bare_common" "bare_common" 406 113 2 3 154 true 181 413
def xz:Obj:=kM "bare_common" "bare_common" (top 24) "sumcraft.reaches" 367 159
def BN:Obj:=kN "common" "common" (top 25)
def xB:Obj:=oK #[.str "common" 416,.str "common" 417,cp 418,.int 121 0,.int 2 0,.int 0 0,.int 0 0,.int 3 0,.ref 161,.bool true,.int 181 0,.ref 162,.none,.none,.none,.ref 163,.int 419 0,.int 121 0,cp 420]
def xC:Obj:=kM "common" "common" (top 25) "sumcraft.reaches" 367 164
def BO:Obj:=frS 425 ["polys","answer","poly"]
def BP:Obj:=kN "common_of" "common_of" (top 26)
def xD:Obj:=frC "common_of" "common_of" 422 130 1 3 166 true 181 428
def xE:Obj:=kM "common_of" "common_of" (top 26) "sumcraft.reaches" 367 171
def BQ:Obj:=frS 434 ["poly","m","moved"]
def BR:Obj:=kN "clear" "clear" (top 27)
def xF:Obj:=frC "clear" "clear" 431 135 2 3 173 true 181 437
def xG:Obj:=kM "clear" "clear" (top 27) "sumcraft.reaches" 367 178
def BS:Obj:=frS 445 ["rule","poly"]
def BU:Obj:=kN "order_of" "order_of" (top 29)
def xH:Obj:=frC "order_of" "order_of" 442 141 1 3 180 true 181 447
def xI:Obj:=kM "order_of" "order_of" (top 29) "sumcraft.rules" 440 185
def BV:Obj:=kN "further" "further" (top 31)
def xJ:Obj:=oK #[.str "further" 452,.str "further" 453,cp 454,.int 149 0,.int 2 0,.int 0 0,.int 0 0,.int 3 0,.ref 187,.bool true,.int 181 0,.ref 188,.none,.none,.none,.ref 189,.int 455 0,.int 149 0,cp 456]
def xK:Obj:=kM "further" "further" (top 31) "sumcraft.coords" 450 190
def BW:Obj:=kN "coords" "coords" (top 32)
def xL:Obj:=oK #[.str "coords" 458,.str "coords" 459,cp 460,.int 154 0,.int 2 0,.int 0 0,.int 0 0,.int 3 0,.ref 192,.bool true,.int 181 0,.ref 193,.none,.none,.none,.ref 194,.int 461 0,.int 154 0,cp 462]
def xM:Obj:=kM "coords" "coords" (top 32) "sumcraft.coords" 450 195
def BX:Obj:=kN "lowered" "lowered" (top 35)
def xN:Obj:=oK #[.str "lowered" 468,.str "lowered" 469,cp 470,.int 166 0,.int 3 0,.int 0 0,.int 0 0,.int 3 0,.ref 197,.bool true,.int 181 0,.ref 198,.none,.none,.none,.ref 199,.int 471 0,.int 166 0,cp 472]
def xO:Obj:=kM "lowered" "lowered" (top 35) "sumcraft.spans" 464 200
def BY:Obj:=frS 477 ["places","values","steps","gap","place","answer"]
def BZ:Obj:=kN "through" "through" (top 36)
def xP:Obj:=frC "through" "through" 474 174 2 3 202 true 181 483
def xQ:Obj:=kM "through" "through" (top 36) "sumcraft.spans" 464 207
def B3:Obj:=kN "greatest_degree" "greatest_degree" (top 37)
def xS:Obj:=oK #[.str "greatest_degree" 486,.str "greatest_degree" 487,cp 488,.int 183 0,.int 1 0,.int 0 0,.int 0 0,.int 3 0,.ref 209,.bool true,.int 181 0,.ref 210,.none,.none,.none,.ref 211,.int 489 0,.int 183 0,cp 490]
def xT:Obj:=kM "greatest_degree" "greatest_degree" (top 37) "sumcraft.spans" 464 212
def B4:Obj:=kN "degree_bound" "degree_bound" (top 38)
def xU:Obj:=oK #[.str "degree_bound" 492,.str "degree_bound" 493,cp 494,.int 185 0,.int 2 0,.int 0 0,.int 0 0,.int 3 0,.ref 214,.bool true,.int 181 0,.ref 215,.none,.none,.none,.ref 216,.int 495 0,.int 185 0,cp 496]
def xV:Obj:=kM "degree_bound" "degree_bound" (top 38) "sumcraft.spans" 464 217
def B5:Obj:=kN "cleared" "cleared" (top 39)
def xW:Obj:=oK #[.str "cleared" 498,.str "cleared" 499,cp 500,.int 189 0,.int 1 0,.int 0 0,.int 0 0,.int 3 0,.ref 219,.bool true,.int 181 0,.ref 220,.none,.none,.none,.ref 221,.int 501 0,.int 189 0,cp 502]
def xX:Obj:=kM "cleared" "cleared" (top 39) "sumcraft.spans" 464 222
def xY (P:Params):Obj:={ cls:=.type "dict",data:=Data.dict #[kE P "__module__" 511 (.str "sumcraft.spans" 464),kE P "__qualname__" 513 (.str "Span" 512),kE P "__firstlineno__" 515 (.int 194 514),kE P "__init__" 523 (.ref 237),kE P "row_at" 529 (.ref 242),kE P "table_at" 540 (.ref 249),kE P "lowered_at" 550 (.ref 256),kE P "only_choice" 556 (.ref 261),kE P "failing_column" 569 (.ref 268),kE P "keep" 578 (.ref 275),kE P "by_few" 584 (.ref 280),kE P "take" 590 (.ref 285),kE P "apart" 597 (.ref 292),kE P "__static_attributes__" 603 (.ref 293)] 14 }
def B6:Obj:=oF #[.int 196 0,.int 4 0,.ref 236,.int 203 0,.int 4 0,.ref 241,.int 207 0,.int 4 0,.ref 248,.int 217 0,.int 4 0,.ref 255,.int 223 0,.int 4 0,.ref 260,.int 236 0,.int 4 0,.ref 267,.int 247 0,.int 4 0,.ref 274,.int 253 0,.int 4 0,.ref 279,.int 265 0,.int 4 0,.ref 284,.int 283 0,.int 4 0,.ref 291]
def B7:Obj:=oK #[.str "Span" 506,.str "Span" 507,cp 508,.int 194 0,.int 0 0,.int 0 0,.int 0 0,.int 0 0,.ref 227,.bool false,.int 181 0,.ref 228,.none,.none,.none,.none,.int 509 0,.int 194 0,cp 510]
def B8:Obj:={ cls:=.type "frame",slots:=#[some (.ref 229),some (.ref 3),some (.ref 226),none,some (.str "sumcraft.spans" 464),none,some (.ref 0)] }
def B9:Obj:=frS 519 ["self","width"]
def B_:Obj:=kN "__init__" "Span.__init__" (c_ (top 40) 0)
def xZ:Obj:=frC "__init__" "Span.__init__" 516 196 2 3 231 true 181 521
def x_:Obj:=kM "__init__" "Span.__init__" (c_ (top 40) 0) "sumcraft.spans" 464 236
def Ca:Obj:=kN "row_at" "Span.row_at" (c_ (top 40) 1)
def ya:Obj:=oK #[.str "row_at" 524,.str "Span.row_at" 525,cp 526,.int 203 0,.int 4 0,.int 0 0,.int 0 0,.int 3 0,.ref 238,.bool true,.int 181 0,.ref 239,.none,.none,.none,.ref 240,.int 527 0,.int 203 0,cp 528]
def yb:Obj:=kM "row_at" "Span.row_at" (c_ (top 40) 1) "sumcraft.spans" 464 241
def Cb:Obj:=frS 533 ["self","place","table","number","row"]
def Cc:Obj:=kN "table_at" "Span.table_at" (c_ (top 40) 2)
def yc:Obj:=frC "table_at" "Span.table_at" 530 207 2 3 243 true 181 538
def yd:Obj:=kM "table_at" "Span.table_at" (c_ (top 40) 2) "sumcraft.spans" 464 248
def Cd:Obj:=frS 544 ["self","vector","place","table"]
def Ce:Obj:=kN "lowered_at" "Span.lowered_at" (c_ (top 40) 3)
def ye:Obj:=frC "lowered_at" "Span.lowered_at" 541 217 3 3 250 true 181 548
def yf:Obj:=kM "lowered_at" "Span.lowered_at" (c_ (top 40) 3) "sumcraft.spans" 464 255
def Cf:Obj:=kN "only_choice" "Span.only_choice" (c_ (top 40) 4)
def yh:Obj:=oK #[.str "only_choice" 551,.str "Span.only_choice" 552,cp 553,.int 223 0,.int 2 0,.int 0 0,.int 0 0,.int 3 0,.ref 257,.bool true,.int 181 0,.ref 258,.none,.none,.none,.ref 259,.int 554 0,.int 223 0,cp 555]
def yi:Obj:=kM "only_choice" "Span.only_choice" (c_ (top 40) 4) "sumcraft.spans" 464 260
def Cg:Obj:=frS 560 ["self","vector","weights","column","answer","other","weight"]
def Ch:Obj:=kN "failing_column" "Span.failing_column" (c_ (top 40) 5)
def yj:Obj:=frC "failing_column" "Span.failing_column" 557 236 3 3 262 true 181 567
def yk:Obj:=kM "failing_column" "Span.failing_column" (c_ (top 40) 5) "sumcraft.spans" 464 267
def Ci:Obj:=frS 573 ["self","vector","column"]
def Cj:Obj:=kN "keep" "Span.keep" (c_ (top 40) 6)
def ym:Obj:=frC "keep" "Span.keep" 570 247 3 3 269 true 181 576
def yn:Obj:=kM "keep" "Span.keep" (c_ (top 40) 6) "sumcraft.spans" 464 274
def Ck:Obj:=kN "by_few" "Span.by_few" (c_ (top 40) 7)
def yo:Obj:=oK #[.str "by_few" 579,.str "Span.by_few" 580,cp 581,.int 253 0,.int 3 0,.int 0 0,.int 0 0,.int 3 0,.ref 276,.bool true,.int 181 0,.ref 277,.none,.none,.none,.ref 278,.int 582 0,.int 253 0,cp 583]
def yp:Obj:=kM "by_few" "Span.by_few" (c_ (top 40) 7) "sumcraft.spans" 464 279
def Cm:Obj:=kN "take" "Span.take" (c_ (top 40) 8)
def yq:Obj:=oK #[.str "take" 585,.str "Span.take" 586,cp 587,.int 265 0,.int 2 0,.int 0 0,.int 0 0,.int 3 0,.ref 281,.bool true,.int 181 0,.ref 282,.none,.none,.none,.ref 283,.int 588 0,.int 265 0,cp 589]
def yr:Obj:=kM "take" "Span.take" (c_ (top 40) 8) "sumcraft.spans" 464 284
def Cn:Obj:=oT #[.str "self" 594]
def Co:Obj:=kN "apart" "Span.apart" (c_ (top 40) 9)
def yt:Obj:=frC "apart" "Span.apart" 591 283 1 3 286 true 181 595
def yu:Obj:=kM "apart" "Span.apart" (c_ (top 40) 9) "sumcraft.spans" 464 291
def Cp:Obj:=frS 598 ["columns","kept","place","tables","width"]
def yw (P:Params):Obj:={ cls:=.type "dict",data:=Data.dict #[kE P "__module__" 511 (.str "sumcraft.spans" 464),kE P "__firstlineno__" 515 (.int 194 514),kE P "__init__" 523 (.ref 237),kE P "row_at" 529 (.ref 242),kE P "table_at" 540 (.ref 249),kE P "lowered_at" 550 (.ref 256),kE P "only_choice" 556 (.ref 261),kE P "failing_column" 569 (.ref 268),kE P "keep" 578 (.ref 275),kE P "by_few" 584 (.ref 280),kE P "take" 590 (.ref 285),kE P "apart" 597 (.ref 292),kE P "__static_attributes__" 603 (.ref 293),kE P "__dict__" 605 (.ref 296),kE P "__weakref__" 607 (.ref 297),kE P "__doc__" 608 (.none)] 4 }
def yy:Obj:={ cls:=.type "type",data:=Data.cls { name := "Span",bases:=[.type "object"],mro:=[.ref 295,.type "object"],ns:=294,qualname := "Span" },slots:=#[none,none,some (.str "Span" 504),some (.str "Span" 512),some (.builtin "object.__new__"),some (.bool true)] }
def Cq:Obj:={ cls:=.type "getset_descriptor",data:=Data.fields #[.str "__dict__" 604,.ref 295,.builtin "function.__dict__",.builtin "function.__dict__#set"] }
def Cr:Obj:={ cls:=.type "getset_descriptor",data:=Data.fields #[.str "__weakref__" 606,.ref 295,.builtin "ExceptionGroup.__weakref__",.none] }
def Cs:Obj:={ cls:=.type "super",data:=Data.fields #[.ref 295,.ref 295,.ref 295] }
def Ct:Obj:=oB #[.builtin "object.__init_subclass__",.ref 295]
def Cu:Obj:=frS 614 ["vectors","span","vector","found"]
def Cv:Obj:=kN "relation" "relation" (top 41)
def yz:Obj:=frC "relation" "relation" 611 285 1 3 300 true 181 618
def yB:Obj:=kM "relation" "relation" (top 41) "sumcraft.spans" 464 305
def Cw:Obj:=kN "check_work" "check_work" (top 44)
def yC:Obj:=oK #[.str "check_work" 625,.str "check_work" 626,cp 627,.int 296 0,.int 2 0,.int 0 0,.int 0 0,.int 3 0,.ref 307,.bool true,.int 181 0,.ref 308,.none,.none,.none,.ref 309,.int 628 0,.int 296 0,cp 629]
def yD:Obj:=kM "check_work" "check_work" (top 44) "sumcraft.joins" 621 310
def Cy:Obj:=kN "thinned" "thinned" (top 45)
def yE:Obj:=oK #[.str "thinned" 631,.str "thinned" 632,cp 633,.int 299 0,.int 1 0,.int 0 0,.int 0 0,.int 3 0,.ref 312,.bool true,.int 181 0,.ref 313,.none,.none,.none,.ref 314,.int 634 0,.int 299 0,cp 635]
def yF:Obj:=kM "thinned" "thinned" (top 45) "sumcraft.joins" 621 315
def Cz:Obj:=kN "joined" "joined" (top 46)
def yG:Obj:=oK #[.str "joined" 637,.str "joined" 638,cp 639,.int 306 0,.int 2 0,.int 0 0,.int 0 0,.int 3 0,.ref 317,.bool true,.int 181 0,.ref 318,.none,.none,.none,.ref 319,.int 640 0,.int 306 0,cp 641]
def yH:Obj:=kM "joined" "joined" (top 46) "sumcraft.joins" 621 320
def CA:Obj:=kN "summed_rule" "summed_rule" (top 47)
def yI:Obj:=oK #[.str "summed_rule" 643,.str "summed_rule" 644,cp 645,.int 309 0,.int 1 0,.int 0 0,.int 0 0,.int 3 0,.ref 322,.bool true,.int 181 0,.ref 323,.none,.none,.none,.ref 324,.int 646 0,.int 309 0,cp 647]
def yJ:Obj:=kM "summed_rule" "summed_rule" (top 47) "sumcraft.joins" 621 325
def CB:Obj:=frS 654 ["_law_script","_law_k"]
def CC:Obj:=kN "_law_cell_at" "_law_cell_at" (top 49)
def yK:Obj:=frC "_law_cell_at" "_law_cell_at" 651 326 2 3 327 true 181 656
def yL:Obj:=kM "_law_cell_at" "_law_cell_at" (top 49) "law_sumcraft_k33_sums_so_far_keep" 649 332
def CD:Obj:=frS 662 ["_law_one","_law_other","_law_rest"]
def CF:Obj:=kN "_law_divisor" "_law_divisor" (top 50)
def yM:Obj:=frC "_law_divisor" "_law_divisor" 659 330 2 3 334 true 181 665
def yN:Obj:=kM "_law_divisor" "_law_divisor" (top 50) "law_sumcraft_k33_sums_so_far_keep" 649 339
noncomputable def Js (P:Params):List DictEntry:=BF P++[kE P "_law_times" 677 (.ref 347),kE P "_law_rule" 683 (.ref 352),kE P "_law_value" 693 (.ref 359),kE P "_law_lowest" 702 (.ref 366),kE P "_law_values" 719 (.ref 373),kE P "_law_is_rule" 730 (.ref 380),kE P "_law_keeps" 744 (.ref 387),kE P "law" 750 (.ref 392)]
noncomputable def CG (P:Params):Obj:=frD (kE P "__name__" 165 (.str "law_sumcraft_k33_sums_so_far_keep" 649)) (Js P) 59
def Jt:Obj:=frL [(2,20),(4,33),(6,45),(8,57),(11,69),(16,76),(21,81),(23,88),(31,95),(37,102),(42,109),(62,116),(78,123),(91,130),(96,135),(98,140),(102,147),(111,152),(113,159),(121,164),(130,171),(135,178),(141,185),(149,190),(154,195),(166,200),(174,207),(183,212),(185,217),(189,222),(194,229),(285,305),(296,310),(299,315),(306,320),(309,325),(326,332),(330,339),(338,346),(345,351),(360,358),(365,365),(370,372),(390,379),(402,386),(414,391)]
def Ju:Obj:=frS 671 ["_law_poly","_law_m","_law_found","_law_k"]
def Jv:Obj:=kN "_law_times" "_law_times" (top 51)
def CH:Obj:=frC "_law_times" "_law_times" 668 338 2 3 341 true 181 675
def CI:Obj:=kM "_law_times" "_law_times" (top 51) "law_sumcraft_k33_sums_so_far_keep" 649 346
def Jw:Obj:=kN "_law_rule" "_law_rule" (top 52)
def CJ:Obj:=oK #[.str "_law_rule" 678,.str "_law_rule" 679,cp 680,.int 345 0,.int 1 0,.int 0 0,.int 0 0,.int 3 0,.ref 348,.bool true,.int 181 0,.ref 349,.none,.none,.none,.ref 350,.int 681 0,.int 345 0,cp 682]
def CK:Obj:=kM "_law_rule" "_law_rule" (top 52) "law_sumcraft_k33_sums_so_far_keep" 649 351
def Jx:Obj:=frS 687 ["_law_poly","_law_n","_law_found","_law_number"]
def Jy:Obj:=kN "_law_value" "_law_value" (top 53)
def CL:Obj:=frC "_law_value" "_law_value" 684 360 2 3 353 true 181 691
def CM:Obj:=kM "_law_value" "_law_value" (top 53) "law_sumcraft_k33_sums_so_far_keep" 649 358
def Jz:Obj:=frS 697 ["_law_top","_law_bottom","_law_by"]
def JA:Obj:=kN "_law_lowest" "_law_lowest" (top 54)
def CN:Obj:=frC "_law_lowest" "_law_lowest" 694 365 2 3 360 true 181 700
def CO:Obj:=kM "_law_lowest" "_law_lowest" (top 54) "law_sumcraft_k33_sums_so_far_keep" 649 365
def JB:Obj:=frS 706 ["_law_script","_law_rule_here","_law_size","_law_found","_law_cell","_law_n","_law_last","_law_top","_law_bottom","_law_i","_law_one"]
def JC:Obj:=kN "_law_values" "_law_values" (top 55)
def CP:Obj:=frC "_law_values" "_law_values" 703 370 2 3 367 true 181 717
def CQ:Obj:=kM "_law_values" "_law_values" (top 55) "law_sumcraft_k33_sums_so_far_keep" 649 372
def JD:Obj:=frS 723 ["_law_found","_law_order","_law_every","_law_poly","_law_number"]
def JE:Obj:=kN "_law_is_rule" "_law_is_rule" (top 56)
def CS:Obj:=frC "_law_is_rule" "_law_is_rule" 720 390 2 3 374 true 181 728
def CT:Obj:=kM "_law_is_rule" "_law_is_rule" (top 56) "law_sumcraft_k33_sums_so_far_keep" 649 379
def JF:Obj:=frS 734 ["_law_rule_here","_law_values_here","_law_size","_law_n","_law_top","_law_bottom","_law_i","_law_one"]
def JG:Obj:=kN "_law_keeps" "_law_keeps" (top 57)
def CU:Obj:=frC "_law_keeps" "_law_keeps" 731 402 2 3 381 true 181 742
def CV:Obj:=kM "_law_keeps" "_law_keeps" (top 57) "law_sumcraft_k33_sums_so_far_keep" 649 386
def JH:Obj:=kN "law" "law" (top 58)
def CW:Obj:=oK #[.str "law" 745,.str "law" 746,cp 747,.int 414 0,.int 1 0,.int 0 0,.int 0 0,.int 3 0,.ref 388,.bool true,.int 181 0,.ref 389,.none,.none,.none,.ref 390,.int 748 0,.int 414 0,cp 749]
def CY:Obj:=kM "law" "law" (top 58) "law_sumcraft_k33_sums_so_far_keep" 649 391
def env0:Env:={ scope:=PySem.Challenge.pw_sumcraft_k33_sums_so_far_keep.main.scope,locals:=mainNs,globals:=mainNs,cells:=[],code:=.ref 13,frame:=some 14 }
def cd0:Code:=.body (behindTheImports PySem.Challenge.pw_sumcraft_k33_sums_so_far_keep) env0
def fr0:List Frame:=[topFrame { line:=0,col:=0,endLine:=0,endCol:=0 }]
noncomputable def hp1 (P:Params):Heap:=⟨⟨[boot_o_0 P,boot_o_1 P,boot_o_2 P,boot_o_3 P,boot_o_4 P,boot_o_5 P,boot_o_6 P,boot_o_7 P,boot_o_8 P,boot_o_9 P,boot_o_10 P,ai,aB,o0,o3]⟩,{}⟩
noncomputable def hp3 (P:Params):Heap:=⟨⟨[boot_o_0 P,boot_o_1 P,boot_o_2 P,ob3 P,boot_o_4 P,boot_o_5 P,boot_o_6 P,boot_o_7 P,boot_o_8 P,boot_o_9 P,boot_o_10 P,ai,Jp,o0,o3,ww,fY,o4 P,ai,aB,wx,wy,ai,o7 P,o8,wz,wB,wC,iN,fY,o9 P,ai,aB,wD,wE,ai,o_ P,pd,wF,wG,iN,fY,pf P,ai,aB,wH,wI,ai,ph P,pi,wJ,wK,iN,fY,pj P,ai,aB,wL,wM,ai,pk P,pu,wN,wO,ai,aB,wP,ai,wQ,py,pB,ai,aB,wR,ai,wS,pC,pD,ai,aB,wT,pE,pF,ai,aB,wU,ai,wV,pG,pH,ai,aB,wW,ai,wX,pI,pJ,ai,aB,wY,ai,wZ,pK,pL,ai,aB,w6,ai,w8,pM,pO,ai,aB,w_,ai,xa,pP,pQ,ai,aB,xf,ai,xi,pR,pT,ai,aB,xk,ai,xm,pU,pV]⟩,{}⟩
noncomputable def hp4 (P:Params):Heap:=⟨⟨[boot_o_0 P,boot_o_1 P,boot_o_2 P,Jq P,boot_o_4 P,boot_o_5 P,boot_o_6 P,boot_o_7 P,boot_o_8 P,boot_o_9 P,boot_o_10 P,ai,Jr,o0,o3,ww,fY,o4 P,ai,aB,wx,wy,ai,o7 P,o8,wz,wB,wC,iN,fY,o9 P,ai,aB,wD,wE,ai,o_ P,pd,wF,wG,iN,fY,pf P,ai,aB,wH,wI,ai,ph P,pi,wJ,wK,iN,fY,pj P,ai,aB,wL,wM,ai,pk P,pu,wN,wO,ai,aB,wP,ai,wQ,py,pB,ai,aB,wR,ai,wS,pC,pD,ai,aB,wT,pE,pF,ai,aB,wU,ai,wV,pG,pH,ai,aB,wW,ai,wX,pI,pJ,ai,aB,wY,ai,wZ,pK,pL,ai,aB,w6,ai,w8,pM,pO,ai,aB,w_,ai,xa,pP,pQ,ai,aB,xf,ai,xi,pR,pT,ai,aB,xk,ai,xm,pU,pV,ai,aB,BG,xn,xo,ai,aB,BH,xq,xr,ai,aB,BI,ai,BJ,xu,xv,ai,aB,BK,xw,xx,ai,aB,BL,ai,BM,xy,xz,ai,aB,BN,xB,xC,ai,aB,BO,ai,BP,xD,xE,ai,aB,BQ,ai,BR,xF,xG,ai,aB,BS,ai,BU,xH,xI,ai,aB,BV,xJ,xK,ai,aB,BW,xL,xM,ai,aB,BX,xN,xO,ai,aB,BY,ai,BZ,xP,xQ,ai,aB,B3,xS,xT,ai,aB,B4,xU,xV,ai,aB,B5,xW,xX,ai,fY,xY P,ai,B6,B7,B8,ai,aB,B9,ai,B_,xZ,x_,ai,aB,Ca,ya,yb,ai,aB,Cb,ai,Cc,yc,yd,ai,aB,Cd,ai,Ce,ye,yf,ai,aB,Cf,yh,yi,ai,aB,Cg,ai,Ch,yj,yk,ai,aB,Ci,ai,Cj,ym,yn,ai,aB,Ck,yo,yp,ai,aB,Cm,yq,yr,ai,aB,Cn,ai,Co,yt,yu,Cp,yw P,yy,Cq,Cr,Cs,Ct,ai,aB,Cu,ai,Cv,yz,yB,ai,aB,Cw,yC,yD,ai,aB,Cy,yE,yF,ai,aB,Cz,yG,yH,ai,aB,CA,yI,yJ,ai,aB,CB,ai,CC,yK,yL,ai,aB,CD,ai,CF,yM,yN]⟩,{}⟩
noncomputable def hp5 (P:Params):Heap:=⟨⟨[boot_o_0 P,boot_o_1 P,boot_o_2 P,CG P,boot_o_4 P,boot_o_5 P,boot_o_6 P,boot_o_7 P,boot_o_8 P,boot_o_9 P,boot_o_10 P,ai,Jt,o0,o3,ww,fY,o4 P,ai,aB,wx,wy,ai,o7 P,o8,wz,wB,wC,iN,fY,o9 P,ai,aB,wD,wE,ai,o_ P,pd,wF,wG,iN,fY,pf P,ai,aB,wH,wI,ai,ph P,pi,wJ,wK,iN,fY,pj P,ai,aB,wL,wM,ai,pk P,pu,wN,wO,ai,aB,wP,ai,wQ,py,pB,ai,aB,wR,ai,wS,pC,pD,ai,aB,wT,pE,pF,ai,aB,wU,ai,wV,pG,pH,ai,aB,wW,ai,wX,pI,pJ,ai,aB,wY,ai,wZ,pK,pL,ai,aB,w6,ai,w8,pM,pO,ai,aB,w_,ai,xa,pP,pQ,ai,aB,xf,ai,xi,pR,pT,ai,aB,xk,ai,xm,pU,pV,ai,aB,BG,xn,xo,ai,aB,BH,xq,xr,ai,aB,BI,ai,BJ,xu,xv,ai,aB,BK,xw,xx,ai,aB,BL,ai,BM,xy,xz,ai,aB,BN,xB,xC,ai,aB,BO,ai,BP,xD,xE,ai,aB,BQ,ai,BR,xF,xG,ai,aB,BS,ai,BU,xH,xI,ai,aB,BV,xJ,xK,ai,aB,BW,xL,xM,ai,aB,BX,xN,xO,ai,aB,BY,ai,BZ,xP,xQ,ai,aB,B3,xS,xT,ai,aB,B4,xU,xV,ai,aB,B5,xW,xX,ai,fY,xY P,ai,B6,B7,B8,ai,aB,B9,ai,B_,xZ,x_,ai,aB,Ca,ya,yb,ai,aB,Cb,ai,Cc,yc,yd,ai,aB,Cd,ai,Ce,ye,yf,ai,aB,Cf,yh,yi,ai,aB,Cg,ai,Ch,yj,yk,ai,aB,Ci,ai,Cj,ym,yn,ai,aB,Ck,yo,yp,ai,aB,Cm,yq,yr,ai,aB,Cn,ai,Co,yt,yu,Cp,yw P,yy,Cq,Cr,Cs,Ct,ai,aB,Cu,ai,Cv,yz,yB,ai,aB,Cw,yC,yD,ai,aB,Cy,yE,yF,ai,aB,Cz,yG,yH,ai,aB,CA,yI,yJ,ai,aB,CB,ai,CC,yK,yL,ai,aB,CD,ai,CF,yM,yN,ai,aB,Ju,ai,Jv,CH,CI,ai,aB,Jw,CJ,CK,ai,aB,Jx,ai,Jy,CL,CM,ai,aB,Jz,ai,JA,CN,CO,ai,aB,JB,ai,JC,CP,CQ,ai,aB,JD,ai,JE,CS,CT,ai,aB,JF,ai,JG,CU,CV,ai,aB,JH,CW,CY]⟩,{}⟩
set_option maxHeartbeats 0 in
theorem JI (w:World)(os:OsState):topGo treeTable PySem.Challenge.pw_sumcraft_k33_sums_so_far_keep w 11 (some (.ref 6)) 12 (⟨boot_heap w.params,Array.mk [],boot_drawn,boot_toks,os⟩:Shared) (topStub PySem.Challenge.pw_sumcraft_k33_sums_so_far_keep)=some ((⟨hp1 w.params,#[],{},187,os⟩:Shared),⟨denote treeTable cd0,cd0,{ line:=0,col:=0,endLine:=0,endCol:=0 },fr0⟩):=∅
set_option maxHeartbeats 0 in
theorem JJ (w:World)(os:OsState):segRun treeTable PySem.Challenge.pw_sumcraft_k33_sums_so_far_keep w 11 (some (.ref 6)) 1 1 (⟨hp1 w.params,#[],{},187,os⟩:Shared) (blockOf (behindTheImports PySem.Challenge.pw_sumcraft_k33_sums_so_far_keep) env0 cd0 { line:=0,col:=0,endLine:=0,endCol:=0 } fr0)=some (.next,(⟨hp1 w.params,#[],{},187,os⟩:Shared),cd0,{ line:=0,col:=0,endLine:=0,endCol:=0 }):=∅
noncomputable def gl3:List Stmt:=[top 0,top 1,top 2,top 3,top 4,top 5,top 6,top 7,top 8,top 9,top 10,top 11,top 12,top 13,top 14,top 15,top 16,top 17,top 18,top 19]
set_option maxHeartbeats 0 in
theorem pc3 (w:World)(os:OsState):segRun treeTable PySem.Challenge.pw_sumcraft_k33_sums_so_far_keep w 11 (some (.ref 6)) 1 1211 (⟨hp1 w.params,#[],{},187,os⟩:Shared) (piecesOf gl3 env0 cd0 { line:=0,col:=0,endLine:=0,endCol:=0 } fr0)=some (.next,(⟨hp3 w.params,#[],{},378,os⟩:Shared),cd0,{ line:=91,col:=0,endLine:=95,endCol:=17 }):=∅
noncomputable def gl4:List Stmt:=[top 20,top 21,top 22,top 23,top 24,top 25,top 26,top 27,top 28,top 29,top 30,top 31,top 32,top 33,top 34,top 35,top 36,top 37,top 38,top 39,top 40,top 41,top 42,top 43,top 44,top 45,top 46,top 47,top 48,top 49,top 50]
set_option maxHeartbeats 0 in
theorem pc4 (w:World)(os:OsState):segRun treeTable PySem.Challenge.pw_sumcraft_k33_sums_so_far_keep w 11 (some (.ref 6)) 1 1219 (⟨hp3 w.params,#[],{},378,os⟩:Shared) (piecesOf gl4 env0 cd0 { line:=91,col:=0,endLine:=95,endCol:=17 } fr0)=some (.next,(⟨hp4 w.params,#[],{},668,os⟩:Shared),cd0,{ line:=330,col:=0,endLine:=337,endCol:=21 }):=∅
noncomputable def gl5:List Stmt:=[top 51,top 52,top 53,top 54,top 55,top 56,top 57,top 58]
set_option maxHeartbeats 0 in
theorem pc5 (w:World)(os:OsState):segRun treeTable PySem.Challenge.pw_sumcraft_k33_sums_so_far_keep w 11 (some (.ref 6)) 1 256 (⟨hp4 w.params,#[],{},668,os⟩:Shared) (piecesOf gl5 env0 cd0 { line:=330,col:=0,endLine:=337,endCol:=21 } fr0)=some (.next,(⟨hp5 w.params,#[],{},751,os⟩:Shared),cd0,{ line:=414,col:=0,endLine:=429,endCol:=120 }):=∅
set_option maxHeartbeats 0 in
theorem JK (w:World)(os:OsState):topRun treeTable PySem.Challenge.pw_sumcraft_k33_sums_so_far_keep w 11 (some (.ref 6)) 2 (⟨hp5 w.params,#[],{},751,os⟩:Shared) ⟨doneF .next,cd0,{ line:=414,col:=0,endLine:=429,endCol:=120 },fr0⟩=some (⟨hp5 w.params,#[],{},751,os⟩:Shared):=∅
theorem JL:behindTheImports PySem.Challenge.pw_sumcraft_k33_sums_so_far_keep=gl3++(gl4++(gl5++[])):=∅
theorem JM (w:World)(os:OsState):topRun treeTable PySem.Challenge.pw_sumcraft_k33_sums_so_far_keep w 11 (some (.ref 6)) (12+(1+(1211+(1219+(256+2))))) (⟨boot_heap w.params,Array.mk [],boot_drawn,boot_toks,os⟩:Shared) (topStub PySem.Challenge.pw_sumcraft_k33_sums_so_far_keep)=some (⟨hp5 w.params,#[],{},751,os⟩:Shared):=
 go_top (JI w os) (piece_block (JJ w os) (by
  rw[JL];exact piece_app (pc3 w os) (piece_app (pc4 w os) (piece_app (pc5 w os) (piece_nil (JK w os))))))
noncomputable def KK (P:Params):Frag:=[(3,CG P),(17,o4 P),(23,o7 P),(24,o8),(30,o9 P),(36,o_ P),(37,pd),(42,pf P),(48,ph P),(49,pi),(54,pj P),(60,pk P),(61,pu),(69,py),(70,pB),(76,pC),(77,pD),(81,pE),(82,pF),(88,pG),(89,pH),(95,pI),(96,pJ),(102,pK),(103,pL),(109,pM),(110,pO),(116,pP),(117,pQ),(123,pR),(124,pT),(130,pU),(131,pV),(135,xn),(136,xo),(140,xq),(141,xr),(147,xu),(148,xv),(152,xw),(153,xx),(159,xy),(160,xz),(164,xB),(165,xC),(171,xD),(172,xE),(178,xF),(179,xG),(185,xH),(186,xI),(190,xJ),(191,xK),(195,xL),(196,xM),(200,xN),(201,xO),(207,xP),(208,xQ),(212,xS),(213,xT),(217,xU),(218,xV),(222,xW),(223,xX),(226,xY P),(236,xZ),(237,x_),(241,ya),(242,yb),(248,yc),(249,yd),(255,ye),(256,yf),(260,yh),(261,yi),(267,yj),(268,yk),(274,ym),(275,yn),(279,yo),(280,yp),(284,yq),(285,yr),(291,yt),(292,yu),(294,yw P),(295,yy),(305,yz),(306,yB),(310,yC),(311,yD),(315,yE),(316,yF),(320,yG),(321,yH),(325,yI),(326,yJ),(332,yK),(333,yL),(339,yM),(340,yN),(346,CH),(347,CI),(351,CJ),(352,CK),(358,CL),(359,CM),(365,CN),(366,CO),(372,CP),(373,CQ),(379,CS),(380,CT),(386,CU),(387,CV),(391,CW),(392,CY)]
noncomputable def KA:List Addr:=[3,17,23,24,30,36,37,42,48,49,54,60,61,69,70,76,77,81,82,88,89,95,96,102,103,109,110,116,117,123,124,130,131,135,136,140,141,147,148,152,153,159,160,164,165,171,172,178,179,185,186,190,191,195,196,200,201,207,208,212,213,217,218,222,223,226,236,237,241,242,248,249,255,256,260,261,267,268,274,275,279,280,284,285,291,292,294,295,305,306,310,311,315,316,320,321,325,326,332,333,339,340,346,347,351,352,358,359,365,366,372,373,379,380,386,387,391,392]
noncomputable def qv:Program:=view PySem.Challenge.pw_sumcraft_k33_sums_so_far_keep [1,2,3,4,6,7,8,9,10,11,12,14,15,16,17,19,20,21,22,23,24,25,26,27,29,31,32,34,35,36,37,38,39,40,41,43,44,45,46,47,49,50,51,52,53,54,55,56,57,58]
def xt (s:Shared):Bool:=xlAt qv [] s && recOk (PySem.Challenge.rw_sumcraft_k33_sums_so_far_keep.row.toRowW).records s
def hk:Hook:=kHook KK KA λ_=>rfl
set_option maxHeartbeats 0 in
theorem JN:LeftO PySem.Challenge.pw_sumcraft_k33_sums_so_far_keep qv [] xt hk.obs hk.val 5492:=
 LeftO.of_pieces (H₀:=boot_heap) (H₁:=hp5) (gs₁:=#[]) (d₁:={}) (k₁:=751)
  (boot_open ∅ rfl λs=>∅)
  (λw=>∅) JM ∅
  λw=>∅
set_option maxHeartbeats 0 in
theorem JO:PySem.Challenge.rw_sumcraft_k33_sums_so_far_keep.wellSaid=true:=∅
set_option maxHeartbeats 0 in
theorem JP:PySem.Challenge.rw_sumcraft_k33_sums_so_far_keep.row.prog.bare:=⟨rfl,rfl,rfl,rfl,rfl,by decide +kernel⟩
end My
abbrev am:=List PySem.Addr
abbrev aF:=List (PySem.Addr×PySem.Obj)
abbrev aw:=List Nat
abbrev bh:=PySem.Str->Option PySem.Value
abbrev aP:=PySem.Value->PySem.Shared->Prop
abbrev aH:=Nat->Int
abbrev ap:=PySem.W.Frag
namespace L2
open PySem PySem.Spec PyProof.Rows
abbrev Key:=Sum Int Str
def kQ:Key->Value->Bool
 | .inl k,v=>Value.isInt k v
 | .inr x,v=>Value.isStrOf x v
def JQ (w:World):Key->Int
 | .inl k=>hashInt k
 | .inr x=>hashStr w x
theorem iO:∀{k:Key}{v:Value},kQ k v=true->(∃i t,k=Sum.inl i/\v=Value.int i t)\/(∃x t,k=Sum.inr x/\v=Value.str x t)
 | .inl i,v,h=>by
  obtain⟨t,e⟩:=Value.isInt_shape (k:=i) (v:=v) h;exact .inl ⟨i,t,rfl,e⟩
 | .inr x,v,h=>by
  obtain⟨t,e⟩:=Value.isStrOf_shape (x:=x) (v:=v) h;exact .inr ⟨x,t,rfl,e⟩
theorem JR (i:Int)(t:Tok):kQ (.inl i) (.int i t)=true:=by simp[kQ,Value.isInt]
theorem JS (x:Str)(t:Tok):kQ (.inr x) (.str x t)=true:=by simp[kQ,Value.isStrOf]
theorem JT (a b:Int):decide ((Sum.inl a:Key)=Sum.inl b)=(a == b):=by
 by_cases e:a=b
 ·subst e;simp
 ·have h:¬(Sum.inl a:Key)=Sum.inl b:=λq=>e (Sum.inl.inj q);rw[decide_eq_false h];exact (beq_eq_false_iff_ne.mpr e).symm
theorem JU (a b:Str):decide ((Sum.inr a:Key)=Sum.inr b)=decide (a=b):=by
 by_cases e:a=b
 ·subst e;simp
 ·have h:¬(Sum.inr a:Key)=Sum.inr b:=λq=>e (Sum.inr.inj q);rw[decide_eq_false h,decide_eq_false e]
theorem JV (a:Int)(b:Str):decide ((Sum.inl a:Key)=Sum.inr b)=false:=decide_eq_false (λq=>nomatch q)
theorem JW (a:Str)(b:Int):decide ((Sum.inr a:Key)=Sum.inl b)=false:=decide_eq_false (λq=>nomatch q)
def iP (prog:Program)(w:World):PySem.KeyKind prog w Key where
 is:=kQ
 hash:=JQ w
 inj:=λv a b ha hb=>by
  rcases iO ha with ⟨i,t,rfl,rfl⟩|⟨x,t,rfl,rfl⟩
  ·rcases iO hb with ⟨j,u,rfl,e⟩|⟨y,u,rfl,e⟩
   ·injection e with e1 _;rw[e1]
   ·exact nomatch e
  ·rcases iO hb with ⟨j,u,rfl,e⟩|⟨y,u,rfl,e⟩
   ·exact nomatch e
   ·injection e with e1 _;rw[e1]
 byValue:=λk v h=>by
  rcases iO h with ⟨i,t,rfl,rfl⟩|⟨x,t,rfl,rfl⟩ <;> rfl
 pyHash:=λhv h=>by
  rcases iO hv with ⟨i,t,rfl,rfl⟩|⟨x,t,rfl,rfl⟩
  ·exact wpAny_pyHash_int h
  ·exact wpAny_pyHash_str h
 eqBool:=λhu hv h=>by
  rcases iO hu with ⟨i,t,rfl,rfl⟩|⟨x,t,rfl,rfl⟩
  ·rcases iO hv with ⟨j,u,rfl,rfl⟩|⟨y,u,rfl,rfl⟩
   ·rw[JT]at h;exact wpAny_eqBool_int h
   ·rw[JV]at h;exact SeqAt.EqAt.int_str i t y u _ _ _ _ h
  ·rcases iO hv with ⟨j,u,rfl,rfl⟩|⟨y,u,rfl,rfl⟩
   ·rw[JW]at h;exact SeqAt.EqAt.str_int x t j u _ _ _ _ h
   ·rw[JU]at h;exact wpAny_eqBool_str h
 «strs»:=λk x t v h=>by
  rcases iO h with ⟨i,u,rfl,e⟩|⟨y,u,rfl,e⟩
  ·exact nomatch e
  ·injection e with e1 _;subst e1
   cases v <;> rfl
theorem JX (prog:Program)(w:World)(i:Int)(t:Tok):(iP prog w).is (.inl i) (.int i t)=true:=JR i t
theorem JY (prog:Program)(w:World)(x:Str)(t:Tok):(iP prog w).is (.inr x) (.str x t)=true:=JS x t
inductive V where
 | non|bl (b:Bool)|int (i:Int)|str (x:Str)|byt (b:Array UInt8)|flt (b:UInt64)|ref (a:Addr)|ty (n:String)
 deriving DecidableEq
def RelV:V->Value->Prop
 | .non,u=>u=Value.none
 | .bl b,u=>u=Value.bool b
 | .int i,u=>∃t,u=Value.int i t
 | .str x,u=>∃t,u=Value.str x t
 | .byt b,u=>∃t,u=Value.bytes b t
 | .flt b,u=>∃t,u=Value.float b t
 | .ref a,u=>u=Value.ref a
 | .ty n,u=>u=Value.type n
abbrev Vals:List V->List Value->Prop:=Paired RelV
theorem Vals.length {xs:List V}{us:List Value}(r:Vals xs us):xs.length=us.length:=Paired.length r
theorem Vals.get:∀{a:List V}{b:List Value}{i:Nat}{x:V},Vals a b->a[i]?=some x->∃u,b[i]?=some u/\RelV x u
 | _,_,_,_,.nil,e=>by simp at e
 | _,_,0,_,.cons r _,e=>by simp at e;subst e;exact⟨_,rfl,r⟩
 | _,_,i+1,x,.cons _ t,e=>by
  obtain⟨u,c,d⟩:=Vals.get (i:=i) (x:=x) t (⇑e);exact⟨u,by simpa using c,d⟩
theorem Vals.set {x:V}{u:Value}(r:RelV x u):∀{a:List V}{b:List Value}(i:Nat),Vals a b->Vals (a.set i x) (b.set i u)
 | _,_,_,.nil=>.nil
 | _,_,0,.cons _ t=>.cons r t
 | _,_,i+1,.cons q t=>.cons q (Vals.set r i t)
theorem Vals.append:∀{a b:List V}{c d:List Value},Vals a c->Vals b d->Vals (a++b) (c++d)
 | _,_,_,_,.nil,s=>s
 | _,_,_,_,.cons r t,s=>.cons r (Vals.append t s)
theorem Vals.take:∀{a:List V}{b:List Value}(n:Nat),Vals a b->Vals (a.take n) (b.take n)
 | _,_,0,_=>.nil
 | _,_,_+1,.nil=>.nil
 | _,_,n+1,.cons r t=>.cons r (Vals.take n t)
theorem Vals.drop:∀{a:List V}{b:List Value}(n:Nat),Vals a b->Vals (a.drop n) (b.drop n)
 | _,_,0,r=>r
 | _,_,_+1,.nil=>.nil
 | _,_,n+1,.cons _ t=>Vals.drop n t
def RelO:Option V->Option Value->Prop
 | some v,some u=>RelV v u
 | none,none=>True
 | _,_=>False
def KV {κ:Type}:List (κ×V)->List (κ×Value)->Prop:=Paired λ(p:κ×V)(q:κ×Value)=>p.1=q.1/\RelV p.2 q.2
def kV:Key->V
 | .inl i=>.int i
 | .inr x=>.str x
inductive HO where
  | lst (xs:List V)
  | tup (xs:List V)
  | dK (kvs:List (Key×V))|dT (kvs:List (List Key×V))
  | set (S:Int->Bool) (n:Nat)
  | ins (C dx:Addr) (fs:List (Str×V))
  | own (x:Addr)
  | xd (fs:List (Str×V))
  | met (f x:Addr)
  | rng (lo hi:Int)
  | frz (o:Obj) (u:HO)
  | tbl (ps:Array Value)
  | ext (φ:Heap->Prop)
abbrev Hp:=Addr->Option HO
def upd (H:Hp)(a:Addr)(o:HO):Hp:=λb=>if b=a then some o else H b
theorem ak {H:Hp}{a:Addr}{o:HO}:upd H a o a=some o:=by unfold upd;rw[if_pos rfl]
theorem aC {H:Hp}{a b:Addr}{o:HO}(h:b≠a):upd H a o b=H b:=by unfold upd;rw[if_neg h]
theorem JZ {H:Hp}{a:Addr}{o u:HO}:upd (upd H a o) a u=upd H a u:=by
 funext b;unfold upd;split <;> rfl
theorem J0 {H:Hp}{a b:Addr}{o u:HO}(h:H a=some o)(h':H b=some u)(d:o≠u):a≠b:=by
 intro e;subst e;rw[h]at h';exact d (Option.some.inj h')
theorem d8 {H:Hp}{a b:Addr}{o:HO}(h:H a=some o)(h':H b=none):a≠b:=by
 intro e;subst e;rw[h]at h';cases h'
section
variable (P:Program)(w:World)
def ObjOk (H:Hp)(h:Heap)(a:Addr):HO->Prop
 | .lst xs=>xs.length<=sizeLine/\∃(its:List Value)(n:Nat),Vals xs its/\h.get? a=some { cls:=.type "list",data:=.seq its.toArray n }
 | .tup xs=>xs.length<=sizeLine/\∃its:List Value,Vals xs its/\IsTup h a its.toArray
 | .dK kvs=>kvs.length<=sizeLine/\(a == sysModules)=false/\∃vs,KV kvs vs/\h.DictOf (iP P w) a vs
 | .dT kvs=>kvs.length<=sizeLine/\(a == sysModules)=false/\∃xs:List (List Key×Addr×Value),
   Paired (λ(p:List Key×V)(q:List Key×Addr×Value)=>p.1=q.1/\H q.2.1=some (.tup (p.1.map kV))/\RelV p.2 q.2.2) kvs xs/\
   ∃o es ep,h.get? a=some o/\o.ExactDict/\o.data=.dict es ep/\es.toList=xs.map (entryOfKey (tupleKind (iP P w)))/\(xs.map (·.1)).Nodup
 | .set S n=>h.SetOf (intKind P w) a S n
 | .ins C dx fs=>H dx=some (.own a)/\fs.length<=1000/\dx≠a/\h.get? a=some (PySem.W.instObj C dx)/\
   ∃mA,h.Ns1 dx mA/\(∀f,RelO (fs.lookup f) (mA f))/\PySem.Within mA (fs.map (·.1))
 | .own _=>∃o,h.get? a=some o
 | .xd fs=>∃mA,h.Ns1 a mA/\∀f,RelO (fs.lookup f) (mA f)
 | .rng lo hi=>∃t u v,h.get? a=some { cls:=.type "range",data:=.fields #[.int lo t,.int hi u,.int 1 v] }
 | .frz o u=>h.get? a=some o/\ObjOk H h a u
 | .tbl ps=>h.get? a=some { cls:=.none,data:=.fields ps }
 | .met f x=>h.get? a=some (PySem.W.methodObj (.ref f) (.ref x))
 | .ext φ=>φ h/\(∃o,h.get? a=some o)/\∀h1 h2:Heap,φ h1->(∀o,h1.get? a=some o->h2.get? a=some o)->φ h2
def HOk (H:Hp)(h:Heap):Prop:=∀a o,H a=some o->ObjOk P w H h a o
end
section
variable {P:Program}{w:World}{H H':Hp}{h h':Heap}{a:Addr}{o:HO}
theorem ObjOk.lt (x:ObjOk P w H h a o):a<h.objs.size:=by
 cases o with
 | lst xs=>obtain⟨_,_,_,_,e⟩:=x;exact Heap.lt_size e
 | tup xs=>obtain⟨_,_,_,p⟩:=x;exact p.lt
 | dK kvs=>obtain⟨_,_,_,_,o,_,_,e,_⟩:=x;exact Heap.lt_size e
 | dT kvs=>obtain⟨_,_,_,_,o,_,_,e,_⟩:=x;exact Heap.lt_size e
 | set S n=>obtain⟨o,_,_,_,e,_⟩:=x;exact Heap.lt_size e
 | ins C dx fs=>obtain⟨_,_,_,e,_⟩:=x;exact Heap.lt_size e
 | own y=>obtain⟨_,e⟩:=x;exact Heap.lt_size e
 | xd fs=>obtain⟨_,⟨_,_,_,e,_⟩,_⟩:=x;exact Heap.lt_size e
 | rng lo hi=>obtain⟨_,_,_,e⟩:=x;exact Heap.lt_size e
 | frz ob u=>obtain⟨e,_⟩:=x;exact Heap.lt_size e
 | tbl ps=>exact Heap.lt_size (show h.get? a=some _ from x)
 | met f y=>exact Heap.lt_size (show h.get? a=some _ from x)
 | ext φ=>obtain⟨_,⟨_,e⟩,_⟩:=x;exact Heap.lt_size e
theorem Paired.mapP {α β:Type}{F G:α->β->Prop}:∀{c:List α}{d:List β},Paired F c d->(∀a b,F a b->G a b)->Paired G c d
 | _,_,.nil,_=>.nil
 | _,_,.cons r t,f=>.cons (f _ _ r) (Paired.mapP t f)
theorem ObjOk.stay (x:ObjOk P w H h a o)(k:∀b u,(b=a\/H b=some (.own a))->h.get? b=some u->h'.get? b=some u)(F:∀b,H b=some (.own a)->H' b=some (.own a))(G:∀b s,H b=some (.tup s)->H' b=some (.tup s)):ObjOk P w H' h' a o:=by
 induction o with
 | lst s=>obtain⟨z,m,n,r,e⟩:=x;exact⟨z,m,n,r,k _ _ (.inl rfl) e⟩
 | tup s=>obtain⟨z,m,r,g,e,c⟩:=x;exact⟨z,m,r,g,k _ _ (.inl rfl) e,c⟩
 | dK kvs=>obtain⟨z,y,I,r,g,i,j,e,c⟩:=x;exact⟨z,y,I,r,g,i,j,k _ _ (.inl rfl) e,c⟩
 | dT kvs=>
  obtain⟨z,y,s,r,g,i,j,e,c⟩:=x;exact⟨z,y,s,Paired.mapP r λp q z=>⟨z.1,G _ _ z.2.1,z.2.2⟩,g,i,j,k _ _ (.inl rfl) e,c⟩
 | set S n=>obtain⟨g,i,j,t,e,c⟩:=x;exact⟨g,i,j,t,k _ _ (.inl rfl) e,c⟩
 | ins C dx fs=>
  obtain⟨d,z,ne,e,B,⟨D,i,j,J,c⟩,r⟩:=x;exact⟨F _ d,z,ne,k _ _ (.inl rfl) e,B,⟨D,i,j,k _ _ (.inr d) J,c⟩,r⟩
 | own y=>obtain⟨g,e⟩:=x;exact⟨g,k _ _ (.inl rfl) e⟩
 | xd fs=>obtain⟨B,⟨D,i,j,e,c⟩,r⟩:=x;exact⟨B,⟨D,i,j,k _ _ (.inl rfl) e,c⟩,r⟩
 | rng lo hi=>obtain⟨t,u,v,e⟩:=x;exact⟨t,u,v,k _ _ (.inl rfl) e⟩
 | frz g u ih=>obtain⟨e,q⟩:=x;exact⟨k _ _ (.inl rfl) e,ih q⟩
 | tbl ps=>
  have e:h.get? a=some { cls:=.none,data:=.fields ps }:=x;show h'.get? a=some { cls:=.none,data:=.fields ps };exact k a _ (.inl rfl) e
 | met f y=>
  have e:h.get? a=some (PySem.W.methodObj (.ref f) (.ref y)):=x;show h'.get? a=some (PySem.W.methodObj (.ref f) (.ref y));exact k a _ (.inl rfl) e
 | ext φ=>obtain⟨p,⟨o,e⟩,st⟩:=x;exact⟨st _ _ p λo q=>k _ _ (.inl rfl) q,⟨o,k _ _ (.inl rfl) e⟩,st⟩
theorem HOk.lt (x:HOk P w H h)(e:H a=some o):a<h.objs.size:=(x a o e).lt
theorem HOk.fresh (x:HOk P w H h)(e:h.objs.size<=a):H a=none:=by
 cases q:H a with
 | none=>rfl
 | some u=>exact absurd (cP (x.lt q) e) (jL _)
theorem HOk.kept (x:HOk P w H h)(k:∀b u,h.get? b=some u->h'.get? b=some u):HOk P w H h':=λa o e=>
 (x a o e).stay (λb u _ q=>k b u q) (λ_ q=>q) λ_ _ q=>q
theorem HOk.laid (x:HOk P w H h)(k:∀b u,h.get? b=some u->h'.get? b=some u)(g:h.objs.size<=a)(d:ObjOk P w (upd H a o) h' a o):HOk P w (upd H a o) h':=λb u e=>by
 have f:=x.fresh g;by_cases hb:b=a
 ·subst hb;rw[ak]at e;cases e;exact d
 ·rw[aC hb]at e;exact (x b u e).stay (λc v _ q=>k c v q) (λc q=>#v[aC (d8 q f),q]) λc i q=>#v[aC (d8 q f),q]
end
def Rd (H:Hp)(a:Addr)(u:HO):Prop:=H a=some u\/∃o,H a=some (.frz o u)
theorem Rd.ok {P:Program}{w:World}{H:Hp}{h:Heap}{a:Addr}{u:HO}(r:Rd H a u)(x:HOk P w H h):ObjOk P w H h a u:=by
 rcases r with r|⟨o,r⟩
 ·exact x a u r
 ·obtain⟨_,q⟩:=x a _ r;exact q
def Mut:Option HO->Prop
 | some (.lst _)=>True
 | some (.dK _)=>True
 | some (.dT _)=>True
 | some (.set _ _)=>True
 | some (.ins _ _ _)=>True
 | some (.ext _)=>True
 | _=>False
section
variable {P:Program}{w:World}{H:Hp}{h h':Heap}{x e:Addr}{o':HO}
theorem HOk.write (ok:HOk P w H h)(f:Mut (H x))(n:e=x\/H e=some (.own x))(k:∀b u,b≠e->h.get? b=some u->h'.get? b=some u)(j:∃u,h'.get? e=some u)(m:ObjOk P w (upd H x o') h' x o'):HOk P w (upd H x o') h':=λb u q=>by
 have a:∀c y,H c=some (.own y)->c≠x:=λc y r z=>by subst z;rw[r]at f;exact f
 have d:∀c g,H c=some (.tup g)->c≠x:=λc g r z=>by subst z;rw[r]at f;exact f
 by_cases hb:b=x
 ·subst hb;rw[ak]at q;cases q;exact m
 ·rw[aC hb]at q;by_cases hbe:b=e
  ·have o:H b=some (.own x):=by
    rcases n with z|z
    ·exact absurd (hbe.trans z) hb
    ·rw[hbe];exact z
   rw[q]at o;cases o;obtain⟨v,p⟩:=j;exact⟨v,#v[hbe,p]⟩
  ·refine (ok b u q).stay (λc v i r=>k c v ?_ r) (λc r=>#v[aC (a c b r),r]) λc g r=>by rw[aC (d c g r)];exact r
   rcases i with rfl|i
   ·exact hbe
   ·rintro rfl
    rcases n with z|z
    ·exact a c b i z
    ·rw[i]at z;cases z;exact hb rfl
end
structure Un (fs ex:am)(H H':Hp)(h h':Heap):Prop where
 keep:∀b o,h.get? b=some o->H b=none->b∉fs->b∉ex->h'.get? b=some o
 slot:∀b o,h.get? b=some o->H b=none->b∈fs->b∉ex->∃sl,h'.get? b=some { o with slots:=sl }
 free:∀b o,h.get? b=some o->H b=none->b∉ex->H' b=none
 there:∀b o,h.get? b=some o->b∉ex->∃o',h'.get? b=some o'
 tups:∀b xs,H b=some (.tup xs)->H' b=some (.tup xs)
 frzs:∀b o u,H b=some (.frz o u)->H' b=some (.frz o u)
 tbls:∀b ps,H b=some (.tbl ps)->∃more,H' b=some (.tbl (ps++more))
section
variable {fs fs' ex ex':am}{H H1 H2:Hp}{h h1 h2 h':Heap}{a x e:Addr}{o:HO}
theorem Un.any (u:Un fs ex H H1 h h1){b:Addr}{a:Obj}(q:h.get? b=some a)(n:H b=none)(hx:b∉ex):∃c,h1.get? b=some { a with slots:=c }:=by
 by_cases hb:b∈fs
 ·exact u.slot b a q n hb hx
 ·exact⟨a.slots,u.keep b a q n hb hx⟩
theorem Un.trans (a:Un fs ex H H1 h h1)(b:Un fs ex H1 H2 h1 h2):Un fs ex H H2 h h2 where
 keep:=λc d q n f hx=>b.keep c d (a.keep c d q n f hx) (a.free c d q n hx) f hx
 slot:=λc d q n f hx=>by
  obtain⟨r,e⟩:=a.slot c d q n f hx;obtain⟨i,j⟩:=b.slot c _ e (a.free c d q n hx) f hx;exact⟨i,j⟩
 free:=λc d q n hx=>by
  obtain⟨k,e⟩:=a.there c d q hx;exact b.free c k e (a.free c d q n hx) hx
 there:=λc d q hx=>by
  obtain⟨k,e⟩:=a.there c d q hx;exact b.there c k e hx
 tups:=λc g q=>b.tups c g (a.tups c g q)
 frzs:=λc d g q=>b.frzs c d g (a.frzs c d g q)
 tbls:=λc m q=>by
  obtain⟨o,e⟩:=a.tbls c m q;obtain⟨p,j⟩:=b.tbls c _ e;exact⟨o++p,by rw[j,Array.append_assoc]⟩
theorem Un.kept (k:∀b u,h.get? b=some u->h'.get? b=some u):Un fs ex H H h h':=
 ⟨λb a q _ _ _=>k b a q,λb a q _ _ _=>⟨a.slots,k b a q⟩,λ_ _ _ n _=>n,λb a q _=>⟨a,k b a q⟩,λ_ _ q=>q,λ_ _ _ q=>q,λ_ c q=>⟨#[],by rw[q];simp⟩⟩
theorem Un.refl:Un fs ex H H h h:=Un.kept λ_ _ q=>q
theorem Un.laid (k:∀b u,h.get? b=some u->h'.get? b=some u)(d:h.objs.size<=a)(c:H a=none):Un fs ex H (upd H a o) h h' where
 keep:=λb u q _ _ _=>k b u q
 slot:=λb u q _ _ _=>⟨u.slots,k b u q⟩
 free:=λb u q n _=>by rw[aC (dj (cP (Heap.lt_size q) d))];exact n
 there:=λb u q _=>⟨u,k b u q⟩
 tups:=λb e q=>by rw[aC (d8 q c)];exact q
 frzs:=λb u e q=>by rw[aC (d8 q c)];exact q
 tbls:=λb f q=>⟨#[],by rw[aC (d8 q c),q];simp⟩
theorem Un.write (a:Mut (H x))(g:e=x\/H e=some (.own x))(k:∀b u,b≠e->h.get? b=some u->h'.get? b=some u)(c:∃u,h'.get? e=some u):Un fs ex H (upd H x o) h h':=by
 have hx:∀b,H b=none->b≠x:=λb n z=>by subst z;rw[n]at a;exact a
 have f:∀b,H b=none->b≠e:=λb n z=>by
  subst z;rcases g with r|r
  ·exact hx b n r
  ·rw[n]at r;cases r
 have d:∀b u,H b=some u->¬Mut (some u)->b≠x:=λb u q nm z=>by subst z;rw[q]at a;exact nm a
 refine⟨λb u q n _ _=>k b u (f b n) q,λb u q n _ _=>⟨u.slots,k b u (f b n) q⟩,λb u q n _=>#v[aC (hx b n),n],λb u q _=>?_,
  λb i q=>by rw[aC (d b _ q λz=>z)];exact q,λb u i q=>by rw[aC (d b _ q λz=>z)];exact q,λb j q=>⟨#[],by rw[aC (d b _ q λz=>z),q];simp⟩⟩
 by_cases hbe:b=e
 ·subst hbe;exact c
 ·exact⟨u,k b u hbe q⟩
end
def trk (h:Heap)(H:Hp):am:=(aJ h.objs.size).filter λa=>(H a).isSome
def iQ (h:Heap)(H:Hp):Heap:=PySem.W.hideAll h (trk h H)
theorem J1 (h:Heap)(H:Hp):(iQ h H).objs.size=h.objs.size:=PySem.W.hideAll_size _ _
theorem J2 {h:Heap}{H:Hp}{b:Addr}{o:Obj}(e:h.get? b=some o)(n:H b=none):(iQ h H).get? b=some o:=
 PySem.W.hideAll_get _ e λa=>by
  have q:(H b).isSome=true:=(kF.mp a).2;rw[n]at q;simp at q
theorem J3 {h:Heap}{H:Hp}{b:Addr}{o:Obj}(e:(iQ h H).get? b=some o):h.get? b=some o/\H b=none:=by
 have a:h.get? b=some o:=PySem.W.of_hideAll (trk h H) e;refine⟨a,?_⟩
 cases q:H b with
 | none=>rfl
 | some x=>
  have c:b∈trk h H:=kF.mpr ⟨cU.mpr (Heap.lt_size a),by simp[q]⟩;have z:(iQ h H).get? b=none:=PySem.W.hideAll_none (trk h H) c;rw[z]at e;cases e
def J4 (g h:Heap)(L:Addr):aF:=(aJ h.objs.size).filterMap λa=>if a=L\/(g.get? a).isSome=true then none else (h.get? a).map λo=>(a,o)
def rest (g h:Heap)(L d:Addr):aF:=(J4 g h L).filter λp=>decide (p.1≠d)
structure Mod (K:ap)(mg:bh)(base:Heap):Prop where
 kin:K.In base
 glob:base.Ns mainGlobals mg
 blt:∃mb,base.Ns builtinsNs mb/\∀x:Str,x ≠ "__name__" -> mb x=bootBuiltins x
 nolimit:base.NoLimit
structure Cx where
 prog:Program
 w:World
 K:ap
 mg:bh
 base:Heap
 A:Around
 N:List Str
 s₀:Shared
 H₀:Hp
 env:Env
 outer:List Env
 stack:List Env
 ex:am
 fn:Str->Bool
 calm:Bool
 pn:aF
 xe:aP
def frs (l:List Env):am:=l.filterMap (·.frame)
abbrev Cx.fs (X:Cx):am:=frs X.outer
def Vis (sc:Scope)(x:Str):Prop:=sc.names.lookup x=some .local\/sc.names.lookup x=some .cell\/sc.names.lookup x=some .free
def Loc (sc:Scope)(x:Str):Prop:=sc.names.lookup x=some .local\/sc.names.lookup x=some .cell
def J5 (env:Env)(h:Heap)(m:bh)(x:Str)(u:Value):Prop:=
 (env.kindOf x=some .local/\m x=some u)\/((env.kindOf x=some .cell\/env.kindOf x=some .free)/\∃c,env.cells.lookup x=some c/\h.IsCell c (some u))
structure Cx.Ok (X:Cx):Prop where
 mod:Mod X.K X.mg X.base
 kind:X.env.scope.kind=.function
 glob:X.env.globals=mainGlobals
 blt:X.env.builtins=builtinsNs
 above:X.s₀.heap.objs.size<=X.env.locals
 inj:∀x y c,X.env.cells.lookup x=some c->X.env.cells.lookup y=some c->x=y
 has:∀x,(X.env.kindOf x=some .cell\/X.env.kindOf x=some .free)->∃c,X.env.cells.lookup x=some c
 cab:∀x c,X.fn x=true->X.env.cells.lookup x=some c->X.s₀.heap.objs.size<=c
 hd:X.calm=true->X.A.handled=none
 frames:X.A.frames=some X.stack
 stk:X.stack=X.outer\/(X.stack=X.env :: X.outer/\X.env.frame=some X.env.locals)
 exf:∀b∈X.ex,b≠X.env.locals/\∀x c,X.env.cells.lookup x=some c->c≠b
 bs:∀b o,X.base.get? b=some o->X.s₀.heap.get? b=some o/\X.H₀ b=none
 bsz:X.base.objs.size<=X.s₀.heap.objs.size
 noex:∀b o,X.base.get? b=some o->b∉X.ex
 exfs:∀b∈X.ex,b∉X.fs
 funs:X.s₀.heap.FunFrames X.base X.outer
 frf:∀b∈X.fs,X.H₀ b=none
structure Inv (X:Cx)(Wn:aF)(σ:List (Option V))(H:Hp)(s:Shared):Prop where
 ok:X.Ok
 os:s.os=X.s₀.os
 bare:AllBare s.gens
 base:Un X.fs X.ex X.H₀ H X.s₀.heap s.heap
 loc:∃m,s.heap.Ns X.env.locals m/\∀(i:Nat)(x:Str)(v:V),X.N[i]?=some x->σ[i]?=some (some v)->Vis X.env.scope x->∃u,RelV v u/\J5 X.env s.heap m x u
 cell:∀x c,X.env.cells.lookup x=some c->∃v,s.heap.IsCell c v
 free:H X.env.locals=none
 freeC:∀x c,X.env.cells.lookup x=some c->H c=none
 pin:∀p∈X.pn++Wn,s.heap.get? p.1=some p.2/\H p.1=none/\p.1≠X.env.locals/\p.1∉X.fs/\∀v,p.2.data≠.cell v
 hok:HOk X.prog X.w H s.heap
 len:σ.length=X.N.length
section
variable {X:Cx}{Wn:aF}{σ:List (Option V)}{H H':Hp}{s:Shared}{h':Heap}
theorem Cx.Ok.nofr (ok:X.Ok){b:Addr}{o:Obj}(e:X.base.get? b=some o):b∉X.fs:=λa=>by
 have:=(ok.funs.mem a).1;rw[e]at this;cases this
theorem Inv.bs (I:Inv X Wn σ H s):∀b o,X.base.get? b=some o->s.heap.get? b=some o/\H b=none:=λb o e=>
 ⟨I.base.keep b o (I.ok.bs b o e).1 (I.ok.bs b o e).2 (I.ok.nofr e) (I.ok.noex b o e),I.base.free b o (I.ok.bs b o e).1 (I.ok.bs b o e).2 (I.ok.noex b o e)⟩
theorem Inv.bk (I:Inv X Wn σ H s):∀b o,X.base.get? b=some o->s.heap.get? b=some o:=λb o e=>(I.bs b o e).1
theorem Inv.mod (I:Inv X Wn σ H s):Mod X.K X.mg X.base:=I.ok.mod
theorem Inv.kIn (I:Inv X Wn σ H s):X.K.In s.heap:=I.ok.mod.kin.keeps I.bk
theorem Inv.lt (I:Inv X Wn σ H s):X.env.locals<s.heap.objs.size:=let ⟨_,hn,_⟩:=I.loc;hn.lt
theorem Inv.sz (I:Inv X Wn σ H s):X.s₀.heap.objs.size<=s.heap.objs.size:=aM I.ok.above (dm I.lt)
theorem Inv.nofs (I:Inv X Wn σ H s){a:Addr}(h:s.heap.objs.size<=a):a∉X.fs:=λb=>by
 obtain⟨_,o,c,_⟩:=I.ok.funs.mem b;exact absurd (cP (Heap.lt_size c) (aM I.sz h)) (jL _)
theorem Inv.cne (I:Inv X Wn σ H s):∀x c,X.env.cells.lookup x=some c->c≠X.env.locals:=λx c e z=>by
 obtain⟨v,o,d,hd⟩:=I.cell x c e;obtain⟨m,⟨f,g,h,a,b,_⟩,_⟩:=I.loc;rw[z,a]at d;cases d;rw[b]at hd;cases hd
theorem Inv.funs (I:Inv X Wn σ H s):s.heap.FunFrames X.base X.outer:=by
 have all:∀(l:List Env),(∀b∈frs l,b∈X.fs)->X.s₀.heap.FunFrames X.base l->s.heap.FunFrames X.base l:=by
  intro l
  induction l with
  | nil=>intro _ _;trivial
  | cons env r ih=>
   intro hs f;obtain⟨hk,⟨L,o,a,g,h,hd⟩,i⟩:=f;have c:L∈X.fs:=hs L (by unfold frs;rw[IM,a];exact dr);obtain⟨j,e⟩:=I.base.slot L o h (I.ok.frf L c) c λz=>I.ok.exfs L z c;exact⟨hk,⟨L,_,a,g,e,hd⟩,ih (λb d=>hs b (by unfold frs;rw[IM,a];exact cX _ d)) i⟩
 exact all X.outer (λ_ d=>d) I.ok.funs
theorem Inv.stack (I:Inv X Wn σ H s):s.heap.FunFrames X.base X.stack:=by
 rcases I.ok.stk with e|⟨e,a⟩
 ·rw[e];exact I.funs
 ·rw[e];obtain⟨m,b,_⟩:=I.loc;refine .cons (by rw[I.ok.kind];decide) a b ?_ I.funs;exact Heap.get?_none_of_le (aM I.ok.bsz I.ok.above)
theorem Inv.stkSub (I:Inv X Wn σ H s):∀b∈frs X.stack,b∈X.env.locals :: X.fs:=λb a=>by
 rcases I.ok.stk with e|⟨e,c⟩
 ·rw[e]at a;exact cX _ a
 ·rw[e]at a;unfold frs at a;rw[IM,c]at a;exact a
theorem Inv.stkFree (I:Inv X Wn σ H s):∀b∈frs X.stack,H b=none:=λb a=>by
 rcases bj.mp (I.stkSub b a) with e|a
 ·rw[e];exact I.free
 ·obtain⟨_,o,c,_⟩:=I.ok.funs.mem a;exact I.base.free b o c (I.ok.frf b a) λz=>I.ok.exfs b z a
theorem Inv.step {g':Array GenState}{t':Nat}{d':Drawn}{ch:am}(I:Inv X Wn σ H s)(a:∀b∈ch,(b∈X.ex\/X.s₀.heap.objs.size<=b)/\b≠X.env.locals/\(∀x c,X.env.cells.lookup x=some c->c≠b)/\∀p∈X.pn++Wn,p.1≠b)(keep:∀b o,b≠X.env.locals->b∉X.fs->b∉ch->s.heap.get? b=some o->H b=none->h'.get? b=some o)(slot:∀b o,b≠X.env.locals->b∈X.fs->b∉ch->s.heap.get? b=some o->H b=none->∃J,h'.get? b=some { o with slots:=J })(free:∀b o,b∉ch->s.heap.get? b=some o->H b=none->H' b=none)(there:∀b o,b∉ch->s.heap.get? b=some o->∃C,h'.get? b=some C)(tups:∀b t,H b=some (.tup t)->H' b=some (.tup t))(frzs:∀b o u,H b=some (.frz o u)->H' b=some (.frz o u))(tbls:∀b G,H b=some (.tbl G)->∃more,H' b=some (.tbl (G++more)))(ns:∀m,s.heap.Ns X.env.locals m->h'.Ns X.env.locals m)(hok:HOk X.prog X.w H' h')(P:AllBare g'):
  Inv X Wn σ H' { s with heap:=h',gens:=g',drawn:=d',toks:=t' }:=by
 have D:∀b o,X.s₀.heap.get? b=some o->b≠X.env.locals:=λb o e=>dj (cP (Heap.lt_size e) I.ok.above);have h:∀b o,X.s₀.heap.get? b=some o->b∉X.ex->b∉ch:=λb o e hx y=>by
  rcases (a b y).1 with z|z
  ·exact hx z
  ·exact absurd (cP (Heap.lt_size e) z) (jL _)
 have f:∀x c,X.env.cells.lookup x=some c->∀v,s.heap.IsCell c v->h'.IsCell c v:=λx c e v ⟨o,B,hd⟩=>by
  have g:c∉ch:=λz=>(a c z).2.2.1 x c e rfl;by_cases hc:c∈X.fs
  ·obtain⟨J,q⟩:=slot c o (I.cne x c e) hc g B (I.freeC x c e);exact⟨_,q,hd⟩
  ·exact⟨o,keep c o (I.cne x c e) hc g B (I.freeC x c e),hd⟩
 refine⟨I.ok,I.os,P,⟨λb o e n y hx=>?_,λb o e n y hx=>?_,λb o e n hx=>?_,λb o e hx=>?_,λb t e=>tups b t (I.base.tups b t e),λb o t e=>frzs b o t (I.base.frzs b o t e),λb G e=>?_⟩,?_,λx c e=>?_,?_,λx c e=>?_,λp M=>?_,hok,I.len⟩
 ·exact keep b o (D b o e) y (h b o e hx) (I.base.keep b o e n y hx) (I.base.free b o e n hx)
 ·obtain⟨J,j⟩:=I.base.slot b o e n y hx;obtain⟨L,F⟩:=slot b _ (D b o e) y (h b o e hx) j (I.base.free b o e n hx);exact⟨L,F⟩
 ·obtain⟨C,j⟩:=I.base.there b o e hx;exact free b C (h b o e hx) j (I.base.free b o e n hx)
 ·obtain⟨C,j⟩:=I.base.there b o e hx;exact there b C (h b o e hx) j
 ·obtain⟨Q,j⟩:=I.base.tbls b G e;obtain⟨R,F⟩:=tbls b _ j;exact⟨Q++R,by rw[F,Array.append_assoc]⟩
 ·obtain⟨m,S,T⟩:=I.loc;refine⟨m,ns m S,λi x v j F U=>?_⟩;obtain⟨u,r,l⟩:=T i x v j F U;refine⟨u,r,?_⟩;rcases l with l|⟨k,c,e,z⟩
  ·exact .inl l
  ·exact .inr ⟨k,c,e,f x c e _ z⟩
 ·obtain⟨v,z⟩:=I.cell x c e;exact⟨v,f x c e v z⟩
 ·obtain⟨m,⟨o,_,_,B,_⟩,_⟩:=I.loc;exact free _ o (λz=>(a _ z).2.1 rfl) B I.free
 ·obtain⟨v,o,B,hd⟩:=I.cell x c e;exact free c o (λz=>(a c z).2.2.1 x c e rfl) B (I.freeC x c e)
 ·obtain⟨e,n,ne,O,d⟩:=I.pin p M;have g:p.1∉ch:=λz=>(a p.1 z).2.2.2 p M rfl;exact⟨keep p.1 p.2 ne O g e n,free p.1 p.2 g e n,ne,O,d⟩
theorem Inv.un {t':Nat}(I:Inv X Wn σ H s)(u:Un X.fs [] H H' s.heap h')(hok:HOk X.prog X.w H' h'):Inv X Wn σ H' { s with heap:=h',toks:=t' }:=by
 obtain⟨m,⟨o,k,p,g,r⟩,_⟩:=id I.loc;obtain⟨q,h⟩:=u.any g I.free (by simp);exact I.step (g':=s.gens) (d':=s.drawn) (ch:=[]) (λ_ z=>nomatch z) (λb o _ c _ e n=>u.keep b o e n c (by simp)) (λb o _ c _ e n=>u.slot b o e n c (by simp)) (λb o _ e n=>u.free b o e n (by simp)) (λb o _ e=>u.there b o e (by simp)) u.tups u.frzs u.tbls (λt i=>by
  obtain⟨x,d,f,a,j⟩:=i;rw[g]at a;cases a;exact⟨_,d,f,h,j⟩) hok I.bare
theorem Inv.call {g':Array GenState}{t':Nat}{d':Drawn}{ch:am}(I:Inv X Wn σ H s)(u:Un (frs X.stack) ch H H' s.heap h')(hok:HOk X.prog X.w H' h')(k:AllBare g')(d:∀b∈ch,(b∈X.ex\/X.s₀.heap.objs.size<=b)/\b≠X.env.locals/\(∀x c,X.env.cells.lookup x=some c->c≠b)/\∀p∈X.pn++Wn,p.1≠b):
  Inv X Wn σ H' { s with heap:=h',gens:=g',drawn:=d',toks:=t' }:=by
 obtain⟨m,⟨o,B,C,j,r⟩,_⟩:=id I.loc;obtain⟨D,g⟩:=u.any j I.free λz=>(d _ z).2.1 rfl;exact I.step (ch:=ch) d (λb o g q a e n=>u.keep b o e n (λz=>(bj.mp (I.stkSub b z)).elim g q) a) (λb o _ _ a e n=>u.any e n a) (λb o a e n=>u.free b o e n a) (λb o a e=>u.there b o e a) u.tups u.frzs u.tbls (λF t=>by
  obtain⟨G,h,i,f,y⟩:=t;rw[j]at f;cases f;exact⟨_,h,i,g,y⟩) hok k
theorem Inv.turned {t':Nat}{it:Addr}(I:Inv X Wn σ H s)(k:∀b o,b≠it->s.heap.get? b=some o->h'.get? b=some o)(g:H it=none)(f:it≠X.env.locals)(h:it∈X.ex\/X.s₀.heap.objs.size<=it)(i:∀x c,X.env.cells.lookup x=some c->c≠it)(j:∀p∈X.pn++Wn,p.1≠it):Inv X Wn σ H { s with heap:=h',toks:=t' }:=by
 have d:∀b u,H b=some u->b≠it:=λb u e z=>by rw[z,g]at e;cases e
 refine I.step (g':=s.gens) (d':=s.drawn) (ch:=[it]) (λb t=>?_) (λb o _ _ a e _=>k b o (λz=>a (by simp[z])) e) (λb o _ _ a e _=>⟨o.slots,k b o (λz=>a (by simp[z])) e⟩) (λ_ _ _ _ n=>n)
  (λb o a e=>⟨o,k b o (λz=>a (by simp[z])) e⟩) (λ_ _ e=>e) (λ_ _ _ e=>e) (λb F e=>⟨#[],by rw[e];simp⟩) (λm y=>?_) (λb u e=>?_) I.bare
 ·have e:b=it:=by simpa using t
  subst e;exact⟨h,f,i,j⟩
 ·obtain⟨o,B,C,D,r⟩:=y;exact⟨o,B,C,k _ o (Ne.symm f) D,r⟩
 ·refine (I.hok b u e).stay (λc v a q=>k c v ?_ q) (λ_ q=>q) λ_ _ q=>q;rcases a with z|z
  ·rw[z];exact d b u e
  ·exact d c _ z
theorem Inv.tok (I:Inv X Wn σ H s)(t:Nat):Inv X Wn σ H { s with toks:=t }:=I.un (h':=s.heap) (t':=t) Un.refl I.hok
theorem Inv.kept {t':Nat}(I:Inv X Wn σ H s)(k:∀b u,s.heap.get? b=some u->h'.get? b=some u):Inv X Wn σ H { s with heap:=h',toks:=t' }:=I.un (Un.kept k) (I.hok.kept k)
theorem Inv.laid {a:Addr}{o:HO}{t':Nat}(I:Inv X Wn σ H s)(k:∀b u,s.heap.get? b=some u->h'.get? b=some u)(c:s.heap.objs.size<=a)(d:ObjOk X.prog X.w (upd H a o) h' a o):
  Inv X Wn σ (upd H a o) { s with heap:=h',toks:=t' }:=I.un (Un.laid k c (I.hok.fresh c)) (I.hok.laid k c d)
theorem Inv.write {x e:Addr}{o:HO}{t':Nat}(I:Inv X Wn σ H s)(d:Mut (H x))(f:e=x\/H e=some (.own x))(k:∀b u,b≠e->s.heap.get? b=some u->h'.get? b=some u)(a:∃u,h'.get? e=some u)(c:ObjOk X.prog X.w (upd H x o) h' x o):Inv X Wn σ (upd H x o) { s with heap:=h',toks:=t' }:=I.un (Un.write d f k a) (I.hok.write d f k a c)
theorem Inv.pins_of {a:aF}(I:Inv X Wn σ H s)(h:∀p∈a,s.heap.get? p.1=some p.2/\H p.1=none/\p.1≠X.env.locals/\p.1∉X.fs/\∀v,p.2.data≠.cell v):Inv X a σ H s:=
 ⟨I.ok,I.os,I.bare,I.base,I.loc,I.cell,I.free,I.freeC,λp b=>(a8.mp b).elim (λz=>I.pin p (iC _ z)) (h p),I.hok,I.len⟩
theorem CZ {N:List Str}(c:N.Nodup){i j:Nat}{x:Str}(a:N[i]?=some x)(b:N[j]?=some x):i=j:=by
 obtain⟨f,d⟩:=aY.mp a;obtain⟨g,e⟩:=aY.mp b;exact (List.getElem_inj c).mp (d.trans e.symm)
theorem mR {M:Model}{A:Around}{E:aP}{i:Nat}{x:Str}{v:V}{u:Value}{Q:Unit->Shared->Prop}(I:Inv X Wn σ H s)(hN:X.N.Nodup)(hi:X.N[i]?=some x)(hx:Loc X.env.scope x)(r:RelV v u)(h:∀U,Inv X Wn (σ.set i (some v)) H U->(∃a,Heap.SameBut a s.heap U.heap/\(a=X.env.locals\/X.env.cells.lookup x=some a))->Q ⟨⟩ U)(hf:X.fn x=true\/X.env.scope.names.lookup x=some .local:=by first|exact .inl rfl|exact .inr rfl|assumption):wpAny M A (storeName X.env x u) Q E s:=by
 obtain⟨m,Y,hl⟩:=id I.loc;have L:(X.env.scope.kind == .class || (X.env.scope.kind == .module && X.env.locals != X.env.globals))=false:=by rw[I.ok.kind];rfl
 have D:i < σ.length:=by rw[I.len];exact (aY.mp hi).1
 have cne:=I.cne;have f:∀{a:Addr}{h':Heap},(∃o,s.heap.get? a=some o/\H a=none)->Heap.SameBut a s.heap h'->HOk X.prog X.w H h':=λ{a h'} ha hs b ob e=>by
  obtain⟨_,_,B⟩:=ha;refine (I.hok b ob e).stay (λc S t q=>(hs.2 c ?_).trans q) (λ_ q=>q) λ_ _ q=>q
  rintro rfl
  rcases t with rfl|t
  ·rw[B]at e;cases e
  ·rw[B]at t;cases t
 rcases hx with hk|hk
 ·refine wpAny_storeName_local hk Y (λh' Z hs=>?_) L;obtain⟨oL,_,_,x0,_⟩:=id Y;refine h _ ⟨I.ok,I.os,I.bare,⟨λb o e n F hx=>?_,λb o e n F hx=>?_,I.base.free,λb o e hx=>?_,I.base.tups,I.base.frzs,I.base.tbls⟩,⟨_,Z,λj y v' g C e3=>?_⟩,λy c e=>?_,I.free,I.freeC,λp hp=>?_,f ⟨oL,x0,I.free⟩ hs,by simpa using I.len⟩ ⟨_,hs,.inl rfl⟩
  ·exact (hs.2 b (dj (cP (Heap.lt_size e) I.ok.above))).trans (I.base.keep b o e n F hx)
  ·obtain⟨sl,g⟩:=I.base.slot b o e n F hx;exact⟨sl,(hs.2 b (dj (cP (Heap.lt_size e) I.ok.above))).trans g⟩
  ·obtain⟨o',g⟩:=I.base.there b o e hx;exact⟨o',(hs.2 b (dj (cP (Heap.lt_size e) I.ok.above))).trans g⟩
  ·by_cases G:j=i
   ·subst G;rw[hi]at g;cases g;rw[uI D]at C
    cases C
    exact⟨u,r,.inl ⟨hk,by simp⟩⟩
   ·rw[oE (Ne.symm G)]at C;obtain⟨u',r',q⟩:=hl j y v' g C e3;refine⟨u',r',?_⟩;rcases q with ⟨k,e⟩|⟨k,c,e,z⟩
    ·refine .inl ⟨k,?_⟩;have:y≠x:=λe=>G (CZ hN g (e ▸ hi));simp[this,e]
    ·exact .inr ⟨k,c,e,z.sameBut hs (cne y c e)⟩
  ·obtain⟨S,z⟩:=I.cell y c e;exact⟨S,z.sameBut hs (cne y c e)⟩
  ·obtain⟨e,n,ne,nf,d⟩:=I.pin p hp;exact⟨(hs.2 p.1 ne).trans e,n,ne,nf,d⟩
 ·have J:X.fn x=true:=by
   rcases hf with z|z
   ·exact z
   ·rw[z]at hk;cases hk
  obtain⟨c,t⟩:=I.ok.has x (.inl hk);obtain⟨S,z⟩:=I.cell x c t;refine wpAny_storeName_cell I.ok.kind hk t z (λh' O hs=>?_);obtain⟨oc,P,R⟩:=id z;refine h { s with heap:=h' } ⟨I.ok,I.os,I.bare,⟨λb o e n F hx=>?_,λb o e n F hx=>?_,I.base.free,λb o e hx=>?_,I.base.tups,I.base.frzs,I.base.tbls⟩,⟨m,Y.sameBut hs (Ne.symm (cne x c t)),λj y v' g C e3=>?_⟩,λy T e=>?_,I.free,I.freeC,λp hp=>?_,f ⟨oc,P,I.freeC x c t⟩ hs,by simpa using I.len⟩ ⟨c,hs,.inr t⟩
  ·exact (hs.2 b (dj (cP (Heap.lt_size e) (I.ok.cab x c J t)))).trans (I.base.keep b o e n F hx)
  ·obtain⟨sl,g⟩:=I.base.slot b o e n F hx;exact⟨sl,(hs.2 b (dj (cP (Heap.lt_size e) (I.ok.cab x c J t)))).trans g⟩
  ·obtain⟨o',g⟩:=I.base.there b o e hx;exact⟨o',(hs.2 b (dj (cP (Heap.lt_size e) (I.ok.cab x c J t)))).trans g⟩
  ·by_cases G:j=i
   ·subst G;rw[hi]at g;cases g;rw[uI D]at C
    cases C
    exact⟨u,r,.inr ⟨.inl hk,c,t,O⟩⟩
   ·rw[oE (Ne.symm G)]at C;obtain⟨u',r',q⟩:=hl j y v' g C e3;refine⟨u',r',?_⟩;rcases q with q|⟨k,T,e,z'⟩
    ·exact .inl q
    ·refine .inr ⟨k,T,e,z'.sameBut hs ?_⟩
     rintro rfl
     exact G (CZ hN g (I.ok.inj _ _ _ e t ▸ hi))
  ·by_cases hcc:T=c
   ·subst hcc;exact⟨_,O⟩
   ·obtain⟨w2,z2⟩:=I.cell y T e;exact⟨w2,z2.sameBut hs hcc⟩
  ·obtain⟨e,n,ne,nf,d⟩:=I.pin p hp;refine⟨(hs.2 p.1 ?_).trans e,n,ne,nf,d⟩;intro q;rw[q,P]at e;have q':oc=p.2:=Option.some.inj e;exact d S #v[<-q',R]
theorem pW {M:Model}{A:Around}{E:aP}{i:Nat}{x:Str}{v:V}{u:Value}{Q:Unit->Shared->Prop}(I:Inv X Wn σ H s)(b:X.N.Nodup)(hi:X.N[i]?=some x)(hx:Loc X.env.scope x)(r:RelV v u)(h:∀a,Inv X Wn (σ.set i (some v)) H a->Q ⟨⟩ a)(c:X.fn x=true\/X.env.scope.names.lookup x=some .local:=by first|exact .inl rfl|exact .inr rfl|assumption):wpAny M A (storeName X.env x u) Q E s:=
 mR I b hi hx r (λa d _=>h a d) c
theorem Inv.call' {a:Shared}{ch:am}(I:Inv X Wn σ H s)(f:a.os=s.os)(u:Un (frs X.stack) ch H H' s.heap a.heap)(hok:HOk X.prog X.w H' a.heap)(g:AllBare a.gens)(d:∀b∈ch,(b∈X.ex\/X.s₀.heap.objs.size<=b)/\b≠X.env.locals/\(∀x c,X.env.cells.lookup x=some c->c≠b)/\∀p∈X.pn++Wn,p.1≠b):Inv X Wn σ H' a:=by
 obtain⟨h',g',d',t',h⟩:=a;have e:h=s.os:=f;subst e;exact I.call (g':=g') (t':=t') (d':=d') u hok g d
end
abbrev XK:=Value->Option Addr->Hp->Prop
abbrev St:=List (Option V)
abbrev d9:=St->Hp->Prop
abbrev cx:=Nat->Hp->Prop
abbrev VK:=V->Hp->Prop
abbrev TE:=St->Hp->VK->Prop
abbrev TT:=St->Hp->(Bool->Hp->Prop)->Prop
abbrev TA:=St->Hp->(List V->Hp->Prop)->Prop
structure Ends where
 nx:d9
 rt:VK
 bk:d9:=λ_ _=>False
 ct:d9:=λ_ _=>False
abbrev TS:=Ends->St->Hp->Prop
def EP (X:Cx)(Wn:aF)(σ:St)(Q:VK)(u:Value)(s':Shared):Prop:=∃v H',Inv X Wn σ H' s'/\RelV v u/\Q v H'
def TP (X:Cx)(Wn:aF)(σ:St)(Q:Bool->Hp->Prop)(b:Bool)(s':Shared):Prop:=∃H',Inv X Wn σ H' s'/\Q b H'
def AP (X:Cx)(Wn:aF)(σ:St)(Q:List V->Hp->Prop)(us:List Value)(s':Shared):Prop:=∃vs H',Inv X Wn σ H' s'/\Vals vs us/\Q vs H'
def SP (X:Cx)(Wn:aF)(D:Ends)(f:Flow)(s':Shared):Prop:=
 match f with
 | .next=>∃σ' H',Inv X Wn σ' H' s'/\D.nx σ' H'
 | .brk=>∃σ' H',Inv X Wn σ' H' s'/\D.bk σ' H'
 | .cont=>∃σ' H',Inv X Wn σ' H' s'/\D.ct σ' H'
 | .ret u=>∃v σ' H',Inv X Wn σ' H' s'/\RelV v u/\D.rt v H'
def PE (X:Cx)(e:Expr)(t:TE):Prop:=
 ∀(Wn:aF)(s:Shared)(σ:St)(H:Hp)(Q:VK),Inv X Wn σ H s->t σ H Q->wpAny (model X.prog X.w) X.A (eval e X.env) (EP X Wn σ Q) X.xe s
def PT (X:Cx)(e:Expr)(t:TT):Prop:=
 ∀(Wn:aF)(s:Shared)(σ:St)(H:Hp)(Q:Bool->Hp->Prop),Inv X Wn σ H s->t σ H Q->wpAny (model X.prog X.w) X.A (isTrue e X.env (eval e X.env)) (TP X Wn σ Q) X.xe s
def PW (X:Cx)(e:Expr)(t:TT):Prop:=
 ∀(whole:Sem Value)(Wn:aF)(s:Shared)(σ:St)(H:Hp)(Q:Bool->Hp->Prop),Inv X Wn σ H s->t σ H Q->wpAny (model X.prog X.w) X.A (isTrue e X.env whole) (TP X Wn σ Q) X.xe s
theorem PW.pt {X:Cx}{e:Expr}{t:TT}(h:PW X e t):PT X e t:=h _
def PA (X:Cx)(es:List Expr)(t:TA):Prop:=
 ∀(pos:Pos)(Wn:aF)(s:Shared)(σ:St)(H:Hp)(Q:List V->Hp->Prop),Inv X Wn σ H s->t σ H Q->wpAny (model X.prog X.w) X.A (spliced (backTo pos (starEach es X.env))) (AP X Wn σ Q) X.xe s
def PS (X:Cx)(st:Stmt)(t:TS):Prop:=
 ∀(Wn:aF)(s:Shared)(σ:St)(H:Hp)(D:Ends),Inv X Wn σ H s->t D σ H->wpAny (model X.prog X.w) X.A (exec st X.env) (SP X Wn D) X.xe s
def PSs (X:Cx)(st:List Stmt)(t:TS):Prop:=
 ∀(Wn:aF)(s:Shared)(σ:St)(H:Hp)(D:Ends),Inv X Wn σ H s->t D σ H->wpAny (model X.prog X.w) X.A (execs st X.env) (SP X Wn D) X.xe s
theorem thn {α:Type}{t:Sem α}{Q b:α->Shared->Prop}{M:Model}{A:Around}{E:aP}{s:Shared}(h:wpAny M A t Q E s)(hQ:∀a s,Q a s->b a s):wpAny M A t b E s:=wpAny_mono h hQ λ_ _ x=>x
section
variable {X:Cx}
theorem bin {a b:Expr}{m tb:TE}(n:PE X a m)(o:PE X b tb){c:aF}{s:Shared}{σ:St}{H:Hp}{R:V->V->Hp->Prop}(I:Inv X c σ H s)(h:m σ H λx j=>tb σ j λy d=>R x y d){α:Type}{Q:α->Shared->Prop}{f:Value->Value->Sem α}(p:∀v u i x y d,Inv X c σ d i->RelV x v->RelV y u->R x y d->wpAny (model X.prog X.w) X.A (f v u) Q X.xe i):
  wpAny (model X.prog X.w) X.A (eval a X.env) (λv e=>wpAny (model X.prog X.w) X.A (eval b X.env) (λu g=>wpAny (model X.prog X.w) X.A (f v u) Q X.xe g) X.xe e) X.xe s:=by
 refine thn (n c s σ H _ I h) λv q k=>?_;obtain⟨x,j,r,t,z⟩:=k;refine thn (o c q σ j _ r z) λu i k=>?_;obtain⟨y,d,B,C,D⟩:=k;exact p v u i x y d B t C D
def yO (i:Nat):TE:=λσ H Q=>∃v,σ[i]?=some (some v)/\Q v H
def tC (v:V):TE:=λ_ H Q=>Q v H
theorem J7 {i:Nat}{x:Str}{pos:Pos}(j:X.N[i]?=some x)(k:Vis X.env.scope x)(hd:(x == ("__debug__" : Str))=false:=by decide)(f:(x == ("__classdict__" : Str))=false:=by decide):PE X (.Name x pos) (yO i):=by
 intro d s σ H Q I h;obtain⟨v,e,h⟩:=h;obtain⟨m,n,o⟩:=I.loc;obtain⟨u,r,l⟩:=o i x v j e k;have b:EP X d σ Q u s:=⟨v,H,I,r,h⟩
 rcases l with ⟨hk,p⟩|⟨hk,c,g,a⟩
 ·exact wpAny_Name (wpAny_loadName_local I.ok.kind hk n p b) hd
 ·rcases hk with hk|hk
  ·exact wpAny_Name (wpAny_loadName_cell I.ok.kind hk g a b) hd
  ·exact wpAny_Name (wpAny_loadName_free I.ok.kind hk g a b f) hd
theorem ag {i j pos}:PE X (.Constant (.int i) j pos) (tC (.int i)):=λ_ _ _ H _ I h=>wpAny_Constant_int ⟨.int i,H,I.tok _,⟨_,rfl⟩,h⟩
theorem jj {b j pos}:PE X (.Constant (.bool b) j pos) (tC (.bl b)):=λ_ _ _ H _ I h=>Constant_bool ⟨.bl b,H,I,rfl,h⟩
theorem eo {j pos}:PE X (.Constant .none j pos) (tC .non):=λ_ _ _ H _ I h=>Constant_none ⟨.non,H,I,rfl,h⟩
def Gl (X:Cx)(x:Str):Prop:=X.env.kindOf x=some .globalImplicit
theorem yP {E:aP}{a:aF}{s:Shared}{σ:St}{H:Hp}{x:Str}{u:Value}{pos:Pos}{Q:aP}(I:Inv X a σ H s)(b:Gl X x)(c:X.mg x=some u)(h:Q u s)(hd:(x == ("__debug__" : Str))=false:=by decide):wpAny (model X.prog X.w) X.A (eval (.Name x pos) X.env) Q E s:=
 Calls.Name_function_global I.ok.kind b (Calls.loadGlobal_global #v[I.ok.glob,I.mod.glob.keeps I.bk] c h) hd
theorem im {E:aP}{a:aF}{s:Shared}{σ:St}{H:Hp}{x:Str}{u:Value}{pos:Pos}{Q:aP}(I:Inv X a σ H s)(b:Gl X x)(c:X.mg x=none)(d:bootBuiltins x=some u)(h:Q u s)(e:x ≠ "__name__" := by decide)(hd:(x == ("__debug__" : Str))=false:=by decide):wpAny (model X.prog X.w) X.A (eval (.Name x pos) X.env) Q E s:=by
 obtain⟨i,f,g⟩:=I.mod.blt;exact Calls.Name_function_global I.ok.kind b (Calls.loadGlobal_builtin #v[I.ok.glob,I.mod.glob.keeps I.bk] c #v[I.ok.blt,f.keeps I.bk] ((g x e).trans d) h) hd
theorem mS {x:Str}{v:V}{u:Value}{pos:Pos}(a:Gl X x)(b:X.mg x=some u)(r:RelV v u)(hd:(x == ("__debug__" : Str))=false:=by decide):PE X (.Name x pos) (tC v):=
 λ_ _ _ H _ I h=>yP I a b ⟨v,H,I,r,h⟩ hd
theorem pX {x:Str}{v:V}{u:Value}{pos:Pos}(a:Gl X x)(b:X.mg x=none)(c:bootBuiltins x=some u)(r:RelV v u)(d:x ≠ "__name__" := by decide)(hd:(x == ("__debug__" : Str))=false:=by decide):PE X (.Name x pos) (tC v):=
 λ_ _ _ H _ I h=>im I a b c ⟨v,H,I,r,h⟩ d hd
variable {a b:Expr}{ta tb:TE}{pos:Pos}
def PC (X:Cx)(op:CmpOp)(a b:Expr)(t:TE):Prop:=
 ∀(Wn:aF)(s:Shared)(σ:St)(H:Hp)(Q:VK),Inv X Wn σ H s->t σ H Q->
  wpAny (model X.prog X.w) X.A (eval a X.env) (λv s₁=>wpAny (model X.prog X.w) X.A (eval b X.env) (λu s₂=>wpAny (model X.prog X.w) X.A (compareOp op v u) (EP X Wn σ Q) X.xe s₂) X.xe s₁) X.xe s
theorem J8 (b:Expr){a:CmpOp}(h:a≠.In)(c:a≠.NotIn):behindInMarks a b=false:=by
 have d:(a == CmpOp.In)=false:=by cases a <;> first|rfl|exact absurd rfl h
 have e:(a == CmpOp.NotIn)=false:=by cases a <;> first|rfl|exact absurd rfl c
 cases b <;> simp[behindInMarks,d,e]
def tB (t:TE):TT:=λσ H Q=>t σ H λx H1=>∃c,x=.bl c/\Q c H1
theorem QO {f:CmpOp}{t:TE}(h:PC X f a b t)(g:behindInMarks f b=false:=by first|exact J8 _ () ()|rfl):PT X (.Compare a [f] [b] pos) (tB t):=by
 intro e s σ H Q I i;refine wpAny_isTrue_Compare1 (thn (h e s σ H _ I i) λv r g=>thn g λu y j=>thn j λc z k=>?_) g;obtain⟨x,m,n,o,p⟩:=k;obtain⟨d,rfl,q⟩:=p
 cases o
 exact wpAny_truthy_bool ⟨m,n,q⟩
theorem jk {e:Expr}{t:TE}(h:PE X e t)(c:∀a,isTrue e X.env a=(do let v <-a;standAt e.pos;holding [v] (truthy v)):=by intro _;rfl):PT X e (tB t):=by
 intro b s σ H Q I f;refine isTrue_plain (thn (h b s σ H _ I f) λv n g=>?_) (c _);obtain⟨x,i,j,k,m⟩:=g;obtain⟨d,rfl,q⟩:=m
 cases k
 exact wpAny_truthy_bool ⟨i,j,q⟩
variable {tA tB':TT}{rest:List Expr}
def C1 (t u:TT):TT:=λσ H Q=>t σ H λc H1=>if c=true then u σ H1 Q else Q false H1
def tOr (t u:TT):TT:=λσ H Q=>t σ H λc H1=>if c=true then Q true H1 else u σ H1 Q
def C2 (t:TT):TT:=λσ H Q=>t σ H λc H1=>Q (!c) H1
theorem jS (d:PT X a tA):PW X (.BoolOp .And [a] pos) tA:=by
 intro f b s σ H Q I h;refine isTrue_and (thn (d b s σ H Q I h) λc g e=>?_)
 cases c with
 | true=>exact isTrue_and_nil e
 | false=>exact e
theorem jT (d:PT X a tA):PW X (.BoolOp .Or [a] pos) tA:=by
 intro f b s σ H Q I h;refine isTrue_or (thn (d b s σ H Q I h) λc g e=>?_)
 cases c with
 | false=>exact isTrue_or_nil e
 | true=>exact e
theorem jU (i:PT X a tA)(j:PW X (.BoolOp .And (b :: rest) pos) tB'):PW X (.BoolOp .And (a :: b :: rest) pos) (C1 tA tB'):=by
 intro k d s σ H Q I h;refine isTrue_and (thn (i d s σ H _ I h) λc m n=>?_);obtain⟨e,f,g⟩:=n
 cases c with
 | true=>exact j k d m σ e Q f g
 | false=>exact⟨e,f,g⟩
theorem iR (i:PT X a tA)(j:PW X (.BoolOp .Or (b :: rest) pos) tB'):PW X (.BoolOp .Or (a :: b :: rest) pos) (tOr tA tB'):=by
 intro k d s σ H Q I h;refine isTrue_or (thn (i d s σ H _ I h) λc m n=>?_);obtain⟨e,f,g⟩:=n
 cases c with
 | true=>exact⟨e,f,g⟩
 | false=>exact j k d m σ e Q f g
theorem kR (d:PT X a tA):PT X (.UnaryOp .Not a pos) (C2 tA):=by
 intro b s σ H Q I h;exact isTrue_not (d b s σ H (λc e=>Q (!c) e) I h)
def C3 (ta tb:TE):TE:=λσ H Q=>ta σ H λx H1=>∃c,x=.bl c/\if c=true then tb σ H1 Q else Q (.bl false) H1
def C4 (ta tb:TE):TE:=λσ H Q=>ta σ H λx H1=>∃c,x=.bl c/\if c=true then Q (.bl true) H1 else tb σ H1 Q
theorem yQ {op}{t:TE}(h:PE X a t):PE X (.BoolOp op [a] pos) t:=λb s σ H Q I c=>BoolOp_one (h b s σ H Q I c)
theorem yS (i:PE X a ta)(j:PE X (.BoolOp .And (b :: rest) pos) tb):PE X (.BoolOp .And (a :: b :: rest) pos) (C3 ta tb):=by
 intro d s σ H Q I h;refine BoolOp_and (thn (i d s σ H _ I h) λv k m=>?_);obtain⟨x,f,g,n,e⟩:=m;obtain⟨c,rfl,e⟩:=e
 cases n
 refine wpAny_truthy_bool ?_
 cases c with
 | true=>exact j d k σ f Q g e
 | false=>exact⟨.bl false,f,g,rfl,e⟩
theorem J9 (i:PE X a ta)(j:PE X (.BoolOp .Or (b :: rest) pos) tb):PE X (.BoolOp .Or (a :: b :: rest) pos) (C4 ta tb):=by
 intro d s σ H Q I h;refine BoolOp_or (thn (i d s σ H _ I h) λv k m=>?_);obtain⟨x,f,g,n,e⟩:=m;obtain⟨c,rfl,e⟩:=e
 cases n
 refine wpAny_truthy_bool ?_
 cases c with
 | false=>exact j d k σ f Q g e
 | true=>exact⟨.bl true,f,g,rfl,e⟩
def tIf (t:TT)(ta tb:TE):TE:=λσ H Q=>t σ H λc H1=>if c=true then ta σ H1 Q else tb σ H1 Q
theorem pY {c:Expr}(k:PT X c tA)(m:PE X a ta)(n:PE X b tb):PE X (.IfExp c a b pos) (tIf tA ta tb):=by
 intro e s σ H Q I h;refine wpAny_IfExp (thn (k e s σ H _ I h) λd f o=>?_);obtain⟨g,i,j⟩:=o
 cases d with
 | true=>exact m e f σ g Q i j
 | false=>exact n e f σ g Q i j
end
def SqL (K:ap)(H:Hp)(a:Addr)(xs:List V):Prop:=
 Rd H a (.lst xs)\/
  ∃(o:Obj)(its:Array Value)(n:Nat),K.lookup a=some o/\o.cls=.type "list"/\o.dict=none/\o.data=.seq its n/\its.size<=sizeLine/\Vals xs its.toList
def SqT (K:ap)(H:Hp)(a:Addr)(xs:List V):Prop:=
 Rd H a (.tup xs)\/
  ∃(o:Obj)(its:Array Value)(n:Nat),K.lookup a=some o/\o.cls=.type "tuple"/\o.data=.seq its n/\its.size<=sizeLine/\Vals xs its.toList
def J_:Value->Option V
 | .none=>some .non
 | .bool b=>some (.bl b)
 | .int i _=>some (.int i)
 | .str x _=>some (.str x)
 | .bytes b _=>some (.byt b)
 | .float b _=>some (.flt b)
 | .ref a=>some (.ref a)
 | .type n=>some (.ty n)
 | _=>none
theorem RelV.abs {x:V}{u:Value}(r:RelV x u):J_ u=some x:=by
 cases x with
 | non=>cases r;rfl
 | bl _=>cases r;rfl
 | int _=>obtain⟨t,rfl⟩:=r;rfl
 | str _=>obtain⟨t,rfl⟩:=r;rfl
 | byt _=>obtain⟨t,rfl⟩:=r;rfl
 | flt _=>obtain⟨t,rfl⟩:=r;rfl
 | ref _=>cases r;rfl
 | ty _=>cases r;rfl
theorem RelV.inj {x y:V}{u:Value}(r:RelV x u)(q:RelV y u):x=y:=Option.some.inj (r.abs.symm.trans q.abs)
theorem Vals.inj:∀{a b:List V}{c:List Value},Vals a c->Vals b c->a=b
 | _,_,_,.nil,.nil=>rfl
 | _,_,_,.cons r t,.cons r' t'=>by rw[r.inj r',Vals.inj t t']
section
variable {X:Cx}{Wn:aF}{σ:St}{H:Hp}{s:Shared}{a:Addr}{xs ys:List V}
theorem SqL.of {K:ap}(h:H a=some (.lst xs)):SqL K H a xs:=.inl (.inl h)
theorem SqT.of {K:ap}(h:H a=some (.tup xs)):SqT K H a xs:=.inl (.inl h)
theorem Inv.list (I:Inv X Wn σ H s)(h:SqL X.K H a xs):∃b:List Value,Vals xs b/\PlainL s.heap a b.toArray/\xs.length<=sizeLine:=by
 rcases h with h|⟨o,b,n,hk,c,hd,hs,d,r⟩
 ·obtain⟨z,b,n,r,e⟩:=h.ok I.hok;exact⟨b,r,⟨_,n,e,rfl,rfl,rfl⟩,z⟩
 ·refine⟨b.toList,r,⟨o,n,I.kIn a o hk,c,hd,by simpa using hs⟩,?_⟩;have e:=r.length;simp only[Array.length_toList]at e;omega
theorem Inv.tuple (I:Inv X Wn σ H s)(h:SqT X.K H a xs):∃b:List Value,Vals xs b/\IsTup s.heap a b.toArray/\xs.length<=sizeLine:=by
 rcases h with h|⟨o,b,n,hk,c,hs,d,r⟩
 ·obtain⟨z,b,r,p⟩:=h.ok I.hok;exact⟨b,r,p,z⟩
 ·refine⟨b.toList,r,⟨o,I.kIn a o hk,c,n,by simpa using hs⟩,?_⟩;have e:=r.length;simp only[Array.length_toList]at e;omega
theorem Inv.list_inj (I:Inv X Wn σ H s)(h:SqL X.K H a xs)(h':SqL X.K H a ys):xs=ys:=by
 obtain⟨c,r,⟨o,n,e,_,_,d⟩,_⟩:=I.list h;obtain⟨b,i,⟨j,k,f,_,_,g⟩,_⟩:=I.list h';rw[e]at f;cases f;rw[d]at g;injection g with d1 _;have:c=b:=by simpa using congrArg Array.toList d1
 subst this;exact r.inj i
end
abbrev Cx.wish (X:Cx) (E:aP):Cx:={ X with xe:=E }
abbrev Cx.nox (X:Cx):Cx:=X.wish λ_ _=>False
theorem Cx.Ok.wish {X:Cx}(ok:X.Ok)(E:aP):(X.wish E).Ok:=
 ⟨ok.mod,ok.kind,ok.glob,ok.blt,ok.above,ok.inj,ok.has,ok.cab,ok.hd,ok.frames,ok.stk,ok.exf,ok.bs,ok.bsz,ok.noex,ok.exfs,ok.funs,ok.frf⟩
theorem Cx.Ok.unwish {X:Cx}{E:aP}(ok:(X.wish E).Ok):X.Ok:=
 ⟨ok.mod,ok.kind,ok.glob,ok.blt,ok.above,ok.inj,ok.has,ok.cab,ok.hd,ok.frames,ok.stk,ok.exf,ok.bs,ok.bsz,ok.noex,ok.exfs,ok.funs,ok.frf⟩
section
variable {X:Cx}{Wn:aF}{σ:St}{H:Hp}{s:Shared}{E:aP}
theorem Inv.wish (I:Inv X Wn σ H s)(E:aP):Inv (X.wish E) Wn σ H s:=⟨I.ok.wish E,I.os,I.bare,I.base,I.loc,I.cell,I.free,I.freeC,I.pin,I.hok,I.len⟩
theorem Inv.unwish (I:Inv (X.wish E) Wn σ H s):Inv X Wn σ H s:=⟨I.ok.unwish,I.os,I.bare,I.base,I.loc,I.cell,I.free,I.freeC,I.pin,I.hok,I.len⟩
theorem SP.unwish {D:Ends}{f:Flow}{c:Shared}(h:SP (X.wish E) Wn D f c):SP X Wn D f c:=by
 cases f with
 | next=>obtain⟨a,b,I,q⟩:=h;exact⟨a,b,I.unwish,q⟩
 | brk=>obtain⟨a,b,I,q⟩:=h;exact⟨a,b,I.unwish,q⟩
 | cont=>obtain⟨a,b,I,q⟩:=h;exact⟨a,b,I.unwish,q⟩
 | ret u=>obtain⟨v,a,b,I,r,q⟩:=h;exact⟨v,a,b,I.unwish,r,q⟩
theorem PSs.nox {st:List Stmt}{t:TS}(h:PSs X.nox st t):PSs X st t:=λWn s σ H D I a=>
 wpAny_mono (h Wn s σ H D (I.wish _) a) (λ_ _ q=>q.unwish) λ_ _ z=>False.elim z
end
section
variable {X:Cx}{st:Stmt}{rest:List Stmt}{t u:TS}{e:Expr}{te:TE}{pos:Pos}
def C5:TS:=λD σ H=>D.nx σ H
def jl (t u:TS):TS:=λD σ H=>t { D with nx:=u D } σ H
theorem ce:PSs X [] C5:=λ_ _ σ H _ I h=>wpAny_execs_nil ⟨σ,H,I,h⟩
theorem aj (c:PS X st t)(d:PSs X rest u):PSs X (st :: rest) (jl t u):=by
 intro a s σ H D I h;refine wpAny_execs_cons (thn (c a s σ H { D with nx:=u D } I h) λf e q=>?_)
 cases f with
 | next=>
  obtain⟨b,g,i,q⟩:=q;exact d a e b g D i q
 | ret v=>exact q
 | brk=>exact q
 | cont=>exact q
theorem ay (b:PS X st t):PSs X [st] t:=by
 intro a s σ H D I h;refine wpAny_execs_cons (thn (b a s σ H D I h) λf c q=>?_)
 cases f with
 | next=>exact wpAny_execs_nil q
 | ret v=>exact q
 | brk=>exact q
 | cont=>exact q
def C6:TS:=λD σ H=>D.ct σ H
theorem Ka:PS X (.Continue pos) C6:=λ_ _ σ H _ I h=>wpAny_Continue ⟨σ,H,I,h⟩
theorem Inv.quiet {a:aF}{σ:St}{H:Hp}{s:Shared}(I:Inv X a σ H s):interactive X.env=false:=by simp[interactive,I.ok.kind]
def C7 (te:TE):TS:=λD σ H=>te σ H λ_ H1=>D.nx σ H1
theorem eN (b:PE X e te)(hs:swapsWith e none pos.line X.env=pure false:=by rfl):PS X (.Expr e pos) (C7 te):=by
 intro a s σ H D I h;exact wpAny_Expr_any (thn (b a s σ H _ I h) λv g ⟨x,c,d,i,f⟩=>⟨σ,c,d,f⟩) I.quiet hs
def C8 (te:TE):TS:=λD σ H=>te σ H D.rt
theorem aS (b:PE X e te):PS X (.Return (some e) pos) (C8 te):=by
 intro a s σ H D I h;exact wpAny_Return_some (thn (b a s σ H _ I h) λv i ⟨x,c,d,f,g⟩=>⟨x,σ,c,d,f,g⟩)
def C9 (c:TT)(t u:TS):TS:=λD σ H=>c σ H λb H1=>if b=true then t D σ H1 else u D σ H1
theorem cj {c:Expr}{a b:List Stmt}{f:TT}(m:PT X c f)(n:PSs X a t)(o:PSs X b u):PS X (.If c a b pos) (C9 f t u):=by
 intro e s σ H D I h;refine wpAny_If (thn (m e s σ H _ I h) λd g p=>?_);obtain⟨i,j,k⟩:=p
 cases d with
 | true=>exact n e g σ i D j k
 | false=>exact o e g σ i D j k
def Kb:TS:=λ_ _ _=>False
theorem pZ {a:List Stmt}:PSs X a Kb:=λ_ _ _ _ _ _ h=>h.elim
end
abbrev TG:=V->St->Hp->d9->Prop
abbrev TGs:=List V->St->Hp->d9->Prop
def PG (X:Cx)(target:Expr)(t:TG):Prop:=
 ∀(Wn:aF)(s:Shared)(σ:St)(H:Hp)(v:V)(u:Value)(Q:d9),Inv X Wn σ H s->RelV v u->t v σ H Q->
  wpAny (model X.prog X.w) X.A (assign target X.env u) (λ_ s'=>∃σ' H',Inv X Wn σ' H' s'/\Q σ' H') X.xe s
def PGs (X:Cx)(ts:List Expr)(t:TGs):Prop:=
 ∀(Wn:aF)(s:Shared)(σ:St)(H:Hp)(vs:List V)(us:List Value)(Q:d9),Inv X Wn σ H s->Vals vs us->t vs σ H Q->
  wpAny (model X.prog X.w) X.A (assignInOrder ((assignEach ts X.env).map (·.2)) us) (λ_ s'=>∃σ' H',Inv X Wn σ' H' s'/\Q σ' H') X.xe s
abbrev jV:=V->V->V->Hp->(Hp->Prop)->Prop
def yT (X:Cx)(t:jV):Prop:=
 ∀(Wn:aF)(s:Shared)(σ:St)(H:Hp)(o i v:V)(ov iv u:Value)(Q:Hp->Prop),Inv X Wn σ H s->RelV o ov->RelV i iv->RelV v u->t o i v H Q->
  wpAny (model X.prog X.w) X.A (setItem ov iv u) (λ_ s'=>∃H',Inv X Wn σ H' s'/\Q H') X.xe s
abbrev TIp:=V->V->Hp->VK->Prop
def PIp (X:Cx)(op:Operator)(t:TIp):Prop:=
 ∀(Wn:aF)(s:Shared)(σ:St)(H:Hp)(x y:V)(v u:Value)(Q:VK),Inv X Wn σ H s->RelV x v->RelV y u->t x y H Q->
  wpAny (model X.prog X.w) X.A (inplaceOp op v u) (EP X Wn σ Q) X.xe s
section
variable {X:Cx}{pos:Pos}
def gn (i:Nat):TG:=λv σ H Q=>Q (σ.set i (some v)) H
theorem bZ {i:Nat}{x:Str}(b:X.N.Nodup)(hi:X.N[i]?=some x)(hx:Loc X.env.scope x)(c:X.fn x=true\/X.env.scope.names.lookup x=some .local:=by first|exact .inl rfl|exact .inr rfl|assumption):PG X (.Name x pos) (gn i):=by
 intro a s σ H v u Q I r h;exact wpAny_assign_Name (pW I b hi hx r (λe d=>⟨_,H,d,h⟩) c)
def yU:TGs:=λvs σ H Q=>vs=[]/\Q σ H
def p4 (t:TG)(u:TGs):TGs:=λvs σ H Q=>∃v r,vs=v :: r/\t v σ H λσ' H'=>u r σ' H' Q
theorem jm:PGs X [] yU:=by
 intro a s σ H b c Q I r h;obtain⟨e,h⟩:=h;subst e
 cases r
 exact assignInOrder_nil ⟨σ,H,I,h⟩
theorem fC {e:Expr}{b:List Expr}{t:TG}{u:TGs}(d:PG X e t)(f:PGs X b u)(hs:(assignEach (e :: b) X.env).map (·.2)=assign e X.env :: (assignEach b X.env).map (·.2):=by rfl):PGs X (e :: b) (p4 t u):=by
 intro a s σ H o p Q I r h;obtain⟨v,q,g,h⟩:=h;subst g
 cases r with
 | cons r rr=>
  rw[hs];refine assignInOrder_cons (thn (d a s σ H _ _ _ I r h) λ_ i j=>?_);obtain⟨c,k,m,n⟩:=j;exact f a i c k _ _ Q m rr n
def yV (K:ap)(n:Nat)(t:TGs):TG:=λv σ H Q=>∃a xs,v=.ref a/\SqT K H a xs/\xs.length=n/\t xs σ H Q
theorem jn {d:List Expr}{k:Nat}{t:TGs}{n:Nat}(j:X.calm=true)(h:PGs X d t)(m:(assignEach d X.env).length=n:=by rfl)(f:(assignEach d X.env).findIdx? (·.1)=none:=by rfl):PG X (.Tuple d k pos) (yV X.K n t):=by
 intro c s σ H v u Q I r g;obtain⟨a,p,q,x,y,g⟩:=g;subst q
 cases r
 obtain⟨z,i,B,F⟩:=I.tuple x;refine assign_Tuple_tuple (I.ok.hd j) B (by simp[m,<-y,i.length]) f λC hx=>?_;have D:Inv X c σ H { s with heap:=C }:=I.kept (t':=s.toks) λb o e=>hx b o (dj (Heap.lt_size e)) e;exact h c _ σ H p _ Q D (⇑i) g
def C_ (to ti:TE)(t:jV):TG:=λv σ H Q=>to σ H λo H1=>ti σ H1 λi H2=>t o i v H2 λH3=>Q σ H3
theorem p8 {o i:Expr}{to e:TE}{t:jV}(f:PE X o to)(hi:PE X i e)(hs:yT X t)(g:∀v,assign (.Subscript o i pos) X.env v=(do
   let b <-holding [v] (eval o X.env)
   let c <-holding [v,b] (eval i X.env)
   standAt pos
   holding [v,b,c] (setItem b c v)
   release [v,b,c] []):=by intro _;rfl):PG X (.Subscript o i pos) (C_ to e t):=by
 intro a s σ H v u Q I r h;rw[g];refine wpAny_bind (wpAny_holding (thn (f a s σ H _ I h) λb j d=>?_));obtain⟨x,k,m,n,p⟩:=d;refine wpAny_bind (wpAny_holding (thn (hi a j σ k _ m p) λc q d=>?_));obtain⟨y,z,B,C,D⟩:=d;refine wpAny_bind (wpAny_standAt (wpAny_bind (wpAny_holding (thn (hs a q σ z x y v b c u _ B n C r D) λ_ L d=>?_))));obtain⟨F,G,J⟩:=d;exact wpAny_release ⟨σ,F,G,J⟩
def jW (te:TE)(g:TG):TS:=λD σ H=>te σ H λx H1=>g x σ H1 D.nx
theorem p9 {b e:Expr}{c:TE}{g:TG}(d:PE X e c)(f:PG X b g)(hs:swapsWithSole [b] e pos.line X.env=pure false:=by rfl)(i:swappedStores [b] e X.env=pure none:=by rfl)(j:(assignEach [b] X.env).map (·.2)=[assign b X.env]:=by rfl):PS X (.Assign [b] e pos) (jW c g):=by
 intro a s σ H D I h;refine wpAny_Assign_stores (thn (d a s σ H _ I h) λv k m=>?_) hs i;obtain⟨x,n,o,p,r⟩:=m;rw[j];exact thn (f a k σ n x v _ o p r) λ_ t q=>q
theorem av {i:Nat}{x:Str}{e:Expr}{c:TE}{a:Pos}(d:X.N.Nodup)(hi:X.N[i]?=some x)(hx:Loc X.env.scope x)(f:PE X e c)(hs:swapsWith e (some (.Name x a)) pos.line X.env=pure false:=by rfl)(g:X.fn x=true\/X.env.scope.names.lookup x=some .local:=by first|exact .inl rfl|exact .inr rfl|assumption):
  PS X (.Assign [.Name x a] e pos) (jW c (gn i)):=by
 intro b s σ H D I h;refine wpAny_Assign_Name (thn (f b s σ H _ I h) λv q j=>?_) hs;obtain⟨y,k,m,n,o⟩:=j;exact pW m d hi hx n (λr p=>⟨_,k,p,o⟩) g
def Da (i:Nat)(te:TE)(ti:TIp):TS:=λD σ H=>∃x,σ[i]?=some (some x)/\te σ H λy H1=>ti x y H1 λz H2=>D.nx (σ.set i (some z)) H2
theorem yW {i:Nat}{x:Str}{e:Expr}{p:TE}{j:Operator}{q:TIp}{d:Pos}(t:X.N.Nodup)(hi:X.N[i]?=some x)(hx:Loc X.env.scope x)(B:PE X e p)(C:PIp X j q)(F:X.fn x=true\/X.env.scope.names.lookup x=some .local:=by first|exact .inl rfl|exact .inr rfl|assumption):
  PS X (.AugAssign (.Name x d) j e pos) (Da i p q):=by
 intro a s σ H D I h;obtain⟨v,G,h⟩:=h;obtain⟨m,J,L⟩:=I.loc;have n:Vis X.env.scope x:=by rcases hx with k|k;exact .inl k;exact .inr (.inl k)
 obtain⟨u,r,l⟩:=L i x v hi G n;refine wpAny_AugAssign_Name ?_;have go:wpAny (model X.prog X.w) X.A (eval e X.env) (λw f=>wpAny (model X.prog X.w) X.A (inplaceOp j u w) (λr g=>wpAny (model X.prog X.w) X.A (storeName X.env x r) (λ_=>SP X a D .next) X.xe g) X.xe f) X.xe s:=by
  refine thn (B a s σ H _ I h) λw M o=>?_;obtain⟨y,O,P,Q,R⟩:=o;refine thn (C a M σ O v y u w _ P r Q R) λz s2 o=>?_;obtain⟨zv,S,T,U,Y⟩:=o;exact pW T t hi hx U (λs3 Z=>⟨_,S,Z,Y⟩) F
 rcases l with ⟨hk,hm⟩|⟨hk,c,hc,b⟩
 ·exact wpAny_loadName_local I.ok.kind hk J hm go
 ·rcases hk with hk|hk
  ·exact wpAny_loadName_cell I.ok.kind hk hc b go
  ·rcases hx with k|k
   ·have:X.env.scope.names.lookup x=some .free:=hk;rw[k]at this;cases this
   ·have:X.env.scope.names.lookup x=some .free:=hk;rw[k]at this;cases this
def Dd (to ti te:TE)(tget:V->V->Hp->VK->Prop)(tip:TIp)(tset:jV):TS:=λD σ H=>to σ H λo H1=>ti σ H1 λi H2=>tget o i H2 λx H3=>te σ H3 λy H4=>tip x y H4 λz H5=>tset o i z H5 λH6=>D.nx σ H6
def De (X:Cx)(t:V->V->Hp->VK->Prop):Prop:=
 ∀(Wn:aF)(s:Shared)(σ:St)(H:Hp)(o i:V)(ov iv:Value)(Q:VK),Inv X Wn σ H s->RelV o ov->RelV i iv->t o i H Q->
  wpAny (model X.prog X.w) X.A (getItem ov iv) (EP X Wn σ Q) X.xe s
theorem p_ {o i e:Expr}{to n p:TE}{d:V->V->Hp->VK->Prop}{k:TIp}{f:jV}{q:Operator}{tpos:Pos}(y:PE X o to)(hi:PE X i n)(z:De X d)(B:PE X e p)(C:PIp X q k)(hs:yT X f)(F:∀g j b,augStore i g j b=(do holding [b,g,j] (setItem g j b);release [b,g,j] [];pure .next):=by intros;rfl):PS X (.AugAssign (.Subscript o i tpos) q e pos) (Dd to n p d k f):=by
 intro a s σ H D I h;refine wpAny_AugAssign_SubscriptAny (thn (y a s σ H _ I h) λg G c=>?_) F;obtain⟨r,J,L,t,M⟩:=c;refine thn (hi a G σ J _ L M) λj O c=>?_;obtain⟨u,P,Q,x,R⟩:=c;refine thn (z a O σ P r u g j _ Q t x R) λm S c=>?_;obtain⟨T,U,Y,Z,q3⟩:=c;refine thn (B a S σ U _ Y q3) λv s4 c=>?_;obtain⟨x4,H4,I4,r4,q4⟩:=c;refine thn (C a s4 σ H4 T x4 m v _ I4 Z r4 q4) λb s5 c=>?_;obtain⟨x5,H5,I5,r5,q5⟩:=c;exact thn (hs a s5 σ H5 r u x5 g j b _ I5 t x r5 q5) λ_ s6 ⟨H6,I6,q6⟩=>⟨σ,H6,I6,q6⟩
def ipI (f:Int->Int->Int):TIp:=λx y H Q=>∃i j,x=.int i/\y=.int j/\Q (.int (f i j)) H
theorem qc:PIp X .Add (ipI λi j=>i+j):=by
 intro a s σ H x y v u Q I b c h;obtain⟨i,j,d,e,q⟩:=h;subst d;subst e;obtain⟨t,rfl⟩:=b;obtain⟨f,rfl⟩:=c;exact iadd_int ⟨.int _,H,I.tok _,⟨_,rfl⟩,q⟩
theorem yX:PIp X .Sub (ipI λi j=>i-j):=by
 intro a s σ H x y v u Q I b c h;obtain⟨i,j,d,e,q⟩:=h;subst d;subst e;obtain⟨t,rfl⟩:=b;obtain⟨f,rfl⟩:=c;exact isub_int ⟨.int _,H,I.tok _,⟨_,rfl⟩,q⟩
end
section
variable {X:Cx}{pos:Pos}
def Df (c:TT)(tb:TS):TS:=λD σ H=>∃W:Nat->St->Hp->Prop,(∃m,W m σ H)/\∀m σ H,W m σ H->
 c σ H λb H1=>if b=true then ∃N:d9,(∀σ' H',N σ' H'->∃m',m'<m/\W m' σ' H')/\tb { D with nx:=N,ct:=N,bk:=D.nx } σ H1 else D.nx σ H1
theorem gT {c:Expr}{e:List Stmt}{u:TT}{tb:TS}(x:PassesOwn (model X.prog X.w) X.A X.env X.xe)(F:PT X c u)(G:PSs X e tb):PS X (.While c e [] pos) (Df u tb):=by
 intro a s σ H D I h;obtain⟨W,⟨m0,w0⟩,g⟩:=h;refine wpAny_While (codeAny_whileLoop (λn J=>∃i y,Inv X a i y J/\W n i y) ?_ m0 ⟨σ,H,I,w0⟩)
 rintro n L ⟨σ1,H1,I1,w1⟩
 refine wpAny_passesOwn x (thn (F a L σ1 H1 _ I1 (g n σ1 H1 w1)) λb M O=>?_);obtain⟨z,B,k⟩:=O
 cases b with
 | true=>
  obtain⟨N,C,k⟩:=k;rw[if_pos rfl];refine wpAny_passesOwn x (thn (G a M σ1 z _ B k) λf P m=>?_)
  cases f with
  | next=>
   obtain⟨d,j,o,p⟩:=m;obtain⟨q,r,t⟩:=C d j p;exact⟨q,r,d,j,o,t⟩
  | cont=>
   obtain⟨d,j,o,p⟩:=m;obtain⟨q,r,t⟩:=C d j p;exact⟨q,r,d,j,o,t⟩
  | brk=>exact m
  | ret v=>exact m
 | false=>
  rw[if_neg Bool.false_ne_true];exact wpAny_execs_nil ⟨σ1,z,B,k⟩
end
structure It where
 go:cx
 yld:Nat->Hp->V->Hp->Prop
 stop:cx
def df (X:Cx)(Wn:aF)(H:Hp)(b:Addr):Prop:=
 H b=none/\b≠X.env.locals/\b∉X.fs/\(b∈X.ex\/X.s₀.heap.objs.size<=b)/\(∀x c,X.env.cells.lookup x=some c->c≠b)/\∀p∈X.pn++Wn,p.1≠b
theorem Inv.fpOk {X:Cx}{a:aF}{σ:St}{H f:Hp}{s:Shared}{b:Addr}(I:Inv X a σ H s)(d:s.heap.objs.size<=b)(g:f b=none):df X a f b:=by
 refine⟨g,IN (cP I.lt d),I.nofs d,.inr (aM I.sz d),λx c e z=>?_,λp h z=>?_⟩
 ·obtain⟨v,q⟩:=I.cell x c e;exact absurd (cP q.lt #v[z,d]) (jL _)
 ·exact absurd (cP (Heap.lt_size (I.pin p h).1) #v[z,d]) (jL _)
structure Turn (P:Program)(w:World)(K:ap)(tg:Expr)(J:It)(fp:am)(it:Addr)(tn:Nat->Heap->Prop):Prop where
 mem:it∈fp
 obj:∀i h,tn i h->∀b∈fp,∃o,h.get? b=some o/\∀v,o.data≠.cell v
 keep:∀i h h',tn i h->(∀b∈fp,∀o,h.get? b=some o->h'.get? b=some o)->tn i h'
 item:∀(X:Cx),X.prog=P->X.w=w->X.K=K->X.calm=true->∀(i:Nat)(Wn:aF)(s:Shared)(σ:St)(H:Hp)(E:aP),Inv X Wn σ H s->(∀b∈fp,df X Wn H b)->tn i s.heap->J.go i H->
  wpAny (model P w) X.A (pyNext (.ref it)) (λr s1=>∃u,r=some u/\
   wpAny (model P w) X.A (letOwnedTupleGo tg (.ref it) u) (λ_ s2=>∃x H',Inv X Wn σ H' s2/\RelV x u/\J.yld i H x H'/\tn (i+1) s2.heap/\∀b∈fp,H' b=none) E s1) E s
 done:∀(X:Cx),X.prog=P->X.w=w->X.K=K->X.calm=true->∀(i:Nat)(Wn:aF)(s:Shared)(σ:St)(H:Hp)(E:aP),Inv X Wn σ H s->(∀b∈fp,df X Wn H b)->tn i s.heap->J.stop i H->
  wpAny (model P w) X.A (pyNext (.ref it)) (λr s1=>r=none/\Inv X Wn σ H s1) E s
 self:∀(A:Around)(i:Nat)(s:Shared)(Q:aP)(E:aP),tn i s.heap->Q (.ref it) s->wpAny (model P w) A (pyIter (.ref it)) Q E s
abbrev TI:=St->Hp->(It->Hp->Prop)->Prop
def PIE (X:Cx)(Wn:aF)(σ:St)(tg:Expr)(R:It->Hp->Prop)(itv:Value)(s2:Shared):Prop:=
 ∃(it:Addr)(fp:am)(tn:Nat->Heap->Prop)(J:It)(H':Hp),itv=.ref it/\Inv X Wn σ H' s2/\Turn X.prog X.w X.K tg J fp it tn/\tn 0 s2.heap/\(∀b∈fp,df X Wn H' b)/\R J H'
def PI (X:Cx)(tg iter:Expr)(wi:TI):Prop:=
 ∀(Wn:aF)(s:Shared)(σ:St)(H:Hp)(R:It->Hp->Prop),Inv X Wn σ H s->wi σ H R->
  wpAny (model X.prog X.w) X.A (eval iter X.env) (λv s1=>wpAny (model X.prog X.w) X.A (pyIter v) (PIE X Wn σ tg R) X.xe s1) X.xe s
theorem qd {M:Model}{A:Around}{E:aP}{s:Shared}{a:Expr}{it:Addr}{u:Value}{o:Obj}{n:String}{vs:Array Value}{Q:Unit->Shared->Prop}(b:s.heap.get? it=some o)(c:o.cls=.type n)(hd:o.data=.fields vs)(d:["enumerate","zip","dict_itemiterator","dict_reverseitemiterator","odict_iterator","itertools.zip_longest","itertools.pairwise"].contains n=false)(hQ:Q ⟨⟩ s):wpAny M A (letOwnedTupleGo a (.ref it) u) Q E s:=by
 unfold letOwnedTupleGo
 cases a <;> first
  | exact wpAny_pure hQ
  |(cases u <;> first
    | exact wpAny_pure hQ
    |(refine wpAny_bind (wpAny_load b ?_)
      rw[c,hd];show wpAny M A (if (["enumerate","zip","dict_itemiterator","dict_reverseitemiterator","odict_iterator","itertools.zip_longest","itertools.pairwise"].contains n && vs[0]? == some (rawInt _))=true then _ else _) Q E s;rw[if_neg (by intro h;rw[d,Bool.false_and]at h;cases h)];exact wpAny_pure hQ))
def Itl (K:ap)(a:Addr):It:=
 ⟨λi H=>∃xs x,SqL K H a xs/\xs[i]?=some x,λi H x H'=>H'=H/\∀xs,SqL K H a xs->xs[i]?=some x,λi H=>∃xs,SqL K H a xs/\xs.length<=i⟩
def Itr (lo:Int)(n:Nat):It:=⟨λi _=>i<n,λi H x H'=>H'=H/\x=.int (lo+i),λi _=>n<=i⟩
theorem Kc {P:Program}{w:World}{K:ap}{M:Expr}(a it:Addr):Turn P w K M (Itl K a) [it] it (λi h=>h.IsListIter it a i) where
 mem:=by simp
 obj:=λi h st b g=>by
  have e:b=it:=by simpa using g
  subst e;obtain⟨o,e,c,d⟩:=st;exact⟨o,e,λv z=>by rw[d]at z;cases z⟩
 keep:=λi h m st k=>st.at λo e=>k it (by simp) o e
 item:=by
  intro X hP r hK L i f s σ H E I n st t;subst hP r hK;obtain⟨O,x,q,hx⟩:=t;obtain⟨y,B,p,Q⟩:=I.list q;obtain⟨u,R,S⟩:=B.get hx;obtain⟨C,D,T,F,G,J⟩:=n it (by simp);refine wpAny_pyNext_list_item st p.isList (x:=u) (⇑R) λm j U=>?_;have Y:Inv X f σ H { s with heap:=m }:=I.turned (t':=s.toks) (λb o g e=>(U.2 b g).trans e) C D F G J;obtain⟨o,e,c,d⟩:=id j;exact⟨u,rfl,qd (s:={ s with heap:=m }) e c d () ⟨x,H,Y,S,⟨rfl,λys hy=>#v[I.list_inj hy q,hx]⟩,j,λb g=>(n b g).1⟩⟩
 done:=by
  intro X hP r hK L i f s σ H E I n st t;subst hP r hK;obtain⟨O,q,hx⟩:=t;obtain⟨y,B,p,Q⟩:=I.list q;obtain⟨C,D,T,F,G,J⟩:=n it (by simp);have hl:=B.length;exact wpAny_pyNext_list_end (I.ok.hd L) st p.isList (by simp;omega) λm Z=>⟨rfl,I.turned (t':=s.toks) (λb o g e=>Z b o g e) C D F G J⟩
 self:=λ_ _ _ _ _ st h=>wpAny_pyIter_listiter st h
theorem Kd {P:Program}{w:World}{K:ap}{C:Expr}(it:Addr)(lo:Int)(n:Nat):Turn P w K C (Itr lo n) [it] it (λi h=>IsRangeIter h it (lo+(i:Nat)*1) ((n:Int)-(i:Nat)) 1) where
 mem:=by simp
 obj:=λi h st b c=>by
  have e:b=it:=by simpa using c
  subst e;exact⟨_,st,λv z=>by
   have D:Data.fields _=Data.cell v:=z
   cases D⟩
 keep:=λi h f st k=>k it (by simp) _ st
 item:=by
  intro X hP j hK m i a s σ H E I g st p;subst hP j hK;obtain⟨q,r,F,u,x,y⟩:=g it (by simp);have W:=Walks.range (prog:=X.prog) (w:=X.w) (I.ok.hd m) it lo 1 n;refine W.item i s _ _ p st λv f B G d kk=>?_;obtain⟨t,rfl⟩:=G;have J:Inv X a σ H { s with heap:=f,toks:=B }:=I.turned (λb o c e=>kk b o (⇑c) e) q r u x y;refine⟨_,rfl,qd (s:={ s with heap:=f,toks:=B }) (n := "range_iterator") d rfl rfl () ⟨.int (lo+i),H,J,⟨t,?_⟩,⟨rfl,rfl⟩,d,λb c=>(g b c).1⟩⟩;rw[oG]
 done:=by
  intro X hP j hK m i a s σ H E I g st p;subst hP j hK;obtain⟨q,r,F,u,x,y⟩:=g it (by simp);exact wpAny_pyNext_range_end (I.ok.hd m) st (by have:n<=i:=p;omega) λf L=>⟨rfl,I.turned (t':=s.toks) (λb o c e=>L b o c e) q r u x y⟩
 self:=λ_ _ _ _ _ st h=>wpAny_pyIter_rangeiter st h
section
variable {X:Cx}{tg:Expr}
def yY (K:ap)(tl:TE):TI:=λσ H R=>tl σ H λx H1=>∃a,x=.ref a/\(∃xs,SqL K H1 a xs)/\R (Itl K a) H1
theorem cW {l:Expr}{g:TE}(i:PE X l g):PI X tg l (yY X.K g):=by
 intro c s σ H R I h;refine thn (i c s σ H _ I h) λv d j=>?_;obtain⟨x,k,f,m,n⟩:=j;obtain⟨a,e,⟨y,r⟩,q⟩:=n;subst e
 cases m
 obtain⟨t,z,p,B⟩:=f.list r;refine wpAny_pyIter_list p.isList ?_;refine⟨d.heap.objs.size,[d.heap.objs.size],_,_,k,rfl,f.kept (t':=d.toks) λb o e=>Heap.get?_push_of_some _ e,Kc a _,⟨_,Heap.get?_push_size _ rfl,rfl,rfl⟩,λb u=>?_,q⟩;have e:b=d.heap.objs.size:=by simpa using u
 subst e;exact f.fpOk (aA _) (f.hok.fresh (aA _))
theorem Dg {a:aF}{σ:St}{H:Hp}{s:Shared}{R:It->Hp->Prop}{E:aP}{lo hi:Int}{t u v:Tok}{tk:Nat}(I:Inv X a σ H s)(d:-(2 ^ 62)<=lo)(f:lo<2 ^ 62)(g:-(2 ^ 62)<=hi)(h:hi<2 ^ 62)(q:R (Itr lo (hi-lo).toNat) H):wpAny (model X.prog X.w) X.A (pyIter (.ref s.heap.objs.size)) (PIE X a σ tg R) E { s with heap:=s.heap.push { cls:=.type "range",data:=.fields #[.int lo t,.int hi u,.int 1 v] },toks:=tk }:=by
 refine wpAny_pyIter_range (IsRange.new ..) (small_one d f g h) ?_;have c:Inv X a σ H { s with heap:=s.heap.push { cls:=.type "range",data:=.fields #[.int lo t,.int hi u,.int 1 v] },toks:=tk }:=I.kept λb o e=>Heap.get?_push_of_some _ e;refine⟨(s.heap.push { cls:=.type "range",data:=.fields #[.int lo t,.int hi u,.int 1 v] }).objs.size,[(s.heap.push { cls:=.type "range",data:=.fields #[.int lo t,.int hi u,.int 1 v] }).objs.size],_,_,H,rfl,
  c.kept (t':=tk) λb o e=>Heap.get?_push_of_some _ e,Kd _ lo (hi-lo).toNat,?_,λb i=>?_,q⟩
 ·have j:lo+((0:Nat):Int)*1=lo:=by simp
  have k:(((hi-lo).toNat:Nat):Int)-((0:Nat):Int)=Builtin.Range.rangeSize lo hi 1:=by rw[rangeSize_one];split <;> omega
  show IsRangeIter _ _ (lo+((0:Nat):Int)*1) ((((hi-lo).toNat:Nat):Int)-((0:Nat):Int)) 1;rw[j,k];exact Heap.get?_push_size _ rfl
 ·have e:b=(s.heap.push { cls:=.type "range",data:=.fields #[.int lo t,.int hi u,.int 1 v] }).objs.size:=by simpa using i
  subst e;exact c.fpOk (aA _) (c.hok.fresh (aA _))
def Dh (ta:TA):TI:=λσ H R=>ta σ H λvs H1=>∃j:Int,vs=[.int j]/\-(2 ^ 62)<=j/\j<2 ^ 62/\R (Itr 0 j.toNat) H1
def Di (ta:TA):TI:=λσ H R=>ta σ H λvs H1=>∃i j:Int,vs=[.int i,.int j]/\(-(2 ^ 62)<=i/\i<2 ^ 62/\-(2 ^ 62)<=j/\j<2 ^ 62)/\R (Itr i (j-i).toNat) H1
theorem fZ {a:Expr}{d:TA}{p pos:Pos}(f:Gl X "range")(g:X.mg "range" = none)(i:PA X [a] d)(hs:starEach [a] X.env=[(false,eval a X.env)]:=by rfl):PI X tg (.Call (.Name "range" p) [a] [] pos) (Dh d):=by
 intro b s σ H R I h;refine Call_ (im I f g boot_range (PyProof.Rows.callWith_type1 (thn (i pos b s σ H _ I h) λu x k=>?_) hs rfl));obtain⟨y,z,m,n,c⟩:=k;obtain⟨j,e,c,o,q⟩:=c;subst e
 cases n with
 | cons r rr=>
  cases rr
  obtain⟨t,rfl⟩:=r;exact call_range_1 (Dg m () () c o (⇑q))
theorem Dj {a b:Expr}{g:TA}{p pos:Pos}(k:Gl X "range")(m:X.mg "range" = none)(n:PA X [a,b] g)(hs:starEach [a,b] X.env=[(false,eval a X.env),(false,eval b X.env)]:=by rfl)(c:starEach [b] X.env=[(false,eval b X.env)]:=by rfl):
  PI X tg (.Call (.Name "range" p) [a,b] [] pos) (Di g):=by
 intro d s σ H R I h;refine Call_ (im I k m boot_range (PyProof.Rows.callWith_type1 (thn (n pos d s σ H _ I h) λC D o=>?_) (by rw[hs,c]) (by rw[c];rfl)));obtain⟨F,G,u,x,f⟩:=o;obtain⟨i,j,e,⟨f,y,z,B⟩,q⟩:=f;subst e
 cases x with
 | cons r rr=>
  cases rr with
  | cons r' rr=>
   cases rr
   obtain⟨t,rfl⟩:=r;obtain⟨J,rfl⟩:=r';exact call_range_2 (Dg u f y z B q)
def Dk (wi:TI)(g:TG)(tb:TS):TS:=λD σ H=>wi σ H λJ H1=>∃W:Nat->Nat->St->Hp->Prop,(∃m,W 0 m σ H1)/\∀i m σ H,W i m σ H->
 (J.stop i H/\D.nx σ H)\/(J.go i H/\∃N:d9,(∀σ' H',N σ' H'->∃m',m'<m/\W (i+1) m' σ' H')/\∀x H',J.yld i H x H'->g x σ H' λσ2 H2=>tb { D with nx:=N,ct:=N,bk:=D.nx } σ2 H2)
def mT (fp:am)(h:Heap):aF:=fp.filterMap λb=>(h.get? b).map λo=>(b,o)
theorem kS {a:am}{h:Heap}{b:Addr}{o:Obj}(c:b∈a)(e:h.get? b=some o):(b,o)∈mT a h:=List.mem_filterMap.mpr ⟨b,c,by rw[e];rfl⟩
theorem Ke {a:am}{h:Heap}{p:Addr×Obj}(c:p∈mT a h):p.1∈a/\h.get? p.1=some p.2:=by
 obtain⟨b,d,e⟩:=List.mem_filterMap.mp c
 cases q:h.get? b with
 | none=>rw[q]at e;cases e
 | some o=>
  rw[q]at e;have f:(b,o)=p:=Option.some.inj e;subst f;exact⟨d,q⟩
theorem Inv.pinned {a:aF}{σ:St}{H:Hp}{s:Shared}{c:am}(I:Inv X a σ H s)(h:∀b∈c,df X a H b)(i:∀b∈c,∃o,s.heap.get? b=some o/\∀v,o.data≠.cell v):Inv X (a++mT c s.heap) σ H s:=
 I.pins_of λp j=>(a8.mp j).elim (λz=>I.pin p (gv _ z)) λz=>by
  obtain⟨f,e⟩:=Ke z;obtain⟨k,m,n,_⟩:=h p.1 f;obtain⟨o,g,d⟩:=i p.1 f;rw[e]at g;cases g;exact⟨e,k,m,n,d⟩
theorem Inv.unpinned {a pl:aF}{σ:St}{H:Hp}{s:Shared}(I:Inv X (a++pl) σ H s):Inv X a σ H s:=I.pins_of λp b=>I.pin p (gv _ (iC _ b))
theorem cJ {j:Expr}{C:List Stmt}{wi:TI}{g:TG}{tb:TS}{pos:Pos}(M:PassesOwn (model X.prog X.w) X.A X.env X.xe)(hc:X.calm=true)(hi:PI X tg j wi)(hg:PG X tg g)(k:PSs X C tb)(hs:∀x,foldedSetIterable j X.env x=pure x:=by intro _;rfl):PS X (.For tg j C [] pos) (Dk wi g tb):=by
 intro a s σ H D I h;refine wpAny_For (thn (hi a s σ H _ I h) λv s1 h1=>thn h1 λx0 s2 h2=>?_) hs;obtain⟨it,O,tn,J,H2,e,I2,T,R,f2,W,⟨m0,w0⟩,P⟩:=h2;subst e;have p:∀{B:Hp},(∀b∈O,B b=none)->∀b∈O,df X a B b:=λhn b k=>⟨hn b k,(f2 b k).2⟩
 refine codeAny_forLoop_any (λn s'=>∃i q B,Inv X a q B s'/\tn i s'.heap/\(∀b∈O,B b=none)/\W i n q B) ?_ m0 ⟨0,σ,H2,I2,R,λb k=>(f2 b k).1,w0⟩
 rintro n s3 ⟨i,σ3,H3,I3,st3,fr3,w3⟩
 rcases P i n σ3 H3 w3 with ⟨stop,qn⟩|⟨go,N,hN,step⟩
 ·refine wpAny_passesOwn M (thn (T.done X rfl rfl rfl hc i a s3 σ3 H3 X.xe I3 (p fr3) st3 stop) λr s4 G=>?_);obtain⟨S,I4⟩:=G;subst S;exact wpAny_execs_nil ⟨σ3,H3,I4,qn⟩
 ·refine wpAny_passesOwn M (thn (T.item X rfl rfl rfl hc i a s3 σ3 H3 X.xe I3 (p fr3) st3 go) λr s4 G=>?_);obtain⟨u,S,h4⟩:=G;subst S;refine wpAny_passesOwn M (thn h4 λ_ s5 G=>?_);obtain⟨x,H5,I5,r5,y5,L,U⟩:=G;have Y:=I5.pinned (p U) (T.obj _ _ L);refine wpAny_passesOwn M (thn (hg _ s5 σ3 H5 x u _ Y r5 (step x H5 y5)) λ_ s6 G=>?_);obtain⟨Z,H6,I6,q6⟩:=G;refine wpAny_passesOwn M (thn (k _ s6 Z H6 _ I6 q6) λf s7 F=>?_);have t:∀{c:St}{y:Hp},Inv X (a++mT O s5.heap) c y s7->N c y->∃m,m<n/\∃i q B,Inv X a q B s7/\tn i s7.heap/\(∀b∈O,B b=none)/\W i m q B:=λ{c y} z Q=>by
   obtain⟨m',hm,w7⟩:=hN c y Q;refine⟨m',hm,i+1,c,y,z.unpinned,T.keep _ _ _ L λb k o e=>(z.pin (b,o) (gv _ (gv _ (kS k e)))).1,λb k=>?_,w7⟩;obtain⟨o,e,d⟩:=T.obj _ _ L b k;exact (z.pin (b,o) (gv _ (gv _ (kS k e)))).2.1
  cases f with
  | next=>obtain⟨c,y,z,Q⟩:=F;exact t z Q
  | cont=>obtain⟨c,y,z,Q⟩:=F;exact t z Q
  | brk=>obtain⟨c,y,z,F⟩:=F;exact⟨c,y,z.unpinned,F⟩
  | ret v=>obtain⟨x7,c,y,z,r7,F⟩:=F;exact⟨x7,c,y,z.unpinned,r7,F⟩
end
theorem Kf {K:ap}{a:Addr}{xs:List V}{g:TG}{tb:TS}{D:Ends}{σ:St}{H:Hp}(b:Nat->St->Hp->Prop)(k:b 0 σ H)(n:∀i σ H,i<=xs.length->b i σ H->SqL K H a xs)(hs:∀i x σ H,xs[i]?=some x->b i σ H->g x σ H λc h=>tb { D with nx:=b (i+1),ct:=b (i+1),bk:=D.nx } c h)(hd:∀σ H,b xs.length σ H->D.nx σ H):
  ∃W:Nat->Nat->St->Hp->Prop,(∃m,W 0 m σ H)/\∀i m σ H,W i m σ H->
   ((Itl K a).stop i H/\D.nx σ H)\/((Itl K a).go i H/\∃N:d9,(∀d f,N d f->∃j,j<m/\W (i+1) j d f)/\∀x f,(Itl K a).yld i H x f->g x σ f λc h=>tb { D with nx:=N,ct:=N,bk:=D.nx } c h):=by
 refine⟨λi m σ H=>m=xs.length-i/\i<=xs.length/\b i σ H,⟨xs.length,by simp,aR _,k⟩,?_⟩
 rintro i m σ H ⟨rfl,hi,p⟩
 have q:=n i σ H hi p;by_cases hlt:i<xs.length
 ·refine .inr ⟨⟨xs,xs[i],q,by simp[hlt]⟩,b (i+1),λd f o=>⟨xs.length-(i+1),(),rfl,hlt,o⟩,λx f y=>?_⟩;obtain⟨e,y⟩:=y;subst e;exact hs i x σ _ (y xs q) p
 ·have e:i=xs.length:=by omega
  subst e;exact .inl ⟨⟨xs,q,aA _⟩,hd σ H p⟩
theorem Kg {lo:Int}{n:Nat}{g:TG}{tb:TS}{D:Ends}{σ:St}{H:Hp}(a:Nat->St->Hp->Prop)(j:a 0 σ H)(hs:∀i σ H,i<n->a i σ H->g (.int (lo+i)) σ H λb f=>tb { D with nx:=a (i+1),ct:=a (i+1),bk:=D.nx } b f)(hd:∀σ H,a n σ H->D.nx σ H):
  ∃W:Nat->Nat->St->Hp->Prop,(∃m,W 0 m σ H)/\∀i m σ H,W i m σ H->
   ((Itr lo n).stop i H/\D.nx σ H)\/((Itr lo n).go i H/\∃N:d9,(∀c d,N c d->∃h,h<m/\W (i+1) h c d)/\∀x d,(Itr lo n).yld i H x d->g x σ d λb f=>tb { D with nx:=N,ct:=N,bk:=D.nx } b f):=by
 refine⟨λi m σ H=>m=n-i/\i<=n/\a i σ H,⟨n,by simp,aR _,j⟩,?_⟩
 rintro i m σ H ⟨rfl,hi,p⟩
 by_cases hlt:i<n
 ·refine .inr ⟨hlt,a (i+1),λc d k=>⟨n-(i+1),(),rfl,hlt,k⟩,λx d y=>?_⟩;obtain⟨e,y⟩:=y;subst e y;exact hs i σ _ hlt p
 ·have e:i=n:=by omega
  subst e;exact .inl ⟨aA _,hd σ H p⟩
abbrev R2:=V->V->Hp->VK->Prop
def OpR (X:Cx)(f:Value->Value->Sem Value)(r:R2):Prop:=
 ∀(Wn:aF)(s:Shared)(σ:St)(H:Hp)(x y:V)(v u:Value)(Q:VK),Inv X Wn σ H s->RelV x v->RelV y u->r x y H Q->
  wpAny (model X.prog X.w) X.A (f v u) (EP X Wn σ Q) X.xe s
def UnR (X:Cx)(f:Value->Sem Value)(r:V->Hp->VK->Prop):Prop:=
 ∀(Wn:aF)(s:Shared)(σ:St)(H:Hp)(x:V)(v:Value)(Q:VK),Inv X Wn σ H s->RelV x v->r x H Q->
  wpAny (model X.prog X.w) X.A (f v) (EP X Wn σ Q) X.xe s
def gq (X:Cx)(f:Value)(r:List V->Hp->VK->Prop):Prop:=
 ∀(Wn:aF)(s:Shared)(σ:St)(H:Hp)(xs:List V)(us:List Value)(Q:VK),Inv X Wn σ H s->Vals xs us->r xs H Q->
  wpAny (model X.prog X.w) X.A (call f us) (EP X Wn σ Q) X.xe s
def tOp (r:R2)(ta tb:TE):TE:=λσ H Q=>ta σ H λx H1=>tb σ H1 λy H2=>r x y H2 Q
def tUn (r:V->Hp->VK->Prop)(ta:TE):TE:=λσ H Q=>ta σ H λx H1=>r x H1 Q
def rI (C:Int->Int->Prop)(g:Int->Int->V):R2:=λx y H Q=>∃i j,x=.int i/\y=.int j/\C i j/\Q (g i j) H
def rI0 (g:Int->Int->V):R2:=λx y H Q=>∃i j,x=.int i/\y=.int j/\Q (g i j) H
def rU (g:Int->V):V->Hp->VK->Prop:=λx H Q=>∃i,x=.int i/\Q (g i) H
section
variable {X:Cx}{a b c:Expr}{ta tb tc:TE}{pos:Pos}
theorem yZ (m:PE X a ta)(n:PE X b tb){c:aF}{s:Shared}{σ:St}{H:Hp}{R:V->V->Hp->Prop}(I:Inv X c σ H s)(h:ta σ H λx j=>tb σ j λy d=>R x y d){Q:aP}{f:Value->Value->Sem Value}(o:∀v u i x y d,Inv X c σ d i->RelV x v->RelV y u->R x y d->wpAny (model X.prog X.w) X.A (f v u) Q X.xe i):
  wpAny (model X.prog X.w) X.A (eval a X.env) (λv e=>wpAny (model X.prog X.w) X.A (eval b X.env) (λu g=>wpAny (model X.prog X.w) X.A (f v u) Q X.xe g) X.xe e) X.xe s:=by
 refine thn (m c s σ H _ I h) λv p k=>?_;obtain⟨x,j,q,r,t⟩:=k;refine thn (n c p σ j _ q t) λu i k=>?_;obtain⟨y,d,z,B,C⟩:=k;exact o v u i x y d z r B C
theorem ar {d:Operator}{r:R2}(e:OpR X (binaryOp d) r)(f:PE X a ta)(g:PE X b tb):PE X (.BinOp a d b pos) (tOp r ta tb):=by
 intro c s σ H Q I h;exact wpAny_BinOp (yZ f g I h λv u i x y j k m n q=>e c i σ j x y v u Q k m n q)
theorem cF {c:UnaryOp}{r:V->Hp->VK->Prop}(d:UnR X (unaryOp c) r)(e:PE X a ta):PE X (.UnaryOp c a pos) (tUn r ta):=by
 intro b s σ H Q I h;exact UnaryOp_ (thn (e b s σ H _ I h) λv f ⟨x,g,i,j,k⟩=>d b f σ g x v Q i j k)
theorem opI {f:Value->Value->Sem Value}{C:Int->Int->Prop}{g:Int->Int->Int}(a:∀(i j:Int)(t u:Tok)(s:Shared)(Q:aP)(E:aP),C i j->Q (.int (g i j) s.toks) { s with toks:=s.toks+1 }->wpAny (model X.prog X.w) X.A (f (.int i t) (.int j u)) Q E s):
  OpR X f (rI C λi j=>.int (g i j)):=by
 intro b s σ H x y v u Q I c d h;obtain⟨i,j,rfl,rfl,e,q⟩:=h;obtain⟨t,rfl⟩:=c;obtain⟨k,rfl⟩:=d;exact a i j t k s _ _ e ⟨.int (g i j),H,I.tok _,⟨_,rfl⟩,q⟩
theorem Dl {f:Value->Value->Sem Value}{g:Int->Int->Int}(a:∀(i j:Int)(t u:Tok)(s:Shared)(Q:aP)(E:aP),Q (.int (g i j) s.toks) { s with toks:=s.toks+1 }->wpAny (model X.prog X.w) X.A (f (.int i t) (.int j u)) Q E s):
  OpR X f (rI0 λi j=>.int (g i j)):=by
 intro b s σ H x y v u Q I c d h;obtain⟨i,j,rfl,rfl,q⟩:=h;obtain⟨t,rfl⟩:=c;obtain⟨e,rfl⟩:=d;exact a i j t e s _ _ ⟨.int (g i j),H,I.tok _,⟨_,rfl⟩,q⟩
theorem qe {f:Value->Value->Sem Value}{g:Int->Int->Bool}(a:∀(i j:Int)(t u:Tok)(s:Shared)(Q:aP)(E:aP),Q (.bool (g i j)) s->wpAny (model X.prog X.w) X.A (f (.int i t) (.int j u)) Q E s):
  OpR X f (rI0 λi j=>.bl (g i j)):=by
 intro b s σ H x y v u Q I c d h;obtain⟨i,j,rfl,rfl,q⟩:=h;obtain⟨t,rfl⟩:=c;obtain⟨e,rfl⟩:=d;exact a i j t e s _ _ ⟨.bl (g i j),H,I,rfl,q⟩
def Kh (i j:Int):Prop:=0<j/\j<1073741824
def Dm (i j:Int):Prop:=0<=j/\j<=1000000/\i.natAbs<2 ^ 64
def CMul (i j:Int):Prop:=(-(2 ^ 64)<i/\i<2 ^ 64)\/(-(2 ^ 64)<j/\j<2 ^ 64)
theorem CMul.ok {i j:Int}(h:CMul i j):IntMulOk i j:=by
 rcases h with ⟨a,b⟩|⟨a,b⟩
 ·exact .of_left (intBits_le_64 a b)
 ·exact .of_right (intBits_le_64 a b)
theorem Ki (k:Nat):(0:Int)<=2 ^ k:=by
 rw[two_pow_cast];exact Int.natCast_nonneg _
theorem dc:OpR X (binaryOp .Add) (rI0 λi j=>.int (i+j)):=Dl λ_ _ _ _ _ _ _ q=>add_int q
theorem cq:OpR X (binaryOp .Sub) (rI0 λi j=>.int (i-j)):=Dl λ_ _ _ _ _ _ _ q=>sub_int q
theorem Dn:OpR X (binaryOp .Mult) (rI CMul λi j=>.int (i*j)):=opI λ_ _ _ _ _ _ _ a q=>mul_int q a.ok
theorem iS:OpR X (binaryOp .FloorDiv) (rI Kh λi j=>.int (i / j)):=opI λi j _ _ _ _ _ a q=>by
 have b:(0:Int)<j:=a.1;have c:j<1073741824:=a.2;exact floordiv_int () #v[Be i (),q] (.inl (PyProof.noPylong_small ()))
theorem fD:OpR X (binaryOp .Mod) (rI (λ_ j=>0<j) λi j=>.int (i % j)):=opI λi j _ _ _ _ _ a q=>by
 have b:(0:Int)<j:=a;exact mod_int' () #v[Int.fmod_eq_emod_of_nonneg i (),q]
theorem Kj:OpR X (binaryOp .Pow) (rI Dm λi j=>.int (i ^ j.toNat)):=opI λ_ _ _ _ _ _ _ a q=>pow_int_small a.1 a.2.1 a.2.2 q
theorem Kk:OpR X (binaryOp .LShift) (rI Dm λi j=>.int (i*2 ^ j.toNat)):=opI λ_ _ _ _ _ _ _ a q=>lshift_int_small a.1 a.2.1 a.2.2 q
theorem Do:OpR X (binaryOp .RShift) (rI (λ_ j=>0<=j) λi j=>.int (i / 2 ^ j.toNat)):=opI λi j _ _ _ _ _ a q=>
 rshift_int a #v[Be i (Ki _),q]
theorem unI {f:Value->Sem Value}{g:Int->Int}(a:∀(i:Int)(t:Tok)(s:Shared)(Q:aP)(E:aP),Q (.int (g i) s.toks) { s with toks:=s.toks+1 }->wpAny (model X.prog X.w) X.A (f (.int i t)) Q E s):
  UnR X f (rU λi=>.int (g i)):=by
 intro b s σ H x v Q I c h;obtain⟨i,rfl,q⟩:=h;obtain⟨t,rfl⟩:=c;exact a i t s _ _ ⟨.int (g i),H,I.tok _,⟨_,rfl⟩,q⟩
theorem cG:UnR X (unaryOp .USub) (rU λi=>.int (-i)):=unI λ_ _ _ _ _ q=>neg_int q
end
def Dp:V->V->Bool
 | .non,.non=>true | .non,.int _=>true | .int _,.non=>true | .non,.bl _=>true | .bl _,.non=>true | .non,.str _=>true | .str _,.non=>true
 | .int _,.int _=>true | .bl _,.bl _=>true | .str _,.str _=>true | .byt _,.byt _=>true
 | .int _,.str _=>true | .str _,.int _=>true | .bl _,.str _=>true | .str _,.bl _=>true
 | _,_=>false
def rEq:R2:=λx y H Q=>Dp x y=true/\Q (.bl (decide (x=y))) H
def rNe:R2:=λx y H Q=>Dp x y=true/\Q (.bl (!decide (x=y))) H
theorem qf {i j:Int}:decide (V.int i=V.int j)=(i == j):=by
 rw[Bool.eq_iff_iff];simp
theorem Dq {i j:Bool}:decide (V.bl i=V.bl j)=(i == j):=by
 rw[Bool.eq_iff_iff];simp
theorem Dr {i j:Str}:decide (V.str i=V.str j)=(i == j):=by
 rw[Bool.eq_iff_iff];simp
theorem Ds {i j:Array UInt8}:decide (V.byt i=V.byt j)=(i.toList == j.toList):=by
 rw[Bool.eq_iff_iff]
 cases i
 cases j
 simp
section
variable {X:Cx}{a b c:Expr}{ta tb tc:TE}{pos:Pos}
theorem cT {a:aF}{σ:St}{H:Hp}{s:Shared}{Q:VK}{k b:Bool}(I:Inv X a σ H s)(q:Q (.bl k) H)(e:k=b):EP X a σ Q (.bool b) s:=by
 subst e;exact⟨.bl k,H,I,rfl,q⟩
theorem eC:OpR X (compareOp .Eq) rEq:=by
 intro d s σ H x y v u Q I c a h;obtain⟨hs,q⟩:=h
 cases x with
 | non=>
  cases c
  cases y with
  | non=>cases a;exact PySem.EqNone.eq_none_none (cT I q (by simp))
  | bl j=>cases a;exact PySem.EqNone.eq_none_bool (cT I q (by simp))
  | int j=>obtain⟨b,rfl⟩:=a;exact PySem.EqNone.eq_none_int (cT I q (by simp))
  | str j=>obtain⟨b,rfl⟩:=a;exact PySem.EqNone.eq_none_str (cT I q (by simp))
  | _=>exact absurd (show false=true from hs) Bool.false_ne_true
 | bl i=>
  cases c
  cases y with
  | non=>cases a;exact PySem.EqNone.eq_bool_none (cT I q (by simp))
  | bl j=>cases a;exact eq_bool (cT I q Dq)
  | str j=>obtain⟨b,rfl⟩:=a;exact PySem.EqMixed.eq_bool_str (cT I q (by simp))
  | _=>exact absurd (show false=true from hs) Bool.false_ne_true
 | int i=>
  obtain⟨t,rfl⟩:=c
  cases y with
  | non=>cases a;exact PySem.EqNone.eq_int_none (cT I q (by simp))
  | int j=>obtain⟨b,rfl⟩:=a;exact eq_int (cT I q qf)
  | str j=>obtain⟨b,rfl⟩:=a;exact PySem.EqMixed.eq_int_str (cT I q (by simp))
  | _=>exact absurd (show false=true from hs) Bool.false_ne_true
 | str i=>
  obtain⟨t,rfl⟩:=c
  cases y with
  | non=>cases a;exact PySem.EqNone.eq_str_none (cT I q (by simp))
  | bl j=>cases a;exact PySem.EqMixed.eq_str_bool (cT I q (by simp))
  | int j=>obtain⟨b,rfl⟩:=a;exact PySem.EqMixed.eq_str_int (cT I q (by simp))
  | str j=>obtain⟨b,rfl⟩:=a;exact eq_str (cT I q Dr)
  | _=>exact absurd (show false=true from hs) Bool.false_ne_true
 | byt i=>
  obtain⟨t,rfl⟩:=c
  cases y with
  | byt j=>obtain⟨b,rfl⟩:=a;exact PySem.W.eq_bytes (cT I q Ds)
  | _=>exact absurd (show false=true from hs) Bool.false_ne_true
 | _=>cases y <;> exact absurd (show false=true from hs) Bool.false_ne_true
theorem jo:OpR X (compareOp .NotEq) rNe:=by
 intro d s σ H x y v u Q I c a h;obtain⟨hs,q⟩:=h
 cases x with
 | non=>
  cases c
  cases y with
  | non=>cases a;exact PySem.EqNone.ne_none_none (cT I q (by simp))
  | bl j=>cases a;exact PySem.EqNone.ne_none_bool (cT I q (by simp))
  | int j=>obtain⟨b,rfl⟩:=a;exact PySem.EqNone.ne_none_int (cT I q (by simp))
  | str j=>obtain⟨b,rfl⟩:=a;exact PySem.EqNone.ne_none_str (cT I q (by simp))
  | _=>exact absurd (show false=true from hs) Bool.false_ne_true
 | bl i=>
  cases c
  cases y with
  | non=>cases a;exact PySem.EqNone.ne_bool_none (cT I q (by simp))
  | bl j=>cases a;exact ne_bool (cT I q (congrArg not Dq))
  | str j=>obtain⟨b,rfl⟩:=a;exact PySem.EqMixed.ne_bool_str (cT I q (by simp))
  | _=>exact absurd (show false=true from hs) Bool.false_ne_true
 | int i=>
  obtain⟨t,rfl⟩:=c
  cases y with
  | non=>cases a;exact PySem.EqNone.ne_int_none (cT I q (by simp))
  | int j=>obtain⟨b,rfl⟩:=a;exact ne_int (cT I q (congrArg not qf))
  | str j=>obtain⟨b,rfl⟩:=a;exact PySem.EqMixed.ne_int_str (cT I q (by simp))
  | _=>exact absurd (show false=true from hs) Bool.false_ne_true
 | str i=>
  obtain⟨t,rfl⟩:=c
  cases y with
  | non=>cases a;exact PySem.EqNone.ne_str_none (cT I q (by simp))
  | bl j=>cases a;exact PySem.EqMixed.ne_str_bool (cT I q (by simp))
  | int j=>obtain⟨b,rfl⟩:=a;exact PySem.EqMixed.ne_str_int (cT I q (by simp))
  | str j=>obtain⟨b,rfl⟩:=a;exact ne_str (cT I q (congrArg not Dr))
  | _=>exact absurd (show false=true from hs) Bool.false_ne_true
 | byt i=>
  obtain⟨t,rfl⟩:=c
  cases y with
  | byt j=>obtain⟨b,rfl⟩:=a;exact PySem.W.ne_bytes (cT I q (congrArg not Ds))
  | _=>exact absurd (show false=true from hs) Bool.false_ne_true
 | _=>cases y <;> exact absurd (show false=true from hs) Bool.false_ne_true
theorem jp:OpR X (compareOp .Lt) (rI0 λi j=>.bl (decide (i<j))):=qe λ_ _ _ _ _ _ _ q=>lt_int q
theorem Kl:OpR X (compareOp .LtE) (rI0 λi j=>.bl (decide (i<=j))):=qe λ_ _ _ _ _ _ _ q=>le_int q
theorem f7:OpR X (compareOp .Gt) (rI0 λi j=>.bl (decide (j<i))):=qe λ_ _ _ _ _ _ _ q=>gt_int q
theorem qg:OpR X (compareOp .GtE) (rI0 λi j=>.bl (decide (j<=i))):=qe λ_ _ _ _ _ _ _ q=>ge_int q
theorem qh:OpR X (compareOp .Is) (λx y H Q=>y=.non/\Q (.bl (decide (x=.non))) H):=by
 intro a s σ H x y v u Q I b c h;obtain⟨rfl,q⟩:=h
 cases c
 refine is_none_gen (cT I q ?_)
 cases x <;> first
  |(cases b;rfl)
  |(obtain⟨t,rfl⟩:=b;rfl)
theorem mU:OpR X (compareOp .IsNot) (λx y H Q=>y=.non/\Q (.bl (!decide (x=.non))) H):=by
 intro a s σ H x y v u Q I b c h;obtain⟨rfl,q⟩:=h
 cases c
 refine isnot_none_gen (cT I q ?_)
 cases x <;> first
  |(cases b;rfl)
  |(obtain⟨t,rfl⟩:=b;rfl)
theorem aU (b:Expr){a:CmpOp}(h:a≠.In:=by decide)(c:a≠.NotIn:=by decide):behindInMarks a b=false:=by
 have d:(a == CmpOp.In)=false:=by cases a <;> first|rfl|exact absurd rfl h
 have e:(a == CmpOp.NotIn)=false:=by cases a <;> first|rfl|exact absurd rfl c
 cases b <;> simp[behindInMarks,d,e]
theorem kT {d:CmpOp}{r:R2}(e:OpR X (compareOp d) r)(f:PE X a ta)(g:PE X b tb)(i:behindInMarks d b=false):PE X (.Compare a [d] [b] pos) (tOp r ta tb):=by
 intro c s σ H Q I h;exact wpAny_Compare1 (yZ f g I h λv u j x y k m n o q=>e c j σ k x y v u Q m n o q) i
def Du (t:TE):TT:=λσ H Q=>t σ H λx H'=>∃k,x=.bl k/\Q k H'
theorem aX {f:CmpOp}{r:R2}(g:OpR X (compareOp f) r)(i:PE X a ta)(j:PE X b tb)(m:behindInMarks f b=false):PT X (.Compare a [f] [b] pos) (Du (tOp r ta tb)):=by
 intro d s σ H Q I h;refine wpAny_isTrue_Compare1 (thn (i d s σ H _ I h) λv n ⟨x,o,p,q,t⟩=>thn (j d n σ o _ p t) λu B ⟨y,C,D,F,G⟩=>
  thn (g d B σ C x y v u _ D q F G) λc P ⟨z,J,L,M,k,e,O⟩=>?_) m
 subst e
 cases M
 exact wpAny_truthy_bool ⟨J,L,O⟩
theorem mV:(sizeLine:Nat)<2 ^ 63:=by rw[sizeLine_eq];decide
theorem jq {x:V}{us:List Value}(r:Vals [x] us):∃u,us=[u]/\RelV x u:=by
 cases r with
 | cons r1 r2=>cases r2;exact⟨_,rfl,r1⟩
theorem Dv {x y:V}{us:List Value}(r:Vals [x,y] us):∃u a,us=[u,a]/\RelV x u/\RelV y a:=by
 cases r with
 | cons r1 r2=>
  cases r2 with
  | cons r3 r4=>cases r4;exact⟨_,_,rfl,r1,r3⟩
theorem jX:gq X (.builtin "abs") (λa H Q=>∃i,a=[.int i]/\Q (.int (if i<0 then -i else i)) H):=by
 intro b s σ H a c Q I r h;obtain⟨i,rfl,q⟩:=h;obtain⟨u,rfl,t,rfl⟩:=jq r;exact call_abs_int λu d=>⟨.int (if i<0 then -i else i),H,I.tok _,⟨_,rfl⟩,q⟩
theorem Dw (c:X.calm=true):gq X (.builtin "max") (λa H Q=>∃i j,a=[.int i,.int j]/\Q (.int (if j > i then j else i)) H):=by
 intro b s σ H a d Q I r h;obtain⟨i,j,rfl,q⟩:=h;obtain⟨u,e,rfl,⟨t,rfl⟩,⟨f,rfl⟩⟩:=Dv r;refine max_two_ints (I.ok.hd c) λg m k=>⟨_,H,I.kept k,?_,q⟩
 by_cases hj:j > i
 ·rw[if_pos hj,if_pos hj];exact⟨_,rfl⟩
 ·rw[if_neg hj,if_neg hj];exact⟨_,rfl⟩
theorem y_ (c:X.calm=true):gq X (.builtin "min") (λa H Q=>∃i j,a=[.int i,.int j]/\Q (.int (if j<i then j else i)) H):=by
 intro b s σ H a d Q I r h;obtain⟨i,j,rfl,q⟩:=h;obtain⟨u,e,rfl,⟨t,rfl⟩,⟨f,rfl⟩⟩:=Dv r;refine min_two_ints (I.ok.hd c) λg m k=>⟨_,H,I.kept k,?_,q⟩
 by_cases hj:j<i
 ·rw[if_pos hj,if_pos hj];exact⟨_,rfl⟩
 ·rw[if_neg hj,if_neg hj];exact⟨_,rfl⟩
end
structure ObjM (h:Heap)(x dx C:Addr)(mA:bh):Prop where
 obj:h.get? x=some (PySem.W.instObj C dx)
 ns:h.Ns1 dx mA
 ne:dx≠x
theorem Km {h:Heap}{d:Addr}{f:bh}(n:h.Ns1 d f):∃g,h.get? d=some g/\∀b,PySem.W.lookIn b g=some (f b):=by
 obtain⟨o,i,p,j,hd,hk,_,k⟩:=n;refine⟨o,j,λb=>?_⟩;have e:=k b;unfold nsFind findBy at e;rw[<-Array.find?_toList]at e;unfold PySem.W.lookIn;rw[hd];dsimp only
 split
 ·rename_i y q;rw[q]at e;exact congrArg some e
 ·rename_i q;rw[q]at e;have a:i.toList.any (·.refKey)=false:=by
   rw[List.any_eq_false];intro y hy;obtain⟨z,t,c⟩:=hk y (Array.mem_toList_iff.mp hy);simp[DictEntry.refKey,c]
  have m:¬i.toList.any (·.refKey)=true:=by rw[a];exact Bool.false_ne_true
  rw[if_neg m];exact congrArg some e
theorem ObjM.look {h:Heap}{x c C:Addr}{d:bh}(I:ObjM h x c C d):∃b,PySem.W.InstAt h x (PySem.W.instObj C c) C (some b)/\∀a,PySem.W.lookIn a b=some (d a):=
 let ⟨b,ho,hl⟩:=Km I.ns
 ⟨b,⟨I.obj,rfl,rfl,ho⟩,hl⟩
section
variable {prog:Program}{w:World}{A:Around}{E:aP}{s:Shared}{K:ap}{x dx C f:Addr}{mA:bh}{name:Str}{v:Value}
theorem Kn {a:Bool}{Q:aP}(X:K.In s.heap)(I:ObjM s.heap x dx C mA)(c:PySem.W.plainGet K C name=true)(d:PySem.W.hasDictIn K C=true)(e:PySem.W.findIn K (.ref C) name=some none)(f:mA name=some v)(b:PySem.W.handedIn v=true)(h:Q v { s with toks:=s.toks+1 }):
  wpAny (model prog w) A (getAttr (.ref x) name a) Q E s:=by
 obtain⟨i,J,g⟩:=I.look;exact PySem.W.get_value X J (PySem.W.plainGet_of c).1 (PySem.W.findObj_own d e rfl (by rw[g,f])) b h
theorem Ko {pl:Sem Bool}{Q:Value×List Value->Shared->Prop}(X:K.In s.heap)(I:ObjM s.heap x dx C mA)(a:PySem.W.plainGet K C name=true)(b:PySem.W.findIn K (.ref C) name=some (some (.ref f)))(c:PySem.W.isFn K (.ref f)=true)(d:mA name=none)(h:Q (.ref f,[.ref x]) s):
  wpAny (model prog w) A (getMethod (.ref x) name pl) Q E s:=by
 obtain⟨e,J,g⟩:=I.look;exact PySem.W.method_fn X J (PySem.W.plainGet_of a).1 (PySem.W.plainGet_of a).2 b (beq_iff_eq.mp c) (by show (PySem.W.lookIn name e).map (·.isSome)=some false;rw[g,d];rfl) h
theorem Kq {ns:List Str}{Q:Unit->Shared->Prop}(X:K.In s.heap)(I:ObjM s.heap x dx C mA)(hs:PySem.W.findIn K (.ref C) "__setattr__" = some (some (.builtin "object.__setattr__")))(k:PySem.W.plainOver K C=true)(m:PySem.W.takerIn K C name=some none)(n:PySem.W.hasDictIn K C=true)(o:PySem.Within mA ns)(p:ns.length<=sizeLine)(h:∀e,ObjM e x dx C (λy=>if y=name then some v else mA y)->Heap.SameBut dx s.heap e->Q ⟨⟩ { s with heap:=e,toks:=s.toks+2 }):
  wpAny (model prog w) A (setAttr (.ref x) name v) Q E s:=by
 obtain⟨z,J,B⟩:=I.look;refine PySem.W.set_plain X J hs (PySem.W.osa_open (s:={ s with toks:=s.toks+1 }) (r:=none) X J k m λb=>?_);obtain⟨D,q,f⟩:=PySem.W.any_some n;have hx:s.heap.get? x=some ⟨.ref C,some dx,.plain,#[]⟩:=I.obj;refine wpAny_bind (wpAny_pure (wpAny_bind (wpAny_bind (wpAny_loadPart hx (wpAny_bind (PySem.W.Looks.here (s:={ s with toks:=s.toks+1 }) (PySem.W.looks_clsIn X q) ?_))))));rw[f];refine wpAny_pure (a:=some dx) (wpAny_bind (wpAny_pure (wpAny_bind ?_)));refine wpAny_nsSet1 (s:={ s with toks:=s.toks+1 }) I.ns λe c d=>?_;obtain⟨F,t,u,g,i,j⟩:=c.count (PySem.Within.cons name v o);refine wpAny_bind (wpAny_lookBehind g (by rw[i];exact pastItsLine_dict (aM j (by rw[cC];omega))) ?_);exact wpAny_pure (h _ ⟨(d.2 _ (Ne.symm I.ne)).trans I.obj,c,I.ne⟩ d)
theorem Kr {R:Result->Shared->Prop}{vs:List Value}{kw:List (Str×Value)}(X:K.In s.heap)(a:PySem.W.makesIn K C=true)(hi:PySem.W.findIn K (.ref C) "__init__" = some (some (.ref f)))(b:PySem.W.typeIn K (.ref f)=some (.type "function"))(h:codeAny (model prog w) (A.under (.builtin "type.__call__" ⟨.ref C :: vs,kw⟩)) (.call (.ref f) ⟨.ref (s.heap.objs.size+1) :: vs,kw⟩) (PySem.W.InitBack (s.heap.objs.size+1) R)
   { s with heap:=(s.heap.push PySem.W.emptyDict).push (PySem.W.instObj C s.heap.objs.size) }):
  codeAny (model prog w) A (.call (.ref C) ⟨vs,kw⟩) R s:=by
 obtain⟨c,g,d,t,os⟩:=s;exact PySem.W.make_core (PySem.W.makes_of X a) (PySem.W.looks_findIn X hi) (λself=>PySem.W.bind_fn X self b) (.inl rfl) h
end
def aV (f:Str)(v:V):List (Str×V)->List (Str×V)
 | []=>[(f,v)]
 |(g,x) :: r=>if g=f then (g,v) :: r else (g,x) :: aV f v r
theorem Dx (f g:Str)(v:V):∀fs:List (Str×V),(aV f v fs).lookup g=if g=f then some v else fs.lookup g
 | []=>by
  show mn g [(f,v)]=_;by_cases h:g=f
  ·have a:(g == f)=true:=beq_iff_eq.mpr h;simp only[mn,a,if_pos h]
  ·have a:(g == f)=false:=beq_eq_false_iff_ne.mpr h;simp only[mn,a,if_neg h]
 |(k,x) :: r=>by
  have b:=Dx f g v r;rw[show aV f v ((k,x) :: r)=(if k=f then (k,v) :: r else (k,x) :: aV f v r) from rfl];by_cases hk:k=f
  ·rw[if_pos hk];by_cases h:g=k
   ·have a:(g == k)=true:=beq_iff_eq.mpr h;simp only[mn,a,if_pos (h.trans hk)]
   ·have a:(g == k)=false:=beq_eq_false_iff_ne.mpr h;simp only[mn,a,if_neg (λe:g=f=>h (e.trans hk.symm))]
  ·rw[if_neg hk];by_cases h:g=k
   ·have a:(g == k)=true:=beq_iff_eq.mpr h;simp only[mn,a,if_neg (λe:g=f=>hk (h.symm.trans e))]
   ·have a:(g == k)=false:=beq_eq_false_iff_ne.mpr h;simp only[mn,a];exact b
theorem za (f:Str)(v:V):∀fs:List (Str×V),f∈(aV f v fs).map (·.1)/\∀g,g∈fs.map (·.1)->g∈(aV f v fs).map (·.1)
 | []=>⟨by simp[aV],λg h=>by simp at h⟩
 |(k,x) :: r=>by
  obtain⟨a,b⟩:=za f v r;rw[show aV f v ((k,x) :: r)=(if k=f then (k,v) :: r else (k,x) :: aV f v r) from rfl];by_cases hk:k=f
  ·rw[if_pos hk];subst hk;exact⟨by simp,λg h=>by simpa using h⟩
  ·rw[if_neg hk];refine⟨?_,λg h=>?_⟩
   ·rw[dY];exact cX _ a
   ·rw[dY]at h ⊢;rcases bj.mp h with e|e
    ·exact bj.mpr (.inl e)
    ·exact cX _ (b g e)
theorem Dy (f:Str)(v:V):∀fs:List (Str×V),(aV f v fs).length<=fs.length+1
 | []=>by simp[aV]
 |(k,x) :: r=>by
  have a:=Dy f v r;rw[show aV f v ((k,x) :: r)=(if k=f then (k,v) :: r else (k,x) :: aV f v r) from rfl];by_cases hk:k=f
  ·rw[if_pos hk,cC,cC];omega
  ·rw[if_neg hk,cC,cC];omega
theorem RelO.some_of {v:V}{o:Option Value}(r:RelO (some v) o):∃u,o=some u/\RelV v u:=by
 cases o with
 | none=>exact (show False from r).elim
 | some u=>exact⟨u,rfl,r⟩
theorem RelO.none_of {o:Option Value}(r:RelO none o):o=none:=by
 cases o with
 | none=>rfl
 | some u=>exact (show False from r).elim
theorem Ks {v:V}{u:Value}(r:RelV v u):PySem.W.handedIn u=true:=by
 cases v with
 | non=>cases (show u=Value.none from r);rfl
 | bl b=>cases (show u=Value.bool b from r);rfl
 | int i=>obtain⟨t,e⟩:=(show ∃t,u=Value.int i t from r);cases e;rfl
 | str x=>obtain⟨t,e⟩:=(show ∃t,u=Value.str x t from r);cases e;rfl
 | byt b=>obtain⟨t,e⟩:=(show ∃t,u=Value.bytes b t from r);cases e;rfl
 | flt b=>obtain⟨t,e⟩:=(show ∃t,u=Value.float b t from r);cases e;rfl
 | ref a=>cases (show u=Value.ref a from r);rfl
 | ty n=>cases (show u=Value.type n from r);rfl
section
variable {P:Program}{w:World}{H H':Hp}{h h':Heap}{a C dx:Addr}{fs fs':List (Str×V)}
theorem qj (hok:HOk P w H h)(e:H a=some (.ins C dx fs)):∃b,ObjM h a dx C b/\(∀f,RelO (fs.lookup f) (b f))/\PySem.Within b (fs.map (·.1))/\fs.length<=1000/\H dx=some (.own a):=by
 obtain⟨d,z,ne,c,b,n,r,q⟩:=(show ObjOk P w H h a (.ins C dx fs) from hok a _ e)
 exact⟨b,⟨c,n,ne⟩,r,q,z,d⟩
end
structure Cls (K:ap)(C:Addr):Prop where
 pg:PySem.W.plainGet K C Str.empty=true
 hd:PySem.W.hasDictIn K C=true
 po:PySem.W.plainOver K C=true
 sa:PySem.W.findIn K (.ref C) "__setattr__" = some (some (.builtin "object.__setattr__"))
theorem Cls.get {K:ap}{C:Addr}(c:Cls K C)(f:Str):PySem.W.plainGet K C f=true:=c.pg
def NoAttr (K:ap)(C:Addr)(f:Str):Prop:=PySem.W.findIn K (.ref C) f=some none
theorem NoAttr.taker {K:ap}{C:Addr}{f:Str}(n:NoAttr K C f):PySem.W.takerIn K C f=some none:=by
 unfold PySem.W.takerIn;rw[show PySem.W.findIn K (.ref C) f=some none from n];rfl
structure Meth (K:ap)(C:Addr)(m:Str)(f:Addr):Prop where
 at_:PySem.W.findIn K (.ref C) m=some (some (.ref f))
 fn:PySem.W.isFn K (.ref f)=true
 kp:PySem.W.keepIn K (.ref f)=true
section
variable {X:Cx}{Wn:aF}{σ:St}{H:Hp}{s:Shared}{a C dx:Addr}{fs:List (Str×V)}{f:Str}{v:V}{A:Around}{E:aP}
theorem Dz {b:Bool}{Q:aP}(I:Inv X Wn σ H s)(e:H a=some (.ins C dx fs))(c:Cls X.K C)(n:NoAttr X.K C f)(l:fs.lookup f=some v)(h:∀u d,Inv X Wn σ H d->RelV v u->Q u d):wpAny (model X.prog X.w) A (getAttr (.ref a) f b) Q E s:=by
 obtain⟨i,O,r,_,_,_⟩:=qj I.hok e;obtain⟨u,j,g⟩:=RelO.some_of (v:=v) (o:=i f) #v[<-l,r f];exact Kn I.kIn O (c.get f) c.hd n j (Ks g) (h u _ (I.tok _) g)
theorem DA {m:Str}{g:Addr}{pl:Sem Bool}{Q:Value×List Value->Shared->Prop}(I:Inv X Wn σ H s)(e:H a=some (.ins C dx fs))(c:Cls X.K C)(k:Meth X.K C m g)(l:fs.lookup m=none)(h:Q (.ref g,[.ref a]) s):wpAny (model X.prog X.w) A (getMethod (.ref a) m pl) Q E s:=by
 obtain⟨b,O,r,_,_,_⟩:=qj I.hok e;have d:b m=none:=RelO.none_of #v[<-l,r m];exact Ko I.kIn O (c.get m) k.at_ k.fn d h
theorem DB {y:V}{u:Value}{Q:Unit->Shared->Prop}(I:Inv X Wn σ H s)(e:H a=some (.ins C dx fs))(c:Cls X.K C)(n:NoAttr X.K C f)(J:fs.length<1000)(p:RelV y u)(h:∀i,Inv X Wn σ (upd H a (.ins C dx (aV f y fs))) i->Q ⟨⟩ i):wpAny (model X.prog X.w) A (setAttr (.ref a) f u) Q E s:=by
 obtain⟨j,O,r,k,_,m⟩:=qj I.hok e;have t:(fs.map (·.1)).length<=sizeLine:=by rw[af,sizeLine_eq];omega
 refine Kq I.kIn O c.sa c.po n.taker c.hd k t λB d D=>h _ ?_;have hd:∃o,B.get? dx=some o:=let ⟨o,_,_,e',_⟩:=d.ns;⟨o,e'⟩
 refine I.write (x:=a) (e:=dx) #v[e,True.intro] (.inr m) (λb q F z=>(D.2 b F).trans z) hd ?_;refine⟨#v[aC O.ne,m],?_,O.ne,d.obj,_,d.ns,λg=>?_,λg G=>?_⟩
 ·have:=Dy f y fs;omega
 ·show RelO ((aV f y fs).lookup g) (if g=f then some u else j g);rw[Dx];by_cases q:g=f
  ·rw[if_pos q,if_pos q];exact p
  ·rw[if_neg q,if_neg q];exact r g
 ·by_cases q:g=f
  ·rw[q];exact (za f y fs).1
  ·refine (za f y fs).2 g (k g λz=>G ?_);show (if g=f then some u else j g)=none;rw[if_neg q];exact z
theorem Inv.made (I:Inv X Wn σ H s):Inv X Wn σ (upd (upd H s.heap.objs.size (.own (s.heap.objs.size+1))) (s.heap.objs.size+1) (.ins C s.heap.objs.size []))
  { s with heap:=(s.heap.push PySem.W.emptyDict).push (PySem.W.instObj C s.heap.objs.size) }:=by
 have c:(s.heap.push PySem.W.emptyDict).get? s.heap.objs.size=some PySem.W.emptyDict:=Heap.get?_push_size s.heap rfl;have d:((s.heap.push PySem.W.emptyDict).push (PySem.W.instObj C s.heap.objs.size)).get? (s.heap.objs.size+1)=some (PySem.W.instObj C s.heap.objs.size):=by
  have:=Heap.get?_push_size (s.heap.push PySem.W.emptyDict) (o:=PySem.W.instObj C s.heap.objs.size) rfl
  rwa [Heap.size_push]at this
 have f:(s.heap.push PySem.W.emptyDict).Ns s.heap.objs.size (λ_=>none):=⟨PySem.W.emptyDict,#[],_,c,rfl,(λe g=>absurd g (by simp)),λ_=>rfl⟩
 have h:=I.laid (a:=s.heap.objs.size) (o:=.own (s.heap.objs.size+1)) (h':=s.heap.push PySem.W.emptyDict) (t':=s.toks) (λb u q=>Heap.get?_push_of_some _ q) (aA _) ⟨_,c⟩;refine h.laid (a:=s.heap.objs.size+1) (o:=.ins C s.heap.objs.size []) (t':=s.toks) (λb u q=>Heap.get?_push_of_some _ q) (kG (Heap.size_push _ _)) ?_;have ne:s.heap.objs.size≠s.heap.objs.size+1:=dj (oH _);refine⟨by rw[aC ne,ak],aR _,ne,d,λ_=>none,(Heap.Ns1.of_empty f).at λo q=>Heap.get?_push_of_some _ q,λ_=>True.intro,λy hy=>absurd rfl hy⟩
theorem Kt {prog:Program}{w:World}{env:Env}{e:Expr}{f:Str}{pos:Pos}{s:Shared}{Q:aP}(b:attributeBase e f env (eval e env)=eval e env)(h:wpAny (model prog w) A (eval e env) (λo a=>wpAny (model prog w) A (getAttr o f true) Q E a) E s):wpAny (model prog w) A (eval (.Attribute e f pos) env) Q E s:=
 Attribute_any_ h (by rw[arm_eval_Attribute,b])
end
def zb (K:ap)(ta:TE)(f:Str):TE:=λσ H Q=>ta σ H λx H1=>∃a C dx fs v,x=.ref a/\H1 a=some (.ins C dx fs)/\Cls K C/\NoAttr K C f/\fs.lookup f=some v/\Q v H1
def DC (K:ap)(ta tv:TE)(f:Str):TS:=λD σ H=>tv σ H λy H1=>ta σ H1 λx H2=>∃a C dx fs,x=.ref a/\H2 a=some (.ins C dx fs)/\Cls K C/\NoAttr K C f/\fs.length<1000/\
 D.nx σ (upd H2 a (.ins C dx (aV f y fs)))
def DD (X:Cx)(op:Operator)(rd:V->V->Hp->VK->Prop):Prop:=
 ∀(Wn:aF)(s:Shared)(σ:St)(H:Hp)(x y:V)(u v:Value)(Q:VK),Inv X Wn σ H s->RelV x u->RelV y v->rd x y H Q->wpAny (model X.prog X.w) X.A (inplaceOp op u v) (EP X Wn σ Q) X.xe s
def DE (K:ap)(ta tv:TE)(rd:V->V->Hp->VK->Prop)(f:Str):TS:=λD σ H=>ta σ H λx H1=>∃a C dx fs v,x=.ref a/\H1 a=some (.ins C dx fs)/\Cls K C/\NoAttr K C f/\fs.lookup f=some v/\
 tv σ H1 λy H2=>rd v y H2 λz H3=>∃dx' fs',H3 a=some (.ins C dx' fs')/\fs'.length<1000/\D.nx σ (upd H3 a (.ins C dx' (aV f z fs')))
section
variable {X:Cx}{o e value:Expr}{f:Str}{pos pos' tpos:Pos}{ta tv:TE}
theorem dB (d:PE X e ta)(g:attributeBase e f X.env (eval e X.env)=eval e X.env):PE X (.Attribute e f pos) (zb X.K ta f):=by
 intro b s σ H Q I h;refine Kt g (thn (d b s σ H _ I h) λu t i=>?_);obtain⟨x,j,k,m,a,C,y,fs,v,ex,o,c,n,l,q⟩:=i;subst ex;obtain rfl:u=Value.ref a:=m;exact Dz k o c n l λz B p r=>⟨v,j,p,r,q⟩
theorem mW (d:PE X o ta)(e:PE X value tv)(hs:swapsWith value (some (.Attribute o f pos')) pos.line X.env=pure false):PS X (.Assign [.Attribute o f pos'] value pos) (DC X.K ta tv f):=by
 intro b s σ H D I h;refine plainObj_wpAny_Assign_Attribute (thn (e b s σ H _ I h) λu g ⟨y,i,j,k,q⟩=>thn (d b g σ i _ j q) λm G p=>?_) hs;obtain⟨x,J,r,t,a,C,L,fs,ex,z,c,n,l,B⟩:=p;subst ex;obtain rfl:m=Value.ref a:=t;exact DB r z c n l k λM F=>⟨σ,_,F,B⟩
theorem Ku {i:Operator}{j:V->V->Hp->VK->Prop}(k:PE X o ta)(m:PE X value tv)(d:DD X i j):PS X (.AugAssign (.Attribute o f tpos) i value pos) (DE X.K ta tv j f):=by
 intro b s σ H D I h;refine wpAny_AugAssign_AttributeAny (thn (k b s σ H _ I h) λp s1 e=>?_);obtain⟨x,r,t,B,a,C,dx,fs,v,ex,F,c,n,l,q⟩:=e;subst ex;obtain rfl:p=Value.ref a:=B;refine Dz t F c n l λu G J L=>thn (m b G σ r _ J q) λM O ⟨y,P,Q,R,S⟩=>thn (d b O σ P v y u M _ Q L R S) λw4 s4 e=>?_;obtain⟨z,H3,T,U,Y,Z,g,l',q4⟩:=e;exact DB T g c n l' U λs5 I5=>⟨σ,_,I5,q4⟩
def DF:V->V->Hp->VK->Prop:=λx y H Q=>∃i j,x=.int i/\y=.int j/\Q (.int (i+j)) H
theorem Kv:DD X .Add DF:=by
 rintro a s σ H x y u v Q I c d ⟨i,j,rfl,rfl,q⟩
 obtain⟨t,rfl⟩:=(show ∃t,u=Value.int i t from c)
 obtain⟨b,rfl⟩:=(show ∃b,v=Value.int j b from d)
 exact PyProof.Rows.iadd_int ⟨.int (i+j),H,I.tok _,⟨_,rfl⟩,q⟩
theorem QP {pl:Sem Bool}{m:Str}{d:Pos}{b:List Expr}{i:aF}{s:Shared}{σ:St}{H:Hp}{Q:aP}{o:TE}(y:PE X e o)(I:Inv X i σ H s)(h:o σ H λx n=>∃a C p fs g,x=.ref a/\n a=some (.ins C p fs)/\Cls X.K C/\Meth X.K C m g/\fs.lookup m=none/\
   ∀j,Inv X i σ n j->wpAny (model X.prog X.w) X.A (callWith pos (.ref g) [.ref a] (backTo pos (starEach b X.env)) (backToKw pos (keywordEach [] X.env))) Q X.xe j)(z:eval (.Call (.Attribute e m d) b [] pos) X.env=(do
   let r <-eval e X.env
   standAt d.atName
   let (f,first) <-holding [r] (getMethod r m pl)
   callWith pos f first (backTo pos (starEach b X.env)) (backToKw pos (keywordEach [] X.env)))):
  wpAny (model X.prog X.w) X.A (eval (.Call (.Attribute e m d) b [] pos) X.env) Q X.xe s:=by
 refine PySem.W.methodCall_KW (pl:=pl) (thn (y i s σ H _ I h) λu j B=>?_) z;obtain⟨x,n,t,D,a,C,p,fs,g,ex,F,c,k,l,q⟩:=B;subst ex;obtain rfl:u=Value.ref a:=D;exact DA t F c k l (q j t)
end
section
variable {X:Cx}{Wn:aF}{σ:St}{H:Hp}{s:Shared}{A:Around}{E:aP}{Q:aP}{c:Value}{b:Bool}
inductive TyOf (K:ap) (H:Hp):V->Value->Prop where
 | non:TyOf K H .non (.type "NoneType")
 | bl (x:Bool):TyOf K H (.bl x) (.type "bool")
 | int (i:Int):TyOf K H (.int i) (.type "int")
 | str (x:Str):TyOf K H (.str x) (.type "str")
 | flt (x:UInt64):TyOf K H (.flt x) (.type "float")
 | lst {a:Addr}{xs:List V}(e:H a=some (.lst xs)):TyOf K H (.ref a) (.type "list")
 | frz {a:Addr}{o:Obj}{xs:List V}(e:H a=some (.frz o (.lst xs))):TyOf K H (.ref a) (.type "list")
 | tup {a:Addr}{xs:List V}(e:H a=some (.tup xs)):TyOf K H (.ref a) (.type "tuple")
 | dK {a:Addr}{kvs:List (Key×V)}(e:H a=some (.dK kvs)):TyOf K H (.ref a) (.type "dict")
 | dT {a:Addr}{kvs:List (List Key×V)}(e:H a=some (.dT kvs)):TyOf K H (.ref a) (.type "dict")
 | ins {a C dx:Addr}{fs:List (Str×V)}(e:H a=some (.ins C dx fs)) (cl:Cls K C) (ha:PySem.W.findIn K (.ref C) "__class__" = some (some (.builtin "object.__class__")))
   (hn:PySem.W.specialIn K (.builtin "object.__class__") "__get__" = some (some (.builtin "getset_descriptor.__get__"))) (htk:PySem.W.takesIn K (.builtin "object.__class__")=some true)
   (hm:PySem.W.mroIn K C (.type "object")=some true):TyOf K H (.ref a) (.ref C)
theorem Kw {x:V}{u t:Value}(I:Inv X Wn σ H s)(d:RelV x u)(k:TyOf X.K H x t)(e:PySem.W.kitOne X.K t c=some b)(h:∀m,Q (.bool b) { s with toks:=m }):
  wpAny (model X.prog X.w) A (call (.builtin "isinstance") [u,c]) Q E s:=by
 cases k with
 | non=>cases (show u=Value.none from d);exact PySem.W.kia_one PySem.W.kitx_none I.kIn True.intro e (λz=>nomatch z) h
 | bl y=>cases (show u=Value.bool y from d);exact PySem.W.kia_one PySem.W.kitx_bool I.kIn True.intro e (λz=>nomatch z) h
 | int i=>obtain⟨t,q⟩:=(show ∃t,u=Value.int i t from d);cases q;exact PySem.W.kia_one PySem.W.kitx_int I.kIn True.intro e (λz=>nomatch z) h
 | str y=>obtain⟨t,q⟩:=(show ∃t,u=Value.str y t from d);cases q;exact PySem.W.kia_one PySem.W.kitx_str I.kIn True.intro e (λz=>nomatch z) h
 | flt y=>obtain⟨t,q⟩:=(show ∃t,u=Value.float y t from d);cases q;exact PySem.W.kia_one PySem.W.kitx_float I.kIn True.intro e (λz=>nomatch z) h
 | @lst a g ea=>
  cases (show u=Value.ref a from d)
  obtain⟨_,_,n,_,f⟩:=(show ObjOk X.prog X.w H s.heap a (.lst g) from I.hok a _ ea)
  exact PySem.W.kia_one PySem.W.kitx_list I.kIn ⟨_,f,rfl⟩ e (λz=>nomatch z) h
 | @frz a ob g ea=>
  cases (show u=Value.ref a from d)
  obtain⟨_,_,_,n,_,f⟩:=(show ObjOk X.prog X.w H s.heap a (.frz ob (.lst g)) from I.hok a _ ea)
  exact PySem.W.kia_one PySem.W.kitx_list I.kIn ⟨_,f,rfl⟩ e (λz=>nomatch z) h
 | @tup a g ea=>
  cases (show u=Value.ref a from d)
  obtain⟨_,_,_,p⟩:=(show ObjOk X.prog X.w H s.heap a (.tup g) from I.hok a _ ea)
  obtain⟨o,f,j,_⟩:=p;exact PySem.W.kia_one PySem.W.kitx_tuple I.kIn ⟨o,f,j⟩ e (λz=>nomatch z) h
 | @dK a kvs ea=>
  cases (show u=Value.ref a from d)
  obtain⟨_,_,D,_,p⟩:=(show ObjOk X.prog X.w H s.heap a (.dK kvs) from I.hok a _ ea)
  obtain⟨o,r,B,f,j,_⟩:=p;exact PySem.W.kia_one PySem.W.kitx_dict I.kIn ⟨o,f,j.1⟩ e (λz=>nomatch z) h
 | @dT a kvs ea=>
  cases (show u=Value.ref a from d)
  obtain⟨_,_,g,_,o,r,B,f,j,_⟩:=(show ObjOk X.prog X.w H s.heap a (.dT kvs) from I.hok a _ ea)
  exact PySem.W.kia_one PySem.W.kitx_dict I.kIn ⟨o,f,j.1⟩ e (λz=>nomatch z) h
 | @ins a C dx fs ea cl ha hn htk hm=>
  cases (show u=Value.ref a from d)
  obtain⟨F,O,_⟩:=qj I.hok ea;obtain⟨G,J,_⟩:=O.look;exact PySem.W.kia_one (PySem.W.kitx_own (cl.get _) cl.hd ha hn htk hm) I.kIn J e (λz=>nomatch z) h
end
structure Room (k:Nat)(A:Around):Prop where
 hd:A.handled=none
 dp:A.depth+3*k+5<recursionLimit
 un:A.units+16*k+200<cLine
theorem Room.mono {j k:Nat}{A:Around}(r:Room k A)(h:j<=k):Room j A:=⟨r.hd,by have:=r.dp;omega,by have:=r.un;omega⟩
theorem Room.deeper {k:Nat}{A:Around}(r:Room (k+1) A)(env:Env):Room k (A.deeper env):=
 ⟨r.hd,by have:=r.dp;show A.depth+1+3*k+5<_;omega,by have:=r.un;show A.units+3+16*k+200<_;omega⟩
theorem Kx {A:Around}{C:Addr}{us:List Value}{kw:List (Str×Value)}:(A.under (.builtin "type.__call__" ⟨.ref C :: us,kw⟩)).depth=A.depth+1:=by
 first|rfl|simp[Around.under,Code.weight,Code.isCreation,Code.isGuard,Code.isCaller,Code.frames,Code.isFrame,guardIds]
theorem Ky {A:Around}{C:Addr}{us:List Value}{kw:List (Str×Value)}:(A.under (.builtin "type.__call__" ⟨.ref C :: us,kw⟩)).units=A.units+1:=by
 first|rfl|simp[Around.under,Code.cUnits,Code.frames,Code.isFrame]
theorem Room.make {k:Nat}{A:Around}(r:Room (k+1) A)(C:Addr)(us:List Value)(kw:List (Str×Value)):Room k (A.under (.builtin "type.__call__" ⟨.ref C :: us,kw⟩)):=
 ⟨r.hd,by have:=r.dp;rw[Kx];omega,by have:=r.un;rw[Ky];omega⟩
theorem Room.depth {k:Nat}{A:Around}(r:Room k A):A.depth<recursionLimit:=by have:=r.dp;omega
theorem Room.units {k:Nat}{A:Around}(r:Room k A):A.units+64<cLine:=by have:=r.un;omega
def zc:TA:=λ_ H Q=>Q [] H
def zd (ta:TE)(tr:TA):TA:=λσ H Q=>ta σ H λx H1=>tr σ H1 λxs H2=>Q (x :: xs) H2
section
variable {X:Cx}{e:Expr}{es:List Expr}{te:TE}{t:TA}{pos:Pos}
theorem ae:PA X [] zc:=λ_ _ _ _ H Q I h=>Calls.spliced_nil ⟨[],H,I,.nil,h⟩
theorem ab (b:PE X e te)(c:PA X es t)(hs:starEach (e :: es) X.env=(false,eval e X.env) :: starEach es X.env:=by rfl):PA X (e :: es) (zd te t):=by
 intro pos a s σ H Q I h;rw[hs];show wpAny _ _ (spliced ((false,eval e X.env) :: backTo pos (starEach es X.env))) _ _ s;refine Calls.spliced_cons (thn (b a s σ H _ I h) λu d f=>?_);obtain⟨x,g,i,j,k⟩:=f;exact thn (c pos a d σ g _ i k) λr y ⟨m,n,o,p,q⟩=>⟨x :: m,n,o,.cons j p,q⟩
def DG (t:TA):TE:=λσ H Q=>t σ H λxs H1=>xs.length<=sizeLine/\∀p,H1 p=none->Q (.ref p) (upd H1 p (.tup xs))
def DH (t:TA):TE:=λσ H Q=>t σ H λxs H1=>xs.length<=sizeLine/\∀p,H1 p=none->Q (.ref p) (upd H1 p (.lst xs))
theorem jY {x1}(h:PA X es t):PE X (.Tuple es x1 pos) (DG t):=by
 intro a s σ H Q I g;refine wpAny_Tuple_spliced (thn (h pos a s σ H _ I g) λi c ⟨j,d,f,r,z,q⟩=>⟨#v[<-r.length,z],?_⟩);have k:d c.heap.objs.size=none:=f.hok.fresh (aA _);refine⟨.ref c.heap.objs.size,upd d c.heap.objs.size (.tup j),f.laid (t':=c.toks) (λb u e=>Heap.get?_push_of_some _ e) (aA _) ?_,rfl,q _ k⟩;exact⟨z,i,r,⟨_,Heap.get?_push_size _ rfl,rfl,_,rfl⟩⟩
theorem bU (h:PA X es t):PE X (.List es pos) (DH t):=by
 intro a s σ H Q I g;refine wpAny_List_spliced (thn (h pos a s σ H _ I g) λi c ⟨j,d,f,r,z,q⟩=>⟨#v[<-r.length,z],?_⟩);have k:d c.heap.objs.size=none:=f.hok.fresh (aA _);refine⟨.ref c.heap.objs.size,upd d c.heap.objs.size (.lst j),f.laid (t':=c.toks) (λb u e=>Heap.get?_push_of_some _ e) (aA _) ?_,rfl,q _ k⟩;exact⟨z,i,0,r,Heap.get?_push_size _ rfl⟩
end
abbrev Sp:=List V->Hp->VK->XK->Prop
abbrev CXT:=List Env->Hp->Shared->XK->Value->Shared->Prop
structure Env0 (P:Program)(w:World)(K:ap)(mg:bh)(base:Heap)(A:Around)(outer:List Env)(s:Shared)(H:Hp):Prop where
 frames:A.frames=some outer
 mod:Mod K mg base
 bs:∀b o,base.get? b=some o->s.heap.get? b=some o/\H b=none
 bsz:base.objs.size<=s.heap.objs.size
 funs:s.heap.FunFrames base outer
 frf:∀b∈frs outer,H b=none
 hok:HOk P w H s.heap
 bare:AllBare s.gens
def CE (outer:List Env)(P:Program)(w:World)(H:Hp)(s:Shared)(Q:VK)(u:Value)(s':Shared):Prop:=
 ∃v H',s'.os=s.os/\AllBare s'.gens/\Un (frs outer) [] H H' s.heap s'.heap/\HOk P w H' s'.heap/\RelV v u/\Q v H'
def CR (CX:CXT)(outer:List Env)(P:Program)(w:World)(H:Hp)(s:Shared)(Q:VK)(E:XK)(r:Result)(s':Shared):Prop:=
 match r with
 | .ok (.ret u)=>CE outer P w H s Q u s'
 | .ok _=>False
 | .error e=>CX outer H s E e s'
structure FnOk (P:Program)(w:World)(K:ap)(mg:bh)(base:Heap)(CX:CXT)(k:Nat)(f:Addr)(fd:FuncData)(ps:List Str)(sp:Sp):Prop where
 len:∀vs H Q E,sp vs H Q E->vs.length=ps.length
 run:∀(A:Around)(outer:List Env)(s:Shared)(H:Hp)(args:Args)(us:List Value)(vs:List V)(Q:VK)(E:XK),Room k A->Env0 P w K mg base A outer s H->BindsTo s fd args (ps.zip us)->Vals vs us->sp vs H Q E->
  codeAny (model P w) A (.call (.ref f) args) (CR CX outer P w H s Q E) s
theorem FnOk.mono {P:Program}{w:World}{K:ap}{mg:bh}{base:Heap}{CX:CXT}{j k:Nat}{f:Addr}{b:FuncData}{ps:List Str}{sp:Sp}(F:FnOk P w K mg base CX j f b ps sp)(h:j<=k):
  FnOk P w K mg base CX k f b ps sp:=⟨F.len,λA outer s H a c d Q E e=>F.run A outer s H a c d Q E (e.mono h)⟩
theorem Env0.make {P:Program}{w:World}{K:ap}{mg:bh}{base:Heap}{A:Around}{outer:List Env}{s:Shared}{H:Hp}(e:Env0 P w K mg base A outer s H)(C:Addr)(us:List Value)(kw:List (Str×Value)):
  Env0 P w K mg base (A.under (.builtin "type.__call__" ⟨.ref C :: us,kw⟩)) outer s H:=⟨by first|exact e.frames|(simpa [Around.under,Code.envs,Code.isFrame,pushEnvs] using e.frames),e.mod,e.bs,e.bsz,e.funs,e.frf,e.hok,e.bare⟩
section
variable {X:Cx}{Wn:aF}{σ:St}{H:Hp}{s s':Shared}
theorem Inv.env0 (I:Inv X Wn σ H s):Env0 X.prog X.w X.K X.mg X.base X.A X.stack s H:=
 ⟨I.ok.frames,I.ok.mod,I.bs,aM I.ok.bsz I.sz,I.stack,I.stkFree,I.hok,I.bare⟩
theorem Inv.after {Q:VK}{u:Value}(I:Inv X Wn σ H s)(h:CE X.stack X.prog X.w H s Q u s'):EP X Wn σ Q u s':=by
 obtain⟨v,c,os,bare,un,hok,r,q⟩:=h;obtain⟨e,g,d,t,a⟩:=s';obtain rfl:a=s.os:=os;exact⟨v,c,I.call (h':=e) (g':=g) (d':=d) (t':=t) (ch:=[]) un hok bare (λb z=>absurd z (by simp)),r,q⟩
end
def DI (sp:Sp)(dvs:List V)(E:XK)(t:TA):TE:=λσ H Q=>t σ H λvs H1=>sp (vs++dvs) H1 Q E
def DJ (C:Addr)(m:Str)(sp:Sp)(dvs:List V)(E:XK)(ta:TE)(t:TA):TE:=λσ H Q=>ta σ H λx H1=>∃a dx fs,x=.ref a/\H1 a=some (.ins C dx fs)/\fs.lookup m=none/\
 t σ H1 λvs H2=>sp (x :: (vs++dvs)) H2 Q E
def DK (C:Addr)(sp:Sp)(dvs:List V)(E:XK)(t:TA):TE:=λσ H Q=>t σ H λvs H1=>∀x dx,H1 x=none->H1 dx=none->dx≠x->
 sp (.ref x :: (vs++dvs)) (upd (upd H1 dx (.own x)) x (.ins C dx [])) (λv H2=>v=.non/\Q (.ref x) H2) E
def Binds (K:ap)(fd:FuncData)(ps:List Str)(ds:List Value):Prop:=
 ∀(s:Shared)(us:List Value),K.In s.heap->(us++ds).length=ps.length->BindsTo s fd ⟨us,[]⟩ (ps.zip (us++ds))
theorem Binds.all {K:ap}{b:FuncData}{ps:List Str}(h:∀a:List Value,a.length=ps.length->bindArgs b ⟨a,[]⟩=pure (ps.zip a)):Binds K b ps []:=λs a _ c=>by
 rw[mo]at c ⊢;exact .of_eq (h a c)
def kU (CX:CXT)(X:Cx)(E:XK):Prop:=∀(Wn:aF)(σ:St)(H:Hp)(s:Shared)(e:Value)(s':Shared),Inv X Wn σ H s->CX X.stack H s E e s'->X.xe e s'
section
variable {X:Cx}{CX:CXT}{k:Nat}{f C:Addr}{fd:FuncData}{ps:List Str}{sp:Sp}{dvs:List V}{ds:List Value}{E:XK}{x m:Str}{p pos apos:Pos}{e o:Expr}{es:List Expr}{ta:TE}{t:TA}
theorem DL {a:aF}{σ:St}{H:Hp}{s:Shared}{Q:VK}{us:List Value}{vs:List V}(F:FnOk X.prog X.w X.K X.mg X.base CX k f fd ps sp)(d:Room k X.A)(g:Binds X.K fd ps ds)(hd:Vals dvs ds)(hx:kU CX X E)(I:Inv X a σ H s)(r:Vals vs us)(h:sp (vs++dvs) H Q E):wpAny (model X.prog X.w) X.A (call (.ref f) us) (EP X a σ Q) X.xe s:=by
 have c:Vals (vs++dvs) (us++ds):=r.append hd;have i:(us++ds).length=ps.length:=by rw[<-c.length];exact F.len _ _ _ _ h
 refine wpAny_call (codeAny_mono (F.run X.A X.stack s H ⟨us,[]⟩ (us++ds) (vs++dvs) Q E d I.env0 (g s us I.kIn i) c h) λr j b=>?_)
 cases r with
 | error e=>exact hx a σ H s e j I b
 | ok fl=>
  cases fl with
  | ret u=>exact I.after b
  | next=>exact False.elim b
  | brk=>exact False.elim b
  | cont=>exact False.elim b
theorem aK (F:FnOk X.prog X.w X.K X.mg X.base CX k f fd ps sp)(g:Room k X.A)(i:Gl X x)(j:X.mg x=some (.ref f))(hk:PySem.W.keepIn X.K (.ref f)=true)(m:Binds X.K fd ps ds)(hd:Vals dvs ds)(hx:kU CX X E)(n:PA X (e :: es) t)(b:(x == ("__debug__" : Str))=false:=by decide)(o:starEach (e :: es) X.env=(false,eval e X.env) :: starEach es X.env:=by rfl)(c:(backTo pos (starEach es X.env)).any (·.1)=false:=by rfl):
  PE X (.Call (.Name x p) (e :: es) [] pos) (DI sp dvs E t):=by
 intro a s σ H Q I h;refine wpAny_Call_Name_kw (yP I i j ?_ b);refine PySem.W.callWith_K (h₀:=X.base) I.ok.mod.kin hk (thn (n pos a s σ H _ I h) λu y ⟨z,B,d,r,q⟩=>⟨d.kIn,?_⟩) o c;exact DL F g m hd hx d r q
theorem f8 {pl:Sem Bool}(y:PE X o ta)(c:Cls X.K C)(i:Meth X.K C m f)(F:FnOk X.prog X.w X.K X.mg X.base CX k f fd ps sp)(z:Room k X.A)(B:Binds X.K fd ps ds)(hd:Vals dvs ds)(hx:kU CX X E)(D:PA X (e :: es) t)(d:starEach (e :: es) X.env=(false,eval e X.env) :: starEach es X.env:=by rfl)(g:(backTo pos (starEach es X.env)).any (·.1)=false:=by rfl)(G:eval (.Call (.Attribute o m apos) (e :: es) [] pos) X.env=(do
   let j <-eval o X.env
   standAt apos.atName
   let (f,first) <-holding [j] (getMethod j m pl)
   callWith pos f first (backTo pos (starEach (e :: es) X.env)) (backToKw pos (keywordEach [] X.env))):=by rfl):
  PE X (.Call (.Attribute o m apos) (e :: es) [] pos) (DJ C m sp dvs E ta t):=by
 intro b s σ H Q I h;refine PySem.W.methodCall_KW (pl:=pl) (thn (y b s σ H _ I h) λu J L=>?_) G;obtain⟨x,M,n,O,a,S,fs,ex,P,l,q⟩:=L;subst ex;obtain rfl:u=Value.ref a:=O;refine DA n P c i l ?_;refine PySem.W.callWith_K (first:=[.ref a]) (h₀:=X.base) I.ok.mod.kin i.kp (thn (D pos b J σ M _ n q) λus T ⟨vs,U,p,r,R⟩=>⟨p.kIn,?_⟩) d g;exact DL (us:=.ref a :: us) (vs:=.ref a :: vs) F z B hd hx p (.cons rfl r) R
structure Mk (K:ap)(C f:Addr):Prop where
 makes:PySem.W.makesIn K C=true
 init:PySem.W.findIn K (.ref C) "__init__" = some (some (.ref f))
 fn:PySem.W.isFn K (.ref f)=true
 kp:PySem.W.keepIn K (.ref C)=true
theorem Kz {a:aF}{σ:St}{H:Hp}{s:Shared}{Q:VK}{us:List Value}{vs:List V}(M:Mk X.K C f)(F:FnOk X.prog X.w X.K X.mg X.base CX k f fd ps sp)(j:Room (k+1) X.A)(m:Binds X.K fd ps ds)(hd:Vals dvs ds)(hx:kU CX X E)(I:Inv X a σ H s)(r:Vals vs us)(h:∀x c,H x=none->H c=none->c≠x->sp (.ref x :: (vs++dvs)) (upd (upd H c (.own x)) x (.ins C c [])) (λv n=>v=.non/\Q (.ref x) n) E):
  wpAny (model X.prog X.w) X.A (call (.ref C) us) (EP X a σ Q) X.xe s:=by
 have g:=h (s.heap.objs.size+1) s.heap.objs.size (I.hok.fresh (uJ _)) (I.hok.fresh (aA _)) (dj (oH _));have d:=Inv.made (C:=C) I;have i:Vals (V.ref (s.heap.objs.size+1) :: (vs++dvs)) (Value.ref (s.heap.objs.size+1) :: (us++ds)):=.cons rfl (r.append hd);have o:(Value.ref (s.heap.objs.size+1) :: us++ds).length=ps.length:=by
  have e:=i.length;rw[F.len _ _ _ _ g]at e;exact e.symm
 refine wpAny_call (Kr (f:=f) I.kIn M.makes M.init (beq_iff_eq.mp M.fn) (codeAny_mono (F.run _ X.stack _ _ ⟨Value.ref (s.heap.objs.size+1) :: us,[]⟩ (Value.ref (s.heap.objs.size+1) :: (us++ds)) _ _ E (j.make C us [])
  (d.env0.make C us []) (m _ (Value.ref (s.heap.objs.size+1) :: us) d.kIn o) i g) λr p b=>?_))
 cases r with
 | error e=>exact hx a σ _ _ e p d b
 | ok fl=>
  cases fl with
  | ret u=>
   obtain⟨v,q,t,y,ev,z⟩:=d.after b;subst ev;exact⟨y,⟨V.ref (s.heap.objs.size+1),q,t,rfl,z⟩⟩
  | next=>exact False.elim b
  | brk=>exact False.elim b
  | cont=>exact False.elim b
theorem DM (M:Mk X.K C f)(F:FnOk X.prog X.w X.K X.mg X.base CX k f fd ps sp)(g:Room (k+1) X.A)(i:Gl X x)(j:X.mg x=some (.ref C))(m:Binds X.K fd ps ds)(hd:Vals dvs ds)(hx:kU CX X E)(n:PA X (e :: es) t)(b:(x == ("__debug__" : Str))=false:=by decide)(o:starEach (e :: es) X.env=(false,eval e X.env) :: starEach es X.env:=by rfl)(c:(backTo pos (starEach es X.env)).any (·.1)=false:=by rfl):
  PE X (.Call (.Name x p) (e :: es) [] pos) (DK C sp dvs E t):=by
 intro a s σ H Q I h;refine wpAny_Call_Name_kw (yP I i j ?_ b);refine PySem.W.callWith_K (h₀:=X.base) I.ok.mod.kin M.kp (thn (n pos a s σ H _ I h) λu y ⟨z,B,d,r,q⟩=>⟨d.kIn,?_⟩) o c;exact Kz M F g m hd hx d r q
end
def PK (X:Cx)(kws:List Keyword)(t:TA):Prop:=
 ∀(pos:Pos)(Wn:aF)(s:Shared)(σ:St)(H:Hp)(Q:List V->Hp->Prop),Inv X Wn σ H s->t σ H Q->wpAny (model X.prog X.w) X.A (evalAll ((backToKw pos (keywordEach kws X.env)).map (·.2))) (AP X Wn σ Q) X.xe s
section
variable {X:Cx}{CX:CXT}{k:Nat}{f C:Addr}{fd:FuncData}{ps ks:List Str}{sp:Sp}{E:XK}{x m:Str}{p pos apos kpos:Pos}{e o:Expr}{es:List Expr}{kws:List Keyword}{te ta:TE}{t tk:TA}{nm:Option Str}
theorem KC:PK X [] zc:=λ_ _ _ _ H Q I h=>wpAny_evalAll_nil ⟨[],H,I,.nil,h⟩
theorem KD (b:PE X e te)(c:PK X kws t):PK X (⟨nm,e,kpos⟩ :: kws) (zd te t):=by
 intro pos a s σ H Q I h;show wpAny _ _ (evalAll ((do let v <-eval e X.env;standAt pos;pure v) :: (backToKw pos (keywordEach kws X.env)).map (·.2))) _ _ s;refine wpAny_evalAll_cons (wpAny_bind (thn (b a s σ H _ I h) λu d ⟨x,f,g,i,j⟩=>wpAny_bind (wpAny_standAt (wpAny_pure ?_))));exact thn (c pos a d σ f _ g j) λq r ⟨k,m,n,o,p⟩=>⟨x :: k,m,n,.cons i o,p⟩
variable {g:List Value->List Value->List Value}{gV:List V->List V->List V}
end
structure FnScope (N P:List Str)(sc:Scope):Prop where
 kind:sc.kind=.function
 co:sc.isCoroutine=false
 gen:sc.isGenerator=false
 nd:N.Nodup
 pre:N.take P.length=P
 par:∀x∈P,sc.names.lookup x=some .local\/sc.names.lookup x=some .cell
 nofree:∀y∈sc.names,y.2≠.free
theorem DN {a:Str->Option NameKind}{x:Str}:∀{binds:List (Str×Value)}{m:bh},(∀v,(x,v)∉binds)->bindL a binds m x=m x
 | [],_,_=>rfl
 |(n,v) :: r,m,h=>by
  unfold bindL;rw[DN λw b=>h w (cX _ b)]
  split
  ·have:x≠n:=by rintro rfl;exact h v dr
   simp[this]
  ·rfl
theorem DO {a:Str->Option NameKind}{x:Str}:∀{binds:List (Str×Value)}{m:bh},(∀v,(x,v)∉binds)->bindC a binds m x=m x
 | [],_,_=>rfl
 |(n,v) :: r,m,h=>by
  unfold bindC;rw[DO λw b=>h w (cX _ b)]
  split
  ·rfl
  ·have:x≠n:=by rintro rfl;exact h v dr
   simp[this]
theorem DP {a:Str->Option NameKind}{x:Str}{v:Value}:∀{P:List Str}{b:List Value}{i:Nat}{m:bh},P.Nodup->P[i]?=some x->b[i]?=some v->a x=some .local->
  bindL a (P.zip b) m x=some v
 | [],_,_,_,_,h,_,_=>by simp at h
 | _ :: _,[],_,_,_,_,h,_=>by simp at h
 | p :: P,w :: b,0,m,nd,h1,h2,hk=>by
  simp at h1 h2;subst h1;subst h2;show bindL a ((p,w) :: P.zip b) m p=_;unfold bindL;rw[DN λv c=>(kH.mp nd).1 (IP c).1,if_pos hk];simp
 | p :: P,w :: b,i+1,m,nd,h1,h2,hk=>by
  show bindL a ((p,w) :: P.zip b) m x=_;unfold bindL;exact DP (i:=i) (kH.mp nd).2 (⇑h1) (⇑h2) hk
theorem DQ {a:Str->Option NameKind}{x:Str}{v:Value}:∀{P:List Str}{b:List Value}{i:Nat}{m:bh},P.Nodup->P[i]?=some x->b[i]?=some v->a x≠some .local->
  bindC a (P.zip b) m x=some v
 | [],_,_,_,_,h,_,_=>by simp at h
 | _ :: _,[],_,_,_,_,h,_=>by simp at h
 | p :: P,w :: b,0,m,nd,h1,h2,hk=>by
  simp at h1 h2;subst h1;subst h2;show bindC a ((p,w) :: P.zip b) m p=_;unfold bindC;rw[DO λv c=>(kH.mp nd).1 (IP c).1,if_neg hk];simp
 | p :: P,w :: b,i+1,m,nd,h1,h2,hk=>by
  show bindC a ((p,w) :: P.zip b) m x=_;unfold bindC;exact DQ (i:=i) (kH.mp nd).2 (⇑h1) (⇑h2) hk
def start (N:List Str)(vs:List V):St:=vs.map some++bI (N.length-vs.length) none
noncomputable def jZ (CX:CXT) (P:Program) (w:World) (K:ap) (mg:bh) (base:Heap) (N:List Str) (qual:Str) (scope:Scope) (f:Addr) (cd:Value) (A:Around) (outer:List Env) (s:Shared) (H:Hp) (E:XK):Cx where
 prog:=P
 w:=w
 K:=K
 mg:=mg
 base:=base
 A:=A.deeper (envOfC qual scope s.heap.objs.size f cd)
 N:=N
 s₀:=s
 H₀:=H
 env:=envOfC qual scope s.heap.objs.size f cd
 outer:=outer
 stack:=envOfC qual scope s.heap.objs.size f cd :: outer
 ex:=[]
 calm:=true
 fn:=λ_=>true
 pn:=[]
 xe:=λe s'=>wpAny (model P w) (A.deeper (envOfC qual scope s.heap.objs.size f cd)) (leaving (envOfC qual scope s.heap.objs.size f cd) e) (λ_ s''=>CX outer H s E e s'') (λe' s''=>CX outer H s E e' s'') s'
theorem DR {a:Scope}{n:Nat}{x:Str}(h:a.names.lookup x=some .cell):∃c,(cellsFrom n a.names []).lookup x=some c:=by
 have q:=PySem.W.cellsFrom_some a.names n [] (.inl h);exact Qo.mp q
theorem KE {CX:CXT}{P:Program}{w:World}{K:ap}{mg:bh}{base:Heap}{N ps:List Str}{g:Str}{d:Scope}{f:Addr}{C:Value}{A:Around}{outer:List Env}{s F:Shared}{H:Hp}{E:XK}{us:List Value}{vs:List V}(S:FnScope N ps d)(hd:A.handled=none)(m:Env0 P w K mg base A outer s H)(M:vs.length=ps.length)(r:Vals vs us)(x:InCallC s s.heap.objs.size (bindL (envOfC g d s.heap.objs.size f C).kindOf (ps.zip us) λ_=>none) (cellsFrom (s.heap.objs.size+1) d.names []) (bindC (envOfC g d s.heap.objs.size f C).kindOf (ps.zip us) λ_=>none) F):
  Inv (jZ CX P w K mg base N g d f C A outer s H E) [] (start N vs) H F:=by
 have I:ps.length<=N.length:=by have:=congrArg jM S.pre;rw[bX]at this;omega
 obtain⟨D,O,rfl,hk⟩:=x.done;have o:∀b:Addr,b∉(jZ CX P w K mg base N g d f C A outer s H E).ex:=λb z=>absurd (show b∈([]:am) from z) (by simp);refine⟨⟨m.mod,S.kind,rfl,rfl,aA _,λy z c D j=>?_,λy hy=>?_,λy c _ h=>?_,λ_=>hd,Around.frames_deeper m.frames,.inr ⟨rfl,rfl⟩,λb z=>absurd z (o b),m.bs,m.bsz,λb _ _=>o b,λb z=>absurd z (o b),m.funs,m.frf⟩,
  rfl,m.bare,Un.kept hk,⟨_,x.toInCall.ns,λi y v D j Q=>?_⟩,λy c h=>⟨_,x.cell y c h⟩,m.hok.fresh (aA _),λy c h=>?_,λp t=>absurd (show p∈([]:aF) from t) (by simp),m.hok.kept hk,?_⟩
 ·exact name_of_addr x.apart (PySem.mem_of_lookup D) (PySem.mem_of_lookup j)
 ·have hy:d.names.lookup y=some .cell\/d.names.lookup y=some .free:=hy;rcases hy with hy|hy
  ·exact DR hy
  ·exact absurd rfl (S.nofree _ (PySem.mem_of_lookup hy))
 ·exact dm (x.above y c (PySem.mem_of_lookup h))
 ·have hi:i<vs.length:=by
   unfold start at j;by_cases hi:i<vs.length
   ·exact hi
   ·rw[cQ (⇑hi)]at j;rw[jc]at j
    split at j <;> cases j
  have J:vs[i]?=some v:=by
   unfold start at j;rw[cA (⇑hi),aG]at j
   cases e:vs[i]? with
   | none=>rw[e]at j;cases j
   | some a=>rw[e]at j;cases j;rfl
  obtain⟨u,G,L⟩:=r.get J;have t:ps[i]?=some y:=by
   rw[<-S.pre,mq ()];exact D
  have B:ps.Nodup:=by rw[<-S.pre];exact S.nd.sublist (IQ _ _)
  refine⟨u,L,?_⟩;rcases S.par y (bT t) with k|k
  ·exact .inl ⟨k,DP B t G k⟩
  ·obtain⟨c,e⟩:=DR (n:=s.heap.objs.size+1) k;refine .inr ⟨.inl k,c,e,?_⟩;have q:=x.cell y c e;rw[DQ B t G (by show d.names.lookup y≠_;rw[k];decide)]at q;exact q
 ·exact m.hok.fresh (dm (x.above y c (PySem.mem_of_lookup h)))
 ·unfold start;show _=N.length;rw[b4,af,mr];omega
theorem KF {CX:CXT}{P:Program}{w:World}{K:ap}{mg:bh}{base:Heap}{k:Nat}{f:Addr}{m c:Str}{g:Arguments}{h:List Stmt}{a:Scope}{X kV C pm d ct oc:Value}{Y od:Option Addr}{L:Array (Option Value)}{N ps:List Str}{sp:Sp}(lk:K.lookup f=some ⟨oc,od,.func (PySem.W.fnOf m c g h a X kV C pm Y d ct),L⟩)(M:PySem.W.codeIn K d c=true)(S:FnScope N ps a)(len:∀i H Q E,sp i H Q E->i.length=ps.length)(z:∀(A:Around)(outer:List Env)(s:Shared)(H:Hp)(i:List V)(Q:VK)(E:XK),Room k (A.deeper (envOfC c a s.heap.objs.size f d))->sp i H Q E->
   ∃t,PSs (jZ CX P w K mg base N c a f d A outer s H E) h t/\t { nx:=λ_ p=>Q .non p,rt:=Q } (start N i) H):
  FnOk P w K mg base CX (k+1) f (PySem.W.fnOf m c g h a X kV C pm Y d ct) ps sp:=by
 refine⟨len,λA outer s H Z us i Q E O D hb r F=>?_⟩;have hl:=len _ _ _ _ F;have KX:K.In s.heap:=D.mod.kin.keeps λb o e=>(D.bs b o e).1;have R:s.heap.NoLimit:=D.mod.nolimit.keeps λb o e=>(D.bs b o e).1;have B:∀y∈ps.zip us,a.names.lookup y.1=some .local\/(a.names.lookup y.1=some .cell/\((cellsFrom (s.heap.objs.size+1) a.names []).lookup y.1).isSome=true):=λ⟨n,v⟩ hy=>by
  rcases S.par n (IP hy).1 with q|q
  ·exact .inl q
  ·exact .inr ⟨q,PySem.W.cellsFrom_some _ _ _ (.inl q)⟩
 refine codeAny_call_function O.depth (KX _ _ lk) rfl S.co S.gen rfl (PySem.W.codeRec_of KX M) (hb _ _ _ _ ?_);refine wpAny_newFunctionEnv_cells S.kind B λenv he s1 x=>?_;subst he;refine⟨R.keeps x.toInCall.keep,codeAny_func ?_⟩;obtain⟨t,ht,hq⟩:=z A outer s H i Q E (O.deeper _) F;have I:Inv (jZ CX P w K mg base N c a f d A outer s H E) [] (start N i) H s1:=KE S O.hd D hl r x;refine wpAny_mono (ht [] s1 (start N i) H _ I hq) (λfl T hs=>?_) λe T hs=>hs;have G:∀{j:St}{p:Hp}{v:V}{u:Value},Inv (jZ CX P w K mg base N c a f d A outer s H E) [] j p T->RelV v u->Q v p->CE outer P w H s Q u T:=
  λ{j p v u} J U q=>⟨v,p,J.os,J.bare,J.base,J.hok,U,q⟩
 cases fl with
 | ret u=>
  obtain⟨v,j,p,J,U,q⟩:=hs;exact G J U q
 | next=>
  obtain⟨j,p,J,q⟩:=hs;exact G (v:=V.non) (u:=Value.none) J rfl q
 | brk=>
  obtain⟨_,_,_,q⟩:=hs;exact False.elim q
 | cont=>
  obtain⟨_,_,_,q⟩:=hs;exact False.elim q
section
variable {X:Cx}{x:Str}{p pos:Pos}{e:Expr}{es:List Expr}{t:TA}{id T:String}{r:List V->Hp->VK->Prop}
def tCB (r:List V->Hp->VK->Prop)(t:TA):TE:=λσ H Q=>t σ H λvs H1=>r vs H1 Q
theorem aO (d:gq X (.builtin id) r)(f:Gl X x)(g:X.mg x=none)(i:bootBuiltins x=some (.builtin id))(j:PA X (e :: es) t)(k:x ≠ "__name__" := by decide)(b:(x == ("__debug__" : Str))=false:=by decide)(m:starEach (e :: es) X.env=(false,eval e X.env) :: starEach es X.env:=by rfl)(c:(backTo pos (starEach es X.env)).any (·.1)=false:=by rfl):PE X (.Call (.Name x p) (e :: es) [] pos) (tCB r t):=by
 intro a s σ H Q I h;refine wpAny_Call_Name_kw (im I f g i ?_ k b);exact PyProof.Rows.callWith_builtin1 (thn (j pos a s σ H _ I h) λn o ⟨q,u,y,z,B⟩=>d a o σ u q n Q y z B) m c
theorem iT (d:gq X (.type T) r)(f:Gl X x)(g:X.mg x=none)(i:bootBuiltins x=some (.type T))(j:PA X (e :: es) t)(k:x ≠ "__name__" := by decide)(b:(x == ("__debug__" : Str))=false:=by decide)(m:starEach (e :: es) X.env=(false,eval e X.env) :: starEach es X.env:=by rfl)(c:(backTo pos (starEach es X.env)).any (·.1)=false:=by rfl):PE X (.Call (.Name x p) (e :: es) [] pos) (tCB r t):=by
 intro a s σ H Q I h;refine wpAny_Call_Name_kw (im I f g i ?_ k b);exact PyProof.Rows.callWith_type1 (thn (j pos a s σ H _ I h) λn o ⟨q,u,y,z,B⟩=>d a o σ u q n Q y z B) m c
end
end L2
namespace HT
open PySem PyProof.Rows
section
variable {prog:Program}{w:World}{A:Around}{E:aP}{s:Shared}
def sIx (n d:Nat):Option Int->Nat
 | none=>d
 | some v=>if v<0 then (v+(n:Int)).toNat else min v.toNat n
theorem sIx_none (n d:Nat):sIx n d none=d:=rfl
theorem sIx_nat (n d k:Nat):sIx n d (some (k:Int))=min k n:=by
 show (if (k:Int)<0 then ((k:Int)+(n:Int)).toNat else min (k:Int).toNat n)=min k n;rw[if_neg (),iD]
end
end HT
namespace L2
open PySem PySem.Spec PyProof.Rows
abbrev TO:=St->Hp->(Option Int->Hp->Prop)->Prop
def PO (X:Cx)(e:Option Expr)(t:TO):Prop:=
 ∀(Wn:aF)(s:Shared)(σ:St)(H:Hp)(Q:Option Int->Hp->Prop),Inv X Wn σ H s->t σ H Q->
  wpAny (model X.prog X.w) X.A (evalPart e X.env) (λu s'=>∃o H',Inv X Wn σ H' s'/\IsPart u o/\Q o H') X.xe s
def DS:TO:=λ_ H Q=>Q none H
def DT (t:TE):TO:=λσ H Q=>t σ H λx H1=>∃i,x=.int i/\Q (some i) H1
section
variable {X:Cx}{e:Expr}{te:TE}{lo hi:Option Expr}{tl th:TO}{pos p2:Pos}
theorem qk:PO X none DS:=by
 intro a s σ H Q I h;rw[evalPart_none];exact wpAny_pure ⟨none,H,I,.none,h⟩
theorem kW (h:PE X e te):PO X (some e) (DT te):=by
 intro a s σ H Q I b;rw[evalPart_some];refine thn (h a s σ H _ I b) λu k c=>?_;obtain⟨x,d,f,g,j⟩:=c;obtain⟨i,rfl,q⟩:=j;obtain⟨t,rfl⟩:=g;exact⟨some i,d,f,.int i t,q⟩
def SlR (X:Cx)(r:V->Option Int->Option Int->Hp->VK->Prop):Prop:=
 ∀(Wn:aF)(s:Shared)(σ:St)(H:Hp)(x:V)(v vl vu:Value)(lo hi:Option Int)(sl:Addr)(Q:VK),Inv X Wn σ H s->RelV x v->s.heap.IsSliceOf sl vl vu .none->IsPart vl lo->IsPart vu hi->r x lo hi H Q->
  ∃T id,typeLookup (.type T) "__getitem__" = pure (some (.builtin id))/\s.TypeIs v T/\wpAny (model X.prog X.w) X.A (getItem v (.ref sl)) (EP X Wn σ Q) X.xe s
def tSl (r:V->Option Int->Option Int->Hp->VK->Prop)(te:TE)(tl th:TO):TE:=λσ H Q=>te σ H λx H1=>tl σ H1 λl H2=>th σ H2 λu H3=>r x l u H3 Q
theorem mX {r:V->Option Int->Option Int->Hp->VK->Prop}(i:SlR X r)(j:PE X e te)(k:PO X lo tl)(m:PO X hi th):PE X (.Subscript e (.Slice lo hi none p2) pos) (tSl r te tl th):=by
 intro a s σ H Q I h;refine Subscript_ (thn (j a s σ H _ I h) λv n f=>?_);obtain⟨x,o,p,t,y⟩:=f;refine wpAny_Slice (thn (k a n σ o _ p y) λvl z ⟨l,B,C,pl,D⟩=>thn (m a z σ B _ C D) λd c f=>?_);obtain⟨u,g,F,G,J⟩:=f;rw[evalPart_none];refine wpAny_pure ?_;have L:Inv X a σ g { c with heap:=c.heap.push { cls:=.type "slice",data:=.fields #[vl,d,.none] } }:=F.kept (t':=c.toks) λb P q=>Heap.get?_push_of_some _ q;obtain⟨T,id,hT,M,O⟩:=i a { c with heap:=c.heap.push { cls:=.type "slice",data:=.fields #[vl,d,.none] } } σ g x v vl d l u c.heap.objs.size Q L t (Heap.IsSliceOf.new ..) pl G J;show wpAny (model X.prog X.w) X.A (subscriptTail e (.Slice lo hi none p2) v (.ref c.heap.objs.size)) (EP X a σ Q) X.xe { c with heap:=c.heap.push { cls:=.type "slice",data:=.fields #[vl,d,.none] } };exact tail_any (ops:=[.ref c.heap.objs.size,v]) M hT O (by with_unfolding_all rfl)
def eQ (xs:List V)(lo hi:Option Int):List V:=(xs.drop (HT.sIx xs.length 0 lo)).take (HT.sIx xs.length xs.length hi-HT.sIx xs.length 0 lo)
theorem KG (xs:List V)(lo hi:Option Int):(eQ xs lo hi).length<=xs.length:=by
 unfold eQ;rw[bX,oI];omega
end
def ixN (n:Nat)(i:Int):Option Nat:=if 0<=i then (if i<n then some i.toNat else none) else if -(n:Int)<=i then some (i+n).toNat else none
def atI {α:Type}(xs:List α)(i:Int):Option α:=(ixN xs.length i).bind λj=>xs[j]?
theorem DU {n:Nat}{i:Int}{j:Nat}(h:ixN n i=some j):seqIndex? i n=some j/\j<n/\-(n:Int)<=i/\i<n:=by
 unfold ixN at h;by_cases h0:0<=i
 ·rw[if_pos h0]at h;by_cases h1:i<n
  ·rw[if_pos h1]at h;have e:i.toNat=j:=Option.some.inj h;exact⟨by rw[seqIndex_of h0 h1,e],(),(),h1⟩
  ·rw[if_neg h1]at h;cases h
 ·rw[if_neg h0]at h;by_cases h1:-(n:Int)<=i
  ·rw[if_pos h1]at h;have e:(i+n).toNat=j:=Option.some.inj h;exact⟨by rw[seqIndex_neg () h1,e],(),h1,()⟩
  ·rw[if_neg h1]at h;cases h
theorem ze {α:Type}{xs:List α}{i:Int}{v:α}(h:atI xs i=some v):∃j,seqIndex? i xs.length=some j/\xs[j]?=some v/\j<xs.length/\-(xs.length:Int)<=i/\i<xs.length:=by
 unfold atI at h
 cases e:ixN xs.length i with
 | none=>rw[e]at h;cases h
 | some j=>
  rw[e]at h;obtain⟨a,b,c,d⟩:=DU e;exact⟨j,a,h,b,c,d⟩
theorem fE {α:Type}{xs:List α}{j:Nat}{v:α}(h:xs[j]?=some v):atI xs (j:Int)=some v:=by
 have a:j<xs.length:=(aY.mp h).1;have e:ixN xs.length (j:Int)=some j:=by
  unfold ixN;rw[if_pos (),if_pos ()];simp
 unfold atI;rw[e];exact h
theorem DW {α:Type}(xs:List α)(v:α):atI (xs++[v]) (-1)=some v:=by
 have a:(xs++[v]).length=xs.length+1:=by simp
 have e:ixN (xs++[v]).length (-1)=some xs.length:=by
  unfold ixN;rw[a,if_neg (),if_pos ()];congr 1;omega
 unfold atI;rw[e];show (xs++[v])[xs.length]?=some v;simp
def KH (b:Expr):Prop:=∀o i,subscripted b false o i=operate [o,i] (getItem o i)
def IxR (X:Cx)(r:R2):Prop:=
 ∀(value slice:Expr)(Wn:aF)(s:Shared)(σ:St)(H:Hp)(x y:V)(v u:Value)(Q:VK),Inv X Wn σ H s->RelV x v->RelV y u->r x y H Q->
  subscripted slice false v u=operate [v,u] (getItem v u)->wpAny (model X.prog X.w) X.A (subscriptTail value slice v u) (EP X Wn σ Q) X.xe s
def MtR (X:Cx)(id:String)(r:V->List V->Hp->VK->Prop):Prop:=
 ∀(Wn:aF)(s:Shared)(σ:St)(H:Hp)(x:V)(xs:List V)(v:Value)(us:List Value)(Q:VK),Inv X Wn σ H s->RelV x v->Vals xs us->r x xs H Q->
  wpAny (model X.prog X.w) X.A (call (.builtin id) (v :: us)) (EP X Wn σ Q) X.xe s
section
variable {X:Cx}{a b:Expr}{ta tb:TE}{pos:Pos}
theorem aN {r:R2}(d:IxR X r)(e:PE X a ta)(f:PE X b tb)(hs:KH b):PE X (.Subscript a b pos) (tOp r ta tb):=by
 intro c s σ H Q I h;exact Subscript_ (yZ e f I h λv u g x y i j k m q=>d a b c g σ i x y v u Q j k m q (hs _ _))
def ql (K:ap):R2:=λx y H Q=>∃p xs i v,x=.ref p/\y=.int i/\SqL K H p xs/\atI xs i=some v/\Q v H
def DX (K:ap):R2:=λx y H Q=>∃p xs i v,x=.ref p/\y=.int i/\SqT K H p xs/\atI xs i=some v/\Q v H
theorem bM:IxR X (ql X.K):=by
 intro d e a s σ H x y v u Q I n o h hs;obtain⟨p,M,i,z,rfl,rfl,B,C,q⟩:=h
 cases n
 obtain⟨t,rfl⟩:=o;obtain⟨f,r,pl,O⟩:=I.list B;obtain⟨j,c,D,P,F,G⟩:=ze C;obtain⟨w,m,g⟩:=r.get D;have J:=r.length;have R:=mV;have b:EP X a σ Q w s:=⟨z,H,I,g,q⟩
 by_cases h0:0<=i
 ·have k:i.toNat=j:=by
   rw[seqIndex_of h0 G]at c;exact Option.some.inj c
  exact item_listR pl.isList h0 () (by rw[k];simpa using m) b hs
 ·have k:(i+(f.toArray.size:Int)).toNat=j:=by
   rw[seqIndex_neg () F]at c;rw[dF,<-J];exact Option.some.inj c
  exact subscriptTail_builtinR (x:=w) pl.isList.typeIs slot_list_getitem.lookup
   (wpAny_getItem_list_neg (Q:=λr L=>r=w/\EP X a σ Q r L) pl.isList () (by rw[dF] <;> omega) () (by rw[k];simpa using m) ⟨rfl,b⟩) hs
theorem dO:IxR X (DX X.K):=by
 intro b c a s σ H x y v u Q I f g h hs;obtain⟨p,G,i,z,rfl,rfl,k,m,q⟩:=h
 cases f
 obtain⟨t,rfl⟩:=g;obtain⟨n,r,pl,J⟩:=I.tuple k;obtain⟨j,o,B,L,M,O⟩:=ze m;obtain⟨w,C,d⟩:=r.get B;have D:=r.length;have P:=mV;have e:EP X a σ Q w s:=⟨z,H,I,d,q⟩
 exact subscriptTail_builtinR (x:=w) pl.typeIs slot_tuple_getitem.lookup
  (getItem_tuple (j:=j) (Q:=λr F=>r=w/\EP X a σ Q r F) pl () () #v[dF,<-D,o] (⇑C) ⟨rfl,e⟩) hs
theorem KI (its:List Value)(n j:Nat)(u:Value):Obj.mapSeq (·.setIfInBounds j u) { cls:=.type "list",data:=.seq its.toArray n }={ cls:=.type "list",data:=.seq (its.set j u).toArray n }:=by
 simp[Obj.mapSeq]
theorem Inv.lst {b:aF}{σ:St}{H:Hp}{s:Shared}{p:Addr}{xs:List V}(I:Inv X b σ H s)(h:H p=some (.lst xs)):
  ∃(a:List Value)(n:Nat),Vals xs a/\s.heap.get? p=some { cls:=.type "list",data:=.seq a.toArray n }/\xs.length<=sizeLine:=by
 obtain⟨z,a,n,r,e⟩:=I.hok p _ h;exact⟨a,n,r,e,z⟩
theorem Inv.lstUpd {a:aF}{σ:St}{H:Hp}{s:Shared}{p:Addr}{xs ys:List V}{its its':List Value}{n c:Nat}{f:Obj->Obj}(I:Inv X a σ H s)(h:H p=some (.lst xs))(g:s.heap.get? p=some { cls:=.type "list",data:=.seq its.toArray n })(d:f { cls:=.type "list",data:=.seq its.toArray n }={ cls:=.type "list",data:=.seq its'.toArray c })(r:Vals ys its')(i:ys.length<=sizeLine)(t:Nat):
  Inv X a σ (upd H p (.lst ys)) { s with heap:=s.heap.update p f,toks:=t }:=by
 have e:(s.heap.update p f).get? p=some { cls:=.type "list",data:=.seq its'.toArray c }:=by
  rw[Heap.get?_update_self f g (by rw[d] <;> rfl),d]
 refine I.write (x:=p) (e:=p) (by rw[h];trivial) (.inl rfl) (λb u j q=>(Heap.get?_update_other _ _ (Ne.symm j)).trans q) ⟨_,e⟩ ?_;exact⟨i,its',c,r,e⟩
def DY:V->V->V->Hp->(Hp->Prop)->Prop:=λo i v H Q=>∃p xs k j,o=.ref p/\i=.int k/\H p=some (.lst xs)/\ixN xs.length k=some j/\Q (upd H p (.lst (xs.set j v)))
theorem jr:yT X DY:=by
 intro a s σ H o i v G J u Q I y z B h;obtain⟨p,C,k,j,rfl,rfl,f,D,q⟩:=h
 cases y
 obtain⟨t,rfl⟩:=z;obtain⟨b,n,r,d,F⟩:=I.lst f;obtain⟨c,L,g,m⟩:=DU D;have e:=r.length;have M:=mV;have x:Inv X a σ (upd H p (.lst (C.set j v))) { s with heap:=s.heap.update p (Obj.mapSeq (·.setIfInBounds j u)) }:=
  I.lstUpd f d (KI b n j u) (r.set B j) #v[oJ,F] s.toks
 by_cases h0:0<=k
 ·have hk:k.toNat=j:=by
   rw[seqIndex_of h0 m]at c;exact Option.some.inj c
  exact PySem.W.ki_setAt d h0 () #v[dF,<-e,m] (by rw[hk];exact⟨_,x,q⟩)
 ·have hk:(k+(b.toArray.size:Int)).toNat=j:=by
   rw[seqIndex_neg () g]at c;rw[dF,<-e];exact Option.some.inj c
  exact PySem.W.ki_setBack d () #v[dF,<-e,g] () (by rw[hk];exact⟨_,x,q⟩)
theorem KJ (lo hi:Option Int)(n:Nat):(sliceBounds lo hi none n).1=((HT.sIx n 0 lo:Nat):Int)/\(sliceBounds lo hi none n).2.1=((HT.sIx n n hi:Nat):Int)/\(sliceBounds lo hi none n).2.2=1:=by
 refine⟨?_,?_,rfl⟩
 ·cases lo with
  | none=>simp[sliceBounds,HT.sIx]
  | some i=>
   simp only[sliceBounds,HT.sIx,Option.getD_none,show (1:Int) > 0 by decide,if_true];by_cases h:i<0
   ·simp only[h,if_true] <;> omega
   ·simp only[h,if_false] <;> omega
 ·cases hi with
  | none=>simp[sliceBounds,HT.sIx]
  | some i=>
   simp only[sliceBounds,HT.sIx,Option.getD_none,show (1:Int) > 0 by decide,if_true];by_cases h:i<0
   ·simp only[h,if_true] <;> omega
   ·simp only[h,if_false] <;> omega
theorem KL (its:List Value)(lo hi:Option Int):slicePick its.toArray lo hi none=((its.drop (HT.sIx its.length 0 lo)).take (HT.sIx its.length its.length hi-HT.sIx its.length 0 lo)).toArray:=by
 obtain⟨a,b,c⟩:=KJ lo hi its.toArray.size;unfold slicePick;rw[a,b,c];simp only[sliceRange_one,pick_run,dF] <;> rfl
def DZ (K:ap):V->Option Int->Option Int->Hp->VK->Prop:=λx lo hi H Q=>∃a xs,x=.ref a/\SqL K H a xs/\∀p,H p=none->Q (.ref p) (upd H p (.lst (eQ xs lo hi)))
theorem mY:SlR X (DZ X.K):=by
 intro e s σ H x v vl m lo hi n Q I g hs pl i h;obtain⟨a,c,rfl,hx,q⟩:=h
 cases g
 obtain⟨j,r,f,k⟩:=I.list hx;have d:=r.length;refine⟨"list",_,slot_list_getitem.lookup,f.isList.typeIs,?_⟩;refine wpAny_getItem_list_slice f.isList hs pl i .none (by simp) ?_ (by rw[dF] <;> omega);rw[KL,<-d];refine⟨.ref s.heap.objs.size,_,I.laid (t':=s.toks) (o:=.lst (eQ c lo hi)) (λb p q=>Heap.get?_push_of_some _ q) (aA _) ?_,rfl,q _ (I.hok.fresh (aA _))⟩;exact⟨aM (KG c lo hi) k,_,0,(r.drop (HT.sIx c.length 0 lo)).take (HT.sIx c.length c.length hi-HT.sIx c.length 0 lo),Heap.get?_push_size _ rfl⟩
def gy:V->Bool
 | .non=>true
 | .bl _=>true
 | .int _=>true
 | .str _=>true
 | _=>false
def eqV:V->V->Bool
 | .non,.non=>true
 | .bl a,.bl b=>a == b
 | .bl a,.int b=>(if a then 1 else 0) == b
 | .int a,.bl b=>a == (if b then 1 else 0)
 | .int a,.int b=>a == b
 | .str a,.str b=>a == b
 | _,_=>false
theorem KN {A:Around}{s:Shared}{y x:V}{u v:Value}(e:RelV y u)(c:RelV x v)(g:gy y=true)(f:gy x=true):SeqAt.EqAt A s u v (eqV y x):=by
 cases y with
 | non=>
  cases e
  cases x with
  | non=>cases c;exact SeqAt.EqAt.same _
  | bl b=>cases c;exact SeqAt.EqAt.none_bool b
  | int b=>obtain⟨t,rfl⟩:=c;exact SeqAt.EqAt.none_int b t
  | str b=>obtain⟨t,rfl⟩:=c;exact SeqAt.EqAt.none_str b t
  | _=>exact absurd (show false=true from f) Bool.false_ne_true
 | bl a=>
  cases e
  cases x with
  | non=>cases c;exact SeqAt.EqAt.bool_none a
  | bl b=>cases c;exact SeqAt.EqAt.bool_bool a b
  | int b=>obtain⟨t,rfl⟩:=c;exact SeqAt.EqAt.bool_int a b t
  | str b=>obtain⟨t,rfl⟩:=c;exact SeqAt.EqAt.bool_str a b t
  | _=>exact absurd (show false=true from f) Bool.false_ne_true
 | int a=>
  obtain⟨d,rfl⟩:=e
  cases x with
  | non=>cases c;exact SeqAt.EqAt.int_none a d
  | bl b=>cases c;exact SeqAt.EqAt.int_bool a d b
  | int b=>obtain⟨t,rfl⟩:=c;exact SeqAt.EqAt.int_int a d b t
  | str b=>obtain⟨t,rfl⟩:=c;exact SeqAt.EqAt.int_str a d b t
  | _=>exact absurd (show false=true from f) Bool.false_ne_true
 | str a=>
  obtain⟨d,rfl⟩:=e
  cases x with
  | non=>cases c;exact SeqAt.EqAt.str_none a d
  | bl b=>cases c;exact SeqAt.EqAt.str_bool a d b
  | int b=>obtain⟨t,rfl⟩:=c;exact SeqAt.EqAt.str_int a d b t
  | str b=>obtain⟨t,rfl⟩:=c;exact SeqAt.EqAt.str_str a d b t
  | _=>exact absurd (show false=true from f) Bool.false_ne_true
 | _=>exact absurd (show false=true from g) Bool.false_ne_true
def eqU (x:V)(u:Value):Bool:=match u with
 | .none=>eqV .non x
 | .bool b=>eqV (.bl b) x
 | .int i _=>eqV (.int i) x
 | .str z _=>eqV (.str z) x
 | _=>false
theorem D5 {x y:V}{u:Value}(r:RelV y u)(f:gy y=true):eqU x u=eqV y x:=by
 cases y with
 | non=>cases r;rfl
 | bl b=>cases r;rfl
 | int i=>obtain⟨t,rfl⟩:=r;rfl
 | str z=>obtain⟨t,rfl⟩:=r;rfl
 | _=>exact absurd (show false=true from f) Bool.false_ne_true
theorem zf {x:V}:∀{a:List V}{b:List Value},Vals a b->a.all gy=true->b.any (eqU x)=a.any λy=>eqV y x
 | _,_,.nil,_=>rfl
 | y :: a,u :: b,.cons r t,f=>by
  rw[List.all_cons,Bool.and_eq_true]at f;rw[uK,uK,D5 r f.1,zf t f.2]
theorem zg {A:Around}{s:Shared}{x:V}{v:Value}(d:RelV x v)(e:gy x=true):∀{b:List V}{c:List Value},Vals b c->b.all gy=true->∀u∈c,SeqAt.EqAt A s u v (eqU x u)
 | _,_,.nil,_=>λu a=>by cases a
 | y :: b,u :: c,.cons r t,f=>λg a=>by
  rw[List.all_cons,Bool.and_eq_true]at f;rcases bj.mp a with rfl|a
  ·rw[D5 r f.1];exact KN r d f.1 e
  ·exact zg d e t f.2 g a
def inV (x:V)(xs:List V):Bool:=xs.any λy=>eqV y x
def rIn (K:ap)(neg:Bool):R2:=λx y H Q=>∃p xs,y=.ref p/\(SqL K H p xs\/SqT K H p xs)/\gy x=true/\xs.all gy=true/\Q (.bl (if neg then !inV x xs else inV x xs)) H
theorem KO:OpR X (compareOp .In) (rIn X.K false):=by
 intro d s σ H x y v u Q I e g h;obtain⟨p,j,rfl,b,f,fs,q⟩:=h
 cases g
 rcases b with b|b
 ·obtain⟨a,r,pl,i⟩:=I.list b;refine SeqAt.in_listAt (eqU x) pl.isList (λw c=>zg e f r fs w (⇑c)) ⟨.bl _,H,I,rfl,?_⟩;rw[show a.toArray.any (eqU x)=a.any (eqU x) by simp,zf r fs];exact q
 ·obtain⟨a,r,pl,i⟩:=I.tuple b;refine SeqAt.in_tupleAt (eqU x) pl (λw c=>zg e f r fs w (⇑c)) ⟨.bl _,H,I,rfl,?_⟩;rw[show a.toArray.any (eqU x)=a.any (eqU x) by simp,zf r fs];exact q
theorem bH:gq X (.builtin "len") (λf H Q=>∃p b,f=[.ref p]/\(SqL X.K H p b\/SqT X.K H p b)/\Q (.int b.length) H):=by
 intro g s σ H f k Q I r h;obtain⟨p,b,rfl,c,q⟩:=h;obtain⟨u,rfl,i⟩:=jq r
 cases i
 have m:=mV;rcases c with c|c
 ·obtain⟨d,e,pl,j⟩:=I.list c;have a:=e.length;exact Calls.call_len_list pl.isList (by simp only[dF] <;> omega) ⟨.int b.length,H,I.tok _,⟨s.toks+1,by rw[dF,a]⟩,q⟩
 ·obtain⟨d,e,pl,j⟩:=I.tuple c;have a:=e.length;exact len_tuple pl (by simp only[dF] <;> omega) ⟨.int b.length,H,I.tok _,⟨s.toks+1,by rw[dF,a]⟩,q⟩
theorem j_:gq X (.type "list") (λz H Q=>∃p d,z=[.ref p]/\(SqL X.K H p d\/SqT X.K H p d)/\∀l,H l=none->Q (.ref l) (upd H l (.lst d))):=by
 intro i s σ H z D Q I r h;obtain⟨p,d,rfl,j,q⟩:=h;obtain⟨u,rfl,C⟩:=jq r
 cases C
 have k:∀(a:List Value),Vals d a->d.length<=sizeLine->∀(c:Heap)(f:Nat),(∀b B,s.heap.get? b=some B->c.get? b=some B)->
   c.get? s.heap.objs.size=some { cls:=.type "list",dict:=none,data:=.seq a.toArray f,slots:=#[] }->EP X i σ Q (.ref s.heap.objs.size) { s with heap:=c }:=λa g m c f kp e=>
  ⟨.ref s.heap.objs.size,_,I.laid (t':=s.toks) kp (aA _) (show ObjOk X.prog X.w _ c _ (.lst d) from ⟨m,a,f,g,e⟩),rfl,q _ (I.hok.fresh (aA _))⟩
 rcases j with j|j
 ·obtain⟨a,g,pl,m⟩:=I.list j;have t:=g.length;obtain⟨o,x,y,n,hd⟩:=pl.isList;exact call_list_seq p (.inl rfl) x y hd (λc f kp e=>k a g m c f kp e) (by simp only[dF] <;> omega)
 ·obtain⟨a,g,pl,m⟩:=I.tuple j;have t:=g.length;obtain⟨o,x,y,n,hd⟩:=pl;exact call_list_seq p (.inr rfl) x y hd (λc f kp e=>k a g m c f kp e) (by simp only[dF] <;> omega)
def tyV (K:ap)(T:String)(x:V)(H:Hp):Prop:=match x with
 | .str _=>T = "str"
 | .int _=>T = "int"
 | .ref p=>(T = "list"/\∃xs,SqL K H p xs)\/(T = "tuple"/\∃o,K.lookup p=some o/\o.cls=.type "tuple"/\o.dict=none)\/
   (T = "dict"/\((∃kvs,H p=some (.dK kvs))\/∃kvs,H p=some (.dT kvs)))\/(T = "set"/\∃S n,H p=some (.set S n))
 | _=>False
theorem D6 {b:aF}{σ:St}{H:Hp}{s:Shared}{T:String}{x:V}{v:Value}(I:Inv X b σ H s)(r:RelV x v)(d:tyV X.K T x H):
  s.TypeIs v T/\∀a,v=.ref a->∃h,s.heap.get? a=some h/\h.dict=none:=by
 cases x with
 | str z=>
  obtain⟨t,rfl⟩:=r
  cases (show T = "str" from d)
  exact⟨typeIs_str s z t,λ_ e=>nomatch e⟩
 | int i=>
  obtain⟨t,rfl⟩:=r
  cases (show T = "int" from d)
  exact⟨typeIs_int s i t,λ_ e=>nomatch e⟩
 | ref p=>
  cases r
  rcases d with ⟨rfl,q,j⟩|⟨rfl,o,hk,k,hd⟩|⟨rfl,hk⟩|⟨rfl,S,n,hk⟩
  ·obtain⟨m,_,pl,_⟩:=I.list j;refine⟨pl.isList.typeIs,λa e=>?_⟩
   cases e
   obtain⟨o,n,e,c,hd,_⟩:=pl;exact⟨o,e,hd⟩
  ·refine⟨⟨o,I.kIn p o hk,k⟩,λa e=>?_⟩
   cases e
   exact⟨o,I.kIn _ o hk,hd⟩
  ·have z:∃o,s.heap.get? p=some o/\o.ExactDict:=by
    rcases hk with ⟨f,hk⟩|⟨f,hk⟩
    ·obtain⟨_,_,_,_,o,_,_,e,ex,_⟩:=I.hok p _ hk;exact⟨o,e,ex⟩
    ·obtain⟨_,_,_,_,o,_,_,e,ex,_⟩:=I.hok p _ hk;exact⟨o,e,ex⟩
   obtain⟨o,e,ex⟩:=z;refine⟨⟨o,e,ex.1⟩,λa g=>?_⟩
   cases g
   exact⟨o,e,ex.2.1⟩
  ·obtain⟨o,_,_,_,e,ex,_⟩:=I.hok p _ hk;refine⟨⟨o,e,ex.1⟩,λa g=>?_⟩
   cases g
   exact⟨o,e,ex.2.1⟩
 | _=>exact False.elim d
def D7 (K:ap)(T:String)(r:V->List V->Hp->VK->Prop)(to:TE):TE:=λσ H Q=>to σ H λx H1=>tyV K T x H1/\r x [] H1 Q
def tBM (K:ap)(T:String)(r:V->List V->Hp->VK->Prop)(to:TE)(t:TA):TE:=λσ H Q=>to σ H λx H1=>tyV K T x H1/\t σ H1 λxs H2=>r x xs H2 Q
variable {o e:Expr}{es:List Expr}{to:TE}{t:TA}{name:Str}{apos cpos:Pos}{T id:String}{r:V->List V->Hp->VK->Prop}
theorem zh (pa:PlainAttrs T)(slot:Slot T name id)(d:typeOf (.builtin id)=pure (.type "method_descriptor"))(g:MtR X id r)(i:PE X o to)(b:attributeBase o name X.env (eval o X.env)=eval o X.env:=by rfl)(c:(apos.endLine == cpos.line)=true:=by rfl):PE X (.Call (.Attribute o name apos) [] [] cpos) (D7 X.K T r to):=by
 intro a s σ H Q I h;refine wpAny_Call_method0_late b c (thn (i a s σ H _ I h) λv j k=>?_);obtain⟨x,m,e,f,n,p⟩:=k;obtain⟨q,t⟩:=D6 e f n;exact⟨T,id,pa,slot,d,q,t,Calls.callWith_builtin rfl (PySem.evalArgs_none (g a j σ m x [] v [] Q e f .nil p))⟩
theorem fM (pa:PlainAttrs T)(slot:Slot T name id)(g:typeOf (.builtin id)=pure (.type "method_descriptor"))(m:MtR X id r)(n:PE X o to)(p:PA X (e :: es) t)(c:attributeBase o name X.env (eval o X.env)=eval o X.env:=by rfl)(f:((backTo cpos (starEach (e :: es) X.env)).all (λx=>!x.1) && (backToKw cpos (keywordEach [] X.env)).all (λx=>x.1.isSome)
   && decide ((e :: es).length+([]:List Keyword).length+(if ([]:List Keyword).isEmpty then 0 else 1)<30))=true:=by rfl)(d:(apos.endLine == cpos.line)=true:=by rfl)(hs:starEach (e :: es) X.env=(false,eval e X.env) :: starEach es X.env:=by rfl)(b:(backTo cpos (starEach es X.env)).any (·.1)=false:=by rfl):
  PE X (.Call (.Attribute o name apos) (e :: es) [] cpos) (tBM X.K T r to t):=by
 intro a s σ H Q I h;refine wpAny_Call_method_late c f d rfl (thn (n a s σ H _ I h) λv q u=>?_);obtain⟨x,y,i,j,z,B⟩:=u;obtain⟨C,D⟩:=D6 i j z;refine⟨T,id,pa,slot,g,C,D,?_⟩;have k:=p cpos a q σ y _ i B;rw[hs]at k ⊢;refine Calls.callWith_builtin (by show (false || (backTo cpos (starEach es X.env)).any (·.1))=false;rw[b] <;> rfl) (Calls.evalArgs_plain ?_);exact thn k λF G ⟨J,L,M,O,P⟩=>m a G σ L x J v F Q M j O P
/- xs.append(e),list.index on a module's tuple .. are MtR facts of 06m -/
end
def MtM (X:Cx)(id:String)(r:V->List V->Hp->VK->Prop):Prop:=
 ∀(Wn:aF)(s:Shared)(σ:St)(H:Hp)(x:V)(xs:List V)(v:Value)(us:List Value)(Q:VK),Inv X Wn σ H s->RelV x v->Vals xs us->r x xs H Q->
  wpAny (model X.prog X.w) X.A (call (.builtin id) (v :: us)) (EP X Wn σ Q) X.xe s
theorem Vals.one:∀{x:V}{a:List Value},Vals [x] a->∃u,a=[u]/\RelV x u
 | _,_,.cons r .nil=>⟨_,rfl,r⟩
theorem Vals.zero:∀{a:List Value},Vals [] a->a=[]
 | _,.nil=>rfl
theorem Vals.dropLast {xs:List V}{us:List Value}(h:Vals xs us):Vals xs.dropLast us.dropLast:=by
 induction h with
 | nil=>exact .nil
 | cons r t ih=>
  cases t with
  | nil=>exact .nil
  | cons q t'=>exact .cons r ih
theorem Vals.rep {xs:List V}{us:List Value}(h:Vals xs us):∀k:Nat,Vals (bI k xs).flatten (bI k us).flatten
 | 0=>.nil
 | k+1=>by
  rw[iE,iE,uL,uL];exact Vals.append h (Vals.rep h k)
theorem KP {α:Type}(l:List α):l.eraseIdx (l.length-1)=l.dropLast:=by
 induction l with
 | nil=>rfl
 | cons a r ih=>
  cases r with
  | nil=>rfl
  | cons b r=>
   have e:(a :: b :: r).length-1=((b :: r).length-1)+1:=by
    have c:(a :: b :: r).length=r.length+2:=rfl;have d:(b :: r).length=r.length+1:=rfl;omega
   rw[e,List.eraseIdx_cons_succ,ih]
   all_goals rfl
theorem D8 (its:List Value):∀(k:Nat)(a:List Value),
  List.foldl (λb c=>b++c) a.toArray (bI k its.toArray)=(a++(bI k its).flatten).toArray
 | 0,a=>by simp
 | k+1,a=>by
  have e:a.toArray++its.toArray=(a++its).toArray:=by simp
  have d:(a++its)++(bI k its).flatten=a++(bI (k+1) its).flatten:=by
   rw[iE,uL,oM]
  rw[<-d,<-D8 its k (a++its),<-e,iE,List.foldl_cons]
section
variable {X:Cx}{Wn:aF}{σ:St}{H:Hp}{s:Shared}{l b:Addr}{xs ys zs:List V}
theorem Inv.lset {its its':List Value}{n:Nat}{f:Array Value->Array Value}{t':Nat}(I:Inv X Wn σ H s)(a:H l=some (.lst xs))(e:s.heap.get? l=some { cls:=.type "list",data:=.seq its.toArray n })(b:f its.toArray=its'.toArray)(c:Vals ys its')(d:ys.length<=sizeLine):
  Inv X Wn σ (upd H l (.lst ys)) { s with heap:=s.heap.update l (Obj.mapSeq f),toks:=t' }:=by
 have q:=PySem.IsL.update e f;rw[b]at q;refine I.write (x:=l) (e:=l) #v[a,trivial] (.inl rfl) (λi u g h=>(Heap.get?_update_other s.heap (Obj.mapSeq f) (Ne.symm g)).trans h) ⟨_,q⟩ ?_;exact⟨d,its',_,c,q⟩
theorem Inv.lnew {its:List Value}{t':Nat}(I:Inv X Wn σ H s)(a:Vals ys its)(b:ys.length<=sizeLine):
  Inv X Wn σ (upd H s.heap.objs.size (.lst ys)) { s with heap:=s.heap.push { cls:=.type "list",data:=.seq its.toArray },toks:=t' }:=
 I.laid (λ_ _ q=>Heap.get?_push_of_some _ q) (aA _) ⟨b,its,0,a,Heap.get?_push_size _ rfl⟩
theorem Inv.fresh (I:Inv X Wn σ H s):H s.heap.objs.size=none:=I.hok.fresh (aA _)
theorem Inv.lstM (I:Inv X Wn σ H s)(b:H l=some (.lst xs)):xs.length<=sizeLine/\∃(a:List Value)(n:Nat),Vals xs a/\xs.length=a.length/\s.heap.get? l=some { cls:=.type "list",data:=.seq a.toArray n }:=by
 obtain⟨z,a,n,r,e⟩:=I.hok l _ b;exact⟨z,a,n,r,r.length,e⟩
theorem D9 {n:Nat}(h:n<=sizeLine):Builtin.List.listTooLong n=false:=by
 unfold Builtin.List.listTooLong;exact decide_eq_false ()
end
section
variable {X:Cx}
def D_:V->List V->Hp->VK->Prop:=λx vs H Q=>∃l xs y,x=.ref l/\vs=[y]/\H l=some (.lst xs)/\xs.length<sizeLine/\Q .non (upd H l (.lst (xs++[y])))
theorem fN:MtM X "list.append" D_:=by
 intro b s σ H x i v j Q I d f h;obtain⟨l,k,y,rfl,rfl,c,m,q⟩:=h
 cases d
 obtain⟨u,rfl,g⟩:=f.one;obtain⟨z,a,n,r,o,e⟩:=I.lstM c;refine call_meets F.slot_list_append ⟨_,e,rfl⟩ F.entry_list_append (F.args_list_append_2 _ _) (PySem.list_append l a.toArray n u (by rw[dF];omega)) ⟨e,?_⟩;refine⟨.non,_,I.lset (its':=a++[u]) c e (by simp) (r.append (.cons g .nil)) ?_,rfl,q⟩;rw[b4,mu];omega
def KQ:V->List V->Hp->VK->Prop:=λx vs H Q=>∃l b xs zs,x=.ref l/\vs=[.ref b]/\H l=some (.lst xs)/\H b=some (.lst zs)/\xs.length+zs.length<=sizeLine/\Q .non (upd H l (.lst (xs++zs)))
theorem QQ:MtM X "list.extend" KQ:=by
 intro g s σ H x C v D Q I j k h;obtain⟨l,b,G,J,rfl,rfl,i,m,L,q⟩:=h
 cases j
 obtain⟨u,rfl,o⟩:=k.one
 cases o
 obtain⟨z,c,n,r,M,e⟩:=I.lstM i;obtain⟨O,a,p,t,y,B⟩:=I.lstM m;have f:c.toArray.size+a.toArray.size<=sizeLine:=by rw[dF,dF];omega
 have d:¬(!c.toArray.isEmpty && Builtin.List.listTooLong (c.toArray.size+a.toArray.size))=true:=by
  rw[D9 f,Bool.and_false];exact Bool.false_ne_true
 refine call_meets F.slot_list_extend ⟨_,e,rfl⟩ F.entry_list_extend (F.args_list_extend_2 _ _)
  (AutoSeq1.list_extend_list_list_0 l c.toArray n b a.toArray p d (by rw[dF];omega) ()) ⟨e,B,?_⟩
 refine⟨.non,_,I.lset (its':=c++a) i e (by simp) (r.append t) ?_,rfl,q⟩;rw[b4];omega
def Ea:V->List V->Hp->VK->Prop:=λx vs H Q=>∃l xs y,x=.ref l/\vs=[]/\H l=some (.lst xs)/\xs[xs.length-1]?=some y/\Q y (upd H l (.lst xs.dropLast))
theorem KR:MtM X "list.pop" Ea:=by
 intro d s σ H x o v p Q I g i h;obtain⟨l,t,y,rfl,rfl,f,hy,q⟩:=h
 cases g
 have b:=i.zero;subst b;obtain⟨z,a,n,r,j,e⟩:=I.lstM f;obtain⟨u,k,m⟩:=r.get hy;have c:a.toArray[a.toArray.size-1]?=some u:=by
  show a.toArray[a.length-1]?=some u;rw[<-Array.getElem?_toList,<-j];exact k
 refine call_meets F.slot_list_pop ⟨_,e,rfl⟩ F.entry_list_pop (F.args_list_pop_1 _) (MeetsSeq.list_pop_last l a.toArray n u c (by rw[dF];omega)) ⟨e,?_⟩;refine⟨y,_,I.lset (its':=a.dropLast) f e ?_ r.dropLast ?_,m,q⟩
 ·show a.toArray.eraseIdxIfInBounds (a.toArray.size-1)=a.dropLast.toArray;rw[dF,List.eraseIdxIfInBounds_toArray,KP]
 ·rw[IR];omega
def KS:V->List V->Hp->VK->Prop:=λx vs H Q=>∃l xs,x=.ref l/\vs=[]/\H l=some (.lst xs)/\Q .non (upd H l (.lst []))
def Ec:R2:=λx y H Q=>∃l b xs zs,x=.ref l/\y=.ref b/\H l=some (.lst xs)/\H b=some (.lst zs)/\xs.length+zs.length<=sizeLine/\∀p,H p=none->Q (.ref p) (upd H p (.lst (xs++zs)))
theorem iU:OpR X (binaryOp .Add) Ec:=by
 intro d s σ H x y v u Q I f g h;obtain⟨l,b,t,B,rfl,rfl,i,j,C,q⟩:=h
 cases f
 cases g
 obtain⟨z,c,n,r,D,e⟩:=I.lstM i;obtain⟨F,a,G,k,m,o⟩:=I.lstM j;refine PySem.P.add_list e o ?_ (by rw[dF,dF];omega);have p:c.toArray++a.toArray=(c++a).toArray:=by simp
 rw[p];exact⟨.ref _,_,I.lnew (t':=s.toks) (r.append k) (by rw[b4];omega),rfl,q _ I.fresh⟩
def Ef:R2:=λx y H Q=>∃l k xs,x=.ref l/\y=.int k/\H l=some (.lst xs)/\-(2 ^ 63)<=k/\k<2 ^ 63/\xs.length*k.toNat<=sizeLine/\
 ∀p,H p=none->Q (.ref p) (upd H p (.lst (bI k.toNat xs).flatten))
theorem KT {α:Type}(xs:List α)(k:Nat):(bI k xs).flatten.length=k*xs.length:=by
 induction k with
 | zero=>simp
 | succ k ih=>rw[iE,uL,b4,ih,Nat.succ_mul,mv]
theorem zi:OpR X (binaryOp .Mult) Ef:=by
 intro p s σ H x y v u Q I C D h;obtain⟨l,k,R,rfl,rfl,G,J,L,B,q⟩:=h
 cases C
 obtain⟨t,rfl⟩:=D;obtain⟨z,b,n,r,M,e⟩:=I.lstM G;have d:b.toArray.size*k.toNat<=sizeLine:=by rw[dF,<-M];exact B
 have f:¬b.toArray.size*k.toNat > (2 ^ 63-1) / 8:=by
  have:(sizeLine:Nat)<=(2 ^ 63-1) / 8:=by decide
  omega
 have g:¬(!Builtin.List.listFitsIndex k)=true:=by
  rw[fitsIndex_both J L];exact Bool.false_ne_true
 have c:¬Builtin.List.listTooLong (b.toArray.size*k.toNat)=true:=by
  rw[D9 d];exact Bool.false_ne_true
 have i:List.foldl (λj o=>j++o) #[] (bI (if b.toArray.isEmpty=true then 0 else k.toNat) b.toArray)=(bI k.toNat b).flatten.toArray:=by
  have O:∀m:Nat,List.foldl (λj o=>j++o) #[] (bI m b.toArray)=(bI m b).flatten.toArray:=λm=>by
   have:=D8 b m [];rw[gk]at this;exact this
  rw[O]
  cases b with
  | nil=>simp
  | cons a r'=>rw[if_neg (by simp)]
 refine wpAny_binaryOp_repeat_ref (T := "list") (U := "int") () ⟨_,e,rfl⟩ (λP=>typeIs_int P k t) noFill_list_mul F.fills_int_mul F.slot_int_rmul repeat_list F.slot_int_index.lookup
  (call_meets F.slot_int_rmul (typeIs_int s k t) F.entry_int_rmul (F.args_int_rmul_2 _ _) (int___rmul___int_list k t l b.toArray n)
   ⟨e,rfl,⟨_,e,rfl⟩,call_meets F.slot_list_mul ⟨_,e,rfl⟩ F.entry_list_mul (F.args_list_mul_2 _ _) (AutoListH.list___mul___list_int_3 l b.toArray n k t g f c) ⟨e,?_⟩⟩)
 rw[i];exact⟨.ref _,_,I.lnew (t':=s.toks) (r.rep k.toNat) #v[KT,fW,B],rfl,q _ I.fresh⟩
end
end L2
namespace Att
open PySem PySem.W PySem.Calls PyProof.Rows
theorem KU {P:Params}{h:Heap}:∀(ns:aa)(c:List Value),WellAll P h c (ns.map WData.int)->IntsAre c ns:=by
 intro ns
 induction ns with
 | nil=>
  intro c w;rw[uM]at w
  cases w
  exact .nil
 | cons n ns ih=>
  intro c w;rw[dY]at w
  cases w with
  | cons a b=>
   cases a
   exact .cons _ _ (ih _ b)
theorem KY {l:OpenLaw}{n:Nat}(p:l.most=some n){P:Params}{h:Heap}{b:List WData}{c:List Value}(e:l.row.toRowW.claim.pre b=true)(j:WellAll P h c b):
  ∃a m ns,c=[Value.ref a]/\b=[WData.list (ns.map WData.int)]/\h.get? a=some { cls:=.type "list",data:=.seq m.toArray }/\IntsAre m ns/\ns.length<=n:=by
 have k:WShape.hasAll [] b [.list .int]=true:=(pre_splitW e).1;have o:l.pre.holds [] { args:=b }=true:=(pre_splitW e).2;obtain⟨d,r,rfl,s,t⟩:=hasAllW_cons k;obtain rfl:=hasAllW_nil t;obtain⟨y,rfl,u⟩:=hasW_list s;obtain⟨ns,rfl⟩:=items_int u;have f:ns.length<=n:=by
  unfold OpenLaw.pre at o;have g:(WTm.not (.lt (.lit (.int (n:Int))) (.len (.arg 0)))).holds [] { args:=[.list (ns.map .int)] }=true:=by
   have g:=(holds_andW o).1;rw[p]at g;exact g
  have i:=condW_of g (w_not (w_lt w_lit (w_len_list (w_arg rfl))));rw[af]at i;refine oN λq=>?_;have x:(n:Int)<((ns.length:Nat):Int):=by omega
  first
   |(rw[decide_eq_true x]at i;exact absurd i ())
   |(simp at i;omega)
 cases j with
 | cons w1 w2=>
  cases w2
  cases w1 with
  | list ho hall=>exact⟨_,_,ns,rfl,rfl,ho,KU ns _ hall,f⟩
theorem KZ (l:OpenLaw)(a:List WData):l.row.toRowW.claim.post a (.bool true) a=true:=
 postW_of (r:=l.row.toRowW) (X:=(true == true))
  (show WShape.has [] (.bool true) .bool=true by first|rfl|decide|simp[WShape.has,WShape.arms,WShape.armsAll])
  (show (WTm.eq .res (.lit (.bool true))).value [] { args:=a,res:=some (.bool true),after:=a }=some (.bool (true == true)) from w_eq_bool (w_res rfl) w_lit) rfl
theorem attach_call {l:OpenLaw}{n:Nat}{q:Program}{loose:List Str}{XP:bh->Heap->Prop}{YP:World->Heap->Prop}{d:DefRec}(F:l.most=some n)(s:d.params.defaults=[])(call:∀(w:World)(s₀ b:Shared)(mg t:bh)(h:Addr)(o:Obj)(pm m c:Value)(a:Addr)(g:List Value)(ns:aa),
   Ground q loose [] XP w s₀ mg t b.heap->YP w b.heap->
   b.heap.get? h=some o->o.data=.func (docDef d.name d.params d.body d.scope pm m c)->b.heap.CodeRec m d.name->mg d.name=some (.ref h)->
   b.heap.get? a=some { cls:=.type "list",data:=.seq g.toArray }->IntsAre g ns->ns.length<=n->b.gens=#[]->
   codeAny (model l.prog w) callerA (.call (.ref h) ⟨[.ref a],[]⟩) (λr p=>r=.ok (.ret (.bool true))/\OldK b.heap p.heap/\p.os=b.os/\AllBare p.gens) b):
  WalkO q loose XP YP l.row.toRowW d [] (λf g=>PySem.call f g):=by
 intro w s₀ b mg t G Y h o pm m c H kV I hd u z x J B C as i D L y M;obtain rfl:H=.none:=Dflts.none z s;obtain rfl:kV=.none:=Dflts.noKw z;obtain⟨a,g,ns,rfl,rfl,j,e,k⟩:=KY F i y;refine enter_call (codeAny_mono (call w s₀ b mg t h o pm m c a g ns G Y I (fd_plain hd) u x j e k J) λr p O=>?_);obtain⟨rfl,P,Q,R⟩:=O;exact⟨.inl ⟨.bool true,.bool true,[],rfl,λ_=>rfl,.bool true,KZ l _,λ_=>⟨List.Pairwise.nil,λ_ S=>(nomatch S)⟩⟩,P,Q,R⟩
section
variable {prog:Program}{w:World}{A:Around}{E:aP}{s:Shared}{K:Frag}
def QR (h:Heap)(L d:Addr):aF:=(aJ h.objs.size).filterMap λa=>if a=L\/a=d then none else (h.get? a).map λo=>(a,o)
end
end Att
namespace L2
open PySem PySem.Spec PyProof.Rows
theorem Eg:∀{a:List Value}{ns:aa},IntsAre a ns->Vals (ns.map V.int) a
 | _,_,.nil=>.nil
 | _,_,.cons n t h=>.cons ⟨t,rfl⟩ (Eg h)
def zj (H:Hp):Prop:=∀b,H b=none\/∃o xs,H b=some (.frz o (.lst xs))
theorem K0 {P:Program}{w:World}{K:ap}{mg O:bh}{CX:CXT}{k:Nat}{Q a:Addr}{Y:FuncData}{x:Str}{sp:Sp}{c:Shared}{vs:List Value}{ns:aa}(KX:K.In c.heap)(y:c.heap.Ns mainGlobals mg)(g:c.heap.Ns builtinsNs O)(R:∀x:Str,x ≠ "__name__" -> O x=bootBuiltins x)(B:c.heap.NoLimit)(hg:c.gens=#[])(M:c.heap.get? a=some { cls:=.type "list",data:=.seq vs.toArray })(hi:IntsAre vs ns)(Z:ns.length<=sizeLine)(hr:Room k callerA)(F:∀base:Heap,K.In base->base.Ns mainGlobals mg->FnOk P w K mg base CX k Q Y [x] sp)(t:∀(s:Shared)(u:Value),BindsTo s Y ⟨[u],[]⟩ [(x,u)])(S:∀H:Hp,zj H->SqL K H a (ns.map V.int)->sp [.ref a] H (λv _=>v=.bl true) λ_ _ _=>False)(T:∀H e i,CX [] H c (λ_ _ _=>False) e i->False):
  codeAny (model P w) callerA (.call (.ref Q) ⟨[.ref a],[]⟩) (λr i=>r=.ok (.ret (.bool true))/\OldK c.heap i.heap/\i.os=c.os/\AllBare i.gens) c:=by
 have rv:=Eg hi;have C:=hi.length;have p:∀H:Hp,zj H->SqL K H a (ns.map V.int)->HOk P w H c.heap->(∀b,H b≠none->b=a)->(H a≠none->K.lookup a=none)->
   codeAny (model P w) callerA (.call (.ref Q) ⟨[.ref a],[]⟩) (λr i=>r=.ok (.ret (.bool true))/\OldK c.heap i.heap/\i.os=c.os/\AllBare i.gens) c:=by
  intro H hO hS hok hA hK;have f:∀{b:Addr}{o:Obj},c.heap.get? b=some o->H b=none->(iQ c.heap H).get? b=some o:=λe n=>J2 e n;have U:∀{b:Addr}{o:Obj}{D:Array DictEntry}{G:Nat},c.heap.get? b=some o->o.data=.dict D G->H b=none:=λ{b o D G} e d=>by
   cases q:H b with
   | none=>rfl
   | some u=>
    have X:b=a:=hA b (by rw[q];simp);subst X;rw[M]at e;cases e;have d':Data.seq vs.toArray _=Data.dict D G:=d
    cases d'
  have j:∀{b:Addr}{m:bh},c.heap.Ns b m->(iQ c.heap H).Ns b m:=λ{b m} ⟨o,D,G,e,d,r⟩=>⟨o,D,G,f e (U e d),d,r⟩
  have I:K.In (iQ c.heap H):=λb o e=>f (KX b o e) (by
   cases q:H b with
   | none=>rfl
   | some u=>
    have X:b=a:=hA b (by rw[q];simp);subst X;rw[hK (by rw[q];simp)]at e;cases e)
  have hM:Mod K mg (iQ c.heap H):=⟨I,j y,⟨O,j g,R⟩,let ⟨mc,h1,h2⟩:=B;⟨mc,j h1,h2⟩⟩
  have e0:Env0 P w K mg (iQ c.heap H) callerA [] c H:=⟨rfl,hM,λb o e=>J3 e,kG (J1 _ _),trivial,λb g=>absurd (show b∈([]:am) from g) (by simp),hok,.of_eq hg⟩
  refine codeAny_mono ((F _ I (j y)).run callerA [] c H ⟨[.ref a],[]⟩ [.ref a] [.ref a] _ _ hr e0 (t c (.ref a)) (.cons rfl .nil) (S H hO hS)) λr i h=>?_
  cases r with
  | error e=>exact (T H e i h).elim
  | ok fl=>
   cases fl with
   | next=>exact False.elim h
   | brk=>exact False.elim h
   | cont=>exact False.elim h
   | ret u=>
    obtain⟨v,H',os,bare,un,J,r',q⟩:=h;have q':v=.bl true:=q;subst q';obtain rfl:u=Value.bool true:=r';refine⟨rfl,OldK.of_keep λb o e=>?_,os,bare⟩
    cases q:H b with
    | none=>exact un.keep b o e q (by intro z;exact absurd (show b∈([]:am) from z) (by simp)) (by simp)
    | some u=>
     rcases hO b with z|⟨ob,xs,z⟩
     ·rw[q]at z;cases z
     ·have z2:=un.frzs b ob _ z;obtain⟨e1,_⟩:=hok b _ z;obtain⟨e2,_⟩:=J b _ z2;rw[e]at e1;cases e1;exact e2
 cases hk:K.lookup a with
 | some o=>
  have e:=KX a o hk;rw[M]at e
  cases e
  refine p (λ_=>none) (λ_=>.inl rfl) (.inr ⟨_,vs.toArray,_,hk,rfl,rfl,rfl,#v[dF,C,Z],by simpa using rv⟩) (λb u z=>by have L:(none:Option HO)=some u:=z;cases L) (λb z=>absurd rfl z) λz=>absurd rfl z
 | none=>
  refine p (λb=>if b=a then some (.frz { cls:=.type "list",data:=.seq vs.toArray } (.lst (ns.map V.int))) else none) (λb=>?_) (.inl (.inr ⟨{ cls:=.type "list",data:=.seq vs.toArray },if_pos rfl⟩)) (λb u z=>?_) (λb z=>?_) λ_=>hk
  ·by_cases g:b=a
   ·exact .inr ⟨_,_,if_pos g⟩
   ·exact .inl (if_neg g)
  ·by_cases g:b=a
   ·have L:=(if_pos g).symm.trans z
    cases L
    subst g;exact⟨M,#v[af,Z],vs,_,rv,M⟩
   ·have L:=(if_neg g).symm.trans z
    cases L
  ·by_cases g:b=a
   ·exact g
   ·exact absurd (if_neg g) z
theorem K1 {l:PySem.W.OpenLaw}{n k:Nat}{q:Program}{loose:List Str}{XP:bh->Heap->Prop}{YP:World->Heap->Prop}{d:DefRec}{K:Params->ap}{CX:World->CXT}{sp:World->Sp}{x:Str}(D:l.most=some n)(m:n<=sizeLine)(p:d.params.defaults=[])(I:Room k callerA)(J:∀(w:World)(h:Heap),YP w h->(K w.params).In h)(F:∀(w:World)(mg:bh)(j:Addr)(h:Heap),(K w.params).In h->h.Ns mainGlobals mg->mg d.name=some (.ref j)->
   ∃r:FuncData,(∀(s:Shared)(u:Value),BindsTo s r ⟨[u],[]⟩ [(x,u)])/\
    ∀base:Heap,(K w.params).In base->base.Ns mainGlobals mg->FnOk l.prog w (K w.params) mg base (CX w) k j r [x] (sp w))(t:∀(w:World)(H:Hp)(a:Addr)(ns:aa),ns.length<=n->zj H->SqL (K w.params) H a (ns.map V.int)->sp w [.ref a] H (λv _=>v=.bl true) λ_ _ _=>False)(y:∀(w:World)(H:Hp)(s:Shared)(e:Value)(z:Shared),CX w [] H s (λ_ _ _=>False) e z->False):
  PySem.W.WalkO q loose XP YP l.row.toRowW d [] (λf C=>PySem.call f C):=by
 refine Att.attach_call D p λw s₀ g mg T j o pm U L a C ns G Y X hd M B i c b O=>?_;have KX:=J w _ Y;obtain⟨r,P,Q⟩:=F w mg j _ KX G.T.g B;exact K0 KX G.T.g G.T.b G.T.builtins G.T.nolimit O i c (aM b m) I Q P (λH R S=>t w H a ns b R S) λH e z=>y w H g e z
def mZ (s:Stmt):Arguments:=match s with
 | .FunctionDef _ a _ _ _ _ _ _ _ _=>a
 | _=>{ posonlyargs:=[],args:=[],vararg:=none,kwonlyargs:=[],kw_defaults:=[],kwarg:=none,defaults:=[] }
def kX (s:Stmt):List Stmt:=match s with
 | .FunctionDef _ _ b _ _ _ _ _ _ _=>b
 | _=>[]
def a_ (s:Stmt):Scope:=match s with
 | .FunctionDef _ _ _ _ _ _ sc _ _ _=>sc
 | _=>{ kind:=.function,names:=[],isGenerator:=false,isCoroutine:=false }
abbrev CX0:CXT:=λ_ _ _ _ _ _=>False
abbrev E0:XK:=λ_ _ _=>False
theorem aE {X:Cx}:kU CX0 X E0:=λ_ _ _ _ _ _ _ h=>h.elim
structure Fun (K:ap)(x qual:Str)(st:Stmt)(f:Addr)(fd:FuncData):Prop where
 ex:∃(oc:Value)(od:Option Addr)(kV doc pm:Value)(an:Option Addr)(cdv ct:Value)(osl:Array (Option Value)),
  fd=PySem.W.fnOf x qual (mZ st) (kX st) (a_ st) .none kV doc pm an cdv ct/\K.lookup f=some ⟨oc,od,.func fd,osl⟩/\PySem.W.codeIn K cdv qual=true
 kp:PySem.W.keepIn K (.ref f)=true
section
variable {P:Program}{w:World}{K:ap}{mg:bh}{base:Heap}
theorem Fun.ok {x a:Str}{st:Stmt}{f:Addr}{i:FuncData}{N ps:List Str}{k:Nat}{sp:Sp}(F:Fun K x a st f i)(S:FnScope N ps (a_ st))(len:∀c H Q E,sp c H Q E->c.length=ps.length)(d:∀(b:Value)(A:Around)(outer:List Env)(s:Shared)(H:Hp)(c:List V)(Q:VK)(E:XK),Room k (A.deeper (envOfC a (a_ st) s.heap.objs.size f b))->sp c H Q E->
   ∃t,PSs (jZ CX0 P w K mg base N a (a_ st) f b A outer s H E).nox (kX st) t/\t { nx:=λ_ j=>Q .non j,rt:=Q } (start N c) H):FnOk P w K mg base CX0 (k+1) f i ps sp:=by
 obtain⟨oc,p,kV,m,pm,r,b,ct,n,rfl,lk,e⟩:=F.ex;refine KF lk e S len λA outer s H c Q E o g=>?_;obtain⟨t,h,q⟩:=d b A outer s H c Q E o g;exact⟨t,h.nox,q⟩
theorem Fun.binds {x a:Str}{st:Stmt}{f:Addr}{g:FuncData}{ps:List Str}(F:Fun K x a st f g)(h:∀(kV b pm:Value)(d:Option Addr)(c ct:Value)(e:List Value),e.length=ps.length->bindArgs (PySem.W.fnOf x a (mZ st) (kX st) (a_ st) .none kV b pm d c ct) ⟨e,[]⟩=pure (ps.zip e)):Binds K g ps []:=by
 obtain⟨oc,k,kV,b,pm,d,c,ct,i,rfl,lk,j⟩:=F.ex;exact .all (h kV b pm d c ct)
theorem K2 {x a:Str}{st:Stmt}{f:Addr}{oc:Value}{h g:Option Addr}{e:Array (Option Value)}{kV d pm b ct:Value}(l:K.lookup f=some ⟨oc,h,.func (PySem.W.fnOf x a (mZ st) (kX st) (a_ st) .none kV d pm g b ct),e⟩)(c:PySem.W.codeIn K b a=true)(k:PySem.W.keepIn K (.ref f)=true):Fun K x a st f (PySem.W.fnOf x a (mZ st) (kX st) (a_ st) .none kV d pm g b ct):=⟨⟨oc,h,kV,d,pm,g,b,ct,e,rfl,l,c⟩,k⟩
end
theorem bD {n:Nat}(h:n<=1000):n<sizeLine:=ca h ()
section
variable {X:Cx}
theorem pv (i:Nat){x:Str}{pos:Pos}(b:X.N[i]?=some x:=by rfl)(c:Vis X.env.scope x:=by first|exact Or.inl rfl|exact Or.inr (Or.inl rfl)|exact Or.inr (Or.inr rfl))(hd:(x == ("__debug__" : Str))=false:=by decide)(a:(x == ("__classdict__" : Str))=false:=by decide):PE X (.Name x pos) (yO i):=J7 b c hd a
end
theorem bO {c A B:Prop}[Decidable c](a:c->A)(b:¬c->B):if c then A else B:=by
 by_cases h:c
 ·rw[if_pos h];exact a h
 ·rw[if_neg h];exact b h
def Same (H H':Hp):Prop:=∀b o,H b=some o->H' b=some o
theorem Same.refl (H:Hp):Same H H:=λ_ _ h=>h
theorem Same.trans {H d e:Hp}(a:Same H d)(b:Same d e):Same H e:=λc o h=>b c o (a c o h)
theorem Same.free {H a:Hp}(e:Same H a){l:Addr}(h:a l=Option.none):H l=Option.none:=by
 cases q:H l with
 | none=>rfl
 | some o=>
  rw[e l o q]at h
  cases h
theorem Same.seq {K:ap}{H b:Hp}{a:Addr}{xs:List V}(e:Same H b)(h:SqL K H a xs):SqL K b a xs:=by
 rcases h with (h|⟨o,h⟩)|h
 ·exact .inl (.inl (e _ _ h))
 ·exact .inl (.inr ⟨o,e _ _ h⟩)
 ·exact .inr h
@[reducible] def blk (X:Cx) (x:Str) (fv:List (Nat×Str)) (scope:Scope) (cl:List (Str×Addr)) (C:Addr) (s:Shared) (H:Hp) (fp:am):Cx where
 prog:=X.prog
 w:=X.w
 K:=X.K
 mg:=X.mg
 base:=X.base
 A:=X.A
 N:=x :: fv.map (·.2)
 s₀:=s
 H₀:=H
 env:=compEnvC scope cl C X.env
 outer:=X.stack
 stack:=X.stack
 ex:=fp
 fn:=λ_=>false
 calm:=X.calm
 pn:=[]
 xe:=λ_ _=>False
def bst (fv:List (Nat×Str))(σ:St)(v:Option V):St:=v :: fv.map λp=>(σ[p.1]?).getD none
structure BlkOk (X:Cx)(x:Str)(fv:List (Nat×Str))(scope:Scope)(cl:List (Str×Addr)):Prop where
 clos:closureFor scope X.env=pure cl
 nocell:∀y∈scope.names,y.2≠.cell
 kind:scope.kind=.function
 names:∀y∈scope.names,y.2=.local->scope.names.lookup y.1=some .local
 here:scope.names.lookup x=some .local
 sub:∀y c,cl.lookup y=some c->X.env.cells.lookup y=some c
 has:∀y,((relabel scope X.env).names.lookup y=some .cell\/(relabel scope X.env).names.lookup y=some .free)->∃c,cl.lookup y=some c
 fvs:∀p∈fv,p.2≠x/\X.N[p.1]?=some p.2/\(X.env.scope.names.lookup p.2=some .cell\/X.env.scope.names.lookup p.2=some .free)/\
  ((relabel scope X.env).names.lookup p.2=some .cell\/(relabel scope X.env).names.lookup p.2=some .free)/\∃c,cl.lookup p.2=some c
theorem zk {prog:Program}{w:World}{A:Around}{R:Result->Shared->Prop}{s:Shared}{k a d:Expr}{b:Scope}{pos:Pos}{it o:Value}{env:Env}(I:Nat->Shared->Prop)(p:∀n s (E:aP),I n s->wpAny (model prog w) A (pyNext it) (λr c=>match r with
   | none=>R (.ok .next) c
   | some v=>wpAny (model prog w) A (letOwnedTupleGo a it v) (λ_ e=>wpAny (model prog w) A (assign a env v) (λ_ f=>wpAny (model prog w) A (eval k env) (λx g=>
     wpAny (model prog w) A (call (.builtin "list.append") [o,x]) (λ_ i=>∃m,m<n/\I m i) E g) E f) E e) E c) E s)(n:Nat)(h:I n s):
  codeAny (model prog w) A (.compLoop (.ListComp k [⟨a,d,[],0⟩] b pos) 0 it o env) R s:=by
 refine codeAny_loop rfl I (λn s z=>?_) n h;show wpAny _ _ ((compTurn (.ListComp k [⟨a,d,[],0⟩] b pos) 0 it o env).onRaise (λx=>do noteFrame x env;theTreesLotGoes x)) _ _ s;refine wpAny_noted ?_;rw[PySem.compTurn_list1];refine wpAny_bind (wpAny_standAt (wpAny_bind (wpAny_mono (p n s _ z) (λr c j=>?_) λ_ _ B=>B)))
 cases r with
 | none=>exact wpAny_pure j
 | some v=>
  exact wpAny_bind (thn j λ_ e q=>wpAny_bind (thn q λ_ f t=>wpAny_bind (wpAny_bind (thn t λx g u=>wpAny_bind (thn u λ_ i y=>wpAny_pure (wpAny_pure ⟨rfl,y⟩))))))
section
variable {X:Cx}{elt iter:Expr}{x:Str}{px:Pos}{fv:List (Nat×Str)}{scope:Scope}{cl:List (Str×Addr)}{pos:Pos}{te:TE}{wi:TI}
def m_ (fv:List (Nat×Str))(wi:TI)(te:TE):TE:=λσ H Q=>wi σ H λJ H1=>∀D,H1 D=none->∃W:Nat->Nat->Hp->Prop,(∃m,W 0 m (upd H1 D (.lst [])))/\∀i m H,W i m H->
 (J.stop i H/\Q (.ref D) H)\/(J.go i H/\∃N:Hp->Prop,(∀H',N H'->∃m',m'<m/\W (i+1) m' H')/\∀v H',J.yld i H v H'->te (bst fv σ (some v)) H' λy H2=>∃ys,H2 D=some (.lst ys)/\ys.length<sizeLine/\N (upd H2 D (.lst (ys++[y]))))
theorem K3 {a:aF}{σ:St}{H:Hp}{s:Shared}{f:am}{C:Addr}(B:BlkOk X x fv scope cl)(I:Inv X a σ H s)(g:∀b∈f,df X a H b)(hC:s.heap.objs.size<=C)(i:∀b∈f,b≠C):
  (blk X x fv scope cl C s H f).Ok where
 mod:=I.ok.mod
 kind:=B.kind
 glob:=I.ok.glob
 blt:=I.ok.blt
 above:=hC
 inj:=λy z c j k=>I.ok.inj y z c (B.sub y c j) (B.sub z c k)
 has:=λy hy=>B.has y hy
 cab:=λy c h=>nomatch h
 hd:=I.ok.hd
 frames:=I.ok.frames
 stk:=.inl rfl
 exf:=λb d=>⟨i b d,λy c e=>(g b d).2.2.2.2.1 y c (B.sub y c e)⟩
 bs:=I.bs
 bsz:=aM I.ok.bsz I.sz
 noex:=λb o e d=>by
  obtain⟨_,_,_,m,_⟩:=g b d;rcases m with z|z
  ·exact I.ok.noex b o e z
  ·exact absurd (cP (Heap.lt_size e) (aM I.ok.bsz z)) (jL _)
 exfs:=λb d hs=>by
  obtain⟨_,n,p,_⟩:=g b d;rcases bj.mp (I.stkSub b hs) with z|z
  ·exact n z
  ·exact p z
 funs:=I.stack
 frf:=I.stkFree
theorem zm {fv:List (Nat×Str)}{σ:St}{o:Option V}{j:Nat}{y:Str}{v:V}(d:(x :: fv.map (·.2))[j+1]?=some y)(e:(bst fv σ o)[j+1]?=some (some v)):∃p∈fv,p.2=y/\σ[p.1]?=some (some v):=by
 have a:(fv.map (·.2))[j]?=some y:=by simpa using d
 have c:(fv.map λp=>(σ[p.1]?).getD none)[j]?=some (some v):=by simpa [bst] using e
 rw[aG]at a c
 cases q:fv[j]? with
 | none=>rw[q]at a;cases a
 | some p=>
  rw[q]at a c;refine⟨p,bT q,Option.some.inj a,?_⟩;have b:(σ[p.1]?).getD none=some v:=Option.some.inj c
  cases r:σ[p.1]? with
  | none=>rw[r]at b;cases b
  | some w=>rw[r]at b;exact congrArg some b
theorem Eh {a:aF}{σ:St}{H:Hp}{s d:Shared}{g:am}{C:Addr}{m:bh}(B:BlkOk X x fv scope cl)(I:Inv X a σ H s)(M:∀b∈g,df X a H b)(hC:C=s.heap.objs.size)(h:∀b∈g,b≠C)(os:d.os=s.os)(f:d.gens=s.gens)(keep:∀b o,s.heap.get? b=some o->d.heap.get? b=some o)(ns:d.heap.Ns C m):
  Inv (blk X x fv scope cl C s H g) [] (bst fv σ none) H d:=by
 subst hC;refine⟨K3 B I M (aA _) h,os,#v[f,I.bare],Un.kept keep,⟨m,ns,λi y v O G S=>?_⟩,λy c e=>?_,I.hok.fresh (aA _),λy c e=>I.freeC y c (B.sub y c e),λp n=>absurd (show p∈([]:aF) from n) (by simp),I.hok.kept keep,by simp[bst]⟩
 ·cases i with
  | zero=>simp[bst]at G
  | succ j=>
   obtain⟨p,n,rfl,P⟩:=zm O G;obtain⟨_,Q,hk,q,c,J⟩:=B.fvs p n;obtain⟨m0,_,R⟩:=I.loc;have t:Vis X.env.scope p.2:=hk.elim (λz=>.inr (.inl z)) λz=>.inr (.inr z);obtain⟨u,r,l⟩:=R p.1 p.2 v Q P t;refine⟨u,r,.inr ⟨q,c,J,?_⟩⟩;rcases l with ⟨z,_⟩|⟨_,T,D,o,F,hd⟩
   ·have L:X.env.scope.names.lookup p.2=some .local:=z;rcases hk with k|k <;> (rw[k]at L;cases L)
   ·have:=B.sub p.2 c J;rw[D]at this;cases this;exact⟨o,keep _ o F,hd⟩
 ·obtain⟨v,o,F,hd⟩:=I.cell y c (B.sub y c e);exact⟨v,o,keep c o F,hd⟩
theorem Ei {a:aF}{σ:St}{H P:Hp}{s R:Shared}{S:am}{C:Addr}{o:Option V}{v:V}{u:Value}{E:aP}{Q:Unit->Shared->Prop}(B:BlkOk X x fv scope cl)(I:Inv (blk X x fv scope cl C s P S) a (bst fv σ o) H R)(r:RelV v u)(h:∀T,Inv (blk X x fv scope cl C s P S) a (bst fv σ (some v)) H T->Q ⟨⟩ T):
  wpAny (model X.prog X.w) X.A (assign (.Name x px) (compEnvC scope cl C X.env) u) Q E R:=by
 obtain⟨m,U,hl⟩:=id I.loc;have hk:(relabel scope X.env).names.lookup x=some .local:=lookup_relabel_local B.here;have D:((compEnvC scope cl C X.env).scope.kind == .class || ((compEnvC scope cl C X.env).scope.kind == .module && (compEnvC scope cl C X.env).locals != (compEnvC scope cl C X.env).globals))=false:=by
  have:(compEnvC scope cl C X.env).scope.kind=.function:=B.kind;rw[this];rfl
 refine wpAny_assign_Name (wpAny_storeName_local hk U (λh' F hs=>?_) D);have cne:=I.cne;obtain⟨oL,_,_,x0,_⟩:=id U;have f:HOk X.prog X.w H h':=λb ob e=>by
  refine (I.hok b ob e).stay (λc Y t q=>(hs.2 c ?_).trans q) (λ_ q=>q) λ_ _ q=>q;intro z;have Z:c=C:=z;have fr:H C=none:=I.free;rcases t with t|t
  ·rw[<-t,Z,fr]at e;cases e
  ·rw[Z,fr]at t;cases t
 refine h _ ⟨I.ok,I.os,I.bare,⟨λb o e n G hx=>?_,λb o e n G hx=>?_,I.base.free,λb o e hx=>?_,I.base.tups,I.base.frzs,I.base.tbls⟩,⟨_,F,λj y J g L e3=>?_⟩,λy c e=>?_,I.free,I.freeC,λp M=>?_,f,by simp[bst]⟩
 ·exact (hs.2 b (dj (cP (Heap.lt_size e) I.ok.above))).trans (I.base.keep b o e n G hx)
 ·obtain⟨sl,g⟩:=I.base.slot b o e n G hx;exact⟨sl,(hs.2 b (dj (cP (Heap.lt_size e) I.ok.above))).trans g⟩
 ·obtain⟨o',g⟩:=I.base.there b o e hx;exact⟨o',(hs.2 b (dj (cP (Heap.lt_size e) I.ok.above))).trans g⟩
 ·cases j with
  | zero=>
   have O:x=y:=by simpa using g
   subst O;have i:v=J:=by simpa [bst] using L
   subst i;exact⟨u,r,.inl ⟨hk,by simp⟩⟩
  | succ j=>
   have i:(bst fv σ o)[j+1]?=some (some J):=by simpa [bst] using L
   obtain⟨u',r',q⟩:=hl (j+1) y J g i e3;refine⟨u',r',?_⟩;obtain⟨p,M,rfl,_⟩:=zm g L;rcases q with ⟨k,e⟩|⟨k,c,e,z⟩
   ·exact .inl ⟨k,by simp[(B.fvs p M).1,e]⟩
   ·exact .inr ⟨k,c,e,z.sameBut hs (cne _ c e)⟩
 ·obtain⟨Y,z⟩:=I.cell y c e;exact⟨Y,z.sameBut hs (cne y c e)⟩
 ·obtain⟨e,n,ne,nf,d⟩:=I.pin p M;exact⟨(hs.2 p.1 ne).trans e,n,ne,nf,d⟩
theorem qm {X:Cx}{a:aF}{σ:St}{H e:Hp}{c g d:Shared}{h:am}(I:Inv X a σ H c)(hk:HOk X.prog X.w e d.heap)(bare:AllBare d.gens)(i:H c.heap.objs.size=none)(f:∀b o,c.heap.get? b=some o->g.heap.get? b=some o)(j:Un (frs X.stack) h (upd H c.heap.objs.size (.lst [])) e g.heap d.heap)(os:d.os=c.os)(k:∀b∈h,df X a H b):Inv X a σ e d:=by
 refine I.call' ?_ ((Un.laid f (aA _) i).trans j) hk bare λb m=>?_
 ·exact os
 ·obtain⟨_,n,s,p,q,r⟩:=k b m;exact⟨p,n,q,r⟩
theorem qo {Y:Cx}{prog:Program}{w:World}{K:ap}{G:Expr}{J:It}{r:am}{it:Addr}{t:Nat->Heap->Prop}(T:Turn prog w K G J r it t){f:St}{g:Hp}{F x:Shared}{D:Addr}{ys:List V}{h:V}{y:Value}{i n:Nat}{N:Hp->Prop}{W:Nat->Nat->Hp->Prop}{E':aP}(hx:∀u s,¬Y.xe u s)(j:t (i+1) F.heap)(H:Inv Y ([]++mT r F.heap) f g x)(I:RelV h y)(B:g D=some (.lst ys))(L:ys.length<sizeLine)(M:N (upd g D (.lst (ys++[h]))))(O:∀d,N d->∃p,p<n/\W (i+1) p d):
  wpAny (model Y.prog Y.w) Y.A (call (.builtin "list.append") [.ref D,y]) (λ_ a=>∃m,m<n/\∃d,Inv Y [] f d a/\t (i+1) a.heap/\(∀b∈r,d b=none)/\W (i+1) m d) E' x:=by
 have P:=fN (X:=Y) _ x _ g (.ref D) [h] (.ref D) [y] (λ_ k=>k=upd g D (.lst (ys++[h]))) H rfl (.cons I .nil)
  ⟨_,ys,h,rfl,rfl,B,L,rfl⟩
 refine wpAny_mono P (λ_ Q R=>?_) λ_ _ z=>(hx _ _ z).elim;obtain⟨_,k,c,_,C⟩:=R;subst C;obtain⟨p,S,w9⟩:=O _ M;refine⟨p,S,_,c.unpinned,T.keep _ _ _ j λb q o e=>(c.pin (b,o) (gv _ (gv _ (kS q e)))).1,λb q=>?_,w9⟩;obtain⟨o,e,_⟩:=T.obj _ _ j b q;exact (c.pin (b,o) (gv _ (gv _ (kS q e)))).2.1
theorem Ej {a:aF}{σ:St}{H:Hp}{d:Shared}{it:Addr}{h:am}{Z:Nat->Heap->Prop}{J:It}{Q:VK}{E:aP}{RR:Value->Addr->Result->Shared->Prop}(hc:X.calm=true)(B:BlkOk X x fv scope cl)(he:∀C s H h,PE (blk X x fv scope cl C s H h) elt te)(I:Inv X a σ H d)(T:Turn X.prog X.w X.K (.Name x px) J h it Z)(st:Z 0 d.heap)(hf:∀b∈h,df X a H b)(rd:∀D,H D=none->∃W:Nat->Nat->Hp->Prop,(∃m,W 0 m (upd H D (.lst [])))/\∀i m H,W i m H->
   (J.stop i H/\Q (.ref D) H)\/(J.go i H/\∃N:Hp->Prop,(∀g,N g->∃S,S<m/\W (i+1) S g)/\∀v g,J.yld i H v g->te (bst fv σ (some v)) g λy H2=>∃ys,H2 D=some (.lst ys)/\ys.length<sizeLine/\N (upd H2 D (.lst (ys++[y])))))(u1:∀D C U g S,Inv X a σ g U->df X a g C->U.heap.Ns C S->Q (.ref D) g->RR (.ref D) C (.ok .next) U):
  wpAny (model X.prog X.w) X.A (newList []) (λx0 y0=>wpAny (model X.prog X.w) X.A (newFunctionEnv scope X.env.globals cl [] X.env.qual none .none (some X.env)) (λM z0=>
   codeAny (model X.prog X.w) X.A (.compStart (.ListComp elt [⟨.Name x px,iter,[],0⟩] scope pos) 0 (.ref it) x0 { M with scope:=relabel scope X.env }) (RR x0 M.locals) z0) E y0) E d:=by
 refine wpAny_newObj_type ?_ (by show 0<=sizeLine;exact aR _);have hD:H d.heap.objs.size=none:=I.hok.fresh (aA _);have I3:=I.lnew (ys:=[]) (its:=[]) (t':=d.toks) .nil (aR _);generalize P:({ d with heap:=d.heap.push { cls:=.type "list",data:=.seq ([]:List Value).toArray },toks:=d.toks }:Shared)=f at I3;have v1:f.heap.objs.size=d.heap.objs.size+1:=by rw[<-P];exact Heap.size_push ..
 have u0:∀b o,d.heap.get? b=some o->f.heap.get? b=some o:=λb o e=>by rw[<-P];exact Heap.get?_push_of_some _ e
 have j0:∀b∈h,df X a (upd H d.heap.objs.size (.lst [])) b:=λb j=>by
  obtain⟨f0,r⟩:=hf b j;refine⟨?_,r⟩;obtain⟨o,e,_⟩:=T.obj 0 _ st b j;rw[aC (dj (Heap.lt_size e))];exact f0
 have j1:∀b∈h,b<d.heap.objs.size:=λb j=>by
  obtain⟨o,e,_⟩:=T.obj 0 _ st b j;exact Heap.lt_size e
 have k1:Z 0 f.heap:=T.keep 0 _ _ st λb _ o e=>u0 b o e;obtain⟨W,⟨m0,w0⟩,k0⟩:=rd _ hD;refine wpAny_newFunctionEnv B.nocell (by intro y hy;simp at hy) (λk F G=>?_) B.kind;have n0:∀b∈h,b≠f.heap.objs.size:=λb j=>dj #v[v1,oO (j1 b j)];have x1:∀b o,f.heap.get? b=some o->k.get? b=some o:=λb o e=>G.extBut b o (dj (Heap.lt_size e)) (Heap.get?_push_of_some _ e);generalize R:({ f with heap:=k,toks:=f.toks+([]:List (Str×Value)).length }:Shared)=s4;have h4:s4.heap=k:=by rw[<-R]
 have I4:Inv (blk X x fv scope cl f.heap.objs.size f (upd H d.heap.objs.size (.lst [])) h) [] (bst fv σ none) (upd H d.heap.objs.size (.lst [])) s4:=
  Eh B I3 j0 rfl n0 (by rw[<-R]) (by rw[<-R]) (λb o e=>#v[h4,x1 b o e]) #v[h4,F]
 have y1:Z 0 s4.heap:=by rw[h4];exact T.keep 0 _ _ k1 λb _ o e=>x1 b o e
 have t:∀{g:Hp},(∀b∈h,g b=none)->∀b∈h,df (blk X x fv scope cl f.heap.objs.size f (upd H d.heap.objs.size (.lst [])) h) [] g b:=λ{g} hn b j=>by
  obtain⟨_,f1,f2,f3,f4,f5⟩:=hf b j;refine⟨hn b j,n0 b j,λz=>?_,.inl j,λy c e=>f4 y c (B.sub y c e),λp hp=>absurd (show p∈([]:aF) from hp) (by simp)⟩;rcases bj.mp (I.stkSub b z) with q|q
  ·exact f1 q
  ·exact f2 q
 have O:codeAny (model X.prog X.w) X.A (.compLoop (.ListComp elt [⟨.Name x px,iter,[],0⟩] scope pos) 0 (.ref it) (.ref d.heap.objs.size) (compEnvC scope cl f.heap.objs.size X.env)) (RR (.ref d.heap.objs.size) f.heap.objs.size) s4:=by
  refine zk (λn U=>∃i g o,Inv (blk X x fv scope cl f.heap.objs.size f (upd H d.heap.objs.size (.lst [])) h) [] (bst fv σ o) g U/\Z i U.heap/\(∀b∈h,g b=none)/\W i n g) ?_ m0
   ⟨0,_,none,I4,y1,λb j=>(j0 b j).1,w0⟩
  rintro n s5 E' ⟨i,H5,o5,I5,st5,fr5,w5⟩
  rcases k0 i n H5 w5 with ⟨stop,q⟩|⟨go,N,hN,step⟩
  ·refine thn (T.done (blk X x fv scope cl f.heap.objs.size f (upd H d.heap.objs.size (.lst [])) h) rfl rfl rfl hc i [] s5 _ H5 _ I5 (t fr5) st5 stop) λr s6 L=>?_;obtain⟨hr,Y⟩:=L;subst hr;obtain⟨m6,g1,_⟩:=Y.loc;have J6:Inv X a σ H5 s6:=qm I Y.hok Y.bare hD u0 Y.base (Y.os.trans (by rw[<-P])) hf;refine u1 _ _ s6 H5 m6 J6 ?_ g1 q;exact I3.fpOk (aA _) Y.free
  ·refine thn (T.item (blk X x fv scope cl f.heap.objs.size f (upd H d.heap.objs.size (.lst [])) h) rfl rfl rfl hc i [] s5 _ H5 _ I5 (t fr5) st5 go) λr s6 L=>?_;obtain⟨u,hr,h6⟩:=L;subst hr;refine thn h6 λ_ s7 L=>?_;obtain⟨v,H7,I7,r7,y7,z1,m1⟩:=L;have n1:=I7.pinned (t m1) (T.obj _ _ z1);refine Ei B n1 r7 λs8 I8=>?_;have e8:=he _ _ _ _ _ s8 _ H7 _ I8 (step v H7 y7);refine wpAny_mono e8 (λy s9 L=>?_) λ_ _ z=>False.elim z;obtain⟨yv,H9,I9,r9,ys,x2,hz,n9⟩:=L;have a9:=qo (E':=E') T (λ_ _ z=>z) z1 I9 r9 x2 hz n9 hN;refine wpAny_mono a9 (λ_ j2 L=>?_) λ_ _ z=>z;obtain⟨S,hm,y2,z2,u2,v2,w9⟩:=L;exact⟨S,hm,i+1,y2,_,z2,u2,v2,w9⟩
 exact codeAny_compStart_list O (T.self _ 0 _ _ _ y1 O)
end
section
variable {X:Cx}{elt iter:Expr}{x:Str}{px:Pos}{fv:List (Nat×Str)}{scope:Scope}{cl:List (Str×Addr)}{pos:Pos}{te:TE}{wi:TI}
theorem fo (i:X.calm=true)(B:BlkOk X x fv scope cl)(hi:PI X (.Name x px) iter wi)(j:∀C s H g,PE (blk X x fv scope cl C s H g) elt te)(hs:∀v,foldedSetIterable iter X.env v=pure v:=by intro _;rfl):PE X (.ListComp elt [⟨.Name x px,iter,[],0⟩] scope pos) (m_ fv wi te):=by
 intro a s σ H Q I h;rw[eval_ListComp];refine wpAny_comprehension_free (use:=none) rfl hs B.clos B.kind B.names (thn (hi a s σ H _ I h) λv O k=>thn k λm P n=>?_);obtain⟨it,g,R,J,S,e,p,T,d,r,t⟩:=n;subst e;refine Ej (RR:=λf C=>compPost (model X.prog X.w) X.A X.xe none (EP X a σ Q) f C) i B j p T d r t ?_;intro D C u y z F c G q;exact⟨z,G,λU L=>⟨.ref D,y,F.turned (t':=u.toks) (λb o M e=>(L.2 b M).trans e) c.1 c.2.1 c.2.2.2.1 c.2.2.2.2.1 c.2.2.2.2.2,rfl,q⟩⟩
theorem js {i:Nat}{y:Str}{g d:Pos}(M:X.calm=true)(B:BlkOk X x fv scope cl)(hi:PI X (.Name x px) iter wi)(O:∀C s H G,PE (blk X x fv scope cl C s H G) elt te)(P:X.N.Nodup)(k:X.N[i]?=some y)(hy:X.env.scope.names.lookup y=some .local)(m:swapsWith (.ListComp elt [⟨.Name x px,iter,[],0⟩] scope pos) (some (.Name y g)) d.line X.env=pure true:=by rfl)(hs:∀v,foldedSetIterable iter X.env v=pure v:=by intro _;rfl):
  PS X (.Assign [.Name y g] (.ListComp elt [⟨.Name x px,iter,[],0⟩] scope pos) d) (jW (m_ fv wi te) (gn i)):=by
 intro c s σ H D I h;rw[exec_Assign_Name_used _ _ _ _ m];refine wpAny_bind (wpAny_standAt (wpAny_bind ?_));show wpAny _ X.A (do let _ <-comprehension (.ListComp elt [⟨.Name x px,iter,[],0⟩] scope pos) scope X.env _ (newList []) false (eval iter X.env) (some (assign (.Name y g) X.env))) _ _ s;refine wpAny_bind (wpAny_mono (wpAny_comprehension_free (use:=some (assign (.Name y g) X.env)) (Q:=λ_ j=>SP X c D .next j) rfl hs B.clos B.kind B.names
  (thn (hi c s σ H _ I h) λv s1 R=>thn R λS s2 U=>?_)) (λ_ j Y=>wpAny_pure (wpAny_pure Y)) λ_ _ e=>e)
 obtain⟨it,G,tn,J,H2,e,Z,T,n,f2,rd⟩:=U;subst e;refine Ej (Q:=λx H1=>gn i x σ H1 D.nx) (RR:=λp C=>compPost (model X.prog X.w) X.A X.xe (some (assign (.Name y g) X.env)) (λ_ j=>SP X c D .next j) p C) M B O Z T n f2 rd ?_;intro L C j H' m' I' f hn q;show wpAny _ X.A (assign (.Name y g) X.env (.ref L)) _ _ _;refine wpAny_assign_Name (mR I' P k (.inl hy) (v:=.ref L) rfl (λr t u=>?_) (.inr hy));obtain⟨a,sb,ha⟩:=u;have z:C≠a:=by
  rcases ha with rfl|e
  ·exact f.2.1
  ·exact Ne.symm (f.2.2.2.2.1 _ _ e)
 exact⟨m',hn.sameBut sb z,λh' F=>⟨_,H',t.turned (t':=r.toks) (λb o hb e=>(F.2 b hb).trans e) f.1 f.2.1 f.2.2.2.1 f.2.2.2.2.1 f.2.2.2.2.2,q⟩⟩
end
def ka (lo c:Int)(n:Nat):It:=⟨λi _=>i<n,λi H x H'=>H'=H/\x=.int (lo+i*c),λi _=>n<=i⟩
theorem K4 {P:Program}{w:World}{K:ap}{D:Expr}(it:Addr)(lo c:Int)(n:Nat):Turn P w K D (ka lo c n) [it] it (λi h=>IsRangeIter h it (lo+(i:Nat)*c) ((n:Int)-(i:Nat)) c) where
 mem:=by simp
 obj:=λi h st b d=>by
  have e:b=it:=by simpa using d
  subst e;exact⟨_,st,λv z=>by
   have F:Data.fields _=Data.cell v:=z
   cases F⟩
 keep:=λi h g st k=>k it (by simp) _ st
 item:=by
  intro X hP m hK p i a s σ H E I j st q;subst hP m hK;obtain⟨r,u,G,x,y,B⟩:=j it (by simp);have W:=Walks.range (prog:=X.prog) (w:=X.w) (I.ok.hd p) it lo c n;refine W.item i s _ _ q st λv g C J f kk=>?_;obtain⟨t,rfl⟩:=J;have L:Inv X a σ H { s with heap:=g,toks:=C }:=I.turned (λb o d e=>kk b o (⇑d) e) r u x y B;exact⟨_,rfl,qd (s:={ s with heap:=g,toks:=C }) (n := "range_iterator") f rfl rfl () ⟨.int (lo+i*c),H,L,⟨t,rfl⟩,⟨rfl,rfl⟩,f,λb d=>(j b d).1⟩⟩
 done:=by
  intro X hP m hK p i a s σ H E I j st q;subst hP m hK;obtain⟨r,u,G,x,y,B⟩:=j it (by simp);exact wpAny_pyNext_range_end (I.ok.hd p) st (by have:n<=i:=q;omega) λg M=>⟨rfl,I.turned (t':=s.toks) (λb o d e=>M b o d e) r u x y B⟩
 self:=λ_ _ _ _ _ st h=>wpAny_pyIter_rangeiter st h
section
variable {X:Cx}{tg:Expr}
def Ek (ta:TA):TI:=λσ H R=>ta σ H λvs H1=>∃(i j k:Int)(n:Nat),vs=[.int i,.int j,.int k]/\k≠0/\k.natAbs<1073741824/\Builtin.Range.small i j k=true/\Builtin.Range.rangeSize i j k=n/\R (ka i k n) H1
theorem qp {a b c:Expr}{z:TA}{p pos:Pos}(C:Gl X "range")(D:X.mg "range" = none)(F:PA X [a,b,c] z)(hs:starEach [a,b,c] X.env=[(false,eval a X.env),(false,eval b X.env),(false,eval c X.env)]:=by rfl)(m:starEach [b,c] X.env=[(false,eval b X.env),(false,eval c X.env)]:=by rfl):PI X tg (.Call (.Name "range" p) [a,b,c] [] pos) (Ek z):=by
 intro f s σ H R I h;refine Call_ (im I C D boot_range (PyProof.Rows.callWith_type1 (thn (F pos f s σ H _ I h) λT g G=>?_) (by rw[hs,m]) (by rw[m];rfl)));obtain⟨U,B,J,L,M⟩:=G;obtain⟨i,j,k,n,e,hk,u,x,O,q⟩:=M;subst e
 cases L with
 | cons r rr=>
  cases rr with
  | cons r' rr=>
   cases rr with
   | cons r'' rr=>
    cases rr
    obtain⟨t,rfl⟩:=r;obtain⟨t',rfl⟩:=r';obtain⟨d,rfl⟩:=r'';refine call_range_3 hk ?_ (.inl (PyProof.noPylong_small u));refine wpAny_pyIter_range (IsRange.new ..) x ?_;have y:Inv X f σ B { g with heap:=g.heap.push { cls:=.type "range",data:=.fields #[.int i t,.int j t',.int k d] },toks:=g.toks }:=J.kept λb o e=>Heap.get?_push_of_some _ e;refine⟨(g.heap.push { cls:=.type "range",data:=.fields #[.int i t,.int j t',.int k d] }).objs.size,[(g.heap.push { cls:=.type "range",data:=.fields #[.int i t,.int j t',.int k d] }).objs.size],_,_,B,rfl,
     y.kept (t':=g.toks) λb o e=>Heap.get?_push_of_some _ e,K4 _ i k n,?_,λb P=>?_,q⟩
    ·have Q:i+((0:Nat):Int)*k=i:=by simp
     have S:((n:Nat):Int)-((0:Nat):Int)=Builtin.Range.rangeSize i j k:=by rw[O];simp
     show IsRangeIter _ _ (i+((0:Nat):Int)*k) (((n:Nat):Int)-((0:Nat):Int)) k;rw[Q,S];exact Heap.get?_push_size _ rfl
    ·have e:b=(g.heap.push { cls:=.type "range",data:=.fields #[.int i t,.int j t',.int k d] }).objs.size:=by simpa using P
     subst e;exact y.fpOk (aA _) (y.hok.fresh (aA _))
end
theorem K5 {lo c:Int}{n:Nat}{g:TG}{tb:TS}{D:Ends}{σ:St}{H:Hp}(a:Nat->St->Hp->Prop)(k:a 0 σ H)(hs:∀i σ H,i<n->a i σ H->g (.int (lo+i*c)) σ H λb h=>tb { D with nx:=a (i+1),ct:=a (i+1),bk:=D.nx } b h)(hd:∀σ H,a n σ H->D.nx σ H):
  ∃W:Nat->Nat->St->Hp->Prop,(∃m,W 0 m σ H)/\∀i m σ H,W i m σ H->
   ((ka lo c n).stop i H/\D.nx σ H)\/((ka lo c n).go i H/\∃N:d9,(∀d f,N d f->∃j,j<m/\W (i+1) j d f)/\∀x f,(ka lo c n).yld i H x f->g x σ f λb h=>tb { D with nx:=N,ct:=N,bk:=D.nx } b h):=by
 refine⟨λi m σ H=>m=n-i/\i<=n/\a i σ H,⟨n,by simp,aR _,k⟩,?_⟩
 rintro i m σ H ⟨rfl,hi,p⟩
 by_cases hlt:i<n
 ·refine .inr ⟨hlt,a (i+1),λd f o=>⟨n-(i+1),(),rfl,hlt,o⟩,λx f y=>?_⟩;obtain⟨e,y⟩:=y;subst e y;exact hs i σ _ hlt p
 ·have e:i=n:=by omega
  subst e;exact .inl ⟨aA _,hd σ H p⟩
theorem K6 {K:ap}{a:Addr}{xs:List V}{g:List (Nat×Str)}{h:TE}{Q:VK}{σ:St}{j:Hp}{D:Addr}(b:cx)(n:b 0 (upd j D (.lst [])))(o:∀i H,i<=xs.length->b i H->SqL K H a xs)(hs:∀i v H,xs[i]?=some v->b i H->h (bst g σ (some v)) H λy f=>∃c,f D=some (.lst c)/\c.length<sizeLine/\b (i+1) (upd f D (.lst (c++[y]))))(hd:∀H,b xs.length H->Q (.ref D) H):
  ∃W:Nat->Nat->Hp->Prop,(∃m,W 0 m (upd j D (.lst [])))/\∀i m H,W i m H->
   ((Itl K a).stop i H/\Q (.ref D) H)\/((Itl K a).go i H/\∃N:Hp->Prop,(∀d,N d->∃k,k<m/\W (i+1) k d)/\∀v d,(Itl K a).yld i H v d->h (bst g σ (some v)) d λy f=>∃c,f D=some (.lst c)/\c.length<sizeLine/\N (upd f D (.lst (c++[y])))):=by
 refine⟨λi m H=>m=xs.length-i/\i<=xs.length/\b i H,⟨xs.length,by simp,aR _,n⟩,?_⟩
 rintro i m H ⟨rfl,hi,p⟩
 have q:=o i H hi p;by_cases hlt:i<xs.length
 ·refine .inr ⟨⟨xs,xs[i],q,ao hlt⟩,b (i+1),λd r=>⟨xs.length-(i+1),(),rfl,hlt,r⟩,λv d y=>?_⟩;obtain⟨e,y⟩:=y;subst e;exact hs i v _ (y xs q) p
 ·have e:i=xs.length:=by omega
  subst e;exact .inl ⟨⟨xs,q,aA _⟩,hd H p⟩
theorem K7 {lo:Int}{n:Nat}{f:List (Nat×Str)}{g:TE}{Q:VK}{σ:St}{h:Hp}{D:Addr}(c:cx)(k:c 0 (upd h D (.lst [])))(hs:∀i H,i<n->c i H->g (bst f σ (some (.int (lo+i)))) H λy d=>∃a,d D=some (.lst a)/\a.length<sizeLine/\c (i+1) (upd d D (.lst (a++[y]))))(hd:∀H,c n H->Q (.ref D) H):
  ∃W:Nat->Nat->Hp->Prop,(∃m,W 0 m (upd h D (.lst [])))/\∀i m H,W i m H->
   ((Itr lo n).stop i H/\Q (.ref D) H)\/((Itr lo n).go i H/\∃N:Hp->Prop,(∀b,N b->∃j,j<m/\W (i+1) j b)/\∀v b,(Itr lo n).yld i H v b->g (bst f σ (some v)) b λy d=>∃a,d D=some (.lst a)/\a.length<sizeLine/\N (upd d D (.lst (a++[y])))):=by
 refine⟨λi m H=>m=n-i/\i<=n/\c i H,⟨n,by simp,aR _,k⟩,?_⟩
 rintro i m H ⟨rfl,hi,p⟩
 by_cases hlt:i<n
 ·refine .inr ⟨hlt,c (i+1),λb o=>⟨n-(i+1),(),rfl,hlt,o⟩,λv b y=>?_⟩;obtain⟨e,y⟩:=y;subst e y;exact hs i _ hlt p
 ·have e:i=n:=by omega
  subst e;exact .inl ⟨aA _,hd H p⟩
theorem cK {a:List (Str×Addr)}:∀y c,([]:List (Str×Addr)).lookup y=some c->a.lookup y=some c:=λ_ _ h=>nomatch h
theorem dQ {n:Str}{b:Addr}{r a:List (Str×Addr)}(d:a.lookup n=some b)(h:∀y c,r.lookup y=some c->a.lookup y=some c):∀y c,((n,b) :: r).lookup y=some c->a.lookup y=some c:=λy c q=>by
 rw[Bf]at q
 cases e:y == n with
 | true=>
  rw[e]at q
  cases q
  rw[eq_of_beq e];exact d
 | false=>
  rw[e]at q;exact h y c q
theorem zn {l:List (Str×NameKind)}{cl:List (Str×Addr)}(h:(l.all λp=>(p.2 != .cell && p.2 != .free) || (cl.lookup p.1).isSome)=true):∀y,(l.lookup y=some .cell\/l.lookup y=some .free)->∃c,cl.lookup y=some c:=λy hy=>by
 have a:∀k,l.lookup y=some k->(k=.cell\/k=.free)->∃c,cl.lookup y=some c:=λk e hk=>by
  have q:=List.all_eq_true.mp h (y,k) (PySem.mem_of_lookup e);have z:(k != .cell && k != .free)=false:=by rcases hk with rfl|rfl <;> rfl
  rw[show ((y,k).2 != .cell && (y,k).2 != .free)=false from z,Bool.false_or]at q;exact Qo.mp q
 rcases hy with e|e
 ·exact a _ e (.inl rfl)
 ·exact a _ e (.inr rfl)
def ni (X:Cx)(x:Str)(scope:Scope)(cl:List (Str×Addr))(fv:List (Nat×Str)):Prop:=
 ∀p∈fv,p.2≠x/\X.N[p.1]?=some p.2/\(X.env.scope.names.lookup p.2=some .cell\/X.env.scope.names.lookup p.2=some .free)/\
  ((relabel scope X.env).names.lookup p.2=some .cell\/(relabel scope X.env).names.lookup p.2=some .free)/\∃c,cl.lookup p.2=some c
theorem dg {X:Cx}{x:Str}{a:Scope}{cl:List (Str×Addr)}:ni X x a cl []:=λ_ h=>nomatch h
theorem fc {X:Cx}{x:Str}{a:Scope}{cl:List (Str×Addr)}{d:List (Nat×Str)}(i:Nat)(y:Str)(e:y≠x)(f:X.N[i]?=some y)(g:X.env.scope.names.lookup y=some .cell\/X.env.scope.names.lookup y=some .free)(h:(relabel a X.env).names.lookup y=some .cell\/(relabel a X.env).names.lookup y=some .free)(j:∃c,cl.lookup y=some c)(r:ni X x a cl d):ni X x a cl ((i,y) :: d):=λp b=>by
 rcases bj.mp b with rfl|b
 ·exact⟨e,f,g,h,j⟩
 ·exact r p b
theorem dC {X:Cx}{x:Str}{b:List (Nat×Str)}{a:Scope}{cl:List (Str×Addr)}(clos:closureFor a X.env=pure cl)(sub:∀y c,cl.lookup y=some c->X.env.cells.lookup y=some c)(fvs:ni X x a cl b)(kind:a.kind=.function:=by rfl)(here:a.names.lookup x=some .local:=by rfl)(nocell:∀y∈a.names,y.2≠.cell:=by decide +kernel)(names:∀y∈a.names,y.2=.local->a.names.lookup y.1=some .local:=by decide +kernel)(has:((relabel a X.env).names.all λp=>(p.2 != .cell && p.2 != .free) || (cl.lookup p.1).isSome)=true:=by rfl):BlkOk X x b a cl:=
 ⟨clos,nocell,kind,names,here,sub,zn has,fvs⟩
section
variable {X:Cx}
theorem qq:gq X (.builtin "isinstance") (λa H Q=>∃x n t b,a=[x,.ty n]/\TyOf X.K H x t/\PySem.W.kitOne X.K t (.type n)=some b/\Q (.bl b) H):=by
 intro c s σ H a g Q I d h;obtain⟨x,n,t,b,rfl,f,e,q⟩:=h
 cases d with
 | cons r rr=>
  cases rr with
  | cons r' rr=>
   cases rr
   cases r'
   exact Kw I r f e λi=>⟨.bl b,H,I.tok _,rfl,q⟩
theorem El:MtR X "int.bit_length" (λx a H Q=>∃i,x=.int i/\a=[]/\Q (.int (Builtin.Int.intBits i:Nat)) H):=by
 intro b s σ H x a v e Q I c d h;obtain⟨i,rfl,rfl,q⟩:=h
 cases d
 obtain⟨t,rfl⟩:=c;exact call_gives F.slot_int_bit_length (typeIs_int s i t) F.entry_int_bit_length (F.args_int_bit_length_1 _) (PySem.AutoIntG2.int_bit_length_int_0 i t) ⟨.int _,H,I.tok _,⟨_,rfl⟩,q⟩
end
theorem zo {i:Int}{k:Nat}(h:i.natAbs<2 ^ k):Builtin.Int.intBits i<=k:=by
 unfold Builtin.Int.intBits
 split
 ·exact aR _
 ·rename_i a;have b:i≠0:=by simpa using a
  have:i.natAbs.log2<k:=(IS ()).mpr h;omega
theorem K8 {i j:Int}{k l:Nat}(a:i.natAbs<2 ^ k)(b:j.natAbs<2 ^ l)(h:k+l<=134217728):IntMulOk i j:=IntMulOk.of_le (zo a) (zo b) h
theorem jt {X:Cx}:OpR X (binaryOp .FloorDiv) (rI (λ_ j=>j≠0/\j.natAbs<2 ^ 9000) λi j=>.int (i.fdiv j)):=
 opI λ_ j _ _ _ _ _ a q=>floordiv_int a.1 q (.inl (PyProof.noPylong_of_log2 ((IS (by have:=a.1;omega)).mpr a.2)))
section
variable {σ:St}{H:Hp}{Q:VK}{D:Ends}{t u:TS}{te ta tb tc to ti:TE}{tt:TT}{tA:TA}{i:Nat}{x y v:V}{r r':R2}{QT:Bool->Hp->Prop}{QA:List V->Hp->Prop}
theorem zp:jl t u D σ H=t { D with nx:=u D } σ H:=rfl
theorem qr:C5 D σ H=D.nx σ H:=rfl
theorem qt:C6 D σ H=D.ct σ H:=rfl
theorem qu:C7 te D σ H=te σ H λ_ a=>D.nx σ a:=rfl
theorem qx:C8 te D σ H=te σ H D.rt:=rfl
theorem qy:C9 tt t u D σ H=tt σ H λb a=>if b=true then t D σ a else u D σ a:=rfl
theorem qz {g:TG}:jW te g D σ H=te σ H λx a=>g x σ a D.nx:=rfl
theorem qA {Q:d9}:gn i v σ H Q=Q (σ.set i (some v)) H:=rfl
theorem qB {a:jV}{Q:d9}:C_ to ti a v σ H Q=to σ H λo b=>ti σ b λi c=>a o i v c λd=>Q σ d:=rfl
theorem qC {K:ap}{n:Nat}{c:TGs}{Q:d9}:yV K n c v σ H Q=∃a b,v=.ref a/\SqT K H a b/\b.length=n/\c b σ H Q:=rfl
theorem qD {vs:List V}{Q:d9}:yU vs σ H Q=(vs=[]/\Q σ H):=rfl
theorem qE {g:TG}{b:TGs}{vs:List V}{Q:d9}:p4 g b vs σ H Q=∃v r,vs=v :: r/\g v σ H λa c=>b r a c Q:=rfl
theorem qF {a:TIp}:Da i te a D σ H=∃x,σ[i]?=some (some x)/\te σ H λy b=>a x y b λz c=>D.nx (σ.set i (some z)) c:=rfl
theorem qG {a:V->V->Hp->VK->Prop}{c:TIp}{b:jV}:Dd to ti te a c b D σ H=to σ H λo d=>ti σ d λi e=>a o i e λx f=>te σ f λy g=>c x y g λz h=>b o i z h λj=>D.nx σ j:=rfl
theorem qH {f:Int->Int->Int}:ipI f x y H Q=∃i j,x=.int i/\y=.int j/\Q (.int (f i j)) H:=rfl
theorem qI:yO i σ H Q=∃v,σ[i]?=some (some v)/\Q v H:=rfl
theorem a_c:tC v σ H Q=Q v H:=rfl
theorem qJ:tOp r ta tb σ H Q=ta σ H λx a=>tb σ a λy b=>r x y b Q:=rfl
theorem qK {r:V->Hp->VK->Prop}:tUn r ta σ H Q=ta σ H λx a=>r x a Q:=rfl
theorem qL {C:Int->Int->Prop}{g:Int->Int->V}:rI C g x y H Q=∃i j,x=.int i/\y=.int j/\C i j/\Q (g i j) H:=rfl
theorem qM {g:Int->Int->V}:rI0 g x y H Q=∃i j,x=.int i/\y=.int j/\Q (g i j) H:=rfl
theorem qN {g:Int->V}:rU g x H Q=∃i,x=.int i/\Q (g i) H:=rfl
theorem qO {i j:Int}:rEq (.int i) (.int j) H Q=Q (.bl (decide (i=j))) H:=by
 show (true=true/\Q (.bl (decide (V.int i=V.int j))) H)=_;rw[show decide (V.int i=V.int j)=decide (i=j) by rw[qf];exact Bool.beq_eq_decide_eq i j];simp
theorem qP {i j:Int}:rNe (.int i) (.int j) H Q=Q (.bl (!decide (i=j))) H:=by
 show (true=true/\Q (.bl (!decide (V.int i=V.int j))) H)=_;rw[show decide (V.int i=V.int j)=decide (i=j) by rw[qf];exact Bool.beq_eq_decide_eq i j];simp
theorem qQ {i j:Bool}:rEq (.bl i) (.bl j) H Q=Q (.bl (decide (i=j))) H:=by
 show (true=true/\Q (.bl (decide (V.bl i=V.bl j))) H)=_
 cases i <;> cases j <;> simp
theorem qR {i j:Bool}:rNe (.bl i) (.bl j) H Q=Q (.bl (!decide (i=j))) H:=by
 show (true=true/\Q (.bl (!decide (V.bl i=V.bl j))) H)=_
 cases i <;> cases j <;> simp
theorem qS:tB te σ H QT=te σ H λx a=>∃c,x=.bl c/\QT c a:=rfl
theorem qT:Du te σ H QT=te σ H λx a=>∃k,x=.bl k/\QT k a:=rfl
theorem qU {a:TT}:C1 tt a σ H QT=tt σ H λc b=>if c=true then a σ b QT else QT false b:=rfl
theorem qV {a:TT}:tOr tt a σ H QT=tt σ H λc b=>if c=true then QT true b else a σ b QT:=rfl
theorem qW:C2 tt σ H QT=tt σ H λc a=>QT (!c) a:=rfl
theorem qX:C3 ta tb σ H Q=ta σ H λx a=>∃c,x=.bl c/\if c=true then tb σ a Q else Q (.bl false) a:=rfl
theorem qY:C4 ta tb σ H Q=ta σ H λx a=>∃c,x=.bl c/\if c=true then Q (.bl true) a else tb σ a Q:=rfl
theorem qZ:tIf tt ta tb σ H Q=tt σ H λc a=>if c=true then ta σ a Q else tb σ a Q:=rfl
theorem q8:zc σ H QA=QA [] H:=rfl
theorem q9:zd ta tA σ H QA=ta σ H λx a=>tA σ a λb c=>QA (x :: b) c:=rfl
theorem q_:DH tA σ H Q=tA σ H λa b=>a.length<=sizeLine/\∀p,b p=none->Q (.ref p) (upd b p (.lst a)):=rfl
theorem ra:DG tA σ H Q=tA σ H λa b=>a.length<=sizeLine/\∀p,b p=none->Q (.ref p) (upd b p (.tup a)):=rfl
theorem re {sp:Sp}{a:List V}{E:XK}:DI sp a E tA σ H Q=tA σ H λb c=>sp (b++a) c Q E:=rfl
theorem rf {r:List V->Hp->VK->Prop}:tCB r tA σ H Q=tA σ H λa b=>r a b Q:=rfl
theorem rg {K:ap}{T:String}{r:V->List V->Hp->VK->Prop}:D7 K T r to σ H Q=to σ H λx a=>tyV K T x a/\r x [] a Q:=rfl
theorem rh {K:ap}{T:String}{r:V->List V->Hp->VK->Prop}:tBM K T r to tA σ H Q=to σ H λx a=>tyV K T x a/\tA σ a λb c=>r x b c Q:=rfl
theorem rj {r:V->Option Int->Option Int->Hp->VK->Prop}{a b:TO}:tSl r te a b σ H Q=te σ H λx c=>a σ c λl d=>b σ d λu e=>r x l u e Q:=rfl
theorem rl {Q:Option Int->Hp->Prop}:DS σ H Q=Q none H:=rfl
theorem rm {Q:Option Int->Hp->Prop}:DT te σ H Q=te σ H λx a=>∃i,x=.int i/\Q (some i) a:=rfl
theorem rn {K:ap}{T:String}{i:Int}:tyV K T (.int i) H=(T = "int"):=rfl
theorem fO {K:ap}{p:Addr}{xs:List V}(h:SqL K H p xs):tyV K "list" (.ref p) H:=.inl ⟨rfl,xs,h⟩
end
def ju (J:It)(g:TG)(tb:TS)(D:Ends)(σ:St)(H:Hp):Prop:=∃W:Nat->Nat->St->Hp->Prop,(∃m,W 0 m σ H)/\∀i m σ H,W i m σ H->
 (J.stop i H/\D.nx σ H)\/(J.go i H/\∃N:d9,(∀σ' H',N σ' H'->∃m',m'<m/\W (i+1) m' σ' H')/\∀x H',J.yld i H x H'->g x σ H' λσ2 H2=>tb { D with nx:=N,ct:=N,bk:=D.nx } σ2 H2)
theorem ro {a:TI}{g:TG}{tb:TS}{D:Ends}{σ:St}{H:Hp}:Dk a g tb D σ H=a σ H λJ b=>ju J g tb D σ b:=rfl
def jv (J:It)(fv:List (Nat×Str))(te:TE)(Q:VK)(σ:St)(H1:Hp)(D:Addr):Prop:=∃W:Nat->Nat->Hp->Prop,(∃m,W 0 m (upd H1 D (.lst [])))/\∀i m H,W i m H->
 (J.stop i H/\Q (.ref D) H)\/(J.go i H/\∃N:Hp->Prop,(∀H',N H'->∃m',m'<m/\W (i+1) m' H')/\∀v H',J.yld i H v H'->te (bst fv σ (some v)) H' λy H2=>∃ys,H2 D=some (.lst ys)/\ys.length<sizeLine/\N (upd H2 D (.lst (ys++[y]))))
theorem rp {a:List (Nat×Str)}{b:TI}{c:TE}{σ:St}{H:Hp}{Q:VK}:m_ a b c σ H Q=b σ H λJ d=>∀D,d D=none->jv J a c Q σ d D:=rfl
theorem rq {K:ap}{b:TE}{σ:St}{H:Hp}{R:It->Hp->Prop}:yY K b σ H R=b σ H λx c=>∃a,x=.ref a/\(∃d,SqL K c a d)/\R (Itl K a) c:=rfl
theorem ry {a:TA}{σ:St}{H:Hp}{R:It->Hp->Prop}:Dh a σ H R=a σ H λb c=>∃j:Int,b=[.int j]/\-(2 ^ 62)<=j/\j<2 ^ 62/\R (Itr 0 j.toNat) c:=rfl
theorem rA {a:TA}{σ:St}{H:Hp}{R:It->Hp->Prop}:Di a σ H R=a σ H λb c=>∃i j:Int,b=[.int i,.int j]/\(-(2 ^ 62)<=i/\i<2 ^ 62/\-(2 ^ 62)<=j/\j<2 ^ 62)/\R (Itr i (j-i).toNat) c:=rfl
theorem rB {a:TA}{σ:St}{H:Hp}{R:It->Hp->Prop}:Ek a σ H R=a σ H λb c=>∃(i j k:Int)(n:Nat),b=[.int i,.int j,.int k]/\k≠0/\k.natAbs<1073741824/\Builtin.Range.small i j k=true/\Builtin.Range.rangeSize i j k=n/\R (ka i k n) c:=rfl
theorem gU {c:TT}{tb:TS}{D:Ends}{σ:St}{H:Hp}(d:Nat->St->Hp->Prop)(m:Nat)(h:d m σ H)(hs:∀m σ H,d m σ H->c σ H λb e=>if b=true then ∃N:d9,(∀a f,N a f->∃g,g<m/\d g a f)/\tb { D with nx:=N,ct:=N,bk:=D.nx } σ e else D.nx σ e):Df c tb D σ H:=⟨d,⟨m,h⟩,hs⟩
section
variable {σ:St}{H:Hp}{Q:VK}{x y v:V}{K:ap}
theorem rC {lo hi:Option Int}:DZ K x lo hi H Q=∃a b,x=.ref a/\SqL K H a b/\∀p,H p=none->Q (.ref p) (upd H p (.lst (eQ b lo hi))):=rfl
theorem rD:ql K x y H Q=∃p a i v,x=.ref p/\y=.int i/\SqL K H p a/\atI a i=some v/\Q v H:=rfl
theorem rE:DX K x y H Q=∃p a i v,x=.ref p/\y=.int i/\SqT K H p a/\atI a i=some v/\Q v H:=rfl
theorem rF {Q:Hp->Prop}:DY x y v H Q=∃p a k j,x=.ref p/\y=.int k/\H p=some (.lst a)/\ixN a.length k=some j/\Q (upd H p (.lst (a.set j v))):=rfl
theorem rG {vs:List V}:D_ x vs H Q=∃l a y,x=.ref l/\vs=[y]/\H l=some (.lst a)/\a.length<sizeLine/\Q .non (upd H l (.lst (a++[y]))):=rfl
theorem Em (ns:aa)(lo hi:Option Int):eQ (ns.map V.int) lo hi=((ns.drop (HT.sIx ns.length 0 lo)).take (HT.sIx ns.length ns.length hi-HT.sIx ns.length 0 lo)).map V.int:=by
 unfold eQ;rw[af,IT,IU]
end
theorem bE:bootBuiltins "len" = some (.builtin "len"):=by decide +kernel
theorem ke:bootBuiltins "abs" = some (.builtin "abs"):=by decide +kernel
theorem rH:bootBuiltins "isinstance" = some (.builtin "isinstance"):=by decide +kernel
theorem nj:bootBuiltins "min" = some (.builtin "min"):=by decide +kernel
theorem kY:bootBuiltins "max" = some (.builtin "max"):=by decide +kernel
theorem K9:bootBuiltins "int" = some (.type "int"):=by decide +kernel
theorem K_:bootBuiltins "bool" = some (.type "bool"):=by decide +kernel
theorem gX:bootBuiltins "list" = some (.type "list"):=by decide +kernel
def rJ (t u:TS):TS:=λD σ H=>∃M:d9,t { D with nx:=M } σ H/\∀σ' H',M σ' H'->u D σ' H'
theorem f9 {X:Cx}{st:Stmt}{rest:List Stmt}{t u:TS}(d:PS X st t)(e:PSs X rest u):PSs X (st :: rest) (rJ t u):=by
 intro a s σ H D I h;obtain⟨M,h,g⟩:=h;refine wpAny_execs_cons (thn (d a s σ H { D with nx:=M } I h) λf i q=>?_)
 cases f with
 | next=>
  obtain⟨b,c,j,q⟩:=q;exact e a i b c D j (g b c q)
 | ret v=>exact q
 | brk=>exact q
 | cont=>exact q
theorem fP {t u:TS}{D:Ends}{σ:St}{H:Hp}(M:d9)(c:t { D with nx:=M } σ H)(d:∀a b,M a b->u D a b):rJ t u D σ H:=⟨M,c,d⟩
theorem rK {CX:CXT}{P:Program}{w:World}{K:ap}{mg:bh}{base:Heap}{N:List Str}{b:Str}{a:Scope}{f:Addr}{c:Value}{A:Around}{outer:List Env}{s:Shared}{H:Hp}{E:XK}:
  (jZ CX P w K mg base N b a f c A outer s H E).K=K:=rfl
section
variable {K:ap}{a:Addr}{xs:List V}{g:TG}{tb:TS}{D:Ends}{σ:St}{H H1:Hp}{fv:List (Nat×Str)}{te:TE}{Q:VK}{L:Addr}{lo c:Int}{n:Nat}
theorem eE (b:cx)(e:b 0 (upd H1 L (.lst [])))(f:∀i H,i<=xs.length->b i H->SqL K H a xs)(hs:∀i v H,xs[i]?=some v->b i H->te (bst fv σ (some v)) H λy d=>∃c,d L=some (.lst c)/\c.length<sizeLine/\b (i+1) (upd d L (.lst (c++[y]))))(hd:∀H,b xs.length H->Q (.ref L) H):
  jv (Itl K a) fv te Q σ H1 L:=K6 b e f hs hd
theorem rL (a:cx)(d:a 0 (upd H1 L (.lst [])))(hs:∀i H,i<n->a i H->te (bst fv σ (some (.int (lo+i)))) H λy c=>∃b,c L=some (.lst b)/\b.length<sizeLine/\a (i+1) (upd c L (.lst (b++[y]))))(hd:∀H,a n H->Q (.ref L) H):
  jv (Itr lo n) fv te Q σ H1 L:=K7 a d hs hd
theorem iV (b:Nat->St->Hp->Prop)(d:b 0 σ H)(e:∀i σ H,i<=xs.length->b i σ H->SqL K H a xs)(hs:∀i v σ H,xs[i]?=some v->b i σ H->g v σ H λc f=>tb { D with nx:=b (i+1),ct:=b (i+1),bk:=D.nx } c f)(hd:∀σ H,b xs.length σ H->D.nx σ H):ju (Itl K a) g tb D σ H:=Kf b d e hs hd
theorem gY (a:Nat->St->Hp->Prop)(c:a 0 σ H)(hs:∀i σ H,i<n->a i σ H->g (.int (lo+i)) σ H λb d=>tb { D with nx:=a (i+1),ct:=a (i+1),bk:=D.nx } b d)(hd:∀σ H,a n σ H->D.nx σ H):ju (Itr lo n) g tb D σ H:=Kg a c hs hd
theorem nn (a:Nat->St->Hp->Prop)(d:a 0 σ H)(hs:∀i σ H,i<n->a i σ H->g (.int (lo+i*c)) σ H λb e=>tb { D with nx:=a (i+1),ct:=a (i+1),bk:=D.nx } b e)(hd:∀σ H,a n σ H->D.nx σ H):ju (ka lo c n) g tb D σ H:=K5 a d hs hd
theorem Lb {p:Addr}{o:HO}(h:upd H p o L=none):L≠p/\H L=none:=by
 by_cases e:L=p
 ·subst e;rw[ak]at h;cases h
 ·rw[aC e]at h;exact⟨e,h⟩
end
theorem QS {j:Int}(a:0<=j)(b:j<2 ^ 60):Builtin.Range.small 0 j 2=true:=by
 unfold Builtin.Range.small;simp only[Builtin.Range.rangeFitsLong,Builtin.Range.rangeSize,Bool.and_eq_true,Bool.or_eq_true,decide_eq_true_eq,beq_iff_eq,show (2:Int) > 0 by decide,if_true]
 split <;> omega
section
variable {X:Cx}
theorem rM:De X (ql X.K):=by
 intro a s σ H o i D F Q I k m h;obtain⟨p,G,i,z,rfl,rfl,n,u,q⟩:=h
 cases k
 obtain⟨t,rfl⟩:=m;obtain⟨d,r,pl,J⟩:=I.list n;obtain⟨j,c,x,L,y,B⟩:=ze u;obtain⟨w,g,e⟩:=r.get x;have C:=r.length;have M:=mV;have b:EP X a σ Q w s:=⟨z,H,I,e,q⟩
 by_cases h0:0<=i
 ·have f:i.toNat=j:=by
   rw[seqIndex_of h0 B]at c;exact Option.some.inj c
  exact wpAny_getItem_list pl.isList h0 () (by rw[f];simpa using g) b
 ·have f:(i+(d.toArray.size:Int)).toNat=j:=by
   rw[seqIndex_neg () y]at c;rw[dF,<-C];exact Option.some.inj c
  exact wpAny_getItem_list_neg pl.isList () (by rw[dF] <;> omega) () (by rw[f];simpa using g) b
mutual
inductive DV (K:ap) (H:Hp):V->PyData->Prop
 | non:DV K H .non .none
 | bl (b):DV K H (.bl b) (.bool b)
 | int (i):DV K H (.int i) (.int i)
 | str (x):DV K H (.str x) (.str x)
 | lst {a xs ds}:SqL K H a xs->DVs K H xs ds->DV K H (.ref a) (.list ds)
 | tup {a xs ds}:SqT K H a xs->DVs K H xs ds->DV K H (.ref a) (.tuple ds)
inductive DVs (K:ap) (H:Hp):List V->List PyData->Prop
 | nil:DVs K H [] []
 | cons {x xs d ds}:DV K H x d->DVs K H xs ds->DVs K H (x :: xs) (d :: ds)
end
theorem DVs.ints {K:ap}{H:Hp}:∀ns:aa,DVs K H (ns.map V.int) (ns.map PyData.int)
 | []=>.nil
 | n :: r=>.cons (.int n) (DVs.ints r)
theorem DV.ints {K:ap}{H:Hp}{a:Addr}{ns:aa}(h:SqL K H a (ns.map V.int)):DV K H (.ref a) (.list (ns.map PyData.int)):=.lst h (DVs.ints ns)
mutual
theorem DV.reads {a:aF}{σ:St}{H:Hp}{s:Shared}(I:Inv X a σ H s):∀{x:V}{d:PyData}{v:Value},DV X.K H x d->RelV x v->∃as,Reads s.heap v d as
 | _,_,_,.non,r=>by cases r;exact⟨_,.none⟩
 | _,_,_,.bl b,r=>by cases r;exact⟨_,.bool b⟩
 | _,_,_,.int i,r=>by obtain⟨t,rfl⟩:=r;exact⟨_,.int i t⟩
 | _,_,_,.str x,r=>by obtain⟨t,rfl⟩:=r;exact⟨_,.str x t⟩
 | _,_,_,.lst hq hs,r=>by
  cases r
  obtain⟨f,g,⟨o,n,e,c,_,hd⟩,_⟩:=I.list hq;obtain⟨as,h⟩:=DVs.reads I hs g;exact⟨_,.list e c hd (⇑h)⟩
 | _,_,_,.tup hq hs,r=>by
  cases r
  obtain⟨f,g,⟨o,e,c,n,hd⟩,_⟩:=I.tuple hq;obtain⟨as,h⟩:=DVs.reads I hs g;exact⟨_,.tuple e c hd (⇑h)⟩
theorem DVs.reads {a:aF}{σ:St}{H:Hp}{s:Shared}(I:Inv X a σ H s):∀{b:List V}{ds:List PyData}{c:List Value},DVs X.K H b ds->Vals b c->∃as,ReadsAll s.heap c ds as
 | _,_,_,.nil,r=>by cases r;exact⟨_,.nil⟩
 | _,_,_,.cons h t,r=>by
  cases r with
  | cons r1 r2=>
   obtain⟨as,d⟩:=DV.reads I h r1;obtain⟨bs,e⟩:=DVs.reads I t r2;exact⟨_,.cons d e⟩
end
theorem rN (i:X.A.units+64<cLine):OpR X (compareOp .Eq) (λx y H Q=>∃da db,DV X.K H x da/\DV X.K H y db/\da.canLay0=true/\db.canLay0=true/\da.depth<=64/\Q (.bl (PyData.eqv da db)) H):=by
 intro a s σ H x y v u Q I b c h;obtain⟨da,db,hx,hy,d,e,hd,q⟩:=h;obtain⟨as,f⟩:=hx.reads I b;obtain⟨bs,g⟩:=hy.reads I c;exact PySem.SeqAt.eqOverData _ _ _ _ _ _ _ _ _ _ _ _ f g d e () ⟨.bl _,H,I,rfl,q⟩
end
theorem zq:∀a b:aa,PyData.eqvAll (a.map PyData.int) (b.map PyData.int)=decide (a=b)
 | [],[]=>by simp[PyData.eqvAll]
 | [],_ :: _=>by simp[PyData.eqvAll]
 | _ :: _,[]=>by simp[PyData.eqvAll]
 | x :: a,y :: b=>by
  have c:=zq a b;simp only[dY,PyData.eqvAll,PyData.eqv,c];by_cases h:x=y
  ·subst h;simp
  ·simp[h]
theorem zr:∀a:aa,PyData.canLayAll0 (a.map PyData.int)=true
 | []=>rfl
 | _ :: r=>by simp[PyData.canLayAll0,PyData.canLay0,zr r]
theorem zt:∀a:aa,PyData.depthAll (a.map PyData.int)=0
 | []=>rfl
 | _ :: r=>by simp[PyData.depthAll,PyData.depth,zt r]
def Ite (K:ap)(a:Addr):It:=
 ⟨λi H=>∃xs x,SqL K H a xs/\xs[i]?=some x,λi H v H'=>∃p x,H p=none/\v=.ref p/\H'=upd H p (.tup [.int i,x])/\∀xs,SqL K H a xs->xs[i]?=some x,λi H=>∃xs,SqL K H a xs/\xs.length<=i⟩
theorem Lc {P:Program}{w:World}{K:ap}{F:List Expr}{tk:Nat}{tpos:Pos}(a e it:Addr)(G:e≠it):
  Turn P w K (.Tuple F tk tpos) (Ite K a) [e,it] e (λi h=>(∃g,IsEnum h e it i g)/\h.IsListIter it a i) where
 mem:=by simp
 obj:=λi h st b f=>by
  obtain⟨⟨g,j⟩,o,R,c,d⟩:=st;rcases bj.mp f with rfl|f
  ·exact⟨_,j,λv z=>by
    have z':Data.fields _=Data.cell v:=z
    cases z'⟩
  ·rw[aW.mp f];exact⟨o,R,λv z=>by rw[d]at z;cases z⟩
 keep:=λi h h' st k=>by
  obtain⟨⟨g,j⟩,hit⟩:=st;exact⟨⟨g,k e (by simp) _ j⟩,hit.at λo q=>k it (by simp) o q⟩
 item:=by
  intro X hP S hK p i t s σ H E I J st T;subst hP S hK;obtain⟨xs,x,Q,hx⟩:=T;obtain⟨U,Y,pl,hz⟩:=I.list Q;obtain⟨u,hu,ru⟩:=Y.get hx;obtain⟨⟨g,j⟩,hit⟩:=st;have B:=J e (by simp);have C:=J it (by simp);refine wpAny_pyNext_enum_item j hit pl.isList (x:=u) (⇑hu) G λh1 R L hT u0 hk=>?_;refine⟨_,rfl,wpAny_letOwnedTupleGo_enum R λZ x0 y=>?_⟩;have D:H s.heap.objs.size=none:=I.hok.fresh (aA _);have y0:s.heap.objs.size≠e:=IN (Heap.lt_size j);have M:∀b o,b∉[e,it]->s.heap.get? b=some o->Z.get? b=some o:=λb o f q=>
   (y.2 b λz=>f (by simp[z])).trans (hk b o (λz=>f (by simp[z])) (λz=>f (by simp[z])) q)
  have z0:Z.get? s.heap.objs.size=some { cls:=.type "tuple",data:=.seq #[.int i s.toks,u] }:=(y.2 _ y0).trans hT;have O:∀b u,H b=some u->b∉[e,it]:=λb u q f=>by
   rcases bj.mp f with rfl|f
   ·rw[B.1]at q;cases q
   ·rw[aW.mp f,C.1]at q;cases q
  have up:∀b,b<s.heap.objs.size->b≠s.heap.objs.size:=λb f=>dj f;have I2:Inv X t σ (upd H s.heap.objs.size (.tup [.int i,x])) { s with heap:=Z,toks:=s.toks+1 }:=by
   refine I.step (g':=s.gens) (d':=s.drawn) (t':=s.toks+1) (ch:=[e,it]) (λb f=>?_) (λb o _ _ p q _=>M b o p q) (λb o _ _ p q _=>⟨o.slots,M b o p q⟩)
    (λb o _ q n=>#v[aC (up b (Heap.lt_size q)),n]) (λb o p q=>⟨o,M b o p q⟩) (λb ys q=>#v[aC (d8 q D),q]) (λb o v q=>#v[aC (d8 q D),q])
    (λb ps q=>⟨#[],by rw[aC (d8 q D),q];simp⟩) (λm hm=>?_) (λb v q=>?_) I.bare
   ·rcases bj.mp f with rfl|f
    ·exact⟨B.2.2.2.1,B.2.1,B.2.2.2.2.1,B.2.2.2.2.2⟩
    ·rw[aW.mp f];exact⟨C.2.2.2.1,C.2.1,C.2.2.2.2.1,C.2.2.2.2.2⟩
   ·obtain⟨o,es,ep,q,r⟩:=hm;refine⟨o,es,ep,M _ o (λz=>?_) q,r⟩;rcases bj.mp z with z|z
    ·exact B.2.1 z.symm
    ·exact C.2.1 (aW.mp z).symm
   ·by_cases f:b=s.heap.objs.size
    ·subst f;rw[ak]at q;cases q;exact⟨by show 2<=sizeLine;decide,[.int i s.toks,u],.cons ⟨_,rfl⟩ (.cons ru .nil),⟨_,z0,rfl,_,rfl⟩⟩
    ·rw[aC f]at q;refine (I.hok b v q).stay (λc o p r=>M c o ?_ r) (λc r=>#v[aC (d8 r D),r]) λc ys r=>by rw[aC (d8 r D)];exact r
     rcases p with z|z
     ·rw[z];exact O b v q
     ·exact O c _ z
  refine⟨.ref s.heap.objs.size,_,I2,rfl,⟨_,x,D,rfl,rfl,λys hy=>#v[I.list_inj hy Q,hx]⟩,⟨⟨_,by simpa using x0⟩,L.at λo q=>(y.2 it (Ne.symm G)).trans q⟩,λb f=>?_⟩;have lb:b<s.heap.objs.size:=by
   rcases bj.mp f with rfl|f
   ·exact Heap.lt_size j
   ·rw[aW.mp f];obtain⟨_,q,_⟩:=hit;exact Heap.lt_size q
  rw[aC (up b lb)];exact (J b f).1
 done:=by
  intro X hP S hK p i t s σ H E I J st T;subst hP S hK;obtain⟨xs,Q,hx⟩:=T;obtain⟨U,Y,pl,hz⟩:=I.list Q;obtain⟨⟨g,j⟩,hit⟩:=st;obtain⟨f0,f1,f2,f3,f4,f5⟩:=J it (by simp);have hl:=Y.length;exact wpAny_pyNext_enum_end (I.ok.hd p) j hit pl.isList (by simp;omega) λh' eb=>⟨rfl,I.turned (t':=s.toks) (λb o f q=>eb b o f q) f0 f1 f3 f4 f5⟩
 self:=λ_ _ _ _ _ st h=>by
  obtain⟨⟨g,j⟩,_⟩:=st;exact wpAny_pyIter_enum j h
section
variable {X:Cx}
def En (K:ap)(ta:TA):TI:=λσ H R=>ta σ H λvs H1=>∃a xs,vs=[.ref a]/\SqL K H1 a xs/\R (Ite K a) H1
theorem rO {f:List Expr}{tk:Nat}{tpos:Pos}{a:Expr}{k:TA}{p pos:Pos}(o:Gl X "enumerate")(t:X.mg "enumerate" = none)(u:PA X [a] k)(hs:starEach [a] X.env=[(false,eval a X.env)]:=by rfl):
  PI X (.Tuple f tk tpos) (.Call (.Name "enumerate" p) [a] [] pos) (En X.K k):=by
 intro c s σ H R I h;refine Call_ (im I o t boot_enumerate (PyProof.Rows.callWith_type1 (thn (u pos c s σ H _ I h) λJ d x=>?_) hs rfl));obtain⟨L,m,i,y,z⟩:=x;obtain⟨a,M,e,B,q⟩:=z;subst e
 cases y with
 | cons r rr=>
  cases rr
  cases r
  obtain⟨C,O,pl,P⟩:=i.list B;refine call_enumerate_list pl.isList λD n hit F hk=>?_;have G:Inv X c σ m { d with heap:=D }:=i.kept (t':=d.toks) hk;refine wpAny_pyIter_enum n ?_;refine⟨d.heap.objs.size+1,[d.heap.objs.size+1,d.heap.objs.size],_,_,m,rfl,G,Lc a _ _ (Nat.succ_ne_self _),⟨⟨_,n⟩,hit⟩,λb j=>?_,q⟩;have g:d.heap.objs.size<=b:=by
   rcases bj.mp j with rfl|j
   ·exact uJ _
   ·rw[aW.mp j];exact aA _
  exact i.fpOk g (i.hok.fresh g)
end
theorem rP {K:ap}{b:TA}{σ:St}{H:Hp}{R:It->Hp->Prop}:En K b σ H R=b σ H λd c=>∃a e,d=[.ref a]/\SqL K c a e/\R (Ite K a) c:=rfl
theorem Ld {K:ap}{a:Addr}{xs:List V}{g:TG}{tb:TS}{D:Ends}{σ:St}{H:Hp}(b:Nat->St->Hp->Prop)(d:b 0 σ H)(f:∀i σ H,i<=xs.length->b i σ H->SqL K H a xs)(hs:∀i v p σ H,xs[i]?=some v->b i σ H->H p=none->g (.ref p) σ (upd H p (.tup [.int i,v])) λc h=>tb { D with nx:=b (i+1),ct:=b (i+1),bk:=D.nx } c h)(hd:∀σ H,b xs.length σ H->D.nx σ H):ju (Ite K a) g tb D σ H:=by
 refine⟨λi m σ H=>m=xs.length-i/\i<=xs.length/\b i σ H,⟨xs.length,by simp,aR _,d⟩,?_⟩
 rintro i m σ H ⟨rfl,hi,p⟩
 have q:=f i σ H hi p;by_cases hlt:i<xs.length
 ·refine .inr ⟨⟨xs,xs[i],q,ao hlt⟩,b (i+1),λj k n=>⟨xs.length-(i+1),(),rfl,hlt,n⟩,λx k y=>?_⟩;obtain⟨pa,z,o,r,s,y⟩:=y;subst r s;exact hs i z pa σ H (y xs q) p o
 ·have e:i=xs.length:=by omega
  subst e;exact .inl ⟨⟨xs,q,aA _⟩,hd σ H p⟩
def Itv (K:ap)(a:Addr)(n:Nat):It:=
 ⟨λi H=>i<n/\∃xs,SqL K H a xs/\xs.length=n,λi H x H'=>H'=H/\∀xs,SqL K H a xs->xs[n-1-i]?=some x,λi _=>i=n⟩
theorem Le {P:Program}{w:World}{K:ap}{O:Expr}(a it:Addr)(n:Nat):Turn P w K O (Itv K a n) [it] it (λi h=>h.IsRevIter it a ((n:Int)-1-i)) where
 mem:=by simp
 obj:=λi h st b g=>by
  have e:b=it:=by simpa using g
  subst e;obtain⟨o,e,c,d⟩:=st;exact⟨o,e,λv z=>by rw[d]at z;cases z⟩
 keep:=λi h m st k=>st.at λo e=>k it (by simp) o e
 item:=by
  intro X hP r hK J i f s σ H E I q st t;subst hP r hK;obtain⟨hi,L,M,hn⟩:=t;obtain⟨Q,R,p,hz⟩:=I.list M;have hx:L[n-1-i]?=some (L[n-1-i]'()):=ao ();obtain⟨u,S,T⟩:=R.get hx;obtain⟨y,B,U,C,D,F⟩:=q it (by simp);have G:(n:Int)-1-i=((n-1-i:Nat):Int):=by omega
  rw[G]at st;refine wpAny_pyNext_rev_item st p.isList (x:=u) (⇑S) λm j Y=>?_;have Z:Inv X f σ H { s with heap:=m }:=I.turned (t':=s.toks) (λb o g e=>(Y.2 b g).trans e) y B C D F;have e1:((n-1-i:Nat):Int)-1=(n:Int)-1-((i+1:Nat):Int):=by omega
  rw[e1]at j;obtain⟨o,e,c,d⟩:=id j;exact⟨u,rfl,qd (s:={ s with heap:=m }) e c d () ⟨_,H,Z,T,⟨rfl,λys hy=>#v[I.list_inj hy M,hx]⟩,j,λb g=>(q b g).1⟩⟩
 done:=by
  intro X hP r hK J i f s σ H E I q st t;subst hP r hK;obtain⟨y,B,U,C,D,F⟩:=q it (by simp);have G:(n:Int)-1-i=-1:=by have:i=n:=t;omega
  rw[G]at st;exact wpAny_pyNext_rev_end (I.ok.hd J) st λm eb=>⟨rfl,I.turned (t':=s.toks) (λb o g e=>eb b o g e) y B C D F⟩
 self:=λ_ _ _ _ _ st h=>wpAny_pyIter_revIter st h
section
variable {X:Cx}{tg:Expr}
def Eo (K:ap)(ta:TA):TI:=λσ H R=>ta σ H λvs H1=>∃a xs,vs=[.ref a]/\SqL K H1 a xs/\R (Itv K a xs.length) H1
theorem Ep {a:Expr}{j:TA}{p pos:Pos}(m:Gl X "reversed")(n:X.mg "reversed" = none)(t:PA X [a] j)(hs:starEach [a] X.env=[(false,eval a X.env)]:=by rfl):
  PI X tg (.Call (.Name "reversed" p) [a] [] pos) (Eo X.K j):=by
 intro c s σ H R I h;refine Call_ (im I m n boot_reversed (PyProof.Rows.callWith_type1 (thn (t pos c s σ H _ I h) λJ d u=>?_) hs rfl));obtain⟨L,k,g,x,y⟩:=u;obtain⟨a,i,e,z,q⟩:=y;subst e
 cases x with
 | cons r rr=>
  cases rr
  cases r
  obtain⟨f,B,pl,M⟩:=g.list z;have C:=B.length;refine call_reversed_list pl.isList ?_;have D:Inv X c σ k { d with heap:=d.heap.push (revObj a ((f.toArray.size:Int)-1)) }:=g.kept (t':=d.toks) λb o e=>Heap.get?_push_of_some _ e;have st:(d.heap.push (revObj a ((f.toArray.size:Int)-1))).IsRevIter d.heap.objs.size a ((i.length:Int)-1-((0:Nat):Int)):=by
   have F:(i.length:Int)-1-((0:Nat):Int)=(f.toArray.size:Int)-1:=by rw[dF,C];simp
   rw[F];exact⟨_,Heap.get?_push_size _ rfl,rfl,rfl⟩
  refine wpAny_pyIter_revIter st ?_;refine⟨d.heap.objs.size,[d.heap.objs.size],_,_,k,rfl,D,Le a _ i.length,st,λb G=>?_,q⟩;have e:b=d.heap.objs.size:=by simpa using G
  subst e;exact g.fpOk (aA _) (g.hok.fresh (aA _))
end
theorem rQ {K:ap}{b:TA}{σ:St}{H:Hp}{R:It->Hp->Prop}:Eo K b σ H R=b σ H λe c=>∃a d,e=[.ref a]/\SqL K c a d/\R (Itv K a d.length) c:=rfl
theorem Er {K:ap}{a:Addr}{xs:List V}{g:TG}{tb:TS}{D:Ends}{σ:St}{H:Hp}(b:Nat->St->Hp->Prop)(d:b 0 σ H)(f:∀i σ H,i<=xs.length->b i σ H->SqL K H a xs)(hs:∀i v σ H,i<xs.length->xs[xs.length-1-i]?=some v->b i σ H->g v σ H λc h=>tb { D with nx:=b (i+1),ct:=b (i+1),bk:=D.nx } c h)(hd:∀σ H,b xs.length σ H->D.nx σ H):ju (Itv K a xs.length) g tb D σ H:=by
 refine⟨λi m σ H=>m=xs.length-i/\i<=xs.length/\b i σ H,⟨xs.length,by simp,aR _,d⟩,?_⟩
 rintro i m σ H ⟨rfl,hi,p⟩
 have q:=f i σ H hi p;by_cases hlt:i<xs.length
 ·refine .inr ⟨⟨hlt,xs,q,rfl⟩,b (i+1),λj k n=>⟨xs.length-(i+1),(),rfl,hlt,n⟩,λx k y=>?_⟩;obtain⟨e,y⟩:=y;subst e;exact hs i x σ _ hlt (y xs q) p
 ·have e:i=xs.length:=by omega
  subst e;exact .inl ⟨rfl,hd σ H p⟩
section
variable {σ:St}{H:Hp}{Q:VK}{x y v:V}{vs:List V}
theorem rR:Ec x y H Q=∃l b a c,x=.ref l/\y=.ref b/\H l=some (.lst a)/\H b=some (.lst c)/\a.length+c.length<=sizeLine/\∀p,H p=none->Q (.ref p) (upd H p (.lst (a++c))):=rfl
theorem rS:Ef x y H Q=∃l k a,x=.ref l/\y=.int k/\H l=some (.lst a)/\-(2 ^ 63)<=k/\k<2 ^ 63/\a.length*k.toNat<=sizeLine/\∀p,H p=none->Q (.ref p) (upd H p (.lst (bI k.toNat a).flatten)):=rfl
theorem rT:Ea x vs H Q=∃l a y,x=.ref l/\vs=[]/\H l=some (.lst a)/\a[a.length-1]?=some y/\Q y (upd H l (.lst a.dropLast)):=rfl
theorem a_clear:KS x vs H Q=∃l a,x=.ref l/\vs=[]/\H l=some (.lst a)/\Q .non (upd H l (.lst [])):=rfl
end
theorem cH {X:Cx}:OpR X (binaryOp .Mult) (rI IntMulOk λi j=>.int (i*j)):=opI λ_ _ _ _ _ _ _ a q=>mul_int q a
def Bd (k:Nat)(x:Int):Prop:=x.natAbs<2 ^ k
theorem Bd.mono {k l:Nat}{x:Int}(h:Bd k x)(a:k<=l):Bd l x:=cP h (e9 () a)
theorem Bd.zero (k:Nat):Bd k 0:=dG k
theorem Bd.one {k:Nat}(h:0<k):Bd k 1:=by
 have:Bd 1 1:=by show (1:Nat)<2 ^ 1;decide
 exact this.mono h
theorem Bd.neg {k:Nat}{x:Int}(h:Bd k x):Bd k (-x):=by unfold Bd;rw[Bg];exact h
theorem Bd.mul {k l:Nat}{x y:Int}(h:Bd k x)(g:Bd l y):Bd (k+l) (x*y):=by
 unfold Bd at *;rw[b6,du];exact Nat.mul_lt_mul_of_lt_of_lt h g
theorem Bd.add {k:Nat}{x y:Int}(h:Bd k x)(g:Bd k y):Bd (k+1) (x+y):=by
 unfold Bd at *;rw[iF];have:=ib x y;omega
theorem Bd.sub {k:Nat}{x y:Int}(h:Bd k x)(g:Bd k y):Bd (k+1) (x-y):=by
 rw[Int.sub_eq_add_neg];exact h.add g.neg
theorem Bd.fits {k l:Nat}{x y:Int}(h:Bd k x)(g:Bd l y)(a:k+l<=134217728):IntMulOk x y:=K8 h g a
theorem Bd.of_lt {k:Nat}{x:Int}{m:Nat}(h:x.natAbs<m)(a:m<=2 ^ k):Bd k x:=cP h a
def dU (H:Hp)(Q:VK)(ys:List V):Prop:=∀r H',Same H H'->H r=none->H' r=some (.lst ys)->Q (.ref r) H'
theorem az {H:Hp}{p:Addr}(h:H p=none)(o:HO):Same H (upd H p o):=λb u q=>#v[aC (d8 q h),q]
theorem gZ {xs:aa}{i:Nat}(h:i<xs.length):atI (xs.map V.int) (i:Int)=some (V.int xs[i]):=fE (by rw[aG,ao h];rfl)
theorem jw {n i:Nat}(h:i<n):ixN n (i:Int)=some i:=by
 unfold ixN;rw[if_pos (),if_pos ()];simp
theorem Es {n i:Nat}(h:0<i)(a:i<=n):ixN n (-(i:Int))=some (n-i):=by
 unfold ixN;rw[if_neg (),if_pos ()];congr 1;omega
theorem jx {xs:aa}(h:xs≠[]):atI (xs.map V.int) (-1)=some (V.int (xs.getLast h)):=by
 unfold atI;have a:0<xs.length:=by cases xs with|nil=>exact absurd rfl h|cons _ _=>simp
 have e:=Es (n:=(xs.map V.int).length) (i:=1) () #v[af,a];have b:(-((1:Nat):Int))=-1:=rfl;rw[b]at e;rw[e];show (xs.map V.int)[(xs.map V.int).length-1]?=_;rw[aG,af,<-fK,oP h];rfl
theorem map_set (xs:aa)(i:Nat)(v:Int):(xs.map V.int).set i (V.int v)=(xs.set i v).map V.int:=by rw[List.map_set]
theorem rV {i j:Int}(a:-(2 ^ 60)<i)(b:i<2 ^ 60)(c:-(2 ^ 60)<j)(d:j<2 ^ 60):Builtin.Range.small i j (-1)=true:=by
 unfold Builtin.Range.small;simp only[Builtin.Range.rangeFitsLong,Builtin.Range.rangeSize,Bool.and_eq_true,Bool.or_eq_true,decide_eq_true_eq,beq_iff_eq,show ¬(-1:Int) > 0 by decide,if_false,Int.neg_neg,Int.ediv_one]
 split <;> omega
theorem rW {i j:Int}{n:Nat}(h:(i-j).toNat=n):Builtin.Range.rangeSize i j (-1)=n:=by
 unfold Builtin.Range.rangeSize;simp only[show ¬(-1:Int) > 0 by decide,if_false,Int.neg_neg,Int.ediv_one]
 split <;> omega
theorem nv {xs:aa}{i:Nat}{v:Int}(h:xs[i]?=some v):atI (xs.map V.int) (i:Int)=some (V.int v):=fE (by rw[aG,h];rfl)
theorem Same.more {H a:Hp}{p:Addr}{o:HO}(e:Same H a)(h:H p=none):Same H (L2.upd a p o):=λb u q=>#v[aC (d8 q h),e b u q]
section
variable {κ:Type}[DecidableEq κ]
noncomputable def fe (kvs:List (κ×V)) (k:κ):Option V:=(kvs.find? λkv=>decide (kv.1=k)).map (·.2)
noncomputable def iW (kvs:List (κ×V)) (k:κ) (v:V):List (κ×V):=
 if (kvs.any λkv=>decide (kv.1=k))=true then kvs.map (λkv=>if kv.1=k then (kv.1,v) else kv) else kvs++[(k,v)]
theorem Lf {p:κ×V}{r:List (κ×V)}{k:κ}(e:p.1=k):fe (p :: r) k=some p.2:=by simp[fe,Bh,e]
theorem Lg {p:κ×V}{r:List (κ×V)}{k:κ}(e:¬p.1=k):fe (p :: r) k=fe r k:=by simp[fe,Bh,e]
theorem Li (a:List (κ×V))(k:κ)(v:V):(iW a k v).length<=a.length+1:=by
 unfold iW
 split
 ·rw[af];omega
 ·rw[b4,cC,Bi];omega
theorem KV.val {a:List (κ×V)}{vs:List (κ×Value)}(r:KV a vs)(k:κ):RelO (fe a k) (valueAt vs k):=by
 unfold KV at r
 induction r with
 | nil=>exact True.intro
 | @cons p q ps qs h t ih=>
  obtain⟨d,f⟩:=h;by_cases e:p.1=k
  ·have c:q.1=k:=d.symm.trans e;have b:valueAt (q :: qs) k=some q.2:=by simp[valueAt,Bh,c]
   rw[Lf e,b];exact f
  ·have c:¬q.1=k:=λz=>e (d.trans z);have b:valueAt (q :: qs) k=valueAt qs k:=by simp[valueAt,Bh,c]
   rw[Lg e,b];exact ih
theorem KV.any {a:List (κ×V)}{vs:List (κ×Value)}(r:KV a vs)(k:κ):(a.any λb=>decide (b.1=k))=vs.any λb=>decide (b.1=k):=by
 unfold KV at r
 induction r with
 | nil=>rfl
 | cons h t ih=>rw[uK,uK,ih,h.1]
theorem KV.repl {b:List (κ×V)}{vs:List (κ×Value)}(r:KV b vs)(k:κ){y:V}{u:Value}(d:RelV y u):
  KV (b.map λa=>if a.1=k then (a.1,y) else a) (vs.map λa=>if a.1=k then (a.1,u) else a):=by
 unfold KV at r ⊢
 induction r with
 | nil=>exact .nil
 | @cons p q ps qs h t ih=>
  rw[dY,dY];refine .cons ?_ ih;obtain⟨c,f⟩:=h;by_cases e:p.1=k
  ·rw[if_pos e,if_pos (c.symm.trans e)];exact⟨c,d⟩
  ·rw[if_neg e,if_neg (λz=>e (c.trans z))];exact⟨c,f⟩
theorem KV.put {a:List (κ×V)}{vs:List (κ×Value)}(r:KV a vs)(k:κ){y:V}{u:Value}(b:RelV y u):KV (iW a k y) (stored vs k u):=by
 unfold iW stored;rw[r.any k];by_cases e:(vs.any λc=>decide (c.1=k))=true
 ·rw[if_pos e,if_pos e];exact r.repl k b
 ·rw[if_neg e,if_neg e];exact Paired.snoc r ⟨rfl,b⟩
theorem KV.length {a:List (κ×V)}{vs:List (κ×Value)}(r:KV a vs):a.length=vs.length:=Paired.length r
end
theorem Lj {P:Program}{w:World}{k:Key}{u:Value}(r:RelV (kV k) u):(iP P w).is k u=true:=by
 cases k with
 | inl i=>obtain⟨t,e⟩:=(show ∃t,u=Value.int i t from r);subst e;exact JX P w i t
 | inr x=>obtain⟨t,e⟩:=(show ∃t,u=Value.str x t from r);subst e;exact JY P w x t
section
variable {P:Program}{w:World}{H:Hp}{h:Heap}{a:Addr}
theorem Lk {u:HO}(ok:HOk P w H h)(e:Rd H a u):ObjOk P w H h a u:=e.ok ok
theorem Lm {b:List (Key×V)}(ok:HOk P w H h)(e:Rd H a (.dK b)):b.length<=sizeLine/\(a == sysModules)=false/\∃c,KV b c/\h.DictOf (iP P w) a c:=
 show ObjOk P w H h a (.dK b) from Lk ok e
theorem Ln {b:List (Key×V)}(ok:HOk P w H h)(e:H a=some (.dK b)):b.length<=sizeLine/\(a == sysModules)=false/\∃c,KV b c/\h.DictOf (iP P w) a c:=Lm ok (.inl e)
end
section
variable {X:Cx}{Wn:aF}{σ:St}{H:Hp}{s:Shared}{a:Addr}{y v:V}{u r:Value}{o:Option V}{A:Around}{E:aP}
theorem Inv.big (I:Inv X Wn σ H s):sysModules<s.heap.objs.size:=by
 have h:mainGlobals<s.heap.objs.size:=(I.mod.glob.keeps I.bk).lt;exact Nat.lt_trans () h
theorem Lo {h':Heap}{t':Nat}{c:HO}(I:Inv X Wn σ H s)(f:Mut (H a))(hs:Heap.SameBut a s.heap h')(g:∃q,h'.get? a=some q)(d:ObjOk X.prog X.w (upd H a c) h' a c):
  Inv X Wn σ (upd H a c) { s with heap:=h',toks:=t' }:=
 I.write (x:=a) (e:=a) f (.inl rfl) (λb q h z=>(hs.2 b h).trans z) g d
theorem Lp {P:Program}{w:World}{d:Hp}{h':Heap}{b:List (Key×V)}{vs:List (Key×Value)}(z:b.length<=sizeLine)(hd:(a == sysModules)=false)(c:KV b vs)(dd:h'.DictOf (iP P w) a vs):
  ObjOk P w d h' a (.dK b):=⟨z,hd,vs,c,dd⟩
end
theorem Lq {P:Program}{w:World}{H:Hp}(h:Heap)(a:sysModules<h.objs.size):ObjOk P w H (h.push { cls:=.type "dict",data:=.dict #[] }) h.objs.size (.dK []):=
 ⟨aR _,beq_eq_false_iff_ne.mpr (Ne.symm (dj a)),[],.nil,Heap.DictOf.new h⟩
def Et:TE:=λ_ H Q=>∀p,H p=none->Q (.ref p) (upd H p (.dK []))
section
variable {X:Cx}{pos:Pos}
theorem Lr:PE X (.Dict [] [] pos) Et:=λb s σ H Q I h=>
 wpAny_Dict_empty ⟨.ref s.heap.objs.size,_,I.laid (a:=s.heap.objs.size) (o:=.dK []) (t':=s.toks) (λ_ _ q=>Heap.get?_push_of_some _ q) (aA _) (Lq s.heap I.big),rfl,h _ (I.hok.fresh (aA _))⟩
end
structure M1 (X:Cx)(o:Expr)(m:Str)(apos:Pos)(e:Expr)(cpos:Pos):Prop where
 base:attributeBase o m X.env (eval o X.env)=eval o X.env
 few:((backTo cpos (starEach [e] X.env)).all (λx=>!x.1) && (backToKw cpos (keywordEach [] X.env)).all (λx=>x.1.isSome)
  && decide (([e]:List Expr).length+([]:List Keyword).length+(if ([]:List Keyword).isEmpty then 0 else 1)<30))=true
 line:(apos.endLine == cpos.line)=true
 trees:backTo cpos (starEach [e] X.env)=[(false,eval e X.env)]
structure M2 (X:Cx)(o:Expr)(m:Str)(apos:Pos)(e f:Expr)(cpos:Pos):Prop where
 base:attributeBase o m X.env (eval o X.env)=eval o X.env
 few:((backTo cpos (starEach [e,f] X.env)).all (λx=>!x.1) && (backToKw cpos (keywordEach [] X.env)).all (λx=>x.1.isSome)
  && decide (([e,f]:List Expr).length+([]:List Keyword).length+(if ([]:List Keyword).isEmpty then 0 else 1)<30))=true
 line:(apos.endLine == cpos.line)=true
 trees:backTo cpos (starEach [e,f] X.env)=[(false,eval e X.env),(false,eval f X.env)]
def Ends.drop (D:Ends)(i:Nat):Ends:={ nx:=λσ H=>D.nx (σ.set i none) H,rt:=D.rt,bk:=λσ H=>D.bk (σ.set i none) H,ct:=λσ H=>D.ct (σ.set i none) H }
open PySem PySem.Spec PySem.W PyProof.Rows Builtin Builtin.ObjectAttr Builtin.Getset_descriptor
theorem rX {K:ap}{a:Addr}{xs:List V}{g:TG}{tb:TS}{D:Ends}{σ:St}{H:Hp}(b:Nat->St->Hp->Prop)(d:b 0 σ H)(e:∀i σ H,i<=xs.length->b i σ H->SqL K H a xs)(hs:∀i v p σ H,xs[i]?=some v->b i σ H->H p=none->g (.ref p) σ (upd H p (.tup [.int i,v])) λc f=>tb { D with nx:=b (i+1),ct:=b (i+1),bk:=D.nx } c f)(hd:∀σ H,b xs.length σ H->D.nx σ H):ju (Ite K a) g tb D σ H:=Ld b d e hs hd
theorem Ls {prog:Program}{w:World}{A:Around}{R:Result->Shared->Prop}{s:Shared}{t a i g:Expr}{d:Scope}{pos:Pos}{it u:Value}{env:Env}(I:Nat->Shared->Prop)(y:∀n s (E:aP),I n s->wpAny (model prog w) A (pyNext it) (λr e=>match r with
   | none=>R (.ok .next) e
   | some v=>wpAny (model prog w) A (letOwnedTupleGo a it v) (λ_ j=>wpAny (model prog w) A (assign a env v) (λ_ k=>wpAny (model prog w) A (isTrue g env (eval g env)) (λb f=>if b=true then wpAny (model prog w) A (eval t env) (λx o=>
     wpAny (model prog w) A (call (.builtin "list.append") [u,x]) (λ_ p=>∃m,m<n/\I m p) E o) E f else ∃m,m<n/\I m f) E k) E j) E e) E s)(n:Nat)(h:I n s):
  codeAny (model prog w) A (.compLoop (.ListComp t [⟨a,i,[g],0⟩] d pos) 0 it u env) R s:=by
 refine codeAny_loop rfl I (λn s F=>?_) n h;show wpAny _ _ ((compTurn (.ListComp t [⟨a,i,[g],0⟩] d pos) 0 it u env).onRaise (λx=>do noteFrame x env;theTreesLotGoes x)) _ _ s;refine wpAny_noted ?_;unfold compTurn;dsimp only[IV];refine wpAny_bind (wpAny_standAt (wpAny_bind (wpAny_mono (y n s _ F) (λr e q=>?_) λ_ _ G=>G)))
 cases r with
 | none=>exact wpAny_pure q
 | some v=>
  refine wpAny_bind (thn q λ_ j z=>wpAny_bind (thn z λ_ k B=>wpAny_bind ?_));rw[List.forIn_cons,if_pos rfl];refine wpAny_bind (wpAny_bind (thn B λb f c=>wpAny_pure ?_));dsimp only;rw[List.forIn_nil];refine wpAny_pure ?_
  cases b with
  | true=>
   rw[if_pos rfl]at c ⊢;exact wpAny_bind (wpAny_bind (thn c λx o C=>wpAny_bind (thn C λ_ p D=>wpAny_pure (wpAny_pure ⟨rfl,D⟩))))
  | false=>
   rw[if_neg ()]at c ⊢;exact wpAny_pure ⟨rfl,c⟩
section
variable {X:Cx}{elt iter cnd:Expr}{x:Str}{px:Pos}{fv:List (Nat×Str)}{scope:Scope}{cl:List (Str×Addr)}{pos:Pos}{te:TE}{tt:TT}{wi:TI}
def zu (J:It)(fv:List (Nat×Str))(tt:TT)(te:TE)(Q:VK)(σ:St)(H1:Hp)(D:Addr):Prop:=∃W:Nat->Nat->Hp->Prop,(∃m,W 0 m (upd H1 D (.lst [])))/\∀i m H,W i m H->
 (J.stop i H/\Q (.ref D) H)\/(J.go i H/\∃N:Hp->Prop,(∀H',N H'->∃m',m'<m/\W (i+1) m' H')/\∀v H',J.yld i H v H'->tt (bst fv σ (some v)) H' λb Hb=>if b=true then te (bst fv σ (some v)) Hb λy H2=>∃ys,H2 D=some (.lst ys)/\ys.length<sizeLine/\N (upd H2 D (.lst (ys++[y]))) else N Hb)
def Eu (fv:List (Nat×Str))(wi:TI)(tt:TT)(te:TE):TE:=λσ H Q=>wi σ H λJ H1=>∀D,H1 D=none->zu J fv tt te Q σ H1 D
theorem Lt {a:aF}{σ:St}{H:Hp}{d:Shared}{it:Addr}{h:am}{tn:Nat->Heap->Prop}{J:It}{Q:VK}{E:aP}{RR:Value->Addr->Result->Shared->Prop}(hc:X.calm=true)(B:BlkOk X x fv scope cl)(z1:∀C s H h,PT (blk X x fv scope cl C s H h) cnd tt)(he:∀C s H h,PE (blk X x fv scope cl C s H h) elt te)(I:Inv X a σ H d)(T:Turn X.prog X.w X.K (.Name x px) J h it tn)(st:tn 0 d.heap)(hf:∀b∈h,df X a H b)(rd:∀D,H D=none->∃W:Nat->Nat->Hp->Prop,(∃m,W 0 m (upd H D (.lst [])))/\∀i m H,W i m H->
   (J.stop i H/\Q (.ref D) H)\/(J.go i H/\∃N:Hp->Prop,(∀j,N j->∃O,O<m/\W (i+1) O j)/\∀v j,J.yld i H v j->tt (bst fv σ (some v)) j λb Hb=>if b=true then te (bst fv σ (some v)) Hb λy H2=>∃ys,H2 D=some (.lst ys)/\ys.length<sizeLine/\N (upd H2 D (.lst (ys++[y]))) else N Hb))(u1:∀D C Y j O,Inv X a σ j Y->df X a j C->Y.heap.Ns C O->Q (.ref D) j->RR (.ref D) C (.ok .next) Y):
  wpAny (model X.prog X.w) X.A (newList []) (λx0 y0=>wpAny (model X.prog X.w) X.A (newFunctionEnv scope X.env.globals cl [] X.env.qual none .none (some X.env)) (λP z0=>
   codeAny (model X.prog X.w) X.A (.compStart (.ListComp elt [⟨.Name x px,iter,[cnd],0⟩] scope pos) 0 (.ref it) x0 { P with scope:=relabel scope X.env }) (RR x0 P.locals) z0) E y0) E d:=by
 refine wpAny_newObj_type ?_ (by show 0<=sizeLine;exact aR _);have hD:H d.heap.objs.size=none:=I.hok.fresh (aA _);have I3:=I.lnew (ys:=[]) (its:=[]) (t':=d.toks) .nil (aR _);generalize S:({ d with heap:=d.heap.push { cls:=.type "list",data:=.seq ([]:List Value).toArray },toks:=d.toks }:Shared)=f at I3;have v1:f.heap.objs.size=d.heap.objs.size+1:=by rw[<-S];exact Heap.size_push ..
 have u0:∀b o,d.heap.get? b=some o->f.heap.get? b=some o:=λb o e=>by rw[<-S];exact Heap.get?_push_of_some _ e
 have j0:∀b∈h,df X a (upd H d.heap.objs.size (.lst [])) b:=λb g=>by
  obtain⟨f0,r⟩:=hf b g;refine⟨?_,r⟩;obtain⟨o,e,_⟩:=T.obj 0 _ st b g;rw[aC (dj (Heap.lt_size e))];exact f0
 have j1:∀b∈h,b<d.heap.objs.size:=λb g=>by
  obtain⟨o,e,_⟩:=T.obj 0 _ st b g;exact Heap.lt_size e
 have k1:tn 0 f.heap:=T.keep 0 _ _ st λb _ o e=>u0 b o e;obtain⟨W,⟨m0,w0⟩,k0⟩:=rd _ hD;refine wpAny_newFunctionEnv B.nocell (by intro y hy;simp at hy) (λk G L=>?_) B.kind;have n0:∀b∈h,b≠f.heap.objs.size:=λb g=>dj #v[v1,oO (j1 b g)];have x1:∀b o,f.heap.get? b=some o->k.get? b=some o:=λb o e=>L.extBut b o (dj (Heap.lt_size e)) (Heap.get?_push_of_some _ e);generalize U:({ f with heap:=k,toks:=f.toks+([]:List (Str×Value)).length }:Shared)=s4;have h4:s4.heap=k:=by rw[<-U]
 have I4:Inv (blk X x fv scope cl f.heap.objs.size f (upd H d.heap.objs.size (.lst [])) h) [] (bst fv σ none) (upd H d.heap.objs.size (.lst [])) s4:=
  Eh B I3 j0 rfl n0 (by rw[<-U]) (by rw[<-U]) (λb o e=>#v[h4,x1 b o e]) #v[h4,G]
 have y1:tn 0 s4.heap:=by rw[h4];exact T.keep 0 _ _ k1 λb _ o e=>x1 b o e
 have t:∀{j:Hp},(∀b∈h,j b=none)->∀b∈h,df (blk X x fv scope cl f.heap.objs.size f (upd H d.heap.objs.size (.lst [])) h) [] j b:=λ{j} hn b g=>by
  obtain⟨_,f1,f2,f3,f4,f5⟩:=hf b g;refine⟨hn b g,n0 b g,λz=>?_,.inl g,λy c e=>f4 y c (B.sub y c e),λp hp=>absurd (show p∈([]:aF) from hp) (by simp)⟩;rcases bj.mp (I.stkSub b z) with q|q
  ·exact f1 q
  ·exact f2 q
 have R:codeAny (model X.prog X.w) X.A (.compLoop (.ListComp elt [⟨.Name x px,iter,[cnd],0⟩] scope pos) 0 (.ref it) (.ref d.heap.objs.size) (compEnvC scope cl f.heap.objs.size X.env)) (RR (.ref d.heap.objs.size) f.heap.objs.size) s4:=by
  refine Ls (λn Y=>∃i j o,Inv (blk X x fv scope cl f.heap.objs.size f (upd H d.heap.objs.size (.lst [])) h) [] (bst fv σ o) j Y/\tn i Y.heap/\(∀b∈h,j b=none)/\W i n j) ?_ m0
   ⟨0,_,none,I4,y1,λb g=>(j0 b g).1,w0⟩
  rintro n s5 E' ⟨i,H5,o5,I5,st5,fr5,w5⟩
  rcases k0 i n H5 w5 with ⟨stop,q⟩|⟨go,N,hN,step⟩
  ·refine thn (T.done (blk X x fv scope cl f.heap.objs.size f (upd H d.heap.objs.size (.lst [])) h) rfl rfl rfl hc i [] s5 _ H5 _ I5 (t fr5) st5 stop) λr s6 F=>?_;obtain⟨hr,Z⟩:=F;subst hr;obtain⟨m6,g1,_⟩:=Z.loc;have J6:Inv X a σ H5 s6:=qm I Z.hok Z.bare hD u0 Z.base (Z.os.trans (by rw[<-S])) hf;refine u1 _ _ s6 H5 m6 J6 ?_ g1 q;exact I3.fpOk (aA _) Z.free
  ·refine thn (T.item (blk X x fv scope cl f.heap.objs.size f (upd H d.heap.objs.size (.lst [])) h) rfl rfl rfl hc i [] s5 _ H5 _ I5 (t fr5) st5 go) λr s6 F=>?_;obtain⟨u,hr,h6⟩:=F;subst hr;refine thn h6 λ_ s7 F=>?_;obtain⟨v,H7,I7,r7,y7,M,m1⟩:=F;have n1:=I7.pinned (t m1) (T.obj _ _ M);refine Ei B n1 r7 λs8 I8=>?_;have c8:=z1 _ _ _ _ _ s8 _ H7 _ I8 (step v H7 y7);refine wpAny_mono c8 (λbb sb F=>?_) λ_ _ z=>False.elim z;obtain⟨Hb,Ib,qb⟩:=F
   cases bb with
   | false=>
    rw[if_neg ()]at qb;show (if false=true then _ else _);rw[if_neg ()];obtain⟨O,hm,w9⟩:=hN _ qb;refine⟨O,hm,i+1,_,some v,Ib.unpinned,T.keep _ _ _ M λb g o e=>(Ib.pin (b,o) (gv _ (gv _ (kS g e)))).1,λb g=>?_,w9⟩;obtain⟨o,e,_⟩:=T.obj _ _ M b g;exact (Ib.pin (b,o) (gv _ (gv _ (kS g e)))).2.1
   | true=>
    rw[if_pos rfl]at qb;show (if true=true then _ else _);rw[if_pos rfl];have e8:=he _ _ _ _ _ sb _ Hb _ Ib qb;refine wpAny_mono e8 (λy s9 F=>?_) λ_ _ z=>False.elim z;obtain⟨yv,H9,I9,r9,ys,x2,hz,n9⟩:=F;have a9:=qo (E':=E') T (λ_ _ z=>z) M I9 r9 x2 hz n9 hN;refine wpAny_mono a9 (λ_ j2 F=>?_) λ_ _ z=>z;obtain⟨O,hm,y2,z2,u2,v2,w9⟩:=F;exact⟨O,hm,i+1,y2,_,z2,u2,v2,w9⟩
 exact codeAny_compStart_list R (T.self _ 0 _ _ _ y1 R)
end
theorem rY {a:List (Nat×Str)}{b:TI}{c:TT}{d:TE}{σ:St}{H:Hp}{Q:VK}:Eu a b c d σ H Q=b σ H λJ e=>∀D,e D=none->zu J a c d Q σ e D:=rfl
theorem nw:∀{ns:aa}{a:List Value},Vals (ns.map V.int) a->IntsAre a ns
 | [],a,h=>by
  cases h;exact .nil
 | n :: ns,a,h=>by
  cases h with
  | cons r rr=>
   obtain⟨t,rfl⟩:=r;exact .cons n t (nw rr)
theorem zw {zs:Array (Int×Tok)}{ns:aa}(e:ns=zs.toList.map (·.1)){j:Nat}(a:j<zs.size):numAt zs j∈ns:=by
 rw[e,numAt_eq];exact PySem.getD_mem (⇑a)
theorem zx {zs:Array (Int×Tok)}{ns:aa}(e:ns=zs.toList.map (·.1)){x:Int}(hx:x∈ns):∃j,j<zs.size/\numAt zs j=x:=by
 rw[e]at hx;obtain⟨i,hi,h⟩:=mem_getD hx;exact⟨i,by simpa using hi,#v[numAt_eq,h]⟩
theorem Ev {X:Cx}(n:X.calm=true):gq X (.builtin "min") (λg H Q=>∃p ns,g=[.ref p]/\SqL X.K H p (ns.map V.int)/\ns≠[]/\∀M,M∈ns->(∀a,a∈ns->M<=a)->Q (.int M) H):=by
 intro j s σ H g F Q I r h;obtain⟨p,ns,rfl,o,d,q⟩:=h;obtain⟨u,rfl,t⟩:=jq r
 cases t
 obtain⟨y,z,pl,G⟩:=I.list o;have hi:=nw z;obtain⟨c,e⟩:=hi.allInts.items;have b:ns=c.toList.map (·.1):=by rw[<-hi.numsOf,<-nums_intItems,<-e]
 have f:0<c.size:=by
  have k:=de.mpr d;rw[b,af,Array.length_toList]at k;exact k
 have m:=pl.isList;rw[e]at m;refine min_intList (I.ok.hd n) m f λv J L B hk=>?_;obtain⟨C,rfl⟩:=intItems_at B;obtain⟨O,D⟩:=argBest_lt (numAt c) (c.size-1);refine⟨.int _,H,I.kept hk,⟨C,rfl⟩,q _ (zw b ()) λx hx=>?_⟩;obtain⟨i,hi,rfl⟩:=zx b hx;exact D i ()
theorem zz {X:Cx}(n:X.calm=true):gq X (.builtin "max") (λg H Q=>∃p ns,g=[.ref p]/\SqL X.K H p (ns.map V.int)/\ns≠[]/\∀M,M∈ns->(∀a,a∈ns->a<=M)->Q (.int M) H):=by
 intro j s σ H g F Q I r h;obtain⟨p,ns,rfl,o,d,q⟩:=h;obtain⟨u,rfl,t⟩:=jq r
 cases t
 obtain⟨y,z,pl,G⟩:=I.list o;have hi:=nw z;obtain⟨c,e⟩:=hi.allInts.items;have b:ns=c.toList.map (·.1):=by rw[<-hi.numsOf,<-nums_intItems,<-e]
 have f:0<c.size:=by
  have k:=de.mpr d;rw[b,af,Array.length_toList]at k;exact k
 have m:=pl.isList;rw[e]at m;refine max_intList (I.ok.hd n) m f λv J L B hk=>?_;obtain⟨C,rfl⟩:=intItems_at B;obtain⟨O,D⟩:=argBest_gt (numAt c) (c.size-1);refine⟨.int _,H,I.kept hk,⟨C,rfl⟩,q _ (zw b ()) λx hx=>?_⟩;obtain⟨i,hi,rfl⟩:=zx b hx;exact D i ()
@[reducible] def gB (X:Cx) (x z:Str) (fv:List (Nat×Str)) (scope:Scope) (cl:List (Str×Addr)) (C:Addr) (s:Shared) (H:Hp) (fp:am):Cx where
 prog:=X.prog
 w:=X.w
 K:=X.K
 mg:=X.mg
 base:=X.base
 A:=X.A
 N:=x :: z :: fv.map (·.2)
 s₀:=s
 H₀:=H
 env:=compEnvC scope cl C X.env
 outer:=X.stack
 stack:=X.stack
 ex:=fp
 fn:=λ_=>false
 calm:=X.calm
 pn:=[]
 xe:=λ_ _=>False
def fg (fv:List (Nat×Str))(σ:St)(v v2:Option V):St:=v :: v2 :: fv.map λp=>(σ[p.1]?).getD none
structure BlkOk2 (X:Cx)(x z:Str)(fv:List (Nat×Str))(scope:Scope)(cl:List (Str×Addr)):Prop where
 clos:closureFor scope X.env=pure cl
 nocell:∀y∈scope.names,y.2≠.cell
 kind:scope.kind=.function
 names:∀y∈scope.names,y.2=.local->scope.names.lookup y.1=some .local
 here:scope.names.lookup x=some .local
 here2:scope.names.lookup z=some .local
 nd:(x :: z :: fv.map (·.2)).Nodup
 sub:∀y c,cl.lookup y=some c->X.env.cells.lookup y=some c
 has:∀y,((relabel scope X.env).names.lookup y=some .cell\/(relabel scope X.env).names.lookup y=some .free)->∃c,cl.lookup y=some c
 fvs:∀p∈fv,X.N[p.1]?=some p.2/\(X.env.scope.names.lookup p.2=some .cell\/X.env.scope.names.lookup p.2=some .free)/\
  ((relabel scope X.env).names.lookup p.2=some .cell\/(relabel scope X.env).names.lookup p.2=some .free)/\∃c,cl.lookup p.2=some c
section
variable {X:Cx}{elt iter:Expr}{x z:Str}{px pz:Pos}{tk:Nat}{tpos:Pos}{fv:List (Nat×Str)}{scope:Scope}{cl:List (Str×Addr)}{pos:Pos}{te:TE}{wi:TI}
theorem Lu {a:aF}{σ:St}{H:Hp}{s:Shared}{f:am}{C:Addr}(B:BlkOk2 X x z fv scope cl)(I:Inv X a σ H s)(g:∀b∈f,df X a H b)(hC:s.heap.objs.size<=C)(i:∀b∈f,b≠C):
  (gB X x z fv scope cl C s H f).Ok where
 mod:=I.ok.mod
 kind:=B.kind
 glob:=I.ok.glob
 blt:=I.ok.blt
 above:=hC
 inj:=λy k c m n=>I.ok.inj y k c (B.sub y c m) (B.sub k c n)
 has:=λy hy=>B.has y hy
 cab:=λy c h=>nomatch h
 hd:=I.ok.hd
 frames:=I.ok.frames
 stk:=.inl rfl
 exf:=λb d=>⟨i b d,λy c e=>(g b d).2.2.2.2.1 y c (B.sub y c e)⟩
 bs:=I.bs
 bsz:=aM I.ok.bsz I.sz
 noex:=λb o e d=>by
  obtain⟨_,_,_,p,_⟩:=g b d;rcases p with j|j
  ·exact I.ok.noex b o e j
  ·exact absurd (cP (Heap.lt_size e) (aM I.ok.bsz j)) (jL _)
 exfs:=λb d hs=>by
  obtain⟨_,q,r,_⟩:=g b d;rcases bj.mp (I.stkSub b hs) with z|z
  ·exact q z
  ·exact r z
 funs:=I.stack
 frf:=I.stkFree
theorem Lv {fv:List (Nat×Str)}{σ:St}{o d:Option V}{j:Nat}{y:Str}{v:V}(e:(x :: z :: fv.map (·.2))[j+2]?=some y)(f:(fg fv σ o d)[j+2]?=some (some v)):∃p∈fv,p.2=y/\σ[p.1]?=some (some v):=by
 have a:(fv.map (·.2))[j]?=some y:=by simpa using e
 have c:(fv.map λp=>(σ[p.1]?).getD none)[j]?=some (some v):=by simpa [fg] using f
 rw[aG]at a c
 cases q:fv[j]? with
 | none=>rw[q]at a;cases a
 | some p=>
  rw[q]at a c;refine⟨p,bT q,Option.some.inj a,?_⟩;have b:(σ[p.1]?).getD none=some v:=Option.some.inj c
  cases r:σ[p.1]? with
  | none=>rw[r]at b;cases b
  | some w=>rw[r]at b;exact congrArg some b
theorem Lw {a:aF}{σ:St}{H:Hp}{s d:Shared}{g:am}{C:Addr}{m:bh}(B:BlkOk2 X x z fv scope cl)(I:Inv X a σ H s)(M:∀b∈g,df X a H b)(hC:C=s.heap.objs.size)(h:∀b∈g,b≠C)(os:d.os=s.os)(f:d.gens=s.gens)(keep:∀b o,s.heap.get? b=some o->d.heap.get? b=some o)(ns:d.heap.Ns C m):
  Inv (gB X x z fv scope cl C s H g) [] (fg fv σ none none) H d:=by
 subst hC;refine⟨Lu B I M (aA _) h,os,#v[f,I.bare],Un.kept keep,⟨m,ns,λi y v O n S=>?_⟩,λy c e=>?_,I.hok.fresh (aA _),λy c e=>I.freeC y c (B.sub y c e),λp q=>absurd (show p∈([]:aF) from q) (by simp),I.hok.kept keep,by simp[fg]⟩
 ·cases i with
  | zero=>simp[fg]at n
  | succ j=>
   cases j with
   | zero=>simp[fg]at n
   | succ j=>
   obtain⟨p,q,rfl,P⟩:=Lv O n;obtain⟨Q,hk,t,c,J⟩:=B.fvs p q;obtain⟨m0,_,R⟩:=I.loc;have D:Vis X.env.scope p.2:=hk.elim (λz=>.inr (.inl z)) λz=>.inr (.inr z);obtain⟨u,r,l⟩:=R p.1 p.2 v Q P D;refine⟨u,r,.inr ⟨t,c,J,?_⟩⟩;rcases l with ⟨z,_⟩|⟨_,T,F,o,G,hd⟩
   ·have L:X.env.scope.names.lookup p.2=some .local:=z;rcases hk with k|k <;> (rw[k]at L;cases L)
   ·have:=B.sub p.2 c J;rw[F]at this;cases this;exact⟨o,keep _ o G,hd⟩
 ·obtain⟨v,o,G,hd⟩:=I.cell y c (B.sub y c e);exact⟨v,o,keep c o G,hd⟩
theorem Lx {s:Shared}{a:Hp}{b:am}{C:Addr}(e:X.calm=true)(B:BlkOk2 X x z fv scope cl):
  PG (gB X x z fv scope cl C s a b) (.Tuple [.Name x px,.Name z pz] tk tpos) (yV X.K 2 (p4 (gn 0) (p4 (gn 1) yU))):=by
 have c:(relabel scope X.env).names.lookup x=some .local:=lookup_relabel_local B.here;have d:(relabel scope X.env).names.lookup z=some .local:=lookup_relabel_local B.here2;exact jn (X:=gB X x z fv scope cl C s a b) e (fC (bZ (i:=0) B.nd rfl (.inl c) (.inr c)) (fC (bZ (i:=1) B.nd rfl (.inl d) (.inr d)) jm))
theorem Ew {a:aF}{σ:St}{H:Hp}{d:Shared}{it:Addr}{h:am}{tn:Nat->Heap->Prop}{J:It}{Q:VK}{E:aP}{RR:Value->Addr->Result->Shared->Prop}(hc:X.calm=true)(B:BlkOk2 X x z fv scope cl)(he:∀C s H h,PE (gB X x z fv scope cl C s H h) elt te)(I:Inv X a σ H d)(T:Turn X.prog X.w X.K (.Tuple [.Name x px,.Name z pz] tk tpos) J h it tn)(st:tn 0 d.heap)(hf:∀b∈h,df X a H b)(rd:∀D,H D=none->∃W:Nat->Nat->Hp->Prop,(∃m,W 0 m (upd H D (.lst [])))/\∀i m H,W i m H->
   (J.stop i H/\Q (.ref D) H)\/(J.go i H/\∃N:Hp->Prop,(∀f,N f->∃U,U<m/\W (i+1) U f)/\∀v f,J.yld i H v f->∃q Y P,v=.ref q/\SqT X.K f q [Y,P]/\te (fg fv σ (some Y) (some P)) f λy H2=>∃ys,H2 D=some (.lst ys)/\ys.length<sizeLine/\N (upd H2 D (.lst (ys++[y])))))(v1:∀D C Z f U,Inv X a σ f Z->df X a f C->Z.heap.Ns C U->Q (.ref D) f->RR (.ref D) C (.ok .next) Z):
  wpAny (model X.prog X.w) X.A (newList []) (λx0 y0=>wpAny (model X.prog X.w) X.A (newFunctionEnv scope X.env.globals cl [] X.env.qual none .none (some X.env)) (λM z0=>
   codeAny (model X.prog X.w) X.A (.compStart (.ListComp elt [⟨(.Tuple [.Name x px,.Name z pz] tk tpos),iter,[],0⟩] scope pos) 0 (.ref it) x0 { M with scope:=relabel scope X.env }) (RR x0 M.locals) z0) E y0) E d:=by
 refine wpAny_newObj_type ?_ (by show 0<=sizeLine;exact aR _);have hD:H d.heap.objs.size=none:=I.hok.fresh (aA _);have I3:=I.lnew (ys:=[]) (its:=[]) (t':=d.toks) .nil (aR _);generalize R:({ d with heap:=d.heap.push { cls:=.type "list",data:=.seq ([]:List Value).toArray },toks:=d.toks }:Shared)=g at I3;have j1:g.heap.objs.size=d.heap.objs.size+1:=by rw[<-R];exact Heap.size_push ..
 have u0:∀b o,d.heap.get? b=some o->g.heap.get? b=some o:=λb o e=>by rw[<-R];exact Heap.get?_push_of_some _ e
 have j0:∀b∈h,df X a (upd H d.heap.objs.size (.lst [])) b:=λb j=>by
  obtain⟨f0,r⟩:=hf b j;refine⟨?_,r⟩;obtain⟨o,e,_⟩:=T.obj 0 _ st b j;rw[aC (dj (Heap.lt_size e))];exact f0
 have k1:∀b∈h,b<d.heap.objs.size:=λb j=>by
  obtain⟨o,e,_⟩:=T.obj 0 _ st b j;exact Heap.lt_size e
 have g1:tn 0 g.heap:=T.keep 0 _ _ st λb _ o e=>u0 b o e;obtain⟨W,⟨m0,w0⟩,k0⟩:=rd _ hD;refine wpAny_newFunctionEnv B.nocell (by intro y hy;simp at hy) (λk G L=>?_) B.kind;have n0:∀b∈h,b≠g.heap.objs.size:=λb j=>dj #v[j1,oO (k1 b j)];have y1:∀b o,g.heap.get? b=some o->k.get? b=some o:=λb o e=>L.extBut b o (dj (Heap.lt_size e)) (Heap.get?_push_of_some _ e);generalize S:({ g with heap:=k,toks:=g.toks+([]:List (Str×Value)).length }:Shared)=s4;have h4:s4.heap=k:=by rw[<-S]
 have I4:Inv (gB X x z fv scope cl g.heap.objs.size g (upd H d.heap.objs.size (.lst [])) h) [] (fg fv σ none none) (upd H d.heap.objs.size (.lst [])) s4:=
  Lw B I3 j0 rfl n0 (by rw[<-S]) (by rw[<-S]) (λb o e=>#v[h4,y1 b o e]) #v[h4,G]
 have z1:tn 0 s4.heap:=by rw[h4];exact T.keep 0 _ _ g1 λb _ o e=>y1 b o e
 have t:∀{f:Hp},(∀b∈h,f b=none)->∀b∈h,df (gB X x z fv scope cl g.heap.objs.size g (upd H d.heap.objs.size (.lst [])) h) [] f b:=λ{f} hn b j=>by
  obtain⟨_,f1,f2,f3,f4,f5⟩:=hf b j;refine⟨hn b j,n0 b j,λz'=>?_,.inl j,λy c e=>f4 y c (B.sub y c e),λp hp=>absurd (show p∈([]:aF) from hp) (by simp)⟩;rcases bj.mp (I.stkSub b z') with q|q
  ·exact f1 q
  ·exact f2 q
 have O:codeAny (model X.prog X.w) X.A (.compLoop (.ListComp elt [⟨(.Tuple [.Name x px,.Name z pz] tk tpos),iter,[],0⟩] scope pos) 0 (.ref it) (.ref d.heap.objs.size) (compEnvC scope cl g.heap.objs.size X.env)) (RR (.ref d.heap.objs.size) g.heap.objs.size) s4:=by
  refine zk (λn Z=>∃i f o o2,Inv (gB X x z fv scope cl g.heap.objs.size g (upd H d.heap.objs.size (.lst [])) h) [] (fg fv σ o o2) f Z/\tn i Z.heap/\(∀b∈h,f b=none)/\W i n f) ?_ m0
   ⟨0,_,none,none,I4,z1,λb j=>(j0 b j).1,w0⟩
  rintro n s5 E' ⟨i,H5,o5,o6,I5,st5,fr5,w5⟩
  rcases k0 i n H5 w5 with ⟨stop,q⟩|⟨go,N,hN,step⟩
  ·refine thn (T.done (gB X x z fv scope cl g.heap.objs.size g (upd H d.heap.objs.size (.lst [])) h) rfl rfl rfl hc i [] s5 _ H5 _ I5 (t fr5) st5 stop) λr s6 F=>?_;obtain⟨hr,I6⟩:=F;subst hr;obtain⟨m6,m1,_⟩:=I6.loc;have J6:Inv X a σ H5 s6:=qm I I6.hok I6.bare hD u0 I6.base (I6.os.trans (by rw[<-R])) hf;refine v1 _ _ s6 H5 m6 J6 ?_ m1 q;exact I3.fpOk (aA _) I6.free
  ·refine thn (T.item (gB X x z fv scope cl g.heap.objs.size g (upd H d.heap.objs.size (.lst [])) h) rfl rfl rfl hc i [] s5 _ H5 _ I5 (t fr5) st5 go) λr s6 F=>?_;obtain⟨u,hr,h6⟩:=F;subst hr;refine thn h6 λ_ s7 F=>?_;obtain⟨v,H7,I7,r7,y7,u1,n1⟩:=F;have y2:=I7.pinned (t n1) (T.obj _ _ u1);obtain⟨q7,Y,P,ev,z2,u2⟩:=step v H7 y7;refine wpAny_mono (Lx (px:=px) (pz:=pz) (tk:=tk) (tpos:=tpos) hc B _ s7 _ H7 v u (λv2 f=>v2=fg fv σ (some Y) (some P)/\f=H7) y2 r7 ⟨q7,[Y,P],ev,z2,rfl,Y,[P],rfl,P,[],rfl,rfl,rfl,rfl⟩) (λ_ s8 F=>?_) λ_ _ z=>False.elim z;obtain⟨z3,H8,I8,j2,k2⟩:=F;subst j2 k2;have e8:=he _ _ _ _ _ s8 _ _ _ I8 u2;refine wpAny_mono e8 (λy s9 F=>?_) λ_ _ z=>False.elim z;obtain⟨yv,H9,I9,r9,ys,g2,hz,n9⟩:=F;have a9:=qo (E':=E') T (λ_ _ z=>z) u1 I9 r9 g2 hz n9 hN;refine wpAny_mono a9 (λ_ u3 F=>?_) λ_ _ z=>z;obtain⟨U,hm,m2,n2,x3,y3,w9⟩:=F;exact⟨U,hm,i+1,m2,_,_,n2,x3,y3,w9⟩
 exact codeAny_compStart_list O (T.self _ 0 _ _ _ z1 O)
def rZ (K:ap)(J:It)(fv:List (Nat×Str))(te:TE)(Q:VK)(σ:St)(H1:Hp)(D:Addr):Prop:=∃W:Nat->Nat->Hp->Prop,(∃m,W 0 m (upd H1 D (.lst [])))/\∀i m H,W i m H->
 (J.stop i H/\Q (.ref D) H)\/(J.go i H/\∃N:Hp->Prop,(∀H',N H'->∃m',m'<m/\W (i+1) m' H')/\∀v H',J.yld i H v H'->∃q x1 x2,v=.ref q/\SqT K H' q [x1,x2]/\te (fg fv σ (some x1) (some x2)) H' λy H2=>∃ys,H2 D=some (.lst ys)/\ys.length<sizeLine/\N (upd H2 D (.lst (ys++[y]))))
def zA (K:ap)(fv:List (Nat×Str))(wi:TI)(te:TE):TE:=λσ H Q=>wi σ H λJ H1=>∀D,H1 D=none->rZ K J fv te Q σ H1 D
theorem r_ {K:ap}{σ:St}{H:Hp}{Q:VK}:zA K fv wi te σ H Q=wi σ H λJ a=>∀D,a D=none->rZ K J fv te Q σ a D:=rfl
theorem Ex (i:X.calm=true)(B:BlkOk2 X x z fv scope cl)(hi:PI X (.Tuple [.Name x px,.Name z pz] tk tpos) iter wi)(j:∀C s H g,PE (gB X x z fv scope cl C s H g) elt te)(hs:∀v,foldedSetIterable iter X.env v=pure v:=by intro _;rfl):PE X (.ListComp elt [⟨.Tuple [.Name x px,.Name z pz] tk tpos,iter,[],0⟩] scope pos) (zA X.K fv wi te):=by
 intro a s σ H Q I h;rw[eval_ListComp];refine wpAny_comprehension_free (use:=none) rfl hs B.clos B.kind B.names (thn (hi a s σ H _ I h) λv P k=>thn k λm R n=>?_);obtain⟨it,g,S,J,U,e,p,T,d,r,t⟩:=n;subst e;refine Ew (RR:=λf C=>compPost (model X.prog X.w) X.A X.xe none (EP X a σ Q) f C) i B j p T d r t ?_;intro D C u y F G c L q;exact⟨F,L,λY M=>⟨.ref D,y,G.turned (t':=u.toks) (λb o O e=>(M.2 b O).trans e) c.1 c.2.1 c.2.2.2.1 c.2.2.2.2.1 c.2.2.2.2.2,rfl,q⟩⟩
def sd (X:Cx)(scope:Scope)(cl:List (Str×Addr))(fv:List (Nat×Str)):Prop:=∀p∈fv,X.N[p.1]?=some p.2/\(X.env.scope.names.lookup p.2=some .cell\/X.env.scope.names.lookup p.2=some .free)/\
  ((relabel scope X.env).names.lookup p.2=some .cell\/(relabel scope X.env).names.lookup p.2=some .free)/\∃c,cl.lookup p.2=some c
theorem se {X:Cx}{scope:Scope}{cl:List (Str×Addr)}:sd X scope cl []:=λ_ h=>nomatch h
theorem nE {X:Cx}{scope:Scope}{cl:List (Str×Addr)}{fv:List (Nat×Str)}(i:Nat)(y:Str)(b:X.N[i]?=some y)(d:X.env.scope.names.lookup y=some .cell\/X.env.scope.names.lookup y=some .free)(e:(relabel scope X.env).names.lookup y=some .cell\/(relabel scope X.env).names.lookup y=some .free)(f:∃c,cl.lookup y=some c)(r:sd X scope cl fv):sd X scope cl ((i,y) :: fv):=λp a=>by
 rcases bj.mp a with rfl|a
 ·exact⟨b,d,e,f⟩
 ·exact r p a
theorem si {X:Cx}{x z:Str}{fv:List (Nat×Str)}{scope:Scope}{cl:List (Str×Addr)}(clos:closureFor scope X.env=pure cl)(sub:∀y c,cl.lookup y=some c->X.env.cells.lookup y=some c)(fvs:sd X scope cl fv)(nd:(x :: z :: fv.map (·.2)).Nodup:=by decide)(kind:scope.kind=.function:=by rfl)(here:scope.names.lookup x=some .local:=by rfl)(here2:scope.names.lookup z=some .local:=by rfl)(nocell:∀y∈scope.names,y.2≠.cell:=by decide +kernel)(names:∀y∈scope.names,y.2=.local->scope.names.lookup y.1=some .local:=by decide +kernel)(has:((relabel scope X.env).names.all λp=>(p.2 != .cell && p.2 != .free) || (cl.lookup p.1).isSome)=true:=by rfl):BlkOk2 X x z fv scope cl:=
 ⟨clos,nocell,kind,names,here,here2,nd,sub,zn has,fvs⟩
end
def Itz (K:ap)(a b:Addr):It:=
 ⟨λi H=>∃xs ys x y,SqL K H a xs/\SqL K H b ys/\xs[i]?=some x/\ys[i]?=some y,λi H v H'=>∃p x y,H p=none/\v=.ref p/\H'=upd H p (.tup [x,y])/\(∀xs,SqL K H a xs->xs[i]?=some x)/\∀ys,SqL K H b ys->ys[i]?=some y,
  λi H=>∃xs ys,SqL K H a xs/\SqL K H b ys/\(xs.length<=i\/ys.length<=i)⟩
theorem Ly {P:Program}{w:World}{K:ap}{y0:List Expr}{tk:Nat}{tpos:Pos}(a b z TI TO C F:Addr)(D:ZipApart z TI TO C F a b):
  Turn P w K (.Tuple y0 tk tpos) (Itz K a b) [z,TI,TO,C,F] z (λi h=>IsZip h z TI TO .none/\IsPair h TI (.ref C) (.ref F)/\(∃u v,IsPair h TO u v)/\h.IsListIter C a i/\h.IsListIter F b i) where
 mem:=by simp
 obj:=λi h st c d=>by
  obtain⟨L,f,⟨u,v,j⟩,⟨o1,e1,c1,d1⟩,⟨o2,e2,c2,d2⟩⟩:=st;simp only[bj,mw,or_false]at d;rcases d with rfl|rfl|rfl|rfl|rfl
  ·exact⟨_,L,λv z=>by
    have z':Data.fields _=Data.cell v:=z
    cases z'⟩
  ·exact⟨_,f,λv z=>by
    have z':Data.seq _=Data.cell v:=z
    cases z'⟩
  ·exact⟨_,j,λv z=>by
    have z':Data.seq _=Data.cell v:=z
    cases z'⟩
  ·exact⟨o1,e1,λv z=>by rw[d1]at z;cases z⟩
  ·exact⟨o2,e2,λv z=>by rw[d2]at z;cases z⟩
 keep:=λi h h' st k=>by
  obtain⟨L,f,⟨u,v,j⟩,h1,h2⟩:=st;exact⟨k z (by simp) _ L,k TI (by simp) _ f,⟨u,v,k TO (by simp) _ j⟩,h1.at λo q=>k C (by simp) o q,h2.at λo q=>k F (by simp) o q⟩
 item:=by
  intro X hP hw hK g i R s σ H E I S st hg;subst hP hw hK;obtain⟨xs,ys,x,y,M,O,hx,hy⟩:=hg;obtain⟨z0,T,U,k0⟩:=I.list M;obtain⟨u0,Y,Z,n0⟩:=I.list O;obtain⟨u1,x1,y1⟩:=T.get hx;obtain⟨u2,z1,v1⟩:=Y.get hy;obtain⟨L,f,⟨_,_,j⟩,p,t⟩:=st;refine wpAny_pyNext_zip_item D L f j p t U.isList Z.isList (x:=u1) (y:=u2) (⇑x1) (⇑z1) λh1 ho j0 j1 k1 hT x2 hk=>?_;refine⟨_,rfl,wpAny_letOwnedTupleGo_zip ho λh2 g1 B=>?_⟩;have hp:H s.heap.objs.size=none:=I.hok.fresh (aA _);have m1:s.heap.objs.size≠z:=IN (Heap.lt_size L);have G:∀c o,c∉[z,TI,TO,C,F]->s.heap.get? c=some o->h2.get? c=some o:=λc o d q=>
   (B.2 c λe=>d (by simp[e])).trans (hk c o (λe=>d (by simp[e])) (λe=>d (by simp[e])) (λe=>d (by simp[e])) (λe=>d (by simp[e])) q)
  have n1:h2.get? s.heap.objs.size=some { cls:=.type "tuple",data:=.seq #[u1,u2] }:=(B.2 _ m1).trans hT;have J:∀c u,H c=some u->c∉[z,TI,TO,C,F]:=λc u q d=>by
   rw[(S c d).1]at q;cases q
  have up:∀c,c<s.heap.objs.size->c≠s.heap.objs.size:=λc d=>dj d;have I2:Inv X R σ (upd H s.heap.objs.size (.tup [x,y])) { s with heap:=h2 }:=by
   refine I.step (g':=s.gens) (d':=s.drawn) (t':=s.toks) (ch:=[z,TI,TO,C,F]) (λc d=>?_) (λc o _ _ g q _=>G c o g q) (λc o _ _ g q _=>⟨o.slots,G c o g q⟩)
    (λc o _ q n=>#v[aC (up c (Heap.lt_size q)),n]) (λc o g q=>⟨o,G c o g q⟩) (λc ys q=>#v[aC (d8 q hp),q]) (λc o v q=>#v[aC (d8 q hp),q])
    (λc ps q=>⟨#[],by rw[aC (d8 q hp),q];simp⟩) (λm hm=>?_) (λc v q=>?_) I.bare
   ·obtain⟨f0,f1,f2,f3,f4,f5⟩:=S c d;exact⟨f3,f1,f4,f5⟩
   ·obtain⟨o,es,ep,q,r⟩:=hm;refine⟨o,es,ep,G _ o (λe=>?_) q,r⟩;exact (S _ e).2.1 rfl
   ·by_cases d:c=s.heap.objs.size
    ·subst d;rw[ak]at q;cases q;exact⟨by show 2<=sizeLine;decide,[u1,u2],.cons y1 (.cons v1 .nil),⟨_,n1,rfl,_,rfl⟩⟩
    ·rw[aC d]at q;refine (I.hok c v q).stay (λQ o g r=>G Q o ?_ r) (λQ r=>#v[aC (d8 r hp),r]) λQ ys r=>by rw[aC (d8 r hp)];exact r
     rcases g with e|e
     ·rw[e];exact J c v q
     ·exact J Q _ e
  refine⟨.ref s.heap.objs.size,_,I2,rfl,⟨_,x,y,hp,rfl,rfl,λzs x0=>#v[I.list_inj x0 M,hx],λzs x0=>#v[I.list_inj x0 O,hy]⟩,
   ⟨g1,(B.2 TI D.TIz).trans (hk TI _ D.TIz D.TITO D.TIi1 D.TIi2 f),⟨_,_,(B.2 TO D.TOz).trans j0⟩,j1.at λo q=>(B.2 C D.i1z).trans q,k1.at λo q=>(B.2 F D.i2z).trans q⟩,λc d=>?_⟩
  have lb:c<s.heap.objs.size:=by
   simp only[bj,mw,or_false]at d;rcases d with rfl|rfl|rfl|rfl|rfl
   ·exact Heap.lt_size L
   ·exact Heap.lt_size f
   ·exact Heap.lt_size j
   ·obtain⟨_,q,_⟩:=p;exact Heap.lt_size q
   ·obtain⟨_,q,_⟩:=t;exact Heap.lt_size q
  rw[aC (up c lb)];exact (S c d).1
 done:=by
  intro X hP hw hK g i R s σ H E I S st hg;subst hP hw hK;obtain⟨xs,ys,M,O,hx⟩:=hg;obtain⟨z0,T,U,k0⟩:=I.list M;obtain⟨u0,Y,Z,n0⟩:=I.list O;obtain⟨L,f,⟨_,_,j⟩,p,t⟩:=st;have y2:=T.length;have z2:=Y.length;refine wpAny_pyNext_zip_end (I.ok.hd g) D L f j p t U.isList Z.isList (by rcases hx with e|e;exact .inl (by simp;omega);exact .inr (by simp;omega)) λh' eb=>⟨rfl,?_⟩
  have G:∀c o,c∉[z,TI,TO,C,F]->s.heap.get? c=some o->h'.get? c=some o:=λc o d q=>eb c o (λe=>d (by simp[e])) (λe=>d (by simp[e])) (λe=>d (by simp[e])) (λe=>d (by simp[e])) q;refine I.step (g':=s.gens) (d':=s.drawn) (t':=s.toks) (ch:=[z,TI,TO,C,F]) (λc d=>?_) (λc o _ _ g q _=>G c o g q) (λc o _ _ g q _=>⟨o.slots,G c o g q⟩)
   (λc o _ q n=>n) (λc o g q=>⟨o,G c o g q⟩) (λc ys q=>q) (λc o v q=>q) (λc ps q=>⟨#[],by rw[q];simp⟩) (λm hm=>?_) (λc v q=>?_) I.bare
  ·obtain⟨f0,f1,f2,f3,f4,f5⟩:=S c d;exact⟨f3,f1,f4,f5⟩
  ·obtain⟨o,es,ep,q,r⟩:=hm;exact⟨o,es,ep,G _ o (λe=>(S _ e).2.1 rfl) q,r⟩
  ·refine (I.hok c v q).stay (λQ o g r=>G Q o ?_ r) (λQ r=>r) λQ ys r=>r;have J:∀c u,H c=some u->c∉[z,TI,TO,C,F]:=λc u q d=>by
    rw[(S c d).1]at q;cases q
   rcases g with e|e
   ·rw[e];exact J c v q
   ·exact J Q _ e
 self:=λ_ _ _ _ _ st h=>wpAny_pyIter_zip st.1 h
section
variable {X:Cx}
def Ey (K:ap)(ta:TA):TI:=λσ H R=>ta σ H λvs H1=>∃a b xs ys,vs=[.ref a,.ref b]/\SqL K H1 a xs/\SqL K H1 b ys/\R (Itz K a b) H1
theorem kf {g:List Expr}{tk:Nat}{tpos:Pos}{a b:Expr}{B:TA}{p pos:Pos}(L:Gl X "zip")(M:X.mg "zip" = none)(O:PA X [a,b] B)(hs:starEach [a,b] X.env=[(false,eval a X.env),(false,eval b X.env)]:=by rfl)(i:starEach [b] X.env=[(false,eval b X.env)]:=by rfl):
  PI X (.Tuple g tk tpos) (.Call (.Name "zip" p) [a,b] [] pos) (Ey X.K B):=by
 intro f s σ H R I h;refine Call_ (im I L M boot_zip (PyProof.Rows.callWith_type1 (thn (O pos f s σ H _ I h) λus d P=>?_) (by rw[hs,i]) (by rw[i];rfl)));obtain⟨vs,C,j,Q,S⟩:=P;obtain⟨a,b,xs,ys,e,o,t,q⟩:=S;subst e
 cases Q with
 | cons r rr=>
  cases rr with
  | cons r' rr=>
  cases rr
  cases r
  cases r'
  obtain⟨D,T,k,U⟩:=j.list o;obtain⟨F,Y,m,Z⟩:=j.list t;have a1:a<d.heap.objs.size:=by obtain⟨_,e,_⟩:=k.isList;exact Heap.lt_size e
  have a2:b<d.heap.objs.size:=by obtain⟨_,e,_⟩:=m.isList;exact Heap.lt_size e
  refine call_zip_2 k.isList m.isList λh1 G u x y z x0 hk=>?_;have I2:Inv X f σ C { d with heap:=h1 }:=j.kept (t':=d.toks) hk;refine wpAny_pyIter_zip G ?_;refine⟨d.heap.objs.size+4,[d.heap.objs.size+4,d.heap.objs.size+2,d.heap.objs.size+3,d.heap.objs.size,d.heap.objs.size+1],_,_,C,rfl,I2,Ly a b _ _ _ _ _ (zipApart_new a1 a2),⟨G,u,⟨_,_,x⟩,y,z⟩,λc J=>?_,q⟩;have n:d.heap.objs.size<=c:=by
   simp only[bj,mw,or_false]at J;rcases J with rfl|rfl|rfl|rfl|rfl <;> omega
  exact j.fpOk n (j.hok.fresh n)
end
theorem sj {K:ap}{d:TA}{σ:St}{H:Hp}{R:It->Hp->Prop}:Ey K d σ H R=d σ H λe c=>∃a b f g,e=[.ref a,.ref b]/\SqL K c a f/\SqL K c b g/\R (Itz K a b) c:=rfl
theorem zB {K:ap}{a b:Addr}{xs ys:List V}{k:List (Nat×Str)}{n:TE}{Q:VK}{σ:St}{o:Hp}{D:Addr}(c:cx)(t:c 0 (upd o D (.lst [])))(u:∀i H,i<=xs.length->i<=ys.length->c i H->SqL K H a xs/\SqL K H b ys)(hs:∀i d f p H,xs[i]?=some d->ys[i]?=some f->c i H->H p=none->n (fg k σ (some d) (some f)) (upd H p (.tup [d,f])) λy q=>∃g,q D=some (.lst g)/\g.length<sizeLine/\c (i+1) (upd q D (.lst (g++[y]))))(hd:∀H,c (min xs.length ys.length) H->Q (.ref D) H):rZ K (Itz K a b) k n Q σ o D:=by
 refine⟨λi m H=>m=min xs.length ys.length-i/\i<=min xs.length ys.length/\c i H,⟨_,rfl,aR _,t⟩,?_⟩
 rintro i m H ⟨rfl,hi,p⟩
 obtain⟨h,j⟩:=u i H () () p;by_cases hlt:i<min xs.length ys.length
 ·have x:i<xs.length:=by omega
  have z:i<ys.length:=by omega
  refine .inr ⟨⟨xs,ys,xs[i],ys[i],h,j,ao x,ao z⟩,c (i+1),λB C=>⟨min xs.length ys.length-(i+1),(),rfl,hlt,C⟩,λv B y=>?_⟩;obtain⟨pa,r,s,F,G,I,J,L⟩:=y;subst G I;exact⟨pa,r,s,rfl,.inl (.inl ak),hs i r s pa H (J xs h) (L ys j) p F⟩
 ·have e:i=min xs.length ys.length:=by omega
  refine .inl ⟨⟨xs,ys,h,j,()⟩,?_⟩;rw[e]at p;exact hd H p
section
variable {X:Cx}
theorem Ez (g:X.calm=true):gq X (.builtin "sum") (λc H Q=>∃(p:Addr)(ns:aa),c=[.ref p]/\SqL X.K H p (ns.map V.int)/\Q (.int ns.sum) H):=by
 intro d s σ H c t Q I r h;obtain⟨p,ns,rfl,i,q⟩:=h;obtain⟨u,rfl,j⟩:=jq r
 cases j
 obtain⟨k,m,pl,x⟩:=I.list i;have hi:=nw m;obtain⟨a,e⟩:=hi.allInts.items;have b:ns=a.toList.map (·.1):=by rw[<-hi.numsOf,<-nums_intItems,<-e]
 have f:=pl.isList;rw[e]at f;refine sum_intListG (I.ok.hd g) f λy z n hk=>?_;have o:preSum (numAt a) a.size=ns.sum:=by rw[preSum_eq,b,gl (by simp)]
 rw[o];exact⟨.int _,H,I.kept hk,⟨n,rfl⟩,q⟩
end
section
variable {X:Cx}{elt iter cnd:Expr}{x:Str}{px:Pos}{fv:List (Nat×Str)}{scope:Scope}{cl:List (Str×Addr)}{pos:Pos}{te:TE}{tt:TT}{wi:TI}
theorem Lz {i:Nat}{y:Str}{g d:Pos}(O:X.calm=true)(B:BlkOk X x fv scope cl)(hi:PI X (.Name x px) iter wi)(m:∀C s H k,PT (blk X x fv scope cl C s H k) cnd tt)(P:∀C s H k,PE (blk X x fv scope cl C s H k) elt te)(R:X.N.Nodup)(n:X.N[i]?=some y)(hy:X.env.scope.names.lookup y=some .local)(p:swapsWith (.ListComp elt [⟨.Name x px,iter,[cnd],0⟩] scope pos) (some (.Name y g)) d.line X.env=pure true:=by rfl)(hs:∀v,foldedSetIterable iter X.env v=pure v:=by intro _;rfl):
  PS X (.Assign [.Name y g] (.ListComp elt [⟨.Name x px,iter,[cnd],0⟩] scope pos) d) (jW (Eu fv wi tt te) (gn i)):=by
 intro c s σ H D I h;rw[exec_Assign_Name_used _ _ _ _ p];refine wpAny_bind (wpAny_standAt (wpAny_bind ?_));show wpAny _ X.A (do let _ <-comprehension (.ListComp elt [⟨.Name x px,iter,[cnd],0⟩] scope pos) scope X.env _ (newList []) false (eval iter X.env) (some (assign (.Name y g) X.env))) _ _ s;refine wpAny_bind (wpAny_mono (wpAny_comprehension_free (use:=some (assign (.Name y g) X.env)) (Q:=λ_ j=>SP X c D .next j) rfl hs B.clos B.kind B.names
  (thn (hi c s σ H _ I h) λv s1 S=>thn S λU s2 Y=>?_)) (λ_ j Z=>wpAny_pure (wpAny_pure Z)) λ_ _ e=>e)
 obtain⟨it,k,tn,J,H2,e,I2,T,r,f2,rd⟩:=Y;subst e;refine Lt (Q:=λx H1=>gn i x σ H1 D.nx) (RR:=λt C=>compPost (model X.prog X.w) X.A X.xe (some (assign (.Name y g) X.env)) (λ_ j=>SP X c D .next j) t C) O B m P I2 T r f2 rd ?_;intro M C j H' m' I' f hn q;show wpAny _ X.A (assign (.Name y g) X.env (.ref M)) _ _ _;refine wpAny_assign_Name (mR I' R n (.inl hy) (v:=.ref M) rfl (λu z F=>?_) (.inr hy));obtain⟨a,sb,ha⟩:=F;have G:C≠a:=by
  rcases ha with rfl|e
  ·exact f.2.1
  ·exact Ne.symm (f.2.2.2.2.1 _ _ e)
 exact⟨m',hn.sameBut sb G,λh' L=>⟨_,H',z.turned (t':=u.toks) (λb o hb e=>(L.2 b hb).trans e) f.1 f.2.1 f.2.2.2.1 f.2.2.2.2.1 f.2.2.2.2.2,q⟩⟩
end
theorem zC {K:ap}{a b:Addr}{xs ys:List V}{g:TG}{tb:TS}{D:Ends}{σ:St}{H:Hp}(c:Nat->St->Hp->Prop)(n:c 0 σ H)(o:∀i σ H,i<=xs.length->i<=ys.length->c i σ H->SqL K H a xs/\SqL K H b ys)(hs:∀i j k p σ H,xs[i]?=some j->ys[i]?=some k->c i σ H->H p=none->g (.ref p) σ (upd H p (.tup [j,k])) λd q=>tb { D with nx:=c (i+1),ct:=c (i+1),bk:=D.nx } d q)(hd:∀σ H,c (min xs.length ys.length) σ H->D.nx σ H):ju (Itz K a b) g tb D σ H:=by
 refine⟨λi m σ H=>m=min xs.length ys.length-i/\i<=min xs.length ys.length/\c i σ H,⟨_,rfl,aR _,n⟩,?_⟩
 rintro i m σ H ⟨rfl,hi,p⟩
 obtain⟨f,h⟩:=o i σ H () () p;by_cases hlt:i<min xs.length ys.length
 ·have r:i<xs.length:=by omega
  have s:i<ys.length:=by omega
  refine .inr ⟨⟨xs,ys,xs[i],ys[i],f,h,ao r,ao s⟩,c (i+1),λt u z=>⟨min xs.length ys.length-(i+1),(),rfl,hlt,z⟩,λx u y=>?_⟩;obtain⟨pa,B,C,F,G,I,J,L⟩:=y;subst G I;exact hs i B C pa σ H (J xs f) (L ys h) p F
 ·have e:i=min xs.length ys.length:=by omega
  rw[e]at p;exact .inl ⟨⟨xs,ys,f,h,()⟩,hd σ H p⟩
section
variable {prog:Program}{w:World}{A:Around}{R:Result->Shared->Prop}{I S:Addr}{fp wr:am}{n:Nat}{P:Nat->Value->Prop}{St:Nat->Heap->Prop}{bt:Nat->Nat->Bool}{d:List (Str×Value)}
theorem sk:(toString "max" ++ toString ".loop" : String) = "max.loop" := by decide
theorem zD (W:Walks prog w A.in1 I fp wr n P St)(y:CmpOf prog w A.in1 .Gt P bt)(r:S∉fp):∀(m i:Nat)(z:Shared)(u:Value)(c:Nat),n=i+1+m->St (i+1) z.heap->P (argBest bt i) u->
  z.heap.get? S=some { cls:=.type "list",dict:=none,data:=.seq #[u,u] c,slots:=#[] }->
  (∀v g x,P (argBest bt (n-1)) v->(∀b o,b∉wr->b≠S->z.heap.get? b=some o->g.get? b=some o)->R (.ok (.ret v)) { z with heap:=g,toks:=x })->codeAny (model prog w) A (.builtin "max.loop" ⟨[.ref I,.none,.ref S],d⟩) R z
 | 0,i,z,u,c,hn,st,hp,eS,q=>by
  have B:S∉wr:=λh=>r (W.sub _ h);refine codeAny_builtin PySem.F.entry_max_loop ?_;rw[Around.under_plainId PySem.F.plain_max_loop _];show wpAny _ A.in1 (seqItems? (.ref S) >>= _) _ _ z;refine wpAny_bind (wpAny_seqItems eS rfl ?_);show wpAny _ A.in1 (tryCatch (pyNext (.ref I)) _ >>= _) _ _ z;have s:n=i+1:=hn;refine wpAny_bind (wpAny_tryCatch (W.done z _ _ #v[s,st] λg x kp=>?_));have a:=kp S _ B eS;show wpAny _ A.in1 (updateSeq S (λ_=>#[]) >>= _) _ _ _;refine wpAny_bind (wpAny_updateSeq a rfl (wpAny_bind (wpAny_letGo (wpAny_pure (q u _ x #v[s,hp] λb o nb p e=>?_)))));exact (Heap.get?_update_other _ _ (Ne.symm p)).trans (kp b o nb e)
 | m+1,i,z,u,c,hn,st,hp,eS,q=>by
  have B:S∉wr:=λh=>r (W.sub _ h);refine codeAny_builtin PySem.F.entry_max_loop ?_;rw[Around.under_plainId PySem.F.plain_max_loop _];show wpAny _ A.in1 (seqItems? (.ref S) >>= _) _ _ z;refine wpAny_bind (wpAny_seqItems eS rfl ?_);show wpAny _ A.in1 (tryCatch (pyNext (.ref I)) _ >>= _) _ _ z;refine wpAny_bind (wpAny_tryCatch (W.item (i+1) z _ _ () st λv g x pv t kp=>?_));have a:=kp S _ B eS;show wpAny _ A.in1 (tryCatch (holding [v,v] (richCompare .Gt v u >>= _)) _ >>= _) _ _ _;refine wpAny_bind (wpAny_tryCatch (wpAny_holding (wpAny_bind (y (i+1) (argBest bt i) v u _ _ _ pv hp (wpAny_bind (wpAny_holding (wpAny_truthy_bool (wpAny_bind (wpAny_letGo (wpAny_pure ?_))))))))))
  cases hb:bt (i+1) (argBest bt i) with
  | true=>
   simp only[if_true];refine wpAny_bind (wpAny_updateSeq a rfl (wpAny_bind (wpAny_letGo ?_)));rw[sk];refine wpAny_pure ⟨plainId_quiet PySem.F.plain_max_loop _,zD W y r m (i+1) _ v _ () (W.frame _ _ _ t λb F o e=>(Heap.get?_update_other _ _ (λh:S=b=>r (h ▸ F))).trans e) (by simp only[argBest,hb,if_true];exact pv) (Heap.get?_update_self _ a rfl) λC D f j k=>?_⟩;exact q C D f j λb o nb p e=>k b o nb p ((Heap.get?_update_other _ _ (Ne.symm p)).trans (kp b o nb e))
  | false=>
   simp only[Bool.false_eq_true,if_false];refine wpAny_bind (wpAny_letGo ?_);rw[sk];exact wpAny_pure ⟨plainId_quiet PySem.F.plain_max_loop _,zD W y r m (i+1) _ u c () t (by simp only[argBest,hb,Bool.false_eq_true,if_false];exact hp) a λC D f j k=>q C D f j λb o nb p e=>k b o nb p (kp b o nb e)⟩
theorem LA (W:Walks prog w A.in1 I fp wr n P St)(t:CmpOf prog w A.in1 .Gt P bt)(d:S∉fp){z:Shared}{f:Nat}{x:Value}{k:Str}(st:St 0 z.heap)(s:z.heap.get? S=some { cls:=.type "list",dict:=none,data:=.seq #[] f,slots:=#[] })(q:∀v g c,(n=0/\v=x)\/(0<n/\P (argBest bt (n-1)) v)->(∀b o,b∉wr->b≠S->z.heap.get? b=some o->g.get? b=some o)->R (.ok (.ret v)) { z with heap:=g,toks:=c }):codeAny (model prog w) A (.builtin "max.loop" ⟨[.ref I,.none,.ref S],[(k,x)]⟩) R z:=by
 have u:S∉wr:=λh=>d (W.sub _ h);refine codeAny_builtin PySem.F.entry_max_loop ?_;rw[Around.under_plainId PySem.F.plain_max_loop _];show wpAny _ A.in1 (seqItems? (.ref S) >>= _) _ _ z;refine wpAny_bind (wpAny_seqItems s rfl ?_);show wpAny _ A.in1 (tryCatch (pyNext (.ref I)) _ >>= _) _ _ z;by_cases n0:n=0
 ·refine wpAny_bind (wpAny_tryCatch (W.done z _ _ #v[n0,st] λg c kp=>?_));show wpAny _ A.in1 (rule _ >>= _) _ _ _;refine wpAny_bind (wpAny_rule ?_);exact wpAny_pure (q x g c (.inl ⟨n0,rfl⟩) λb o nb i e=>kp b o nb e)
 ·refine wpAny_bind (wpAny_tryCatch (W.item 0 z _ _ () st λv g c pv j kp=>?_));have a:=kp S _ u s;show wpAny _ A.in1 (updateSeq S (λ_=>#[v,v]) >>= _) _ _ _;refine wpAny_bind (wpAny_updateSeq a rfl ?_);rw[sk];refine wpAny_pure ⟨plainId_quiet PySem.F.plain_max_loop _,zD W t d (n-1) 0 _ v _ () (W.frame _ _ _ j λb y o e=>(Heap.get?_update_other _ _ (λh:S=b=>d (h ▸ y))).trans e) pv (Heap.get?_update_self _ a rfl) λB C m p r=>?_⟩;exact q B C m (.inr ⟨(),p⟩) λb o nb i e=>r b o nb i ((Heap.get?_update_other _ _ (Ne.symm i)).trans (kp b o nb e))
end
theorem LB (a v:Value):argsOk "max" ⟨[a],[(Str.ofString "default",v)]⟩:=by unfold argsOk;kernel_rfl
theorem LC {prog:Program}{w:World}{A:Around}{E:aP}{s:Shared}{l:Addr}{xs:Array (Int×Tok)}{x:Value}{Q:aP}(h:A.handled=none)(k:s.heap.IsList l (intItems xs))(q:∀v a c,(xs.size=0/\v=x)\/(0<xs.size/\(intItems xs)[argBest (λi j=>decide (numAt xs i > numAt xs j)) (xs.size-1)]?=some v)->(∀b o,s.heap.get? b=some o->a.get? b=some o)->Q v { s with heap:=a,toks:=c }):
  wpAny (model prog w) A (call (.builtin "max") [.ref l] [(Str.ofString "default",x)]) Q E s:=by
 refine PyProof.Rows.kmk_tree PySem.F.kind_max PySem.F.plain_max PySem.F.entry_max (LB _ _) ?_;show wpAny _ A.in1 (Builtin.Builtins.bindParams "max" ["key","default"] 0 ⟨[],[(Str.ofString "default",x)]⟩ >>= _) _ _ s;refine wpAny_bind (wpAny_of_eq (show Builtin.Builtins.bindParams "max" ["key","default"] 0 ⟨[],[(Str.ofString "default",x)]⟩=pure [none,some x] from rfl) ?_);refine wpAny_bind (wpAny_pure (wpAny_bind (iter_intList k λg e st d f=>?_)));subst e;refine wpAny_bind (wpAny_newObj_type ?_);rw[sk];have W:=Walks.list (prog:=prog) (w:=w) (A:=A.in1) h _ l f (intItems xs);refine wpAny_pure ⟨plainId_quiet PySem.F.plain_max_loop _,LA W (CmpOf.ints_gt (numAt xs) (λ_ _=>intItems_at)) (λm=>jL _ (d _ m)) (W.frame _ _ _ st λb _ o e=>Heap.get?_push_of_some _ e) (Heap.get?_push_size _ rfl) λv a c n hk=>?_⟩;refine q v a c (by simpa [intItems] using n) (old_kept (s:=s) (l:=l) λb o nb e=>?_);exact hk b o nb (dj (Heap.lt_size e)) (Heap.get?_push_of_some _ e)
def EA (K:ap)(t tk:TA):TE:=λσ H Q=>t σ H λvs H1=>tk σ H1 λzs H2=>∃p ns d,vs=[.ref p]/\zs=[.int d]/\SqL K H2 p (ns.map V.int)/\∀M,(ns=[]/\M=d)\/(M∈ns/\∀a∈ns,a<=M)->Q (.int M) H2
theorem LD {X:Cx}{p pos b:Pos}{e k:Expr}{t tk:TA}(O:X.calm=true)(P:Gl X "max")(R:X.mg "max" = none)(S:PA X [e] t)(n:PK X [⟨some "default",k,b⟩] tk)(T:backTo pos (starEach [e] X.env)=(false,eval e X.env) :: backTo pos (starEach [] X.env):=by rfl)(o:(backTo pos (starEach [e] X.env)).any (·.1)=false:=by rfl)(g:(backToKw pos (keywordEach [⟨some "default",k,b⟩] X.env)).all (·.1.isSome)=true:=by rfl)(y:(backToKw pos (keywordEach [⟨some "default",k,b⟩] X.env)).filterMap (·.1)=[Str.ofString "default"]:=by rfl)(z:(backToKw pos (keywordEach [⟨some "default",k,b⟩] X.env)).any (·.1.isNone)=false:=by rfl):
  PE X (.Call (.Name "max" p) [e] [⟨some "default",k,b⟩] pos) (EA X.K t tk):=by
 intro c s σ H Q I h;refine wpAny_Call_Name_kw (im I P R kY ?_ () ());refine PyProof.Rows.callWith_kw (thn (S pos c s σ H _ I h) λus U B=>?_) T o g z;obtain⟨vs,Y,Z,r,q⟩:=B;refine thn (n pos c U σ Y _ Z q) λx0 s2 B=>?_;obtain⟨j,F,m,rz,q2⟩:=B;rw[y];obtain⟨a,ns,d,rfl,rfl,hq,G⟩:=q2;obtain⟨u,rfl,rx⟩:=jq r;obtain⟨u',rfl,C⟩:=jq rz;obtain⟨J,rfl⟩:=C
 cases rx
 obtain⟨y0,r',pl,hz⟩:=m.list hq;have hi:=nw r';obtain⟨j,e⟩:=hi.allInts.items;have f:ns=j.toList.map (·.1):=by rw[<-hi.numsOf,<-nums_intItems,<-e]
 have L:=pl.isList;rw[e]at L;refine LC (x:=.int d J) (m.ok.hd O) L λv h' tk D hk=>?_;rcases D with ⟨M,rfl⟩|⟨M,D⟩
 ·exact⟨.int _,F,m.kept hk,⟨J,rfl⟩,G d (.inl ⟨by rw[f,oQ];exact bC #v[Array.length_toList,M],rfl⟩)⟩
 ·obtain⟨tv,rfl⟩:=intItems_at D;obtain⟨g1,g2⟩:=argBest_gt (numAt j) (j.size-1);refine⟨.int _,F,m.kept hk,⟨tv,rfl⟩,G _ (.inr ⟨zw f (),λx hx=>?_⟩)⟩;obtain⟨i,hi,rfl⟩:=zx f hx;exact g2 i ()
theorem sm {K:ap}{t tk:TA}{σ:St}{H:Hp}{Q:VK}:EA K t tk σ H Q=t σ H λc e=>tk σ e λf b=>∃p ns d,c=[.ref p]/\f=[.int d]/\SqL K b p (ns.map V.int)/\∀M,(ns=[]/\M=d)\/(M∈ns/\∀a∈ns,a<=M)->Q (.int M) b:=rfl
theorem sn {K:ap}{neg:Bool}{x y:V}{H:Hp}{Q:VK}:rIn K neg x y H Q=∃p a,y=.ref p/\(SqL K H p a\/SqT K H p a)/\gy x=true/\a.all gy=true/\Q (.bl (if neg then !inV x a else inV x a)) H:=rfl
theorem LF (n:Int)(ns:aa):inV (.int n) (ns.map V.int)=decide (n∈ns):=by
 unfold inV
 induction ns with
 | nil=>rfl
 | cons m ns ih=>
  rw[dY,uK,ih];have:eqV (.int m) (.int n)=decide (n=m):=by
   rw[Bool.eq_iff_iff];simp only[eqV,beq_iff_eq,decide_eq_true_eq];exact eq_comm
  rw[this];simp
open PySem
open PySem
open PySem
open PySem
open PySem
open PySem
open PySem
open PySem
open PySem
open PySem
inductive Tr where|lf|nd (l:Tr) (k:Nat) (r:Tr)
def Tr.ins (k:Nat):Tr->Option Tr
 | .lf=>some (.nd .lf k .lf)
 | .nd l m r=>match Nat.blt k m with
  | true=>match Tr.ins k l with|some l'=>some (.nd l' m r)|none=>none
  | false=>match Nat.blt m k with
   | true=>match Tr.ins k r with|some r'=>some (.nd l m r')|none=>none
   | false=>none
def Tr.all:aw->Tr->Bool
 | [],_=>true
 | k :: ks,t=>match t.ins k with|some t'=>Tr.all ks t'|none=>false
def Tr.mem (x:Nat):Tr->Prop
 | .lf=>False
 | .nd l k r=>x=k\/l.mem x\/r.mem x
abbrev P2:=Int×Int
abbrev PD:=List (P2×Int)
def kz (k:P2):List Key:=[Sum.inl k.1,Sum.inl k.2]
def dz (f:PD):List (List Key×V):=f.map λx=>(kz x.1,V.int x.2)
section
variable {K:ap}{C:Addr}{m f:Str}{sp:Sp}{dvs:List V}{E:XK}{ta tv:TE}{t:TA}{σ:St}{H:Hp}{Q:VK}{D:Ends}
theorem sr:zb K ta f σ H Q=ta σ H λx b=>∃a C c fs v,x=.ref a/\b a=some (.ins C c fs)/\Cls K C/\NoAttr K C f/\fs.lookup f=some v/\Q v b:=rfl
theorem su:DC K ta tv f D σ H=tv σ H λy d=>ta σ d λx b=>∃a C c fs,x=.ref a/\b a=some (.ins C c fs)/\Cls K C/\NoAttr K C f/\fs.length<1000/\D.nx σ (upd b a (.ins C c (aV f y fs))):=rfl
theorem sD:DJ C m sp dvs E ta t σ H Q=ta σ H λx b=>∃a c fs,x=.ref a/\b a=some (.ins C c fs)/\fs.lookup m=none/\t σ b λd e=>sp (x :: (d++dvs)) e Q E:=rfl
theorem sE:DK C sp dvs E t σ H Q=t σ H λc b=>∀x a,b x=none->b a=none->a≠x->sp (.ref x :: (c++dvs)) (upd (upd b a (.own x)) x (.ins C a [])) (λv d=>v=.non/\Q (.ref x) d) E:=rfl
end
@[reducible] def gr (X:Cx) (x:Str) (fv:List (Nat×Str)) (scope:Scope) (cl:List (Str×Addr)) (C:Addr) (s:Shared) (H:Hp) (fp:am):Cx:=
 { blk X x fv scope cl C s H fp with env:={ compEnvC scope cl C X.env with cells:=(x,C+1) :: cl },fn:=λy=>y == x }
structure BlkOkC (X:Cx)(x:Str)(fv:List (Nat×Str))(scope:Scope)(cl:List (Str×Addr)):Prop where
 clos:closureFor scope X.env=pure cl
 one:∀n,cellsFrom n scope.names cl=(x,n) :: cl
 push:∀h,pushCells h scope.names=h.push { cls:=.type "cell",data:=.cell none }
 kind:scope.kind=.function
 names:∀y∈scope.names,y.2=.local->scope.names.lookup y.1=some .local
 here:(relabel scope X.env).names.lookup x=some .cell
 sub:∀y c,cl.lookup y=some c->X.env.cells.lookup y=some c
 has:∀y,y≠x->((relabel scope X.env).names.lookup y=some .cell\/(relabel scope X.env).names.lookup y=some .free)->∃c,cl.lookup y=some c
 nd:(x :: fv.map (·.2)).Nodup
 fvs:∀p∈fv,p.2≠x/\X.N[p.1]?=some p.2/\(X.env.scope.names.lookup p.2=some .cell\/X.env.scope.names.lookup p.2=some .free)/\
  ((relabel scope X.env).names.lookup p.2=some .cell\/(relabel scope X.env).names.lookup p.2=some .free)/\∃c,cl.lookup p.2=some c
theorem iX {x y:Str}{n c:Addr}{cl:List (Str×Addr)}(h:((x,n) :: cl).lookup y=some c):(y=x/\c=n)\/(y≠x/\cl.lookup y=some c):=by
 rw[Bf]at h
 cases e:y == x with
 | true=>rw[e]at h;cases h;exact .inl ⟨eq_of_beq e,rfl⟩
 | false=>rw[e]at h;exact .inr ⟨λz=>by rw[z]at e;simp at e,h⟩
theorem EB {x y:Str}{n c:Addr}{cl:List (Str×Addr)}(ne:y≠x)(h:cl.lookup y=some c):((x,n) :: cl).lookup y=some c:=by
 rw[Bf,show (y == x)=false by simpa using ne];exact h
theorem LG {x:Str}{n:Addr}{cl:List (Str×Addr)}:((x,n) :: cl).lookup x=some n:=by
 rw[Bf,show (x == x)=true by simp]
section
variable {X:Cx}{elt iter:Expr}{x:Str}{px:Pos}{fv:List (Nat×Str)}{scope:Scope}{cl:List (Str×Addr)}{pos:Pos}{te:TE}{wi:TI}
theorem LI {a:aF}{σ:St}{H:Hp}{s:Shared}{j:am}{C:Addr}(B:BlkOkC X x fv scope cl)(I:Inv X a σ H s)(k:∀b∈j,df X a H b)(hC:s.heap.objs.size<=C)(m:∀b∈j,b≠C)(p:∀b∈j,b≠C+1):
  (gr X x fv scope cl C s H j).Ok where
 mod:=I.ok.mod
 kind:=B.kind
 glob:=I.ok.glob
 blt:=I.ok.blt
 above:=hC
 inj:=λy z c g f=>by
  have i:∀{y:Str},cl.lookup y=some (C+1)->False:=λ{y} h=>by
   obtain⟨v,o,q,_⟩:=I.cell y _ (B.sub y _ h);exact absurd (Heap.lt_size q) (Nat.not_lt.mpr (Nat.le_succ_of_le hC))
  rcases iX g with ⟨rfl,rfl⟩|⟨G,g⟩
  ·rcases iX f with ⟨rfl,_⟩|⟨r,f⟩
   ·rfl
   ·exact (i f).elim
  ·rcases iX f with ⟨_,e⟩|⟨r,f⟩
   ·rw[e]at g;exact (i g).elim
   ·exact I.ok.inj y z c (B.sub y c g) (B.sub z c f)
 has:=λy hy=>by
  by_cases e:y=x
  ·exact⟨C+1,#v[e,LG]⟩
  ·obtain⟨c,t⟩:=B.has y e hy;exact⟨c,EB e t⟩
 cab:=λy c hy h=>by
  have e:y=x:=eq_of_beq hy;rcases iX h with ⟨_,rfl⟩|⟨n,_⟩
  ·exact Nat.le_succ_of_le hC
  ·exact absurd e n
 hd:=I.ok.hd
 frames:=I.ok.frames
 stk:=.inl rfl
 exf:=λb d=>⟨m b d,λy c e=>by
  rcases iX e with ⟨_,rfl⟩|⟨_,e⟩
  ·exact Ne.symm (p b d)
  ·exact (k b d).2.2.2.2.1 y c (B.sub y c e)⟩
 bs:=I.bs
 bsz:=aM I.ok.bsz I.sz
 noex:=λb o e d=>by
  obtain⟨_,_,_,u,_⟩:=k b d;rcases u with z|z
  ·exact I.ok.noex b o e z
  ·exact absurd (cP (Heap.lt_size e) (aM I.ok.bsz z)) (jL _)
 exfs:=λb d hs=>by
  obtain⟨_,D,F,_⟩:=k b d;rcases bj.mp (I.stkSub b hs) with z|z
  ·exact D z
  ·exact F z
 funs:=I.stack
 frf:=I.stkFree
theorem LJ {a:aF}{σ:St}{H:Hp}{s d:Shared}{g:am}{C:Addr}{m:bh}(B:BlkOkC X x fv scope cl)(I:Inv X a σ H s)(P:∀b∈g,df X a H b)(hC:C=s.heap.objs.size)(h:∀b∈g,b≠C)(n:∀b∈g,b≠C+1)(os:d.os=s.os)(f:d.gens=s.gens)(keep:∀b o,s.heap.get? b=some o->d.heap.get? b=some o)(ns:d.heap.Ns C m)(Q:d.heap.IsCell (C+1) none):
  Inv (gr X x fv scope cl C s H g) [] (bst fv σ none) H d:=by
 subst hC;refine⟨LI B I P (aA _) h n,os,#v[f,I.bare],Un.kept keep,⟨m,ns,λi y v R L Y=>?_⟩,λy c e=>?_,I.hok.fresh (aA _),λy c e=>?_,λp q=>absurd (show p∈([]:aF) from q) (by simp),I.hok.kept keep,by simp[bst]⟩
 ·cases i with
  | zero=>simp[bst]at L
  | succ j=>
   obtain⟨p,q,rfl,S⟩:=zm R L;obtain⟨t,T,hk,D,c,M⟩:=B.fvs p q;obtain⟨m0,_,U⟩:=I.loc;have F:Vis X.env.scope p.2:=hk.elim (λz=>.inr (.inl z)) λz=>.inr (.inr z);obtain⟨u,r,l⟩:=U p.1 p.2 v T S F;refine⟨u,r,.inr ⟨D,c,EB t M,?_⟩⟩;rcases l with ⟨z,_⟩|⟨_,Z,G,o,J,hd⟩
   ·have O:X.env.scope.names.lookup p.2=some .local:=z;rcases hk with k|k <;> (rw[k]at O;cases O)
   ·have:=B.sub p.2 c M;rw[G]at this;cases this;exact⟨o,keep _ o J,hd⟩
 ·rcases iX e with ⟨_,rfl⟩|⟨_,e⟩
  ·exact⟨none,Q⟩
  ·obtain⟨v,o,J,hd⟩:=I.cell y c (B.sub y c e);exact⟨v,o,keep c o J,hd⟩
 ·rcases iX e with ⟨_,rfl⟩|⟨_,e⟩
  ·exact I.hok.fresh (uJ _)
  ·exact I.freeC y c (B.sub y c e)
theorem LK {s:Shared}{g:Addr}{q:Str}{env:Env}{M:Model}{A:Around}{E:aP}{Q:Env->Shared->Prop}(one:∀n,cellsFrom n scope.names cl=(x,n) :: cl)(push:∀h,pushCells h scope.names=h.push { cls:=.type "cell",data:=.cell none })(h:Q { scope:=scope,locals:=s.heap.objs.size,globals:=g,cells:=(x,s.heap.objs.size+1) :: cl,qual:=q,func:=none,code:=env.code,frame:=env.frame,builtins:=env.builtins }
   { s with heap:=(s.heap.push { cls:=.type "dict",data:=.dict #[] }).push { cls:=.type "cell",data:=.cell none } }):
  wpAny M A (newFunctionEnv scope g cl [] q none .none (some env)) Q E s:=by
 simp only[newFunctionEnv,Option.isSome_some,if_true];refine wpAny_bind (wpAny_alloc ?_);refine wpAny_bind (wpAny_layCells _ (λb kind a=>by cases hkc:kind == NameKind.cell <;> simp[hkc]) _ _ _ _ ?_);rw[show ({ s with heap:=s.heap.push { cls:=.type "dict",data:=.dict #[] } }:Shared).heap.objs.size=s.heap.objs.size+1 from Heap.size_push ..];dsimp only;rw[one,push];rw[List.forIn_nil];exact wpAny_bind (wpAny_pure (wpAny_pure h))
theorem LM {a:aF}{σ:St}{H b:Hp}{s d:Shared}{c:am}{C:Addr}{o:Option V}{v:V}{u:Value}{E:aP}{Q:Unit->Shared->Prop}(B:BlkOkC X x fv scope cl)(I:Inv (gr X x fv scope cl C s b c) a (bst fv σ o) H d)(r:RelV v u)(h:∀e,Inv (gr X x fv scope cl C s b c) a (bst fv σ (some v)) H e->Q ⟨⟩ e):
  wpAny (model X.prog X.w) X.A (assign (.Name x px) { compEnvC scope cl C X.env with cells:=(x,C+1) :: cl } u) Q E d:=
 wpAny_assign_Name (pW (X:=gr X x fv scope cl C s b c) (i:=0) I B.nd rfl (.inr B.here) r h (.inl (by show (x == x)=true;simp)))
end
section
variable {X:Cx}{elt iter:Expr}{x:Str}{px:Pos}{fv:List (Nat×Str)}{scope:Scope}{cl:List (Str×Addr)}{pos:Pos}{te:TE}{wi:TI}
theorem EC {d:aF}{σ:St}{H:Hp}{f:Shared}{it:Addr}{j:am}{Y:Nat->Heap->Prop}{J:It}{Q:VK}{E:aP}{RR:Value->Addr->Result->Shared->Prop}(hc:X.calm=true)(B:BlkOkC X x fv scope cl)(he:∀C s H j,PE (gr X x fv scope cl C s H j) elt te)(I:Inv X d σ H f)(T:Turn X.prog X.w X.K (.Name x px) J j it Y)(st:Y 0 f.heap)(hf:∀b∈j,df X d H b)(rd:∀D,H D=none->∃W:Nat->Nat->Hp->Prop,(∃m,W 0 m (upd H D (.lst [])))/\∀i m H,W i m H->
   (J.stop i H/\Q (.ref D) H)\/(J.go i H/\∃N:Hp->Prop,(∀g,N g->∃R,R<m/\W (i+1) R g)/\∀v g,J.yld i H v g->te (bst fv σ (some v)) g λy H2=>∃ys,H2 D=some (.lst ys)/\ys.length<sizeLine/\N (upd H2 D (.lst (ys++[y])))))(j1:∀D C S g R,Inv X d σ g S->df X d g C->S.heap.Ns C R->Q (.ref D) g->RR (.ref D) C (.ok .next) S):
  wpAny (model X.prog X.w) X.A (newList []) (λZ x0=>wpAny (model X.prog X.w) X.A (newFunctionEnv scope X.env.globals cl [] X.env.qual none .none (some X.env)) (λG y0=>
   codeAny (model X.prog X.w) X.A (.compStart (.ListComp elt [⟨.Name x px,iter,[],0⟩] scope pos) 0 (.ref it) Z { G with scope:=relabel scope X.env }) (RR Z G.locals) y0) E x0) E f:=by
 refine wpAny_newObj_type ?_ (by show 0<=sizeLine;exact aR _);have hD:H f.heap.objs.size=none:=I.hok.fresh (aA _);have I3:=I.lnew (ys:=[]) (its:=[]) (t':=f.toks) .nil (aR _);generalize M:({ f with heap:=f.heap.push { cls:=.type "list",data:=.seq ([]:List Value).toArray },toks:=f.toks }:Shared)=a at I3;have z0:a.heap.objs.size=f.heap.objs.size+1:=by rw[<-M];exact Heap.size_push ..
 have u0:∀b o,f.heap.get? b=some o->a.heap.get? b=some o:=λb o e=>by rw[<-M];exact Heap.get?_push_of_some _ e
 have j0:∀b∈j,df X d (upd H f.heap.objs.size (.lst [])) b:=λb k=>by
  obtain⟨f0,r⟩:=hf b k;refine⟨?_,r⟩;obtain⟨o,e,_⟩:=T.obj 0 _ st b k;rw[aC (dj (Heap.lt_size e))];exact f0
 have k0:∀b∈j,b<f.heap.objs.size:=λb k=>by
  obtain⟨o,e,_⟩:=T.obj 0 _ st b k;exact Heap.lt_size e
 have k1:Y 0 a.heap:=T.keep 0 _ _ st λb _ o e=>u0 b o e;obtain⟨W,⟨m0,w0⟩,n0⟩:=rd _ hD;refine LK B.one B.push ?_;have x1:∀b∈j,b≠a.heap.objs.size:=λb k=>dj #v[z0,oO (k0 b k)];have y1:∀b∈j,b≠a.heap.objs.size+1:=λb k=>dj #v[z0,oO (oO (k0 b k))];generalize O:(a.heap.push { cls:=.type "dict",data:=.dict #[] }).push { cls:=.type "cell",data:=.cell none }=h;have z1:∀b o,a.heap.get? b=some o->h.get? b=some o:=λb o e=>by rw[<-O];exact Heap.get?_push_of_some _ (Heap.get?_push_of_some _ e)
 have g1:h.Ns a.heap.objs.size (λ_=>none):=by
  rw[<-O];exact (Heap.Ns.new a.heap (.type "dict")).keeps λb o e=>Heap.get?_push_of_some _ e
 have m1:h.IsCell (a.heap.objs.size+1) none:=by
  rw[<-O,show a.heap.objs.size+1=(a.heap.push { cls:=.type "dict",data:=.dict #[] }).objs.size from (Heap.size_push ..).symm];exact⟨{ cls:=.type "cell",data:=.cell none },Heap.get?_push_size _ rfl,rfl⟩
 generalize P:({ a with heap:=h }:Shared)=s4;have h4:s4.heap=h:=by rw[<-P]
 have I4:Inv (gr X x fv scope cl a.heap.objs.size a (upd H f.heap.objs.size (.lst [])) j) [] (bst fv σ none) (upd H f.heap.objs.size (.lst [])) s4:=
  LJ B I3 j0 rfl x1 y1 (by rw[<-P]) (by rw[<-P]) (λb o e=>#v[h4,z1 b o e]) #v[h4,g1] #v[h4,m1]
 have u1:Y 0 s4.heap:=by rw[h4];exact T.keep 0 _ _ k1 λb _ o e=>z1 b o e
 have t:∀{g:Hp},(∀b∈j,g b=none)->∀b∈j,df (gr X x fv scope cl a.heap.objs.size a (upd H f.heap.objs.size (.lst [])) j) [] g b:=λ{g} hn b k=>by
  obtain⟨_,f1,f2,f3,f4,f5⟩:=hf b k;refine⟨hn b k,x1 b k,λz=>?_,.inl k,λy c e=>?_,λp hp=>absurd (show p∈([]:aF) from hp) (by simp)⟩
  ·rcases bj.mp (I.stkSub b z) with q|q
   ·exact f1 q
   ·exact f2 q
  ·rcases iX e with ⟨_,rfl⟩|⟨_,e⟩
   ·exact Ne.symm (y1 b k)
   ·exact f4 y c (B.sub y c e)
 have L:codeAny (model X.prog X.w) X.A (.compLoop (.ListComp elt [⟨.Name x px,iter,[],0⟩] scope pos) 0 (.ref it) (.ref f.heap.objs.size) { compEnvC scope cl a.heap.objs.size X.env with cells:=(x,a.heap.objs.size+1) :: cl }) (RR (.ref f.heap.objs.size) a.heap.objs.size) s4:=by
  refine zk (λn S=>∃i g o,Inv (gr X x fv scope cl a.heap.objs.size a (upd H f.heap.objs.size (.lst [])) j) [] (bst fv σ o) g S/\Y i S.heap/\(∀b∈j,g b=none)/\W i n g) ?_ m0
   ⟨0,_,none,I4,u1,λb k=>(j0 b k).1,w0⟩
  rintro n s5 E' ⟨i,H5,o5,I5,st5,fr5,w5⟩
  rcases n0 i n H5 w5 with ⟨stop,q⟩|⟨go,N,hN,step⟩
  ·refine thn (T.done (gr X x fv scope cl a.heap.objs.size a (upd H f.heap.objs.size (.lst [])) j) rfl rfl rfl hc i [] s5 _ H5 _ I5 (t fr5) st5 stop) λr s6 F=>?_;obtain⟨hr,U⟩:=F;subst hr;obtain⟨m6,n1,_⟩:=U.loc;have J6:Inv X d σ H5 s6:=qm I U.hok U.bare hD u0 U.base (U.os.trans (by rw[<-M])) hf;refine j1 _ _ s6 H5 m6 J6 ?_ n1 q;exact I3.fpOk (aA _) U.free
  ·refine thn (T.item (gr X x fv scope cl a.heap.objs.size a (upd H f.heap.objs.size (.lst [])) j) rfl rfl rfl hc i [] s5 _ H5 _ I5 (t fr5) st5 go) λr s6 F=>?_;obtain⟨u,hr,h6⟩:=F;subst hr;refine thn h6 λ_ s7 F=>?_;obtain⟨v,H7,I7,r7,y7,v1,x2⟩:=F;have y2:=I7.pinned (t x2) (T.obj _ _ v1);refine LM B y2 r7 λs8 I8=>?_;have e8:=he _ _ _ _ _ s8 _ H7 _ I8 (step v H7 y7);refine wpAny_mono e8 (λy s9 F=>?_) λ_ _ z=>False.elim z;obtain⟨yv,H9,I9,r9,ys,z2,hz,n9⟩:=F;have a9:=qo (E':=E') T (λ_ _ z=>z) v1 I9 r9 z2 hz n9 hN;refine wpAny_mono a9 (λ_ g2 F=>?_) λ_ _ z=>z;obtain⟨R,hm,u2,v2,j2,k2,w9⟩:=F;exact⟨R,hm,i+1,u2,_,v2,j2,k2,w9⟩
 exact codeAny_compStart_list L (T.self _ 0 _ _ _ u1 L)
theorem ED {i:Nat}{y:Str}{g d:Pos}(M:X.calm=true)(B:BlkOkC X x fv scope cl)(hi:PI X (.Name x px) iter wi)(O:∀C s H G,PE (gr X x fv scope cl C s H G) elt te)(P:X.N.Nodup)(k:X.N[i]?=some y)(hy:X.env.scope.names.lookup y=some .local)(m:swapsWith (.ListComp elt [⟨.Name x px,iter,[],0⟩] scope pos) (some (.Name y g)) d.line X.env=pure true:=by rfl)(hs:∀v,foldedSetIterable iter X.env v=pure v:=by intro _;rfl):
  PS X (.Assign [.Name y g] (.ListComp elt [⟨.Name x px,iter,[],0⟩] scope pos) d) (jW (m_ fv wi te) (gn i)):=by
 intro c s σ H D I h;rw[exec_Assign_Name_used _ _ _ _ m];refine wpAny_bind (wpAny_standAt (wpAny_bind ?_));show wpAny _ X.A (do let _ <-comprehension (.ListComp elt [⟨.Name x px,iter,[],0⟩] scope pos) scope X.env _ (newList []) false (eval iter X.env) (some (assign (.Name y g) X.env))) _ _ s;refine wpAny_bind (wpAny_mono (wpAny_comprehension_free (use:=some (assign (.Name y g) X.env)) (Q:=λ_ j=>SP X c D .next j) rfl hs B.clos B.kind B.names
  (thn (hi c s σ H _ I h) λv s1 R=>thn R λS s2 U=>?_)) (λ_ j Y=>wpAny_pure (wpAny_pure Y)) λ_ _ e=>e)
 obtain⟨it,G,tn,J,H2,e,Z,T,n,f2,rd⟩:=U;subst e;refine EC (Q:=λx H1=>gn i x σ H1 D.nx) (RR:=λp C=>compPost (model X.prog X.w) X.A X.xe (some (assign (.Name y g) X.env)) (λ_ j=>SP X c D .next j) p C) M B O Z T n f2 rd ?_;intro L C j H' m' I' f hn q;show wpAny _ X.A (assign (.Name y g) X.env (.ref L)) _ _ _;refine wpAny_assign_Name (mR I' P k (.inl hy) (v:=.ref L) rfl (λr t u=>?_) (.inr hy));obtain⟨a,sb,ha⟩:=u;have z:C≠a:=by
  rcases ha with rfl|e
  ·exact f.2.1
  ·exact Ne.symm (f.2.2.2.2.1 _ _ e)
 exact⟨m',hn.sameBut sb z,λh' F=>⟨_,H',t.turned (t':=r.toks) (λb o hb e=>(F.2 b hb).trans e) f.1 f.2.1 f.2.2.2.1 f.2.2.2.2.1 f.2.2.2.2.2,q⟩⟩
theorem LN (i:X.calm=true)(B:BlkOkC X x fv scope cl)(hi:PI X (.Name x px) iter wi)(j:∀C s H g,PE (gr X x fv scope cl C s H g) elt te)(hs:∀v,foldedSetIterable iter X.env v=pure v:=by intro _;rfl):PE X (.ListComp elt [⟨.Name x px,iter,[],0⟩] scope pos) (m_ fv wi te):=by
 intro a s σ H Q I h;rw[eval_ListComp];refine wpAny_comprehension_free (use:=none) rfl hs B.clos B.kind B.names (thn (hi a s σ H _ I h) λv O k=>thn k λm P n=>?_);obtain⟨it,g,R,J,S,e,p,T,d,r,t⟩:=n;subst e;refine EC (RR:=λf C=>compPost (model X.prog X.w) X.A X.xe none (EP X a σ Q) f C) i B j p T d r t ?_;intro D C u y z F c G q;exact⟨z,G,λU L=>⟨.ref D,y,F.turned (t':=u.toks) (λb o M e=>(L.2 b M).trans e) c.1 c.2.1 c.2.2.2.1 c.2.2.2.2.1 c.2.2.2.2.2,rfl,q⟩⟩
theorem zE (clos:closureFor scope X.env=pure cl)(sub:∀y c,cl.lookup y=some c->X.env.cells.lookup y=some c)(fvs:ni X x scope cl fv)(one:∀n,cellsFrom n scope.names cl=(x,n) :: cl:=by intro _;rfl)(push:∀h,pushCells h scope.names=h.push { cls:=.type "cell",data:=.cell none }:=by intro _;rfl)(kind:scope.kind=.function:=by rfl)(here:(relabel scope X.env).names.lookup x=some .cell:=by rfl)(nd:(x :: fv.map (·.2)).Nodup:=by decide +kernel)(names:∀y∈scope.names,y.2=.local->scope.names.lookup y.1=some .local:=by decide +kernel)(has:((relabel scope X.env).names.all λp=>(p.2 != .cell && p.2 != .free) || (((x,0) :: cl).lookup p.1).isSome)=true:=by rfl):BlkOkC X x fv scope cl:=
 ⟨clos,one,push,kind,names,here,sub,λy ne hy=>by
  obtain⟨c,h⟩:=zn has y hy;rcases iX h with ⟨e,_⟩|⟨_,h⟩
  ·exact absurd e ne
  ·exact⟨c,h⟩,nd,fvs⟩
end
theorem LO {X:Cx}{K:ap}{e:Expr}{a:TE}{f:Str}{pos:Pos}(hK:X.K=K)(b:PE X e a)(c:attributeBase e f X.env (eval e X.env)=eval e X.env):PE X (.Attribute e f pos) (zb K a f):=by subst hK;exact dB b c
open PySem
theorem EE {X:Cx}{g d:Expr}{x z:Str}{px pz tpos pos:Pos}{tk:Nat}{p:List (Nat×Str)}{c:Scope}{cl:List (Str×Addr)}{R:TE}{S:TI}{i:Nat}{y:Str}{m j:Pos}(Z:X.calm=true)(B:BlkOk2 X x z p c cl)(hi:PI X (.Tuple [.Name x px,.Name z pz] tk tpos) d S)(he:∀C s H U,PE (gB X x z p c cl C s H U) g R)(hN:X.N.Nodup)(r:X.N[i]?=some y)(hy:X.env.scope.names.lookup y=some .local)(t:swapsWith (.ListComp g [⟨.Tuple [.Name x px,.Name z pz] tk tpos,d,[],0⟩] c pos) (some (.Name y m)) j.line X.env=pure true:=by rfl)(hs:∀v,foldedSetIterable d X.env v=pure v:=by intro _;rfl):
  PS X (.Assign [.Name y m] (.ListComp g [⟨.Tuple [.Name x px,.Name z pz] tk tpos,d,[],0⟩] c pos) j) (jW (zA X.K p S R) (gn i)):=by
 intro f s σ H D I h;rw[exec_Assign_Name_used _ _ _ _ t];refine wpAny_bind (wpAny_standAt (wpAny_bind ?_));show wpAny _ X.A (do let _ <-comprehension (.ListComp g [⟨.Tuple [.Name x px,.Name z pz] tk tpos,d,[],0⟩] c pos) c X.env _ (newList []) false (eval d X.env) (some (assign (.Name y m) X.env))) _ _ s;refine wpAny_bind (wpAny_mono (wpAny_comprehension_free (use:=some (assign (.Name y m) X.env)) (Q:=λ_ n=>SP X f D .next n) rfl hs B.clos B.kind B.names
  (thn (hi f s σ H _ I h) λv s1 h1=>thn h1 λx0 s2 h2=>?_)) (λ_ n hq=>wpAny_pure (wpAny_pure hq)) λ_ _ e=>e)
 obtain⟨it,U,tn,J,H2,e,I2,T,u,f2,rd⟩:=h2;subst e;refine Ew (Q:=λx H1=>gn i x σ H1 D.nx) (RR:=λF C=>compPost (model X.prog X.w) X.A X.xe (some (assign (.Name y m) X.env)) (λ_ n=>SP X f D .next n) F C) Z B he I2 T u f2 rd ?_;intro Y C n H' m' I' k hn q;show wpAny _ X.A (assign (.Name y m) X.env (.ref Y)) _ _ _;refine wpAny_assign_Name (mR I' hN r (.inl hy) (v:=.ref Y) rfl (λG L M=>?_) (.inr hy));obtain⟨a,sb,ha⟩:=M;have O:C≠a:=by
  rcases ha with rfl|e
  ·exact k.2.1
  ·exact Ne.symm (k.2.2.2.2.1 _ _ e)
 exact⟨m',hn.sameBut sb O,λh' P=>⟨_,H',L.turned (t':=G.toks) (λb o hb e=>(P.2 b hb).trans e) k.1 k.2.1 k.2.2.2.1 k.2.2.2.2.1 k.2.2.2.2.2,q⟩⟩
def EF:V->List V->Hp->VK->Prop:=λx vs H Q=>∃a kvs k v,x=.ref a/\vs=[kV k,v]/\H a=some (.dK kvs)/\kvs.length<=900/\(∀u,fe kvs k=some u->Q u H)/\(fe kvs k=none->Q v (upd H a (.dK (iW kvs k v))))
theorem sI {x:V}{vs:List V}{H:Hp}{Q:VK}:EF x vs H Q=∃a b k v,x=.ref a/\vs=[kV k,v]/\H a=some (.dK b)/\b.length<=900/\(∀u,fe b k=some u->Q u H)/\(fe b k=none->Q v (upd H a (.dK (iW b k v)))):=rfl
theorem LP {X:Cx}:MtM X "dict.setdefault" EF:=by
 intro n s σ H x M v O Q I o p h;obtain⟨a,b,k,y,rfl,rfl,e,P,r,t⟩:=h
 cases o
 cases p with
 | cons r1 rr=>
  cases rr with
  | cons r2 rr=>
   cases rr
   rename_i R u;obtain⟨z,hd,B,c,dd⟩:=Ln I.hok e;refine call_meetsIn PySem.F.slot_dict_setdefault dd.typeIs PySem.F.entry_dict_setdefault (PySem.F.args_dict_setdefault_3 _ _ _) (kt_meets_setdefault (iP X.prog X.w) a (Lj r1) hd u)
    ⟨B,dd,#v[<-c.length,z],λC D=>?_,λF G i hs=>?_⟩
   ·have d:=c.val k;rw[D]at d;obtain⟨f,g,j⟩:∃f,fe b k=some f/\RelV f C:=by
     cases g:fe b k with
     | none=>rw[g]at d;exact d.elim
     | some f=>rw[g]at d;exact⟨f,rfl,d⟩
    exact⟨f,H,I.tok _,j,r f g⟩
   ·have m:fe b k=none:=by
     have d:=c.val k;rw[F]at d
     cases g:fe b k with
     | none=>rfl
     | some f=>rw[g]at d;exact d.elim
    have J:(iW b k y).length<=sizeLine:=by
     have:=Li b k y;exact dm (bD ())
    have L:∃q,G.get? a=some q:=let ⟨q,_,_,hq,_⟩:=i;⟨q,hq⟩
    exact⟨y,_,Lo I #v[e,True.intro] hs L (Lp J hd (c.put k r2) i),r2,t m⟩
theorem sJ {σ:St}{H:Hp}{Q:VK}:Et σ H Q=∀p,H p=none->Q (.ref p) (upd H p (.dK [])):=rfl
theorem sK {K:ap}{d e:TE}{g:V->V->Hp->VK->Prop}{f:Str}{D:Ends}{σ:St}{H:Hp}:DE K d e g f D σ H=d σ H λx h=>∃a C j fs v,x=.ref a/\h a=some (.ins C j fs)/\Cls K C/\NoAttr K C f/\fs.lookup f=some v/\
 e σ h λy k=>g v y k λz i=>∃c b,i a=some (.ins C c b)/\b.length<1000/\D.nx σ (upd i a (.ins C c (aV f z b))):=rfl
theorem sL {x y:V}{H:Hp}{Q:VK}:DF x y H Q=∃i j,x=.int i/\y=.int j/\Q (.int (i+j)) H:=rfl
theorem LQ {a b c:TS}{D:Ends}{σ:St}{H:Hp}(h:∀t:TS,t=jl b c->jl a t D σ H):jl a (jl b c) D σ H:=h _ rfl
theorem LR {a b c:TS}{D:Ends}{σ:St}{H:Hp}(h:∀t:TS,t=rJ b c->jl a t D σ H):jl a (rJ b c) D σ H:=h _ rfl
theorem LS {t b:TS}{D:Ends}{σ:St}{H:Hp}(e:t=b)(h:b D σ H):t D σ H:=e ▸ h
end L2
namespace My
def aL (xs:aa):aa:=(xs.reverse.dropWhile (· == 0)).reverse
theorem LU:aL []=[]:=rfl
theorem zF (xs:aa):aL (xs++[0])=aL xs:=by
 unfold aL;rw[Qp];rfl
theorem zG (xs:aa){a:Int}(h:a≠0):aL (xs++[a])=xs++[a]:=by
 unfold aL;rw[Qp];have:([a].reverse++xs.reverse).dropWhile (· == 0)=a :: xs.reverse:=by
  show (a :: xs.reverse).dropWhile (· == 0)=_;rw[List.dropWhile_cons];simp[h]
 rw[this];simp
def co (xs:aa)(k:Nat):Int:=xs.getD k 0
theorem f_ (k:Nat):co [] k=0:=rfl
theorem aD {xs:aa}{k:Nat}(h:xs.length<=k):co xs k=0:=by
 unfold co;rw[aq,ic h];rfl
theorem aI {xs:aa}{k:Nat}(h:k<xs.length):co xs k=xs[k]:=by
 unfold co;rw[aq,ao h];rfl
theorem kZ (xs:aa)(a:Int)(k:Nat):co (xs++[a]) k=if k=xs.length then a else co xs k:=by
 by_cases h:k<xs.length
 ·rw[if_neg ()];unfold co;rw[aq,aq,cA h]
 ·by_cases h2:k=xs.length
  ·subst h2;rw[if_pos rfl];unfold co;rw[aq,cQ (aA _)];simp
  ·rw[if_neg h2,aD (by simp;omega),aD ()]
theorem nG {P:aa->Prop}(c:P [])(d:∀xs a,P xs->P (xs++[a]))(xs:aa):P xs:=by
 have:∀b:aa,P b.reverse:=λb=>by
  induction b with
  | nil=>exact c
  | cons a r ih=>rw[List.reverse_cons];exact d _ _ ih
 have:=this xs.reverse
 rwa [List.reverse_reverse]at this
theorem cL (xs:aa)(k:Nat):co (aL xs) k=co xs k:=by
 refine nG (P:=λxs=>co (aL xs) k=co xs k) rfl (λxs a b=>?_) xs;by_cases h:a=0
 ·subst h;rw[zF,b,kZ];by_cases h2:k=xs.length
  ·rw[if_pos h2,aD ()]
  ·rw[if_neg h2]
 ·rw[zG _ h]
def Nml (xs:aa):Prop:=∀a ys,xs=ys++[a]->a≠0
theorem cM (xs:aa):Nml (aL xs):=by
 refine nG (P:=λxs=>Nml (aL xs)) (λa c h=>?_) (λxs a d=>?_) xs
 ·rw[LU]at h;simp at h
 ·by_cases h:a=0
  ·subst h;rw[zF];exact d
  ·rw[zG _ h];intro b c e;have:=List.append_inj' e rfl;have f:a=b:=by simpa using this.2
   rw[<-f];exact h
theorem LV {xs:aa}(h:Nml xs):aL xs=xs:=by
 rcases uN xs with rfl|⟨b,a,rfl⟩
 ·rfl
 ·rw[uO]at *;exact zG _ (h a b rfl)
theorem g_ {xs:aa}(h:Nml xs){n:Nat}(c:∀k,n<=k->co xs k=0):xs.length<=n:=by
 rcases uN xs with rfl|⟨b,a,rfl⟩
 ·exact aR _
 ·rw[uO]at *;have d:=h a b rfl;by_cases hn:(b++[a]).length<=n
  ·exact hn
  ·have:=c b.length (by simp at hn;omega);rw[kZ,if_pos rfl]at this;exact absurd this d
theorem zH {xs ys:aa}(b:xs.length=ys.length)(h:∀k,k<xs.length->co xs k=co ys k):xs=ys:=by
 refine ie b λk a c=>?_;have:=h k a;rw[aI a,aI c]at this;exact this
theorem ip {xs ys:aa}(hx:Nml xs)(hy:Nml ys)(h:∀k,co xs k=co ys k):xs=ys:=by
 have a:xs.length<=ys.length:=g_ hx λk hk=>by rw[h,aD hk]
 have b:ys.length<=xs.length:=g_ hy λk hk=>by rw[<-h,aD hk]
 exact zH () λk _=>h k
theorem zI {xs ys:aa}(h:∀k,co xs k=co ys k):aL xs=aL ys:=
 ip (cM _) (cM _) λk=>by rw[cL,cL,h]
theorem k_ (xs:aa):(aL xs).length<=xs.length:=g_ (cM _) λk hk=>by rw[cL,aD hk]
theorem EG {xs:aa}{n:Nat}(h:n<=xs.length)(d:∀k,n<=k->co xs k=0)(f:n=0\/co xs (n-1)≠0):aL xs=xs.take n:=by
 have c:∀k,co (xs.take n) k=co xs k:=λk=>by
  by_cases hk:k<n
  ·unfold co;rw[aq,aq,mq hk]
  ·rw[aD (by simp;omega),d k ()]
 have nm:Nml (xs.take n):=λa g e=>by
  have i:g.length+1=n:=by
   have:=congrArg jM e;rw[bX,b4,mu]at this;omega
  rcases f with b|b
  ·omega
  ·have:=c (n-1);rw[e,kZ,if_pos ()]at this;rw[this];exact b
 exact ip (cM _) nm λk=>by rw[cL,c]
end My
namespace My
def au:Nat->aH->Int
 | 0,_=>0
 | n+1,f=>au n f+f n
theorem cB {n:Nat}{f g:aH}(h:∀j,j<n->f j=g j):au n f=au n g:=by
 induction n with
 | zero=>rfl
 | succ n ih=>simp only[au];rw[ih λj a=>h j (),h n ()]
theorem fF {n:Nat}{f:aH}(h:∀j,j<n->f j=0):au n f=0:=by
 induction n with
 | zero=>rfl
 | succ n ih=>simp only[au];rw[ih λj a=>h j (),h n ()];rfl
def cz (xs:aa)(k j:Nat):Int:=if j<=k then co xs (k-j) else 0
def cv (one Wo:aa)(l k:Nat):Int:=au l λj=>co one j*cz Wo k j
def aQ (one Wo:aa):aa:=aL ((aJ (one.length+Wo.length)).map λk=>cv one Wo one.length k)
theorem iq (n:Nat)(f:aH)(k:Nat):co ((aJ n).map f) k=if k<n then f k else 0:=by
 by_cases h:k<n
 ·rw[if_pos h,aI (⇑h)];simp
 ·rw[if_neg h,aD (by simp;omega)]
theorem sM (one Wo:aa)(k:Nat)(h:one.length+Wo.length<=k+1):cv one Wo one.length k=0:=
 fF λj a=>by
  unfold cz;rw[if_pos (),aD (xs:=Wo) (),dq]
theorem LW (one Wo a:aa)(h:∀k,co a k=if k+1<one.length+Wo.length then cv one Wo one.length k else 0):aL a=aQ one Wo:=by
 refine zI λk=>?_;rw[h,iq];by_cases h1:k+1<one.length+Wo.length
 ·rw[if_pos h1,if_pos ()]
 ·rw[if_neg h1];by_cases h2:k<one.length+Wo.length
  ·rw[if_pos h2,sM _ _ _ ()]
  ·rw[if_neg h2]
def fq (one Wo:aa):aa:=aL ((aJ (max one.length Wo.length)).map λk=>co one k+co Wo k)
def iY (one Wo:aa):aa:=aL ((aJ (max one.length Wo.length)).map λk=>co one k-co Wo k)
theorem LX (one Wo a:aa)(h:∀k,co a k=co one k+co Wo k):aL a=fq one Wo:=by
 refine zI λk=>?_;rw[h,iq];by_cases h1:k<max one.length Wo.length
 ·rw[if_pos h1]
 ·rw[if_neg h1,aD (),aD ()];rfl
theorem zJ (xs:aa)(k:Nat):co (xs.map λx=>-x) k=- co xs k:=by
 by_cases h:k<xs.length
 ·rw[aI (⇑h),aI h];simp
 ·rw[aD (by simp;omega),aD ()];rfl
theorem LY (one Wo:aa):fq one (Wo.map λx=>-x)=iY one Wo:=by
 refine zI λk=>?_;rw[iq,iq,zJ,af];rfl
theorem nH (xs:aa)(i k:Nat)(v:Int)(h:i<xs.length):co (xs.set i v) k=if k=i then v else co xs k:=by
 by_cases hk:k<xs.length
 ·rw[aI (⇑hk),List.getElem_set,aI hk];by_cases e:k=i
  ·rw[if_pos e,if_pos e.symm]
  ·rw[if_neg e,if_neg (Ne.symm e)]
 ·rw[aD (by simp;omega),if_neg (),aD ()]
end My
namespace My
def val (n:Int):aa->Int
 | []=>0
 | c :: r=>c+n*val n r
def hd (xs:aa):Int:=xs.headD 0
def b8 (b:Int):aa->aa
 | []=>[]
 | c :: r=>(c+b*hd (b8 b r)) :: b8 b r
theorem kg (b:Int):∀a,(b8 b a).length=a.length
 | []=>rfl
 | _ :: r=>by simp[b8,kg b r]
def gC (b:Int):Nat->aa->aa
 | 0,_=>[]
 | n+1,xs=>hd (b8 b xs) :: gC b n (b8 b xs).tail
def dH (b:Int)(xs:aa):aa:=gC b xs.length xs
theorem EH (b x:Int):∀d,val x d=hd (b8 b d)+(x-b)*val x (b8 b d).tail
 | []=>by simp[val,b8,hd]
 | c :: r=>by
  have a:=EH b x r
  cases e:b8 b r with
  | nil=>
   rw[e]at a;simp only[hd,List.headD_nil,List.tail_nil,val,dq,iG]at a;simp only[val,b8,e,hd,List.headD_nil,IW,IX,a,dq,iG]
  | cons h q=>
   rw[e]at a;simp only[hd,IW,IX]at a;simp only[val,b8,e,hd,IW,IX,a];simp only[ig,Int.sub_mul,uP];have:x*(x*val x q)-x*(b*val x q)=x*(x*val x q)-b*(x*val x q):=by
    rw[<-cD x b,cw x b,cD b x]
   omega
theorem EI (b n:Int):∀(k:Nat)(a:aa),a.length=k->val n (gC b k a)=val (n+b) a
 | 0,a,h=>by
  have:a=[]:=bC h;subst this;rfl
 | k+1,a,h=>by
  show hd (b8 b a)+n*val n (gC b k (b8 b a).tail)=_;rw[EI b n k _ (by rw[IY,kg,h];rfl),EH b (n+b) a];have:n+b-b=n:=by omega
  rw[this]
theorem li (b n:Int)(xs:aa):val n (dH b xs)=val (n+b) xs:=EI b n _ xs rfl
theorem EJ (b:Int):∀(k:Nat)(a:aa),(gC b k a).length=k
 | 0,_=>rfl
 | k+1,a=>by simp[gC,EJ b k]
theorem sO (b:Int)(xs:aa):(dH b xs).length=xs.length:=EJ b _ xs
theorem EK:∀(b:aa)(M:Int),(∀n,M<n->val n b=0)->∀x∈b,x=0
 | [],_,_,_,h=>nomatch h
 | c :: r,M,h,x,hx=>by
  have d:c=0:=by
   have a:=h (max M 0+c.natAbs+1) ();simp only[val]at a;have hd:(max M 0+c.natAbs+1)∣c:=⟨-(val (max M 0+c.natAbs+1) r),by rw[uQ];omega⟩
   by_cases hz:c=0
   ·exact hz
   ·have:=iH.mpr hd;have:=jd () this;omega
  have e:∀n,max M 0<n->val n r=0:=λn f=>by
   have a:=h n ();simp only[val,d,ii]at a;rcases iI.mp a with z|z
   ·omega
   ·exact z
  rcases bj.mp hx with rfl|hx
  ·exact d
  ·exact EK r _ e x hx
theorem EL (n:Int):∀(a b:aa),a.length=b.length->val n (cV (· - ·) a b)=val n a-val n b
 | [],[],_=>rfl
 | x :: a,y :: b,h=>by
  have c:=EL n a b (⇑h);simp only[List.zipWith_cons_cons,val,c,uP];omega
theorem EM:∀(a b:aa),a.length=b.length->(∀d∈cV (· - ·) a b,d=0)->a=b
 | [],[],_,_=>rfl
 | x :: a,y :: b,h,hz=>by
  have e:=hz (x-y) (by simp);have c:=EM a b (⇑h) λd hd=>hz d (by simp[hd]);rw[c,show x=y by omega]
theorem LZ {xs ys:aa}(a:xs.length=ys.length)(h:∀n,val n xs=val n ys):xs=ys:=
 EM xs ys a (EK _ 0 λn _=>by rw[EL n xs ys a,h n];omega)
end My
namespace My
def eV (b:Int)(zs:aa)(j:Nat):aa:=zs.take j++b8 b (zs.drop j)
theorem L3 (b:Int)(zs:aa)(j:Nat):(eV b zs j).length=zs.length:=by
 unfold eV;rw[b4,kg,<-b4,IZ]
theorem L4 (b:Int)(zs:aa):eV b zs 0=b8 b zs:=by simp[eV]
theorem EN (b:Int)(zs:aa)(h:zs≠[]):eV b zs (zs.length-1)=zs:=by
 rcases uN zs with rfl|⟨c,a,rfl⟩
 ·exact absurd rfl h
 ·rw[uO];unfold eV;have e:(c++[a]).length-1=c.length:=by simp
  rw[e,List.take_left,List.drop_left];simp[b8,hd]
theorem L5 (b:Int)(zs:aa)(j:Nat)(h:j<zs.length):(eV b zs (j+1))[j]?=some zs[j]:=by
 unfold eV;rw[cA (by rw[bX];omega),mq (),ao h]
theorem L6 (b:Int)(zs:aa)(j:Nat)(h:j+1<zs.length):(eV b zs (j+1))[j+1]?=some (hd (b8 b (zs.drop (j+1)))):=by
 unfold eV;rw[cQ (by rw[bX];omega)];have e:j+1-(zs.take (j+1)).length=0:=by rw[bX];omega
 have a:0<(b8 b (zs.drop (j+1))).length:=by rw[kg,oI];omega
 rw[e]
 cases q:b8 b (zs.drop (j+1)) with
 | nil=>rw[q]at a;exact absurd a (by simp)
 | cons x r=>simp[hd]
theorem L7 (b:Int)(zs:aa)(j:Nat)(h:j<zs.length):(eV b zs (j+1)).set j (zs[j]+b*hd (b8 b (zs.drop (j+1))))=eV b zs j:=by
 unfold eV;rw[Qq h,oM,Qr _ _ (by rw[bX];omega)];have e:j-(zs.take j).length=0:=by rw[bX];omega
 rw[e,Bj h];rfl
theorem L8 (b:Int)(m:Nat)(zs:aa)(h:zs.length=m+1):gC b (m+1) zs=hd (b8 b zs) :: gC b m (b8 b zs).tail/\b8 b zs=hd (b8 b zs) :: (b8 b zs).tail/\(b8 b zs).tail.length=m:=by
 refine⟨rfl,?_,by rw[IY,kg,h];rfl⟩;have a:=kg b zs
 cases q:b8 b zs with
 | nil=>rw[q,h]at a;simp at a
 | cons x r=>simp[hd]
theorem L9 (b c:Int):gC b 1 [c]=[c]:=by simp[gC,b8,hd]
end My
namespace My
theorem d_ {xs:aa}:Nml xs↔∀a,xs.getLast?=some a->a≠0:=by
 constructor
 ·intro h a e;rcases uN xs with rfl|⟨c,b,rfl⟩
  ·simp at e
  ·rw[uO]at *;rw[uR]at e;rw[<-Option.some.inj e];exact h b c rfl
 ·intro h a c e;exact h a (by rw[e,uR])
end My
namespace My
theorem L_ {t b s:Int}(n:b≠0)(hs:s=if b<0 then -((bJ t.natAbs b.natAbs:Nat):Int) else ((bJ t.natAbs b.natAbs:Nat):Int)):
  s≠0/\s.natAbs=bJ t.natAbs b.natAbs/\t=s*t.fdiv s/\b=s*b.fdiv s/\1<=b.fdiv s/\bJ (t.fdiv s).natAbs (b.fdiv s).natAbs=1:=by
 have o:0<bJ t.natAbs b.natAbs:=Nat.gcd_pos_of_pos_right _ ();have sa:s.natAbs=bJ t.natAbs b.natAbs:=by
  rw[hs];split
  ·rw[Bg,dy]
  ·rw[dy]
 have a:s≠0:=by intro z;rw[z]at sa;simp at sa;omega
 have dt:s∣t:=iH.mp #v[sa,je _ _];have db:s∣b:=iH.mp #v[sa,jN _ _];obtain⟨c,e⟩:=dt;obtain⟨d,hd⟩:=db;have f:t.fdiv s=c:=by rw[e];exact kI c a
 have g:b.fdiv s=d:=by rw[hd];exact kI d a
 rw[f,g];refine⟨a,sa,e,hd,?_,?_⟩
 ·by_cases hn:b<0
  ·rw[if_pos hn]at hs;have:s<0:=by omega
   rcases Int.lt_or_le 0 d with h|h
   ·omega
   ·have:=Qs (oR this) h;omega
  ·rw[if_neg hn]at hs;have:0<s:=by omega
   rcases Int.lt_or_le 0 d with h|h
   ·omega
   ·have:=Int.mul_nonpos_of_nonneg_of_nonpos (oR this) h;omega
 ·have i:t.natAbs=s.natAbs*c.natAbs:=by rw[<-b6,<-e]
  have j:b.natAbs=s.natAbs*d.natAbs:=by rw[<-b6,<-hd]
  have k:=sa;rw[i,j,Nat.gcd_mul_left]at k;have m:0<s.natAbs:=by omega
  exact Bk m ()
theorem EO {t s:Int}(a:s≠0)(h:t=s*t.fdiv s):(t.fdiv s).natAbs<=t.natAbs:=by
 have e:t.natAbs=s.natAbs*(t.fdiv s).natAbs:=by rw[<-b6,<-h]
 rw[e];exact gm _ ()
end My
namespace My
def pm (f g:aH)(k:Nat):Int:=au (k+1) λj=>f j*g (k-j)
theorem jy (n:Nat)(f g:aH):au n (λj=>f j+g j)=au n f+au n g:=by
 induction n with
 | zero=>rfl
 | succ n ih=>simp only[au];rw[ih];omega
theorem e7 (n:Nat)(c:Int)(f:aH):au n (λj=>c*f j)=c*au n f:=by
 induction n with
 | zero=>simp[au]
 | succ n ih=>simp only[au];rw[ih,ig]
theorem lC {n i:Nat}{f:aH}(hi:i<n)(h:∀j,j<n->j≠i->f j=0):au n f=f i:=by
 induction n with
 | zero=>omega
 | succ n ih=>
  simp only[au];by_cases e:i=n
  ·subst e;rw[fF λj b=>h j () ()];omega
  ·rw[ih () λj b a=>h j () a,h n () (Ne.symm e)];omega
theorem nI (f g h:aH)(k:Nat):pm f (λj=>g j-h j) k=pm f g k-pm f h k:=by
 unfold pm;have:(λj=>f j*(g (k-j)-h (k-j)))=λj=>f j*g (k-j)+(-1)*(f j*h (k-j)):=by
  funext j;rw[uP];omega
 rw[this,jy,e7];omega
theorem Mc (f g h:aH)(k:Nat):pm f (λj=>g j+h j) k=pm f g k+pm f h k:=by
 unfold pm;have:(λj=>f j*(g (k-j)+h (k-j)))=λj=>f j*g (k-j)+f j*h (k-j):=by
  funext j;rw[ig]
 rw[this,jy]
theorem nJ (f g:aH)(c:Int)(k:Nat):pm f (λj=>c*g j) k=c*pm f g k:=by
 unfold pm;have:(λj=>f j*(c*g (k-j)))=λj=>c*(f j*g (k-j)):=by
  funext j;rw[<-cD,cw (f j) c,cD]
 rw[this,e7]
theorem Md (f g:aH)(c:Int)(k:Nat):pm (λj=>c*f j) g k=c*pm f g k:=by
 unfold pm;rw[<-e7];exact cB λj _=>by rw[cD]
theorem zK {f g:aH}(h:∀j,g j=0)(k:Nat):pm f g k=0:=fF λj _=>by rw[h];simp
theorem kh {g d:aH}{m t:Nat}(a:∀j,m+1<=j->g j=0)(hd:∀j,t+1<=j->d j=0):pm g d (t+m)=g m*d t:=by
 unfold pm;rw[lC (i:=m) () λj c b=>?_]
 ·rw[show t+m-m=t by omega]
 ·by_cases h:j<m
  ·rw[hd (t+m-j) ()];simp
  ·rw[a j ()];simp
theorem nK {g d:aH}{m:Nat}(b:∀j,m+1<=j->g j=0)(c:g m≠0)(t:Nat):∀n,(∀j,t+n<=j->d j=0)->(∀k,t+m<=k->pm g d k=0)->∀j,t<=j->d j=0
 | 0,hd,_,j,a=>hd j ()
 | n+1,hd,hz,j,a=>by
  have top:=kh (t:=t+n) b (λj a=>hd j ());rw[hz _ ()]at top;have f:d (t+n)=0:=by
   rcases iI.mp top.symm with z|z
   ·exact absurd z c
   ·exact z
  exact nK b c t n (λj a=>by
   by_cases e:j=t+n
   ·rw[e];exact f
   ·exact hd j ()) hz j a
def Div (one Wo q:aa):Prop:=∀k,co one k=pm (co Wo) (co q) k
theorem dw {xs:aa}(h:Nml xs)(b:xs≠[]):co xs (xs.length-1)≠0:=by
 rcases uN xs with rfl|⟨c,a,rfl⟩
 ·exact absurd rfl b
 ·rw[uO]at *;rw[show (c++[a]).length-1=c.length by simp,kZ,if_pos rfl];exact h a c rfl
theorem gD {xs:aa}(j:Nat)(h:xs.length-1+1<=j):co xs j=0:=aD ()
theorem Me {one Wo q r:aa}(c:Nml Wo)(a:Wo≠[])(e:Nml q)(f:Nml r)(h:Div one Wo q)(i:Div one Wo r):q=r:=by
 refine ip e f λk=>?_;have z:=nK (g:=co Wo) (d:=λj=>co q j-co r j) (m:=Wo.length-1) (λj b=>gD j b) (dw c a) 0 (q.length+r.length)
  (λj b=>by show co q j-co r j=0;rw[aD (),aD ()];rfl) (λk _=>by rw[nI,<-h k,<-i k];omega) k ()
 have n:co q k-co r k=0:=z;omega
theorem Mf {one Wo q r l:aa}(h:Nml Wo)(a:Wo≠[])(i:l.length+1<=Wo.length)(b:∀k,co one k=pm (co Wo) (co q) k+co l k)(c:Div one Wo r):
  (∀k,co l k=0)/\∀k,co r k=co q k:=by
 have z:=nK (g:=co Wo) (d:=λj=>co r j-co q j) (m:=Wo.length-1) (λj f=>gD j f) (dw h a) 0 (q.length+r.length)
  (λj f=>by show co r j-co q j=0;rw[aD (),aD ()];rfl) (λk hk=>by
   rw[nI,<-c k,b k,aD (xs:=l) ()];omega)
 have e:∀k,co r k=co q k:=λk=>by
  have n:co r k-co q k=0:=z k ();omega
 refine⟨λk=>?_,e⟩;have o:=b k;have p:=c k;have:pm (co Wo) (co r) k=pm (co Wo) (co q) k:=by unfold pm;exact cB λj _=>by rw[e]
 omega
theorem zL {one Wo q:aa}(n:Nml Wo)(c:Wo≠[])(i:Nml one)(o:Nml q)(h:Div one Wo q)(a:one≠[]):q≠[]/\one.length+1=q.length+Wo.length:=by
 have b:q≠[]:=by
  intro z;have:=dw i a;rw[h,z]at this;exact this (zK (λj=>rfl) _)
 have lq:0<q.length:=de.mpr b;have lo:0<Wo.length:=de.mpr c;have p:0<one.length:=de.mpr a;refine⟨b,?_⟩;have top:=kh (g:=co Wo) (d:=co q) (m:=Wo.length-1) (t:=q.length-1) (λj e=>gD j e) (λj e=>gD j e);rw[<-h]at top;have f:co one (q.length-1+(Wo.length-1))≠0:=by
  rw[top];intro z;rcases iI.mp z with z|z
  ·exact dw n c z
  ·exact dw o b z
 have lt:q.length-1+(Wo.length-1)<one.length:=by
  by_cases hlt:q.length-1+(Wo.length-1)<one.length
  ·exact hlt
  ·exact absurd (aD ()) f
 have big:one.length<=q.length-1+(Wo.length-1)+1:=g_ i λk hk=>by
  rw[h];refine fF λj e=>?_;by_cases hjm:j<Wo.length
  ·rw[aD (xs:=q) ()];simp
  ·rw[aD (xs:=Wo) ()];simp
 omega
structure DivAt (one Wo ans rest:aa)(low:Nat):Prop where
 la:ans.length+Wo.length=one.length+1
 lr:rest.length=one.length
 eq:∀k,co one k=pm (co Wo) (co ans) k+co rest k
 hi:∀k,low+(Wo.length-1)<=k->co rest k=0
 lo:∀j,j<low->co ans j=0
theorem Mg {one Wo:aa}{n:Nat}(a:Wo≠[])(b:n+Wo.length=one.length+1):DivAt one Wo (bI n 0) one n where
 la:=by rw[mr];exact b
 lr:=rfl
 eq:=λk=>by
  rw[zK λj=>?_]
  ·omega
  ·unfold co;rw[aq,jc]
   split <;> rfl
 hi:=λk hk=>aD (by have:=de.mpr a;omega)
 lo:=λj _=>by
  unfold co;rw[aq,jc]
  split <;> rfl
theorem Mh {one Wo a rest q:aa}{low:Nat}(f:Nml Wo)(c:Wo≠[])(D:DivAt one Wo a rest (low+1))(h:Div one Wo q):
  co rest (low+(Wo.length-1))=co Wo (Wo.length-1)*(co q low-co a low):=by
 have e:∀k,co rest k=pm (co Wo) (λj=>co q j-co a j) k:=λk=>by
  have i:=D.eq k;rw[nI,<-h k];omega
 have z:=nK (g:=co Wo) (d:=λj=>co q j-co a j) (m:=Wo.length-1) (λj b=>gD j b) (dw f c) (low+1) (q.length+a.length)
  (λj b=>by show co q j-co a j=0;rw[aD (),aD ()];rfl) (λk hk=>#v[<-e,D.hi k ()])
 rw[e];exact kh (λj b=>gD j b) z
theorem Mi {one Wo a rest b:aa}{low:Nat}{f:Int}(d:Wo≠[])(D:DivAt one Wo a rest (low+1))(c:low<a.length)(m:f*co Wo (Wo.length-1)=co rest (low+(Wo.length-1)))(n:b.length=rest.length)(h:∀k,co b k=co rest k-if low<=k then f*co Wo (k-low) else 0):DivAt one Wo (a.set low f) b low where
 la:=by rw[oJ];exact D.la
 lr:=by rw[n];exact D.lr
 eq:=λk=>by
  have o:pm (co Wo) (co (a.set low f)) k=pm (co Wo) (co a) k+(if low<=k then f*co Wo (k-low) else 0):=by
   have p:(co (a.set low f))=λj=>co a j+if j=low then f else 0:=by
    funext j
    rw[nH _ _ _ _ c];by_cases e:j=low
    ·rw[if_pos e,if_pos e,e,D.lo low ()];omega
    ·rw[if_neg e,if_neg e];omega
   rw[p,Mc];congr 1;unfold pm;by_cases hk:low<=k
   ·rw[if_pos hk,lC (i:=k-low) () λj g d=>by show co Wo j*(if k-j=low then f else 0)=0;rw[if_neg ()];simp];show co Wo (k-low)*(if k-(k-low)=low then f else 0)=_;rw[if_pos (),cw]
   ·rw[if_neg hk];exact fF λj g=>by show co Wo j*(if k-j=low then f else 0)=0;rw[if_neg ()];simp
  rw[o,h,D.eq k];omega
 hi:=λk hk=>by
  rw[h];have lo:=de.mpr d;by_cases e:k=low+(Wo.length-1)
  ·rw[if_pos (),e,<-m,show low+(Wo.length-1)-low=Wo.length-1 by omega];omega
  ·rw[D.hi k ()];by_cases hl:low<=k
   ·rw[if_pos hl,aD (xs:=Wo) ()];simp
   ·rw[if_neg hl];rfl
 lo:=λj g=>by
  rw[nH _ _ _ _ c,if_neg ()];exact D.lo j ()
end My
namespace My
theorem EQ {one Wo a rest:aa}(D:DivAt one Wo a rest 0)(b:∀k,co rest k=0):Div one Wo a:=λk=>by rw[D.eq k,b k];omega
theorem Mj {one Wo a rest:aa}(d:Nml Wo)(b:Wo≠[])(D:DivAt one Wo a rest 0)(q:aa)(e:Div one Wo q):∀k,co rest k=0:=by
 have f:(rest.take (Wo.length-1)).length+1<=Wo.length:=by
  have:=de.mpr b;rw[bX];omega
 have c:∀k,co (rest.take (Wo.length-1)) k=co rest k:=λk=>by
  by_cases hk:k<Wo.length-1
  ·unfold co;rw[aq,aq,mq hk]
  ·rw[aD (by simp;omega),D.hi k ()]
 have z:=(Mf (q:=a) d b f (λk=>#v[c,D.eq k]) e).1;exact λk=>#v[<-c,z k]
theorem Ml {one Wo b rest q:aa}{low:Nat}(c:Nml Wo)(a:Wo≠[])(D:DivAt one Wo b rest (low+1))(d:Div one Wo q):
  (co rest (low+(Wo.length-1))).fdiv (co Wo (Wo.length-1))*co Wo (Wo.length-1)=co rest (low+(Wo.length-1)):=by
 rw[Mh c a D d,kI _ (dw c a),cw]
theorem Mm {one Wo b:aa}(f:Wo≠[])(o:Nml one)(c:one≠[])(la:b.length+Wo.length=one.length+1)(h:Div one Wo b):Nml b:=by
 have r:=de.mpr c;have s:=de.mpr f;intro a n e;have p:b.length=n.length+1:=by rw[e];simp
 have top:=kh (g:=co Wo) (d:=co b) (m:=Wo.length-1) (t:=b.length-1) (λj i=>gD j i) (λj i=>gD j i);rw[<-h,show b.length-1+(Wo.length-1)=one.length-1 by omega]at top;have k:=dw o c;rw[top]at k;have q:co b (b.length-1)=a:=by rw[show b.length-1=n.length by omega,e,kZ,if_pos rfl]
 rw[q]at k;intro z;exact k (by rw[z];simp)
theorem b_:Nml []:=λa b e=>by simp at e
theorem nL {xs:aa}(h:Nml xs)(a:∀k,co xs k=0):xs=[]:=ip h b_ λk=>by rw[a];rfl
theorem Mn {Wo:aa}:Div [] Wo []:=λk=>(zK (f:=co Wo) (g:=co []) (λ_=>rfl) k).symm
theorem sQ {xs:aa}:aL xs=[]↔∀k,co xs k=0:=by
 constructor
 ·intro h k;rw[<-cL,h];rfl
 ·intro h;exact nL (cM _) λk=>#v[cL,h k]
end My
namespace My
theorem fG (c:Int)(f:aa)(j:Nat):co (c :: f) j=if j=0 then c else co f (j-1):=by
 cases j with
 | zero=>rfl
 | succ j=>rw[if_neg ()];rfl
def nN (ys:aa):Prop:=hd ys≠0/\∀y∈ys,0<=y*hd ys
theorem ER {n:Int}(b:0<=n)(c:Int):∀a:aa,(∀y∈a,0<=y*c)->0<=val n a*c
 | [],_=>by simp[val]
 | y :: a,h=>by
  have d:=ER b c a λz e=>h z (cX _ e);have hy:=h y dr;simp only[val,uS,cD];have:=Bl b d;omega
theorem Mo {n:Int}(d:0<=n){ys:aa}(h:nN ys):val n ys≠0:=by
 cases ys with
 | nil=>exact absurd rfl h.1
 | cons c r=>
  obtain⟨a,b⟩:=h;have a:c≠0:=a;have b:∀y∈c :: r,0<=y*c:=b;have f:=ER d c r λy hy=>b y (cX _ hy);intro z;have e:val n (c :: r)*c=c*c+n*(val n r*c):=by simp only[val,uS,cD]
  rw[z,gJ]at e;have p:=Bl d f;have q:0<c*c:=by
   rcases Bm a with g|g
   ·exact Int.mul_pos_of_neg_of_neg g g
   ·exact uT g g
  omega
theorem Mp {xs:aa}{m n:Int}(a:m<=n)(h:nN (dH m xs)):val n xs≠0:=by
 have:=Mo (n:=n-m) () h
 rwa [li,show n-m+m=n by omega]at this
theorem Mq {ys:aa}(a:hd ys≠0):nN ys↔(∀y∈ys,0<=y)\/(∀y∈ys,y<=0):=by
 have b:hd ys∈ys:=by
  cases ys with
  | nil=>exact absurd rfl a
  | cons c r=>exact dr
 constructor
 ·intro h;rcases Bm a with g|g
  ·refine .inr λy hy=>?_;have:=h.2 y hy;by_cases z:y<=0
   ·exact z
   ·have:=Int.mul_neg_of_pos_of_neg (show 0<y by omega) g;omega
  ·refine .inl λy hy=>?_;have:=h.2 y hy;by_cases z:0<=y
   ·exact z
   ·have:=Int.mul_neg_of_neg_of_pos (show y<0 by omega) g;omega
 ·rintro (h|h)
  ·exact⟨a,λy hy=>Bl (h y hy) (h _ b)⟩
  ·exact⟨a,λy hy=>Qs (h y hy) (h _ b)⟩
end My
namespace My
def sh (g:aH)(j:Nat):Int:=if j=0 then 0 else g (j-1)
theorem iZ (n:Nat)(f:aH):au (n+1) f=f 0+au n λj=>f (j+1):=by
 induction n with
 | zero=>simp[au]
 | succ n ih=>
  rw[show au (n+1+1) f=au (n+1) f+f (n+1) from rfl,ih];simp only[au];omega
theorem ES (f g:aH)(k:Nat):pm f (sh g) k=sh (pm f g) k:=by
 unfold sh;by_cases h:k=0
 ·subst h;rw[if_pos rfl];simp[pm,au]
 ·rw[if_neg h];obtain⟨m,rfl⟩:∃m,k=m+1:=⟨k-1,()⟩
  unfold pm;rw[show au (m+1+1) (λj=>f j*if m+1-j=0 then 0 else g (m+1-j-1))=au (m+1) (λj=>f j*if m+1-j=0 then 0 else g (m+1-j-1))+f (m+1)*(if m+1-(m+1)=0 then 0 else g (m+1-(m+1)-1)) from rfl];rw[if_pos (),dq,iG,show m+1-1=m by omega];exact cB λj a=>by rw[if_neg (),show m+1-j-1=m-j by omega]
theorem Mr {f g h:aH}(e:∀j,g j=h j)(k:Nat):pm f g k=pm f h k:=cB λj _=>by rw[e]
theorem sR {f g:aH}{t e:Nat}(a:∀j,t+1<=j->f j=0)(b:∀j,e<=j->g j=0)(k:Nat)(hk:t+e<=k):pm f g k=0:=
 fF λj c=>by
  by_cases h:t+1<=j
  ·rw[a j h,gJ]
  ·rw[b (k-j) (),dq]
def ev (p:Int)(f:aH):Nat->Nat->Int
 | 0,_=>0
 | n+1,s=>f s+p*ev p f n (s+1)
theorem ET (p a b:Int)(f g:aH):∀n s,ev p (λj=>a*f j-b*g j) n s=a*ev p f n s-b*ev p g n s
 | 0,_=>by simp[ev]
 | n+1,s=>by
  simp only[ev];rw[ET p a b f g n (s+1),uP,ig,ig,<-cD p a,<-cD p b,cw p a,cw p b,cD,cD];omega
theorem sT (p:Int){K Z:aH}{e:Nat}(hK:∀j,e+1<=j->K j=0)(g:∀j,e<=j->Z j=0):
  ∃d:aH,(∀j,e<=j->d j=0)/\∀j,p*d j-sh d j=ev p K (e+1) 0*Z j-ev p Z (e+1) 0*K j:=by
 let b:=ev p K (e+1) 0
 let c:=ev p Z (e+1) 0
 let F:aH:=λj=>b*Z j-c*K j
 let v:aH:=λj=>ev p F (e+1-j) j
 have i:∀j,e+1<=j->F j=0:=λj f=>by show b*Z j-c*K j=0;rw[g j (),hK j f];simp
 have k:∀j,v j=F j+p*v (j+1):=λj=>by
  show ev p F (e+1-j) j=F j+p*ev p F (e+1-(j+1)) (j+1);by_cases h:j<=e
  ·rw[show e+1-j=(e-j)+1 by omega,show e+1-(j+1)=e-j by omega];rfl
  ·rw[show e+1-j=0 by omega,show e+1-(j+1)=0 by omega,i j ()];simp[ev]
 have m:v 0=0:=by
  show ev p (λj=>b*Z j-c*K j) (e+1) 0=0;rw[ET];show b*c-c*b=0;rw[cw];omega
 refine⟨λj=>- v (j+1),λj f=>?_,λj=>?_⟩
 ·show-ev p F (e+1-(j+1)) (j+1)=0;rw[show e+1-(j+1)=0 by omega];rfl
 ·show p*(- v (j+1))-sh (λj=>- v (j+1)) j=F j;have a:=k j;unfold sh;by_cases h:j=0
  ·subst h;rw[if_pos rfl];rw[m]at a;rw[uQ];omega
  ·rw[if_neg h];show p*(- v (j+1))-(- v (j-1+1))=F j;rw[show j-1+1=j by omega,uQ];omega
theorem zM (f:aH):∀n,∃j,∀i,i<n->(f i).natAbs<=(f j).natAbs
 | 0=>⟨0,λi hi=>by omega⟩
 | n+1=>by
  obtain⟨j,a⟩:=zM f n;by_cases h:(f j).natAbs<=(f n).natAbs
  ·exact⟨n,λi hi=>by
    by_cases e:i=n
    ·rw[e];exact aA _
    ·exact aM (a i ()) h⟩
  ·exact⟨j,λi hi=>by
    by_cases e:i=n
    ·rw[e];omega
    ·exact a i ()⟩
section
variable {p:Int}{K L:aH}{e t M:Nat}(he:1<=e)(hK:∀j,e+1<=j->K j=0)(kt:K e≠0)(hL:∀j,t+1<=j->L j=0)(lt:L t≠0)(hM:∀j,(pm L K j).natAbs<=M)(hp:(ev p K (e+1) 0).natAbs+M+1<p.natAbs)
include he hK kt hL lt hM hp
theorem EU {Z d:aH}{n:Nat}(o:∀j,e<=j->Z j=0)(g:∀j,e<=j->d j=0)(q:∀j,p*d j-sh d j=ev p K (e+1) 0*Z j-ev p Z (e+1) 0*K j)(s:∀j,(pm L Z j).natAbs<=n):
  ∃b,(∀j,(pm L d j).natAbs<=b)/\(ev p Z (e+1) 0).natAbs<=b/\(p.natAbs-1-M)*b<=(ev p K (e+1) 0).natAbs*n:=by
 have r:∀j,p*pm L d j-sh (pm L d) j=ev p K (e+1) 0*pm L Z j-ev p Z (e+1) 0*pm L K j:=λj=>by
  rw[<-ES,<-nJ,<-nJ,<-nJ,<-nI,<-nI];exact Mr q j
 obtain⟨f,k⟩:=zM (pm L d) (t+e);have i:∀j,(pm L d j).natAbs<=(pm L d f).natAbs:=λj=>by
  by_cases h:j<t+e
  ·exact k j h
  ·rw[sR hL g j ()];exact aR _
 have top:pm L K (e+t)=L t*K e:=kh hL hK;have m:(ev p Z (e+1) 0).natAbs<=(pm L d f).natAbs:=by
  have a:=r (e+t);rw[sR hL g (e+t) (),sR hL o (e+t) (),top]at a;unfold sh at a;rw[if_neg ()]at a;have u:pm L d (e+t-1)=ev p Z (e+1) 0*(L t*K e):=by
   rw[dq,dq]at a;omega
  have b:=i (e+t-1);rw[u,b6,b6]at b;have c:1<=(L t).natAbs*(K e).natAbs:=gM (jf.mpr lt) (jf.mpr kt);exact aM (iJ _ c) b
 refine⟨_,i,m,?_⟩;have a:=r f;generalize x:(pm L d f).natAbs=b at i m;have y:(sh (pm L d) f).natAbs<=b:=by
  unfold sh;by_cases h:f=0
  ·rw[if_pos h];exact aR _
  ·rw[if_neg h];exact i _
 have z:(p*pm L d f).natAbs=p.natAbs*b:=by rw[b6,x]
 have B:(ev p K (e+1) 0*pm L Z f).natAbs<=(ev p K (e+1) 0).natAbs*n:=by rw[b6];exact dZ _ (s f)
 have C:(ev p Z (e+1) 0*pm L K f).natAbs<=b*M:=by rw[b6];exact dJ m (hM f)
 have D:p.natAbs*b<=(ev p K (e+1) 0).natAbs*n+b*M+b:=by
  rw[<-z,<-Int.sub_add_cancel (p*pm L d f) (sh (pm L d) f),a];exact aM (ib _ _) (kJ (aM (my _ _) (kJ B C)) y)
 have F:(p.natAbs-1-M)*b=p.natAbs*b-b-b*M:=by rw[Nat.sub_mul,Nat.sub_mul,eI,fW M b]
 rw[F];exact Qt (Qt D)
theorem Ms (y:ev p K (e+1) 0≠0):∀(n:Nat)(Z:aH),(∀j,e<=j->Z j=0)->(∀j,(pm L Z j).natAbs<=n)->∀j,Z j=0:=by
 intro n
 induction n using Bn with
 | _ n ih=>
  intro Z f q;by_cases hn0:n=0
  ·intro j;have z:=nK (g:=L) (d:=Z) (m:=t) hL lt 0 e (λj G=>f j ()) (λk _=>by have:=q k;omega);exact z j ()
  ·obtain⟨r,c,s⟩:=sT p hK f;obtain⟨b,B,H,hs⟩:=EU he hK kt hL lt hM hp f c s q;have i:b<n:=by
    refine mz λo=>?_;have C:((ev p K (e+1) 0).natAbs+1)*n<=(p.natAbs-1-M)*b:=dJ () o;rw[Nat.succ_mul]at C;omega
   have u:=ih b i r c B;have x:∀j,ev p K (e+1) 0*Z j=ev p Z (e+1) 0*K j:=λj=>by
    have a:=s j;rw[u j]at a;have D:sh r j=0:=by
     unfold sh;by_cases h:j=0
     ·rw[if_pos h]
     ·rw[if_neg h];exact u _
    rw[D,dq]at a;omega
   have F:ev p Z (e+1) 0=0:=by
    have a:=x e;rw[f e (aA _),dq]at a;exact (iI.mp a.symm).resolve_right kt
   intro j;have a:=x j;rw[F,gJ]at a;exact (iI.mp a).resolve_left y
theorem Mt:False:=by
 have c:∀n,ev p (λj=>if j=0 then (1:Int) else 0) (n+1) 0=1:=λn=>by
  have z:∀n s,ev p (λj=>if j=0 then (1:Int) else 0) n (s+1)=0:=λn=>by
   induction n with
   | zero=>intro s;rfl
   | succ n ih=>intro s;simp only[ev];rw[ih (s+1)];simp
  simp only[ev];rw[z n 0];simp
 have a:∀j,e<=j->(λj=>if j=0 then (1:Int) else 0) j=0:=λj r=>if_neg ();obtain⟨m,d⟩:=zM (pm L λj=>if j=0 then (1:Int) else 0) (t+e);have i:∀j,(pm L (λj=>if j=0 then (1:Int) else 0) j).natAbs<=(pm L (λj=>if j=0 then (1:Int) else 0) m).natAbs:=λj=>by
  by_cases h:j<t+e
  ·exact d j h
  ·rw[sR hL a j ()];exact aR _
 by_cases h0:ev p K (e+1) 0=0
 ·obtain⟨u,f,o⟩:=sT p hK a;obtain⟨b,x,k,hs⟩:=EU he hK kt hL lt hM hp a f o i;rw[h0]at hs;rw[c]at k;have g:1<=b:=k;have q:0<(p.natAbs-1-M)*b:=gM () g;rw[Int.natAbs_zero,Nat.zero_mul]at hs;omega
 ·have:=Ms he hK kt hL lt hM hp h0 _ _ a i 0;simp at this
end
end My
namespace My
def Prm (q:Nat):Prop:=1<q/\∀m,m∣q->m=1\/m=q
theorem nP:∀n:Nat,1<n->∃q,q∣n/\Prm q:=by
 intro n
 induction n using Bn with
 | _ n ih=>
  intro h;by_cases p:∀m,m∣n->m=1\/m=n
  ·exact⟨n,Nat.dvd_refl n,h,p⟩
  ·obtain⟨m,a⟩:=Classical.not_forall.mp p;have hd:m∣n:=Classical.byContradiction λz=>a λy=>absurd y z;have e:¬(m=1\/m=n):=λz=>a λ_=>z;have f:m≠0:=λz=>by rw[z]at hd;have:=Bo hd;omega
   have b:=jd () hd;obtain⟨q,c,d⟩:=ih m () ();exact⟨q,Nat.dvd_trans c hd,d⟩
theorem sU:Prm 2:=⟨(),λm a=>by
 have b:=jd () a;have c:m≠0:=λz=>by
  rw[z]at a;exact absurd (Bo a) ()
 omega⟩
theorem zN {q:Nat}(a:Prm q){x y:Int}(h:(q:Int)∣x*y):(q:Int)∣x\/(q:Int)∣y:=by
 have b:q∣x.natAbs*y.natAbs:=by
  have:=iH.mpr h
  rwa [dy,b6]at this
 rcases a.2 (bJ q x.natAbs) (je _ _) with z|z
 ·refine .inr ?_;have:q∣y.natAbs:=Nat.Coprime.dvd_of_dvd_mul_left z b;exact iH.mp #v[dy,this]
 ·refine .inl ?_;have:q∣x.natAbs:=by have:=jN q x.natAbs;rwa [z]at this
  exact iH.mp #v[dy,this]
theorem EV {q:Int}{f:aH}(h:¬∀j,q∣f j):∃i,¬q∣f i/\∀j,j<i->q∣f j:=by
 obtain⟨n,b⟩:=Classical.not_forall.mp h
 induction n using Bn with
 | _ n ih=>
  by_cases z:∀j,j<n->q∣f j
  ·exact⟨n,b,z⟩
  ·obtain⟨j,a⟩:=Classical.not_forall.mp z;have c:j<n:=Classical.byContradiction λy=>a λx=>absurd x y;exact ih j c λy=>a λ_=>y
theorem EW {q:Int}{f:aH}:∀n,(∀j,j<n->q∣f j)->q∣au n f
 | 0,_=>oS q
 | n+1,h=>I0 (EW n λj a=>h j ()) (h n ())
theorem EX {q:Int}{f:aH}{i:Nat}:∀n,i<n->(∀j,j<n->j≠i->q∣f j)->q∣au n f->q∣f i
 | 0,h,_,_=>by omega
 | n+1,hi,h,hs=>by
  have e:au (n+1) f=au n f+f n:=rfl;rw[e]at hs;by_cases z:i=n
  ·subst z;exact (Int.dvd_add_right (EW i λj b=>h j () ())).mp hs
  ·have fn:=h n () ();exact EX n () (λj b a=>h j () a) ((Int.dvd_add_left fn).mp hs)
theorem nQ {q:Nat}(e:Prm q){f g:aH}(h:∀k,(q:Int)∣pm f g k):(∀j,(q:Int)∣f j)\/(∀j,(q:Int)∣g j):=by
 by_cases hf:∀j,(q:Int)∣f j
 ·exact .inl hf
 by_cases hg:∀j,(q:Int)∣g j
 ·exact .inr hg
 exfalso;obtain⟨a,m,c⟩:=EV hf;obtain⟨b,n,d⟩:=EV hg;have hs:=h (a+b);have:=EX (i:=a) (a+b+1) () (λj p o=>by
  show (q:Int)∣f j*g (a+b-j);by_cases z:j<a
  ·exact eJ (c j z) (iL _ _)
  ·exact eJ (d (a+b-j) ()) (oU _ _)) hs
 rw[show a+b-a=b by omega]at this;exact (zN e this).elim m n
def hH (f:aH):Prop:=∀d:Nat,(∀j,(d:Int)∣f j)->d=1
theorem Mu {f g:aH}(b:hH f)(c:hH g):hH (pm f g):=λd hd=>by
 by_cases h1:d=1
 ·exact h1
 by_cases h0:d=0
 ·-- all numbers nought: then 2 divides them
  have z:∀k,((2:Nat):Int)∣pm f g k:=λk=>by
   have:=hd k;rw[h0]at this;have e:pm f g k=0:=I_.mp (⇑this);rw[e];exact oS _
  rcases nQ (q:=2) sU z with y|y
  ·exact absurd (b 2 y) ()
  ·exact absurd (c 2 y) ()
 ·obtain⟨q,h,a⟩:=nP d ();have z:∀k,(q:Int)∣pm f g k:=λk=>eJ (gO.mpr h) (hd k);rcases nQ a z with y|y
  ·have:=b q y;have:=a.1;omega
  ·have:=c q y;have:=a.1;omega
theorem sV {f:aH}(o:hH f):∀(m:Nat),0<m->∀k:aH,(∀j,(m:Int)∣pm f k j)->∀j,(m:Int)∣k j:=by
 intro m
 induction m using Bn with
 | _ m ih=>
  intro x k hk;by_cases h1:m=1
  ·intro j;rw[h1];exact Int.one_dvd _
  obtain⟨q,⟨r,c⟩,h⟩:=nP m ();have p:=h.1;have n:0<r:=mB λz=>by rw[z]at c;omega
  have s:r<m:=by
   rw[c]
   calc r=1*r:=(eI r).symm
    _<q*r:=Qu p n
  have d:(m:Int)=(q:Int)*(r:Int):=by rw[c];exact fm q r
  have t:∀j,(q:Int)∣k j:=by
   rcases nQ h (f:=f) (g:=k) λj=>eJ #v[d,iL _ _] (hk j) with y|y
   ·have:=o q y;omega
   ·exact y
  have e:∀j,k j=q*(k j / q):=λj=>(uU (t j)).symm;have u:=ih r s n (λj=>k j / q) λj=>by
   have a:=hk j;have b:pm f k j=q*pm f (λj=>k j / q) j:=by
    rw[<-nJ];refine cB λi _=>?_;show f i*k (j-i)=f i*(q*(k (j-i) / q));rw[<-e]
   rw[b,d]at a;exact Qv () a
  intro j;rw[e j,d];exact Ja _ (u j)
end My
namespace My
def b7:aa->aa->aa
 | [],ys=>ys
 | xs,[]=>xs
 | x :: xs,y :: ys=>(x+y) :: b7 xs ys
theorem eG (n:Int):∀a b,val n (b7 a b)=val n a+val n b
 | [],b=>by simp[b7,val]
 | x :: a,[]=>by simp[b7,val]
 | x :: a,y :: b=>by
  simp only[b7,val];rw[eG n a b,ig];omega
theorem bL (n c:Int):∀a:aa,val n (a.map λx=>c*x)=c*val n a
 | []=>by simp[val]
 | x :: a=>by
  simp only[dY,val];rw[bL n c a,ig,<-cD n c,cw n c,cD]
def be:aa->aa->aa
 | [],_=>[]
 | c :: f,g=>b7 (g.map λx=>c*x) (0 :: be f g)
theorem cy (n:Int):∀f g,val n (be f g)=val n f*val n g
 | [],g=>by simp[be,val]
 | c :: f,g=>by
  simp only[be];rw[eG,bL];simp only[val];rw[cy n f g,uS,cD];omega
theorem fH:∀(a b:aa)(k:Nat),co (b7 a b) k=co a k+co b k
 | [],b,k=>by simp[b7,f_]
 | x :: a,[],k=>by simp[b7,f_]
 | x :: a,y :: b,k=>by
  simp only[b7];rw[fG,fG,fG];by_cases h:k=0
  ·simp[h]
  ·rw[if_neg h,if_neg h,if_neg h,fH a b]
theorem ga:∀(f g:aa)(k:Nat),co (be f g) k=pm (co f) (co g) k
 | [],g,k=>by
  rw[show be [] g=[] from rfl,f_];exact (fF λj _=>by rw[f_,gJ]).symm
 | c :: f,g,k=>by
  simp only[be];rw[fH,fG];have a:co (g.map λx=>c*x) k=c*co g k:=by
   by_cases h:k<g.length
   ·rw[aI (⇑h),aI h,cE]
   ·rw[aD (by simp;omega),aD (),dq]
  rw[a];unfold pm;rw[iZ];have b:co (c :: f) 0=c:=rfl;rw[b,Jb];by_cases h:k=0
  ·subst h;rw[if_pos rfl];simp[au]
  ·rw[if_neg h,ga f g (k-1)];obtain⟨m,rfl⟩:∃m,k=m+1:=⟨k-1,()⟩
   unfold pm;rw[show m+1-1=m by omega];congr 1;refine cB λj d=>?_;rw[fG,if_neg (),show j+1-1=j by omega,show m+1-(j+1)=m-j by omega]
theorem sY (n:Int)(xs:aa):∀k,val n (xs++bI k 0)=val n xs:=by
 intro k
 induction xs with
 | nil=>
  induction k with
  | zero=>rfl
  | succ k ih=>rw[gk]at *;rw[iE];simp only[val];rw[ih];simp[val]
 | cons x xs ih=>simp only[kK,val];rw[ih]
theorem sZ (xs:aa)(k j:Nat):co (xs++bI k 0) j=co xs j:=by
 by_cases h:j<xs.length
 ·unfold co;rw[aq,aq,cA h]
 ·rw[aD (xs:=xs) ()];unfold co;rw[aq,cQ (),jc]
  split <;> rfl
theorem fh {xs ys:aa}(h:∀n,val n xs=val n ys)(k:Nat):co xs k=co ys k:=by
 have e:xs++bI ys.length 0=ys++bI xs.length 0:=LZ (by simp;omega) λn=>by rw[sY,sY,h]
 rw[<-sZ xs ys.length k,e,sZ]
theorem fu {xs ys:aa}(h:∀k,co xs k=co ys k)(n:Int):val n xs=val n ys:=by
 have e:xs++bI ys.length 0=ys++bI xs.length 0:=zH (by simp;omega) λk _=>by rw[sZ,sZ,h]
 rw[<-sY n xs ys.length,e,sY]
theorem ir {one Wo q:aa}:Div one Wo q↔∀n,val n one=val n Wo*val n q:=by
 constructor
 ·intro h n;rw[<-cy];exact fu (λk=>by rw[h k,ga]) n
 ·intro h k;rw[<-ga];exact fh (λn=>by rw[h n,cy]) k
theorem EY (p:Int)(xs:aa):∀n s,ev p (co xs) n s=val p ((xs.drop s).take n)
 | 0,s=>by simp[ev,val]
 | n+1,s=>by
  simp only[ev];rw[EY p xs n (s+1)];by_cases h:s<xs.length
  ·rw[Bj h,Qw];simp only[val];rw[aI h]
  ·rw[aD (),Qx (),Qx ()];simp[val]
theorem Mv {p:Int}{M:Nat}{f a b g x y D qb U V:aa}{c h m:Int}(hp:2*(M:Int)+29<=p)(S:hH (co f))(fn:Nml f)(I:f≠[])(c1:1<=c)(fs:∀z∈f,2*(c*z).natAbs<=p.natAbs)(T:hH (co g))(J:Nml g)(X:Div a g x)(Y:Div b g y)(Z:(a≠[]/\Nml a/\∀z∈a,z.natAbs<=M)\/(b≠[]/\Nml b/\∀z∈b,z.natAbs<=M))(fa:Div a f D)(fb:Div b f qb)(m0:m≠0)(bz:∀n,val n U*val n a+val n V*val n b=m*val n g)(h1:1<=h)(fv:0<val p f)(hv:c*val p f=h*(val p g).natAbs):
  f=g\/f=g.map λz=>-1*z:=by
 have va:=ir.mp X;have vb:=ir.mp Y;have wa:=ir.mp fa;have wb:=ir.mp fb
 let W:=b7 (be U D) (be V qb)
 have O:∀n,val n f*val n W=m*val n g:=λn=>by
  show val n f*val n (b7 (be U D) (be V qb))=_;rw[eG,cy,cy,<-bz n,wa n,wb n,ig,jO,jO (val n V)]
 have dW:∀j,((m.natAbs:Nat):Int)∣pm (co f) (co W) j:=λj=>by
  rw[<-ga,fh (ys:=g.map λz=>m*z) (λn=>by rw[cy,O,bL]) j];have o:co (g.map λz=>m*z) j=m*co g j:=by
   by_cases h:j<g.length
   ·rw[aI (⇑h),aI h,cE]
   ·rw[aD (by simp;omega),aD (),dq]
  rw[o];exact eJ (uV.mpr (mC m)) (iL _ _)
 have dk:=sV S m.natAbs (jf.mpr m0) (co W) dW
 let k:=aL (W.map λz=>z / m)
 have q:∀n,val n g=val n f*val n k:=λn=>by
  have e:val n W=m*val n k:=by
   show _=m*val n (aL (W.map λz=>z / m));rw[fu (cL _) n,<-bL];refine fu (λj=>?_) n;rw[jg];by_cases h:j<W.length
   ·rw[aI (xs:=W) h,aI (xs:=W.map _) (⇑h),cE];have z:=dk j;rw[aI h]at z;exact (uU (uV.mp z)).symm
   ·rw[aD (xs:=W) (),aD (xs:=W.map _) (by simp;omega)]
  have z:=O n;rw[e,jO]at z;exact (jP m0 z).symm
 have kn:Nml k:=cM _;have c2:c=h*(val p k).natAbs:=by
  have z:=hv;rw[q p,b6,fm,Int.natAbs_of_nonneg (oR fv),cw,jO]at z;exact jP () z
 have cp:2*c<=p:=by
  have r:=dw fn I;have P:f.length-1<f.length:=by have:=de.mpr I;omega
  rw[aI P]at r;have z:=fs _ (bY P);rw[b6]at z;have z2:c.natAbs<=c.natAbs*f[f.length-1].natAbs:=iJ _ (jf.mpr r);omega
 have kc:((val p k).natAbs:Int)<=c:=by
  rw[c2];have:(0:Int)<=((val p k).natAbs:Int):=Int.natCast_nonneg _;have z:=Br h1 this;rw[dS]at z;exact z
 have Q:∀(d w:aa),d≠[]->Nml d->(∀z∈d,z.natAbs<=M)->(∀n,val n d=val n g*val n w)->k.length<=1:=λd w s u B vd=>by
  refine oN λh2=>?_
  let l:=aL (be f w)
  have vl:∀n,val n d=val n l*val n k:=λn=>by
   show _=val n (aL (be f w))*_;rw[fu (cL _) n,cy,vd,q,cD,cw (val n k),cD]
  have r:l≠[]:=λz=>by
   have e:d=[]:=nL u λj=>by
    have:=fh (xs:=d) (ys:=[]) (λn=>by rw[vl n,z];simp[val]) j;rw[this];rfl
   exact s e
  have ll:=de.mpr r;have i:k≠[]:=de.mp ();have dd:Div d l k:=ir.mpr vl;refine Mt (p:=p) (K:=co k) (L:=co l) (e:=k.length-1) (t:=l.length-1) (M:=M) () (λj C=>aD ()) (dw kn i) (λj C=>aD ()) (dw (cM _) r) (λj=>?_) ?_
  ·rw[<-dd j];by_cases C:j<d.length
   ·rw[aI C];exact B _ (bY C)
   ·rw[aD ()];exact aR _
  ·rw[EY,mD,gl ()];omega
 have R:k.length<=1:=by
  rcases Z with ⟨s,u,B⟩|⟨s,u,B⟩
  ·exact Q a x s u B va
  ·exact Q b y s u B vb
 have cg:∀i:Int,(∀n,val n g=val n f*i)->∀j,co g j=i*co f j:=λi hk j=>by
  have o:co (f.map λz=>i*z) j=i*co f j:=by
   by_cases h:j<f.length
   ·rw[aI (xs:=f.map _) (⇑h),aI h,cE]
   ·rw[aD (xs:=f.map _) (by simp;omega),aD (),dq]
  rw[<-o];exact fh (λn=>by rw[hk n,bL,cw]) j
 have F:∀d:Int,(∀j,co g j=d*co f j)->d.natAbs=1:=λd hd=>T d.natAbs λj=>by
  rw[hd j];exact eJ (uV.mpr (mC d)) (iL _ _)
 obtain⟨i,hk⟩:∃i:Int,∀n,val n g=val n f*i:=by
  generalize k=kk at R q
  match kk,R with
  | [],_=>exact⟨0,λn=>by rw[q n];simp[val]⟩
  | [z],_=>exact⟨z,λn=>by rw[q n];simp[val]⟩
  | _ :: _ :: _,h=>simp at h
 have G:=cg i hk;have x0:=F i G;have kk:i=1\/i=-1:=by omega
 rcases kk with rfl|rfl
 ·exact .inl (ip fn J λj=>by rw[G j];omega)
 ·refine .inr (ip fn (λz ys e=>?_) λj=>?_)
  ·have H:=congrArg (oV λz=>-1*z) e;rw[jg,aT,jh]at H;have e2:(λz:Int=>-1*z) ∘ (λz:Int=>-1*z)=id:=funext λz=>by simp
   rw[e2,Jc]at H;have:=J _ _ H;omega
  ·have o:co (g.map λz=>-1*z) j=-1*co g j:=by
    by_cases h:j<g.length
    ·rw[aI (xs:=g.map _) (⇑h),aI h,cE]
    ·rw[aD (xs:=g.map _) (by simp;omega),aD (),dq]
   rw[o,G j];omega
end My
namespace My
theorem Mw {p:Int}(m:0<p):∀(f g:aa),(∀x∈f,2*x.natAbs<=p.natAbs)->(∀x∈g,2*x.natAbs<p.natAbs)->val p f=val p g->∀k,co f k=co g k:=by
 have b:∀(x y s t:Int),2*x.natAbs<=p.natAbs->2*y.natAbs<p.natAbs->x+p*s=y+p*t->x=y/\s=t:=λx y s t hx hy h=>by
  have e:p*(s-t)=y-x:=by rw[uP];omega
  have z:s-t=0:=by
   rcases Int.lt_trichotomy (s-t) 0 with u|u|u
   ·have:=mE (show s-t<=-1 by omega) (oR m);rw[e,uQ,oG]at this;omega
   ·exact u
   ·have:=mE (show 1<=s-t by omega) (oR m);rw[e,oG]at this;omega
  rw[z,dq]at e;exact⟨(),()⟩
 have nil:∀g:aa,(∀x∈g,2*x.natAbs<=p.natAbs)->val p g=0->∀k,co g k=0:=by
  intro g
  induction g with
  | nil=>intro _ _ k;rfl
  | cons y g ih=>
   intro a h k;have n:y+p*val p g=0+p*0:=by
    have:val p (y :: g)=y+p*val p g:=rfl;rw[this]at h;rw[dq];omega
   obtain⟨c,d⟩:=b y 0 (val p g) 0 (a y (by simp)) (by simp;omega) n;rw[fG];by_cases z:k=0
   ·rw[if_pos z];exact c
   ·rw[if_neg z];exact ih (λx hx=>a x (by simp[hx])) d (k-1)
 intro f
 induction f with
 | nil=>
  intro g _ a h k;rw[nil g (λx hx=>dm (a x hx)) h.symm k];rfl
 | cons x f ih=>
  intro g i a h k
  cases g with
  | nil=>rw[nil (x :: f) i h k];rfl
  | cons y g=>
   obtain⟨c,d⟩:=b x y (val p f) (val p g) (i x (by simp)) (a y (by simp)) h;rw[fG,fG];by_cases z:k=0
   ·rw[if_pos z,if_pos z];exact c
   ·rw[if_neg z,if_neg z];exact ih g (λw j=>i w (by simp[j])) (λw j=>a w (by simp[j])) d (k-1)
theorem s_ {p:Int}(m:1<=p):∀(f:aa),f≠[]->(∀x∈f,2*x.natAbs<=p.natAbs)->0<co f (f.length-1)->p ^ (f.length-1)<=2 ^ (f.length-1)*val p f/\0<val p f:=by
 intro f
 induction f with
 | nil=>intro h;exact absurd rfl h
 | cons x f ih=>
  intro _ d b;by_cases z:f=[]
  ·subst z;have e:val p [x]=x:=by simp[val]
   have a:0<x:=b;rw[e];exact⟨by simp;omega,a⟩
  ·have n:=de.mpr z;have a:0<co f (f.length-1):=by
    have:(x :: f).length-1=f.length:=by simp
    rw[this,fG,if_neg ()]at b;exact b
   obtain⟨g,o⟩:=ih z (λw i=>d w (by simp[i])) a;have hx:=d x (by simp);have e:val p (x :: f)=x+p*val p f:=rfl;have q:p*1<=p*val p f:=mE () ();have j:p*val p f<=2*val p (x :: f):=by rw[e];omega
   refine⟨?_,()⟩;have k:(x :: f).length-1=f.length-1+1:=by simp;omega
   rw[k,kL,kL];have c:(0:Int)<=2 ^ (f.length-1):=Int.pow_nonneg ()
   calc p ^ (f.length-1)*p<=2 ^ (f.length-1)*val p f*p:=Br g ()
    _=2 ^ (f.length-1)*(p*val p f):=by rw[cD,cw (val p f) p]
    _<=2 ^ (f.length-1)*(2*val p (x :: f)):=mE j c
    _=2 ^ (f.length-1)*2*val p (x :: f):=by rw[cD]
end My
namespace My
def hx (x:Int)(g:aH):aH
 | 0=>g 0
 | d+1=>x*hx x g d+g (d+1)
def hs:aa->Nat->Int
 | []=>λd=>if d=0 then 1 else 0
 | x :: xs=>hx x (hs xs)
theorem zO:∀a:aa,hs a 0=1
 | []=>rfl
 | x :: a=>zO a
theorem zP (x y:Int)(g:aH):∀d,(x-y)*hx x (hx y g) d=x*hx x g d-y*hx y g d
 | 0=>by simp only[hx];rw[Int.sub_mul]
 | d+1=>by
  have f:=zP x y g d;simp only[hx];generalize hx x (hx y g) d=A at f ⊢;generalize hx x g d=a at f ⊢;generalize hx y g d=b at f ⊢;generalize g (d+1)=c;have e:(x-y)*(x*A+(y*b+c))=x*((x-y)*A)+(x-y)*(y*b+c):=by grind
  rw[e,f];grind
theorem zQ (x y:Int)(g:aH):∀d,hx x (hx y g) d=hx y (hx x g) d
 | 0=>rfl
 | d+1=>by
  have a:=zQ x y g d;have l:=zP x y g d;show x*hx x (hx y g) d+(y*hx y g d+g (d+1))=y*hx y (hx x g) d+(x*hx x g d+g (d+1))
  rw[<-a];generalize hx x (hx y g) d=A at l ⊢;grind
theorem nU {x:Int}{g h:aH}(e:∀d,g d=h d):∀d,hx x g d=hx x h d
 | 0=>e 0
 | d+1=>by simp only[hx];rw[nU e d,e]
theorem ki (y:Int):∀(a:aa)(d:Nat),hs (a++[y]) d=hx y (hs a) d
 | [],d=>rfl
 | x :: a,d=>by
  show hx x (hs (a++[y])) d=hx y (hx x (hs a)) d;rw[nU (ki y a) d,zQ]
theorem Mz (x:Int)(xs:aa)(d:Nat):hs (x :: xs) d=hs (xs++[x]) d:=(ki x xs d).symm
theorem MA (x y:Int)(xs:aa)(d:Nat):(y-x)*hs (x :: (xs++[y])) d=hs (xs++[y]) (d+1)-hs (x :: xs) (d+1):=by
 have a:hs (x :: (xs++[y])) d=hx x (hx y (hs xs)) d:=nU (ki y xs) d;have b:hs (xs++[y]) (d+1)=y*hx y (hs xs) d+hs xs (d+1):=ki y xs (d+1);have c:hs (x :: xs) (d+1)=x*hx x (hs xs) d+hs xs (d+1):=rfl;have l:=zP x y (hs xs) d;rw[a,b,c];generalize hx x (hx y (hs xs)) d=A at l ⊢;grind
def dd (f xs:aa):Int:=au f.length λj=>co f (j+(xs.length-1))*hs xs j
theorem lE (n:Nat)(f:aH):au (n+1) f=au n f+f n:=by
 induction n generalizing f with
 | zero=>simp[au]
 | succ n ih=>
  rw[iZ (n+1),ih λj=>f (j+1),iZ n];omega
theorem zS (f xs:aa)(x y:Int):(y-x)*dd f (x :: (xs++[y]))=dd f (xs++[y])-dd f (x :: xs):=by
 unfold dd;have a:(x :: (xs++[y])).length-1=xs.length+1:=by simp
 have b:(xs++[y]).length-1=xs.length:=by simp
 have d:(x :: xs).length-1=xs.length:=by simp
 rw[a,b,d,<-e7]
 cases hn:f.length with
 | zero=>simp[au]
 | succ n=>
  have e:∀j,(y-x)*(co f (j+(xs.length+1))*hs (x :: (xs++[y])) j)=co f (j+1+xs.length)*hs (xs++[y]) (j+1)+(-1)*(co f (j+1+xs.length)*hs (x :: xs) (j+1)):=λj=>by
   have h:=MA x y xs j;rw[show j+(xs.length+1)=j+1+xs.length by omega];generalize hs (x :: (xs++[y])) j=A at h ⊢;generalize co f (j+1+xs.length)=c;have:(y-x)*(c*A)=c*((y-x)*A):=by grind
   rw[this,h];grind
  have top:co f (n+(xs.length+1))=0:=aD ();rw[lE,top,gJ,dq,iG,cB λj _=>e j,jy,e7,iZ n λj=>co f (j+xs.length)*hs (xs++[y]) j,iZ n λj=>co f (j+xs.length)*hs (x :: xs) j,zO,zO];omega
theorem MB (f xs:aa)(x:Int):dd f (x :: xs)=dd f (xs++[x]):=by
 unfold dd;rw[show (x :: xs).length=(xs++[x]).length by simp];exact cB λj _=>by rw[Mz]
theorem EZ {f xs:aa}(h:f.length<xs.length):dd f xs=0:=by
 unfold dd;exact fF λj _=>by rw[aD (),gJ]
theorem E2 (x:Int):∀d,hs [x] d=x ^ d
 | 0=>by rw[Int.pow_zero];rfl
 | d+1=>by
  show x*hs [x] d+(if d+1=0 then 1 else 0)=x ^ (d+1);rw[E2 x d,if_neg (),kL,iG,cw]
theorem E3 (n:Int):∀f:aa,val n f=au f.length λj=>co f j*n ^ j
 | []=>rfl
 | a :: f=>by
  show val n (a :: f)=au (f.length+1) λj=>co (a :: f) j*n ^ j;rw[iZ];have e:∀j,co (a :: f) (j+1)*n ^ (j+1)=n*(co f j*n ^ j):=λj=>by
   rw[show co (a :: f) (j+1)=co f j from rfl,kL];grind
  rw[cB λj _=>e j,e7,<-E3 n f];show _=a*n ^ 0+n*val n f;simp[val]
theorem tf (f:aa)(x:Int):dd f [x]=val x f:=by
 rw[E3];unfold dd;exact cB λj _=>by rw[E2];rfl
theorem MC (f xs:aa)(x n:Int):dd f (x :: (xs++[n]))=dd f ((xs++[x])++[n]):=by
 unfold dd;rw[show (x :: (xs++[n])).length=((xs++[x])++[n]).length by simp];refine cB λj _=>?_;congr 1;show hx x (hs (xs++[n])) j=_;rw[ki n (xs++[x]),nU (ki n xs),zQ,nU (ki x xs)]
theorem E4 (f xs:aa)(x n:Int):dd f (xs++[n])=dd f (xs++[x])+(n-x)*dd f ((xs++[x])++[n]):=by
 have h:=zS f xs x n;rw[MB f xs x,MC]at h;omega
theorem MD {f xs:aa}{x y:Int}(h:y≠x):(dd f (xs++[y])-dd f (x :: xs)).fdiv (y-x)=dd f (x :: (xs++[y])):=by
 rw[<-zS];exact kI _ ()
def run (ps:aa)(a n:Nat):aa:=(ps.drop a).take n
theorem E5 {ps:aa}{a:Nat}(h:a<ps.length)(n:Nat):run ps a (n+1)=ps[a] :: run ps (a+1) n:=by
 unfold run;rw[Bj h,Qw]
theorem zT {ps:aa}{a n:Nat}(h:a+n<ps.length):run ps a (n+1)=run ps a n++[ps[a+n]]:=by
 unfold run;rw[cY,List.getElem?_drop,ao h];rfl
theorem E6 {ps:aa}{a g:Nat}(h:a+g+1<ps.length):run ps a (g+2)=ps[a] :: (run ps (a+1) g++[ps[a+g+1]])/\run ps (a+1) (g+1)=run ps (a+1) g++[ps[a+g+1]]/\run ps a (g+1)=ps[a] :: run ps (a+1) g:=by
 have e:run ps (a+1) (g+1)=run ps (a+1) g++[ps[a+g+1]]:=by
  rw[zT ()];simp only[show a+1+g=a+g+1 by omega]
 exact⟨by rw[E5 (),e],e,E5 () g⟩
theorem ME (f:aa){ps:aa}{a g:Nat}(h:a+g+1<ps.length)(b:ps[a+g+1]≠ps[a]):(dd f (run ps (a+1) (g+1))-dd f (run ps a (g+1))).fdiv (ps[a+g+1]-ps[a])=dd f (run ps a (g+2)):=by
 obtain⟨c,d,e⟩:=E6 h;rw[c,d,e];exact MD b
theorem tj (f:aa){ps:aa}(hd:∀i j (hi:i<ps.length) (p:j<ps.length),i≠j->ps[i]≠ps[j]){B:Nat}(b:∀i (h:i<ps.length),(val ps[i] f).natAbs<=B):∀(n a:Nat),a+n<ps.length->(dd f (run ps a (n+1))).natAbs<=2 ^ n*B
 | 0,a,h=>by
  rw[zT h];show (dd f ([]++[ps[a+0]])).natAbs<=_;rw[gk,tf]
  simpa using b a ()
 | n+1,a,h=>by
  have d:=tj f hd b n a ();have e:=tj f hd b n (a+1) ();obtain⟨k,m,o⟩:=E6 (ps:=ps) (a:=a) (g:=n) ();have g:=zS f (run ps (a+1) n) ps[a] ps[a+n+1];rw[<-k,<-m,<-o]at g;have ne:=hd (a+n+1) a () () ();have c:(dd f (run ps a (n+2))).natAbs<=((ps[a+n+1]-ps[a])*dd f (run ps a (n+2))).natAbs:=by
   rw[b6];exact gm _ ()
  rw[g]at c;have:2 ^ (n+1)*B=2 ^ n*B+2 ^ n*B:=by rw[iF];grind
  show (dd f (run ps a (n+2))).natAbs<=_;rw[this];exact aM c (aM (my _ _) (kJ e d))
def rnd (f ps:aa)(g i:Nat):Int:=if i<g then dd f (run ps 0 (i+1)) else dd f (run ps (i-g) (g+1))
def mxR (f ps:aa)(g c i:Nat):Int:=if c<=i then rnd f ps (g+1) i else rnd f ps g i
theorem MF {f ps:aa}{g i:Nat}(h:i<=g):rnd f ps (g+1) i=rnd f ps g i:=by
 unfold rnd;rw[if_pos ()];by_cases z:i<g
 ·rw[if_pos z]
 ·rw[if_neg z,show i-g=0 by omega,show i=g by omega]
theorem MG {f ps:aa}{i:Nat}(h:i<ps.length):rnd f ps 0 i=val ps[i] f:=by
 unfold rnd;rw[if_neg (),Jb,zT (show i+0<ps.length from h)];show dd f ([]++[ps[i]])=_;rw[gk,tf]
theorem MH {f ps:aa}{g i:Nat}(h:i<=g):rnd f ps g i=dd f (run ps 0 (i+1)):=by
 unfold rnd;by_cases z:i<g
 ·rw[if_pos z]
 ·rw[if_neg z,show i-g=0 by omega,show i=g by omega]
theorem MI {f ps:aa}{g i:Nat}(h:g+1<=i)(hi:i<ps.length)(b:ps[i]≠ps[i-(g+1)]):(rnd f ps g i-rnd f ps g (i-1)).fdiv (ps[i]-ps[i-(g+1)])=rnd f ps (g+1) i:=by
 obtain⟨a,rfl⟩:∃a,i=a+g+1:=⟨i-(g+1),()⟩
 have c:a+g+1-(g+1)=a:=by omega
 have d:a+g+1-g=a+1:=by omega
 have e:a+g+1-1-g=a:=by omega
 unfold rnd;rw[if_neg (),if_neg (),if_neg (),d,e];simp only[c]at b ⊢;exact ME f hi b
end My
namespace My
abbrev Rw:=Nat->Int
def io (c:Nat):List Rw->(List Rw->Int)->Int
 | [],_=>0
 | r :: w,F=>(-1) ^ w.length*r c*F w+io c w λu=>F (r :: u)
def dt:aw->List Rw->Int
 | [],[]=>1
 | [],_ :: _=>0
 | c :: cs,l=>io c l (dt cs)
theorem zU {c:Nat}:∀(w:List Rw){F G:List Rw->Int},(∀u,u.length+1=w.length->F u=G u)->io c w F=io c w G
 | [],_,_,_=>rfl
 | r :: w,F,G,h=>by
  rw[io,io,h w rfl,zU w (F:=λu=>F (r :: u)) (G:=λu=>G (r :: u)) λu a=>h (r :: u) (by simp[a])]
theorem E7 {c:Nat}:∀(w:List Rw),io c w (λ_=>0)=0
 | []=>rfl
 | r :: w=>by rw[io,E7 w];simp
theorem E8 {c:Nat}(x:Int):∀(w:List Rw)(F G:List Rw->Int),io c w (λu=>x*F u+G u)=x*io c w F+io c w G
 | [],_,_=>by simp[io]
 | r :: w,F,G=>by
  rw[io,io,io,E8 x w (λu=>F (r :: u)) (λu=>G (r :: u))];generalize io c w (λu=>F (r :: u))=p;generalize io c w (λu=>G (r :: u))=q;generalize ((-1:Int) ^ w.length)=e;grind
theorem E9 (a b:Nat):∀(w:List Rw)(F:List Rw->Int),io a w (λu=>io b u F)+io b w (λu=>io a u F)=0
 | [],_=>rfl
 | r :: w,F=>by
  have st:∀(a b:Nat),io a (r :: w) (λu=>io b u F)=(-1) ^ w.length*r a*io b w F+(-((-1) ^ w.length)*r b*io a w F+io a w λu=>io b u λv=>F (r :: v)):=λa b=>by
   rw[io];congr 1;rw[zU w (G:=λu=>-((-1) ^ w.length)*r b*F u+io b u λv=>F (r :: v)) λu d=>?_]
   ·rw[E8]
   ·rw[io,<-d,kL];grind
  rw[st a b,st b a];have c:=E9 a b w λu=>F (r :: u);generalize io a w (λu=>io b u λv=>F (r :: v))=p at c ⊢;generalize io b w (λu=>io a u λv=>F (r :: v))=q at c ⊢;grind
theorem E_ (a b:Nat)(cs:aw)(l:List Rw):dt (a :: b :: cs) l=- dt (b :: a :: cs) l:=by
 have:=E9 a b l (dt cs);have c:dt (a :: b :: cs) l=io a l (λu=>io b u (dt cs)):=rfl;have d:dt (b :: a :: cs) l=io b l (λu=>io a u (dt cs)):=rfl;omega
theorem zV {j:Nat}:∀(a:aw)(l:List Rw),j∈a->dt (j :: a) l=0
 | [],_,h=>by simp at h
 | c :: a,l,h=>by
  by_cases z:j=c
  ·subst z;have:=E_ j j a l;omega
  ·have b:j∈a:=by
    rcases bj.mp h with h|h
    ·exact absurd h z
    ·exact h
   rw[E_];have e:dt (c :: j :: a) l=io c l (λu=>dt (j :: a) u):=rfl;rw[e,zU l (G:=λ_=>0) λu _=>zV a u b,E7];rfl
def dot:aa->List Rw->Nat->Int
 | m :: ms,r :: rs,c=>m*r c+dot ms rs c
 | _,_,_=>0
theorem nV {ms:aa}:∀{rs:List Rw}{m:Int}{r:Rw}{c:Nat},ms.length=rs.length->dot (ms++[m]) (rs++[r]) c=dot ms rs c+m*r c:=by
 induction ms with
 | nil=>intro rs m r c h;cases rs with
  | nil=>simp[dot]
  | cons=>simp at h
 | cons x ms ih=>intro rs m r c h;cases rs with
  | nil=>simp at h
  | cons y rs=>
   have:=ih (rs:=rs) (m:=m) (r:=r) (c:=c) (⇑h);simp only[kK,dot];omega
def coE:List Rw->(List Rw->Int)->aa
 | [],_=>[]
 | r :: w,F=>(-1) ^ w.length*F w :: coE w λu=>F (r :: u)
theorem Fa (c:Nat):∀(w:List Rw)(F:List Rw->Int),io c w F=dot (coE w F) w c
 | [],_=>rfl
 | r :: w,F=>by
  rw[io,coE,dot,Fa c w];congr 1;grind
theorem Fc:∀(w:List Rw)(r:Rw)(F:List Rw->Int),∃a:aa,a.length=w.length/\coE (w++[r]) F=a++[F w]
 | [],r,F=>⟨[],rfl,by simp[coE]⟩
 | x :: w,r,F=>by
  obtain⟨a,b,c⟩:=Fc w r λu=>F (x :: u);exact⟨(-1) ^ (w++[r]).length*F (w++[r]) :: a,by simp[b],by rw[kK,coE,c];rfl⟩
theorem MJ (w:List Rw)(r:Rw)(F:List Rw->Int):∃a:aa,a.length=w.length/\∀c,io c (w++[r]) F=dot a w c+F w*r c:=by
 obtain⟨a,b,d⟩:=Fc w r F;exact⟨a,b,λc=>by rw[Fa,d,nV b]⟩
theorem tm (a b:Int):∀(e f:aa)(d:List Rw),e.length=d.length->f.length=d.length->∃g:aa,g.length=d.length/\∀c,dot g d c=a*dot e d c+b*dot f d c
 | [],[],[],_,_=>⟨[],rfl,λc=>by simp[dot]⟩
 | x :: e,y :: f,r :: d,h1,h2=>by
  obtain⟨g,i,j⟩:=tm a b e f d (⇑h1) (⇑h2);refine⟨(a*x+b*y) :: g,by simp[i],λc=>?_⟩;rw[dot,dot,dot,j c];grind
 | [],_ :: _,[],_,h=>by simp at h
 | _ :: _,_,[],h,_=>by simp at h
 | [],_,_ :: _,h,_=>by simp at h
 | _ :: _,[],_ :: _,_,h=>by simp at h
theorem MK (rs:List Rw)(c:Nat):dot (bI rs.length 0) rs c=0:=by
 induction rs with
 | nil=>rfl
 | cons r rs ih=>rw[cC,iE,dot,ih];simp
section
variable (rs:List Rw)(cs:aw)
def cr (i:Nat):aw:=(cs.take i).reverse
def mi (i:Nat):Int:=dt (cr cs i) (rs.take i)
def bo (i:Nat)(x:Rw)(j:Nat):Int:=dt (j :: cr cs i) (rs.take i++[x])
variable {rs cs}
theorem ML {i:Nat}(h:i<cs.length):cr cs (i+1)=cs[i] :: cr cs i:=by
 unfold cr;rw[cY,ao h];simp
theorem kl {i l:Nat}(x:Rw)(h:l<i)(hi:l<cs.length):bo rs cs i x cs[l]=0:=by
 refine zV _ _ ?_;unfold cr;rw[mF,List.mem_take_iff_getElem];exact⟨l,(),rfl⟩
theorem i0 (i:Nat)(x:Rw):∃a:aa,a.length=(rs.take i).length/\∀j,bo rs cs i x j=dot a (rs.take i) j+mi rs cs i*x j:=by
 obtain⟨a,b,c⟩:=MJ (rs.take i) x (dt (cr cs i));exact⟨a,b,c⟩
theorem lF {i:Nat}(a:i<rs.length)(b:i<cs.length):mi rs cs (i+1)=bo rs cs i rs[i] cs[i]:=by
 unfold mi bo;rw[ML b,cY,ao a];rfl
theorem zW:mi rs cs 0=1:=rfl
theorem zX:∀(k:Nat),k<=rs.length->k<=cs.length->(∀i,i<=k->mi rs cs i≠0)->∀(b:aa),b.length=(rs.take k).length->(∀l (h:l<cs.length),l<k->dot b (rs.take k) cs[l]=0)->∀j,dot b (rs.take k) j=0
 | 0,_,_,_,b,hl,_,j=>by
  have:b=[]:=bC (⇑hl);subst this;simp[dot]
 | k+1,hr,hc,hm,b,hl,hz,j=>by
  have n:rs.take (k+1)=rs.take k++[rs[k]]:=by rw[cY,ao ()];rfl
  have lt:(rs.take k).length=k:=by rw[bX];omega
  rw[n,b4,lt]at hl;obtain⟨m0,m,rfl⟩:∃m0 m,b=m0++[m]:=by
   cases e:b.getLast? with
   | none=>rw[uW]at e;subst e;simp at hl
   | some a=>exact⟨_,a,(oW.mp e).choose_spec⟩
  have o:m0.length=(rs.take k).length:=by rw[lt];simpa using hl
  have r:∀j,dot (m0++[m]) (rs.take (k+1)) j=dot m0 (rs.take k) j+m*rs[k] j:=λj=>by rw[n,nV o]
  obtain⟨s,t,u⟩:=i0 (rs:=rs) (cs:=cs) k rs[k];obtain⟨p,x,y⟩:=tm (mi rs cs k) (-m) m0 s (rs.take k) o t;have c:∀j,dot p (rs.take k) j=mi rs cs k*dot (m0++[m]) (rs.take (k+1)) j-m*bo rs cs k rs[k] j:=λj=>by
   rw[y j,r j,u j];grind
  have q:=zX k () () (λi hi=>hm i ()) p x λl h f=>by
   rw[c,hz l h (),kl _ f];simp
  have z:=c cs[k];rw[q,hz k () (),<-lF () ()]at z;have d:m=0:=by
   have g:=hm (k+1) (aA _);have:m*mi rs cs (k+1)=0:=by omega
   rcases iI.mp this with h|h
   ·exact h
   ·exact absurd h g
  have B:=c j;rw[q,d]at B;have g:=hm k ();have:mi rs cs k*dot (m0++[0]) (rs.take (k+1)) j=0:=by omega
  rw[d];rcases iI.mp this with h|h
  ·exact absurd h g
  ·exact h
theorem MM {i:Nat}(b:i<rs.length)(f:i<cs.length)(m:∀l,l<=i+1->mi rs cs l≠0)(x:Rw)(j:Nat):mi rs cs i*bo rs cs (i+1) x j=mi rs cs (i+1)*bo rs cs i x j-bo rs cs i x cs[i]*bo rs cs i rs[i] j:=by
 have c:rs.take (i+1)=rs.take i++[rs[i]]:=by rw[cY,ao b];rfl
 obtain⟨as,n,o⟩:=i0 (rs:=rs) (cs:=cs) (i+1) x;obtain⟨bs,b1,b2⟩:=i0 (rs:=rs) (cs:=cs) i x;obtain⟨ds,g,p⟩:=i0 (rs:=rs) (cs:=cs) i rs[i];have d:(bs++[0]).length=(rs.take (i+1)).length:=by rw[c,b4,b4,b1];rfl
 have e:(ds++[mi rs cs i]).length=(rs.take (i+1)).length:=by rw[c,b4,b4,g];rfl
 obtain⟨q,r,s⟩:=tm (mi rs cs i) (- mi rs cs (i+1)) as (bs++[0]) (rs.take (i+1)) n d;obtain⟨k,t,u⟩:=tm 1 (bo rs cs i x cs[i]) q (ds++[mi rs cs i]) (rs.take (i+1)) r e;have a:∀j,dot k (rs.take (i+1)) j=mi rs cs i*bo rs cs (i+1) x j-mi rs cs (i+1)*bo rs cs i x j+bo rs cs i x cs[i]*bo rs cs i rs[i] j:=λj=>by
  rw[u j,s j,o j,b2 j,p j,c,nV b1,nV g];grind
 have:=zX (i+1) b f m k t (λl h y=>by
  rw[a];by_cases z:l=i
  ·subst z;rw[kl x (oH _) h,<-lF b f];grind
  ·rw[kl x () h,kl x (show l<i by omega) h,kl rs[i] (show l<i by omega) h];simp) j
 rw[a]at this;omega
end
end My
namespace My
theorem Fd {B Fb:Nat}{c:Nat}:∀(w:List Rw)(F:List Rw->Int),(∀u,u.length+1=w.length->(∀r∈u,r∈w)->(F u).natAbs<=Fb)->(∀r∈w,(r c).natAbs<=B)->(io c w F).natAbs<=w.length*(B*Fb)
 | [],_,_,_=>by simp[io]
 | r :: w,F,h,hb=>by
  have f:=Fd (B:=B) (Fb:=Fb) (c:=c) w (λu=>F (r :: u)) (λu a b=>h (r :: u) (by simp[a]) λx hx=>by
   rcases bj.mp hx with z|z
   ·rw[z];exact dr
   ·exact cX _ (b x z)) λx hx=>hb x (cX _ hx)
  have d:=h w rfl λx hx=>cX _ hx;have e:=hb r dr;rw[io,cC,gP,eI];have g:((-1:Int) ^ w.length*r c*F w).natAbs<=B*Fb:=by
   rw[b6,b6,Bs];simp;exact dJ e d
  have:=ib ((-1:Int) ^ w.length*r c*F w) (io c w λu=>F (r :: u));omega
theorem zY {B N:Nat}(d:1<=N*B):∀(a:aw)(l:List Rw),l.length<=N->(∀r∈l,∀c,(r c).natAbs<=B)->(dt a l).natAbs<=(N*B) ^ a.length
 | [],[],_,_=>by simp[dt]
 | [],_ :: _,_,_=>by simp[dt]
 | c :: a,l,hl,hb=>by
  have h:=Fd (B:=B) (Fb:=(N*B) ^ a.length) (c:=c) l (dt a) (λu f e=>zY d a u () λr b=>hb r (e r b)) λr b=>hb r b c;rw[dt,cC,iF];refine aM h ?_;rw[fW ((N*B) ^ a.length) (N*B),gQ];exact dA _ hl
theorem Fe {us ws:aa}{j:Nat}:∀{R1 R2:List Rw},us.length=R1.length->dot (us++ws) (R1++R2) j=dot us R1 j+dot ws R2 j:=by
 induction us with
 | nil=>intro R1 R2 h;cases R1 with
  | nil=>simp[dot]
  | cons=>simp at h
 | cons x us ih=>intro R1 R2 h;cases R1 with
  | nil=>simp at h
  | cons y R1=>
   have:=ih (R1:=R1) (R2:=R2) (⇑h);simp only[kK,dot];omega
theorem Ff {rs:List Rw}{e N:Nat}(t:∀r∈rs,∀J,e+N<=J->r J=0)(g:∀d:aa,d.length=rs.length->(∀J,e<=J->dot d rs J=0)->∀m∈d,m=0):∀i,i<=rs.length->∃cs:aw,cs.length=i/\cs.Nodup/\(∀c∈cs,e<=c/\c<e+N)/\∀l,l<=i->mi rs cs l≠0
 | 0,_=>⟨[],rfl,kO,by simp,λl f=>by rw[show l=0 by omega,zW];decide⟩
 | i+1,hi=>by
  obtain⟨cs,u,F,G,y⟩:=Ff t g i ();obtain⟨p,q,H⟩:=i0 (rs:=rs) (cs:=cs) i rs[i];have B:rs=(rs.take i++[rs[i]])++rs.drop (i+1):=by
   conv=>lhs;rw[<-IZ (i+1) rs]
   rw[cY,ao ()];rfl
  have j:∀J,dot ((p++[mi rs cs i])++bI (rs.drop (i+1)).length 0) rs J=bo rs cs i rs[i] J:=λJ=>by
   have n:dot ((p++[mi rs cs i])++bI (rs.drop (i+1)).length 0) ((rs.take i++[rs[i]])++rs.drop (i+1)) J=bo rs cs i rs[i] J:=by
    rw[Fe (by rw[b4,b4,q];rfl),nV q,MK,H J];omega
   rw[<-B]at n;exact n
  by_cases o:∃J,e<=J/\bo rs cs i rs[i] J≠0
  ·obtain⟨J,I,s⟩:=o;have L:J∉cs:=λM=>by
    obtain⟨l,f,rfl⟩:=cm.mp M;exact s (kl _ () f)
   have O:J<e+N:=by
    refine mz λh=>s ?_;rw[<-j J];have:∀(d:aa)(R:List Rw),(∀r∈R,r J=0)->dot d R J=0:=λd=>by
     induction d with
     | nil=>intro R _;cases R <;> rfl
     | cons m d ih=>intro R C;cases R with
      | nil=>rfl
      | cons r R=>rw[dot,C r dr,ih R λx hx=>C x (cX _ hx)];simp
    exact this _ _ λr P=>t r P J h
   have k:∀l,l<=i->cr (cs++[J]) l=cr cs l:=λl f=>by unfold cr;rw[List.take_append_of_le_length ()]
   have same:∀l,l<=i->mi rs (cs++[J]) l=mi rs cs l:=λl f=>by unfold mi;rw[k l f]
   refine⟨cs++[J],by simp[u],?_,λc Q=>?_,λl f=>?_⟩
   ·rw[jQ];exact⟨F,by simp,λa D b o=>by rw[aW.mp o];intro z;rw[z]at D;exact L D⟩
   ·rcases a8.mp Q with h|h
    ·exact G c h
    ·rw[aW.mp h];exact⟨I,O⟩
   ·by_cases z:l<=i
    ·rw[same l z];exact y l z
    ·have:l=i+1:=by omega
     subst this;rw[lF () (by simp;omega)];have n:(cs++[J])[i]'(by simp;omega)=J:=by simp[u]
     have S:bo rs (cs++[J]) i rs[i] J=bo rs cs i rs[i] J:=by unfold bo;rw[k i (aA _)]
     rw[n,S];exact s
  ·have:=g ((p++[mi rs cs i])++bI (rs.drop (i+1)).length 0) (by
    have:=congrArg jM B;rw[b4,b4]at this;rw[b4,b4,mr,q];exact this.symm) (λJ T=>by
    rw[j J];by_cases z:bo rs cs i rs[i] J=0
    ·exact z
    ·exact absurd ⟨J,T,z⟩ o) (mi rs cs i) (by simp)
   exact absurd this (y i (aA _))
end My
namespace My
def prb (β:Rw->Nat):List Rw->Nat
 | []=>1
 | r :: w=>β r*prb β w
theorem Fg {β:Rw->Nat}{c:Nat}:∀(w:List Rw)(C:Nat)(F:List Rw->Int),(∀u,u.length+1=w.length->(∀r∈u,r∈w)->(F u).natAbs<=C*prb β u)->(∀r∈w,(r c).natAbs<=β r)->(io c w F).natAbs<=w.length*(C*prb β w)
 | [],_,_,_,_=>by simp[io]
 | r :: w,C,F,h,hb=>by
  have a:=Fg (β:=β) (c:=c) w (C * β r) (λu=>F (r :: u)) (λu b d=>by
   have:=h (r :: u) (by simp[b]) λx hx=>by
    rcases bj.mp hx with z|z
    ·rw[z];exact dr
    ·exact cX _ (d x z)
   rw[prb,<-gQ]at this;exact this) λx hx=>hb x (cX _ hx)
  have e:=h w rfl λx hx=>cX _ hx;have f:=hb r dr;rw[io,cC,gP,eI,prb];have g:((-1:Int) ^ w.length*r c*F w).natAbs<=β r*(C*prb β w):=by
   rw[b6,b6,Bs];simp;exact dJ f e
  have i:β r*(C*prb β w)=C*(β r*prb β w):=Nat.mul_left_comm _ _ _;have j:C * β r*prb β w=C*(β r*prb β w):=gQ _ _ _;rw[i]at g;rw[j]at a;have:=ib ((-1:Int) ^ w.length*r c*F w) (io c w λu=>F (r :: u));omega
theorem zZ {β:Rw->Nat}{N:Nat}(e:1<=N):∀(a:aw)(l:List Rw),l.length<=N->(∀r∈l,∀c,(r c).natAbs<=β r)->(∀r∈l,1<=β r)->(dt a l).natAbs<=N ^ a.length*prb β l
 | [],[],_,_,_=>by simp[dt,prb]
 | [],_ :: _,_,_,_=>by simp[dt]
 | c :: a,l,hl,hb,h1=>by
  have h:=Fg (β:=β) (c:=c) l (N ^ a.length) (dt a) (λu f d=>zZ e a u () (λr b=>hb r (d r b)) λr b=>h1 r (d r b)) λr b=>hb r b c;rw[dt,cC,iF];refine aM h ?_;rw[fW (N ^ a.length) N,gQ];exact dA _ hl
theorem z_ (β:Rw->Nat):∀(a b:List Rw),prb β (a++b)=prb β a*prb β b
 | [],b=>by simp[prb]
 | r :: a,b=>by rw[kK,prb,prb,z_ β a b,gQ]
theorem Ab {β:Rw->Nat}{B:Nat}:∀(a:List Rw),(∀r∈a,β r<=B)->prb β a<=B ^ a.length
 | [],_=>by simp[prb]
 | r :: a,h=>by
  rw[prb,cC,iF,fW];exact dJ (Ab a λx hx=>h x (cX _ hx)) (h r dr)
end My
namespace My
def gE (r:Nat)(p:Nat->Int->Int)(n:Int)(w:aH)(i:Nat):Int:=if i+1<r then p r n*w (i+1) else if i+1=r then-au r (λj=>p j n*w j) else 0
def jz (r:Nat)(p:Nat->Int->Int)(n:Int)(w:aH):Nat->Nat->Int
 | 0=>w
 | m+1=>gE r p (n+m) (jz r p n w m)
theorem Fh (r:Nat)(p:Nat->Int->Int)(n:Int)(w:aH):∀m,jz r p n w (m+1)=jz r p (n+1) (gE r p n w) m
 | 0=>by simp[jz]
 | m+1=>by
  have h:=Fh r p n w m;show gE r p (n+((m+1:Nat):Int)) (jz r p n w (m+1))=gE r p (n+1+(m:Int)) _;rw[h,show n+((m+1:Nat):Int)=n+1+(m:Int) by omega]
def evU (r:Nat)(u:Nat->Int->Int)(n:Int)(w:aH):Int:=au r λi=>u i n*w i
def gd (r:Nat)(p u:Nat->Int->Int)(i:Nat)(n:Int):Int:=p r n*(if i=0 then 0 else u (i-1) (n+1))-u (r-1) (n+1)*p i n
theorem Fi (g:aH):∀s,au (s+1) (λi=>if i=0 then 0 else g (i-1))=au s g
 | 0=>by simp[au]
 | s+1=>by
  have h:=Fi g s;show au (s+1) (λi=>if i=0 then 0 else g (i-1))+(if s+1=0 then 0 else g (s+1-1))=_;rw[h];simp[au]
theorem Fj (n:Nat)(f g:aH):au n (λj=>f j-g j)=au n f-au n g:=by
 have h:=jy n f (λj=>-1*g j);rw[e7]at h;have e:au n (λj=>f j-g j)=au n (λj=>f j+-1*g j):=cB λj _=>by omega
 rw[e,h];omega
theorem MN {r:Nat}(c:0<r)(p u:Nat->Int->Int)(n:Int)(w:aH):evU r (gd r p u) n w=evU r u (n+1) (gE r p n w):=by
 obtain⟨s,rfl⟩:∃s,r=s+1:=⟨r-1,()⟩
 have a:evU (s+1) (gd (s+1) p u) n w=p (s+1) n*au (s+1) (λi=>if i=0 then 0 else u (i-1) (n+1)*w (i-1+1))-u s (n+1)*au (s+1) (λi=>p i n*w i):=by
  rw[<-e7,<-e7,<-Fj];refine cB λi _=>?_;unfold gd;by_cases h:i=0
  ·subst h;simp only[if_true,mG];grind
  ·rw[if_neg h,if_neg h,show i-1+1=i by omega,mG];grind
 have b:evU (s+1) u (n+1) (gE (s+1) p n w)=p (s+1) n*au s (λi=>u i (n+1)*w (i+1))+u s (n+1) * - au (s+1) (λj=>p j n*w j):=by
  show au s (λi=>u i (n+1)*gE (s+1) p n w i)+u s (n+1)*gE (s+1) p n w s=_;rw[<-e7];congr 1
  ·refine cB λi hi=>?_;unfold gE;rw[if_pos ()];grind
  ·unfold gE;rw[if_neg (),if_pos rfl]
 rw[a,b,Fi (λi=>u i (n+1)*w (i+1)) s];grind
def uIt (r:Nat)(p:Nat->Int->Int):Nat->Nat->Int->Int
 | 0=>λi _=>if i+1=r then 1 else 0
 | m+1=>gd r p (uIt r p m)
theorem Fk {r:Nat}(a:0<r)(p:Nat->Int->Int):∀(m:Nat)(n:Int)(w:aH),evU r (uIt r p m) n w=jz r p n w m (r-1)
 | 0,n,w=>by
  show au r (λi=>(if i+1=r then 1 else 0)*w i)=w (r-1);rw[lC (i:=r-1) () (λj b h=>by rw[if_neg ()];simp),if_pos ()];simp
 | m+1,n,w=>by
  show evU r (gd r p (uIt r p m)) n w=_;rw[MN a,Fk a p m,Fh]
end My
open L2.V renaming int→V',ref→Z'
namespace My
open PySem PySem.Spec PyProof.Rows L2
seal L2.PE L2.PS L2.PSs L2.PA
def zWP (u d:Bool):Array Lean.Term:=(("sI sJ sK sL sr su sD sE sm sn sj r_ -_root_.L2.V.str.injEq rY +zp qr qt qu qx qy qz qA qB qC qD qE qF qG qH qI a_c qJ qK qL qM qN qO qP qQ qR qS qT qU qV qW qX qY qZ q8 q9 q_ ra re rf rg rh rj rl rm rn ro rp rq ry rA rB rK -and_assoc rQ rP rR rS rT rC rD rE rF rG -IV -Qy -_root_.List.set_cons_zero -_root_.List.set_cons_succ -_root_.Option.some.injEq -_root_.L2.V.int.injEq -_root_.L2.V.bl.injEq -_root_.L2.V.ref.injEq -_root_.L2.V.ty.injEq -exists_eq_left' -exists_eq_left -exists_and_left -decide_eq_true_eq -kK -gk -mo -_root_.List.cons.injEq -and_true -true_and -_root_.Bool.not_eq_true' -decide_eq_false_iff_not -ite_true -ite_false -_root_.Bool.false_eq_true -if_true -if_false -cC -Bi -_root_.L2.start -dY -uM -iE -Qz".splitOn " ").filter λx=>(u||!x.startsWith "+")&&(d||!x.startsWith "-")).toArray.map λx=>⟨Lean.mkIdent (String.toName (String.ofList (x.toList.filter λc=>c≠'+'&&c≠'-')))⟩
local macro_rules | `(tactic| k_units)=>`(tactic| ((try dsimp only[$[$(zWP true false):term],*]);(try simp only[$[$(zWP true true):term],*])))
local macro_rules | `(tactic| k_typeOf)=>`(tactic| ((try dsimp only[$[$(zWP false false):term],*]);(try simp only[$[$(zWP false true):term],*])))
local macro_rules | `(tactic| w_left)=>`(tactic| ((try dsimp only);(try refine LS (by assumption) ?_)))
local macro_rules | `(tactic| w_up)=>`(tactic| (w_left;(first|refine LQ λt e=>?_|refine LR λt e=>?_|skip);(try dsimp only[zp]);k_typeOf))
local macro_rules | `(tactic| w_on)=>`(tactic| exact⟨rfl,rfl,rfl,by decide +kernel,rfl,by decide +kernel,by decide +kernel⟩)
theorem Ac:FnScope ["numbers","size"] ["numbers"] (a_ ve):=by w_on
theorem tq:FnScope ["one","other","answer","place","number"] ["one","other"] (a_ vf):=by w_on
theorem MO:FnScope ["one","other"] ["one","other"] (a_ vg):=by w_on
theorem lG:FnScope ["one","other","answer","low","number","place","factor"] ["one","other"] (a_ vh):=by w_on
theorem tu:FnScope ["poly","by","answer","low","place"] ["poly","by"] (a_ vi):=by w_on
theorem tw:FnScope ["poly","n","answer","number"] ["poly","n"] (a_ vj):=by w_on
theorem i3:FnScope ["one","other","rest","steps","answer","low","top","factor","place","number"] ["one","other"] (a_ vk):=by w_on
theorem gg:FnScope ["big","small","cut","ahead","behind","half","upper","lower","times","rest","further"] ["big","small"] (a_ vm):=by w_on
theorem i4:FnScope ["one","other","big","small","pair","rest"] ["one","other"] (a_ vn):=by w_on
theorem tD:FnScope ["poly","answer","number"] ["poly"] (a_ vo):=by w_on
theorem MP:FnScope ["poly","number"] ["poly","number"] (a_ vr):=by w_on
theorem MQ:FnScope ["poly"] ["poly"] (a_ vt):=by w_on
theorem n_:FnScope ["number","base","answer","low"] ["number","base"] (a_ vv):=by w_on
theorem MR:FnScope ["poly"] ["poly"] (a_ vw):=by w_on
theorem oa:FnScope ["one","other","place","found"] ["one","other"] (a_ vz):=by w_on
theorem tE:FnScope ["one","other","first","second","shared"] ["one","other"] (a_ vB):=by w_on
theorem tG:FnScope ["polys","answer","poly"] ["polys"] (a_ vD):=by w_on
theorem Fl:FnScope ["poly","m","moved"] ["poly","m"] (a_ vE):=by w_on
theorem Fm:FnScope ["rule","poly"] ["rule"] (a_ vG):=by w_on
theorem tH:FnScope ["rule","tops","moved","ahead","weight"] ["rule","tops"] (a_ vH):=by w_on
theorem jA:FnScope ["rule","far","order","start","tops","bottom","step"] ["rule","far"] (a_ vI):=by w_on
theorem jB:FnScope ["row","table","columns","before","base","column","pivot","factor"] ["row","table","columns"] (a_ vJ):=by w_on
theorem km:FnScope ["places","values","steps","gap","place","answer"] ["places","values"] (a_ vK):=by w_on
theorem MS:FnScope ["polys"] ["polys"] (a_ vL):=by w_on
theorem Ad:FnScope ["vectors","columns","by_vector","by_column"] ["vectors","columns"] (a_ vM):=by w_on
theorem Ae:FnScope ["polys","shared"] ["polys"] (a_ vN):=by w_on
theorem tI:FnScope ["vectors","span","vector","found"] ["vectors"] (a_ vO):=by w_on
theorem MT:FnScope ["width","polys"] ["width","polys"] (a_ vP):=by w_on
theorem tJ:FnScope ["polys","shared"] ["polys"] (a_ vQ):=by w_on
theorem Fn:FnScope ["vectors","weights","found"] ["vectors","weights"] (a_ vR):=by w_on
theorem gF:FnScope ["one","order","vector","weight","vectors","weights","number","factor","grown","tops"] ["one"] (a_ vU):=by w_on
theorem MU:FnScope ["_law_script","_law_k"] ["_law_script","_law_k"] (a_ vV):=by w_on
theorem lH:FnScope ["_law_one","_law_other","_law_rest"] ["_law_one","_law_other"] (a_ vW):=by w_on
theorem Af:FnScope ["_law_poly","_law_m","_law_found","_law_k"] ["_law_poly","_law_m"] (a_ vX):=by w_on
theorem i5:FnScope ["_law_script","_law_found","_law_k","_law_cell","_law_scale","_law_poly","_law_m"] ["_law_script"] (a_ vY):=by w_on
theorem tK:FnScope ["_law_poly","_law_n","_law_found","_law_number"] ["_law_poly","_law_n"] (a_ vZ):=by w_on
theorem Ag:FnScope ["_law_top","_law_bottom","_law_by"] ["_law_top","_law_bottom"] (a_ v_):=by w_on
theorem fI:FnScope ["_law_script","_law_rule_here","_law_size","_law_found","_law_cell","_law_n","_law_last","_law_top","_law_bottom","_law_i","_law_one"] ["_law_script","_law_rule_here"] (a_ we):=by w_on
theorem oe:FnScope ["_law_found","_law_order","_law_every","_law_poly","_law_number"] ["_law_found","_law_order"] (a_ wf):=by w_on
theorem i6:FnScope ["_law_rule_here","_law_values_here","_law_size","_law_n","_law_top","_law_bottom","_law_i","_law_one"] ["_law_rule_here","_law_values_here"] (a_ wg):=by w_on
theorem iu:FnScope ["_law_script","_law_rule_here","_law_sums","_law_so_far","_law_one","_law_handed","_law_found","_law_held","_law_again"] ["_law_script"] (a_ wh):=by w_on
theorem MV:FnScope ["self","width"] ["self","width"] (a_ wk):=by w_on
theorem Fo:FnScope ["self","vector","number","place","mark"] ["self","vector","number","place"] (a_ wl):=by w_on
theorem tL:FnScope ["self","place","table","number","row"] ["self","place"] (a_ wm):=by w_on
theorem Fp:FnScope ["self","vector","place","table"] ["self","vector","place"] (a_ wn):=by w_on
theorem ko:FnScope ["self","vector","many","places","marks","place","row"] ["self","vector"] (a_ wo):=by w_on
theorem lI:FnScope ["self","vector","weights","column","answer","other","weight"] ["self","vector","weights"] (a_ wq):=by w_on
theorem MW:FnScope ["self","vector","column"] ["self","vector","column"] (a_ wt):=by w_on
theorem kq:FnScope ["self","vector","few","span","number","found","weights","weight"] ["self","vector","few"] (a_ wu):=by w_on
theorem i7:FnScope ["self","vector","own","row","column","few","weights"] ["self","vector"] (a_ wv):=by w_on
set_option genInjectivity false in
set_option genSizeOf false in
structure Tx (K:ap) (mg:bh) where
 RH:Addr
 RI:FuncData
 Q9:Fun K "trimmed" "trimmed" ve RH RI
 Rg:mg "trimmed" = some (.ref RH)
 Rh:Binds K RI ["numbers"] []
 RJ:Addr
 RK:FuncData
 Q_:Fun K "poly_plus" "poly_plus" vf RJ RK
 Ri:mg "poly_plus" = some (.ref RJ)
 Rj:Binds K RK ["one","other"] []
 RM:Addr
 RN:FuncData
 T_:Fun K "poly_less" "poly_less" vg RM RN
 U6:mg "poly_less" = some (.ref RM)
 U7:Binds K RN ["one","other"] []
 RO:Addr
 RP:FuncData
 Q0:Fun K "poly_times" "poly_times" vh RO RP
 Q1:mg "poly_times" = some (.ref RO)
 Q2:Binds K RP ["one","other"] []
 RQ:Addr
 RS:FuncData
 Ra:Fun K "shifted" "shifted" vi RQ RS
 Rk:mg "shifted" = some (.ref RQ)
 Rm:Binds K RS ["poly","by"] []
 RT:Addr
 RU:FuncData
 Rn:Fun K "poly_value" "poly_value" vj RT RU
 RV:mg "poly_value" = some (.ref RT)
 RW:Binds K RU ["poly","n"] []
 Ro:Addr
 RX:FuncData
 Rb:Fun K "quotient" "quotient" vk Ro RX
 Rq:mg "quotient" = some (.ref Ro)
 Rr:Binds K RX ["one","other"] []
 RY:Addr
 RZ:FuncData
 Ua:Fun K "shortened" "shortened" vm RY RZ
 U8:mg "shortened" = some (.ref RY)
 U9:Binds K RZ ["big","small"] []
 R6:Addr
 R7:FuncData
 Rs:Fun K "divisor" "divisor" vn R6 R7
 R8:mg "divisor" = some (.ref R6)
 R9:Binds K R7 ["one","other"] []
 R_:Addr
 Sa:FuncData
 Rc:Fun K "content" "content" vo R_ Sa
 Rt:mg "content" = some (.ref R_)
 Ru:Binds K Sa ["poly"] []
 Sb:Addr
 Sc:FuncData
 Rv:Fun K "over" "over" vr Sb Sc
 Sd:mg "over" = some (.ref Sb)
 Se:Binds K Sc ["poly","number"] []
 Sf:Addr
 Sg:FuncData
 Sh:Fun K "upright" "upright" vt Sf Sg
 Ub:mg "upright" = some (.ref Sf)
 Uc:Binds K Sg ["poly"] []
 Si:Addr
 Sj:FuncData
 Ud:Fun K "spread" "spread" vv Si Sj
 U_:mg "spread" = some (.ref Si)
 Va:Binds K Sj ["number","base"] []
 Sk:Addr
 Sl:FuncData
 Sm:Fun K "greatest_size" "greatest_size" vw Sk Sl
 Ue:mg "greatest_size" = some (.ref Sk)
 Uf:Binds K Sl ["poly"] []
 Sn:Addr
 So:FuncData
 Ug:Fun K "bare_common" "bare_common" vz Sn So
 Vb:mg "bare_common" = some (.ref Sn)
 Vd:Binds K So ["one","other"] []
 Sq:Addr
 Sr:FuncData
 Uh:Fun K "common" "common" vB Sq Sr
 Ve:mg "common" = some (.ref Sq)
 Vf:Binds K Sr ["one","other"] []
 Ss:Addr
 Su:FuncData
 Sv:Fun K "common_of" "common_of" vD Ss Su
 Ui:mg "common_of" = some (.ref Ss)
 Uj:Binds K Su ["polys"] []
 a_clear:Addr
 Sw:FuncData
 Uk:Fun K "clear" "clear" vE a_clear Sw
 Vg:mg "clear" = some (.ref a_clear)
 Vh:Binds K Sw ["poly","m"] []
 Sx:Addr
 Sy:FuncData
 Sz:Fun K "order_of" "order_of" vG Sx Sy
 Ul:mg "order_of" = some (.ref Sx)
 Um:Binds K Sy ["rule"] []
 SB:Addr
 SC:FuncData
 Uo:Fun K "further" "further" vH SB SC
 Vi:mg "further" = some (.ref SB)
 Vj:Binds K SC ["rule","tops"] []
 SD:Addr
 SE:FuncData
 Up:Fun K "coords" "coords" vI SD SE
 Vk:mg "coords" = some (.ref SD)
 Vl:Binds K SE ["rule","far"] []
 SG:Addr
 SH:FuncData
 SI:Fun K "lowered" "lowered" vJ SG SH
 Uq:mg "lowered" = some (.ref SG)
 Ur:Binds K SH ["row","table","columns"] []
 SJ:Addr
 SK:FuncData
 Us:Fun K "through" "through" vK SJ SK
 Vm:mg "through" = some (.ref SJ)
 Vn:Binds K SK ["places","values"] []
 SL:Addr
 SM:FuncData
 SN:Fun K "greatest_degree" "greatest_degree" vL SL SM
 Ut:mg "greatest_degree" = some (.ref SL)
 Uu:Binds K SM ["polys"] []
 SO:Addr
 SQ:FuncData
 Uv:Fun K "degree_bound" "degree_bound" vM SO SQ
 Vo:mg "degree_bound" = some (.ref SO)
 Vp:Binds K SQ ["vectors","columns"] []
 SR:Addr
 SS:FuncData
 Uw:Fun K "cleared" "cleared" vN SR SS
 Vr:mg "cleared" = some (.ref SR)
 Vs:Binds K SS ["polys"] []
 SU:Addr
 SV:FuncData
 Ux:Fun K "relation" "relation" vO SU SV
 Vt:mg "relation" = some (.ref SU)
 Vu:Binds K SV ["vectors"] []
 SW:Addr
 SX:FuncData
 Uy:Fun K "check_work" "check_work" vP SW SX
 Vv:mg "check_work" = some (.ref SW)
 Vw:Binds K SX ["width","polys"] []
 SY:Addr
 S_:FuncData
 Uz:Fun K "thinned" "thinned" vQ SY S_
 Vx:mg "thinned" = some (.ref SY)
 Vy:Binds K S_ ["polys"] []
 Tc:Addr
 Td:FuncData
 UA:Fun K "joined" "joined" vR Tc Td
 Vz:mg "joined" = some (.ref Tc)
 VC:Binds K Td ["vectors","weights"] []
 Rx:Addr
 Ry:FuncData
 Te:Fun K "summed_rule" "summed_rule" vU Rx Ry
 UB:mg "summed_rule" = some (.ref Rx)
 UC:Binds K Ry ["one"] []
 Tf:Addr
 Tg:FuncData
 Rz:Fun K "_law_cell_at" "_law_cell_at" vV Tf Tg
 Th:mg "_law_cell_at" = some (.ref Tf)
 Ti:Binds K Tg ["_law_script","_law_k"] []
 Tj:Addr
 Tk:FuncData
 Tl:Fun K "_law_divisor" "_law_divisor" vW Tj Tk
 UD:mg "_law_divisor" = some (.ref Tj)
 UE:Binds K Tk ["_law_one","_law_other"] []
 Tn:Addr
 To:FuncData
 UF:Fun K "_law_times" "_law_times" vX Tn To
 VD:mg "_law_times" = some (.ref Tn)
 VE:Binds K To ["_law_poly","_law_m"] []
 Tp:Addr
 Tq:FuncData
 UG:Fun K "_law_rule" "_law_rule" vY Tp Tq
 VF:mg "_law_rule" = some (.ref Tp)
 VG:Binds K Tq ["_law_script"] []
 Ts:Addr
 Tt:FuncData
 RA:Fun K "_law_value" "_law_value" vZ Ts Tt
 Tu:mg "_law_value" = some (.ref Ts)
 Tv:Binds K Tt ["_law_poly","_law_n"] []
 Tw:Addr
 Tz:FuncData
 TB:Fun K "_law_lowest" "_law_lowest" v_ Tw Tz
 UH:mg "_law_lowest" = some (.ref Tw)
 UI:Binds K Tz ["_law_top","_law_bottom"] []
 TC:Addr
 TD:FuncData
 UJ:Fun K "_law_values" "_law_values" we TC TD
 VI:mg "_law_values" = some (.ref TC)
 VJ:Binds K TD ["_law_script","_law_rule_here"] []
 TF:Addr
 TJ:FuncData
 TK:Fun K "_law_is_rule" "_law_is_rule" wf TF TJ
 UK:mg "_law_is_rule" = some (.ref TF)
 UL:Binds K TJ ["_law_found","_law_order"] []
 TL:Addr
 TM:FuncData
 UM:Fun K "_law_keeps" "_law_keeps" wg TL TM
 VM:mg "_law_keeps" = some (.ref TL)
 VN:Binds K TM ["_law_rule_here","_law_values_here"] []
 Re:Addr
 Q7:FuncData
 VO:Fun K "law" "law" wh Re Q7
 Wh:mg "law" = some (.ref Re)
 Wi:Binds K Q7 ["_law_script"] []
 TN:Addr
 TQ:FuncData
 VP:Fun K "__init__" "Span.__init__" wk TN TQ
 UN:Binds K TQ ["self","width"] []
 TR:Addr
 TU:FuncData
 VQ:Fun K "row_at" "Span.row_at" wl TR TU
 UO:Binds K TU ["self","vector","number","place"] []
 TV:Addr
 TW:FuncData
 VR:Fun K "table_at" "Span.table_at" wm TV TW
 UP:Binds K TW ["self","place"] []
 TX:Addr
 TY:FuncData
 VS:Fun K "lowered_at" "Span.lowered_at" wn TX TY
 UQ:Binds K TY ["self","vector","place"] []
 TZ:Addr
 T1:FuncData
 VT:Fun K "only_choice" "Span.only_choice" wo TZ T1
 VU:Binds K T1 ["self","vector"] []
 T2:Addr
 T3:FuncData
 VV:Fun K "failing_column" "Span.failing_column" wq T2 T3
 VW:Binds K T3 ["self","vector","weights"] []
 T4:Addr
 T5:FuncData
 VX:Fun K "keep" "Span.keep" wt T4 T5
 UR:Binds K T5 ["self","vector","column"] []
 T6:Addr
 T7:FuncData
 VY:Fun K "by_few" "Span.by_few" wu T6 T7
 VZ:Binds K T7 ["self","vector","few"] []
 RC:Addr
 RD:FuncData
 US:Fun K "take" "Span.take" wv RC RD
 T8:Binds K RD ["self","vector"] []
 UT:Addr
 UU:FuncData
 Wj:Fun K "apart" "Span.apart" BD UT UU
 Wk:Binds K UU ["self"] []
 QW:Addr
 UV:mg "Span" = some (.ref QW)
 QV:Cls K QW
 UW:Mk K QW TN
 UX:Meth K QW "row_at" TR
 UY:Meth K QW "table_at" TV
 UZ:Meth K QW "lowered_at" TX
 V9:Meth K QW "only_choice" TZ
 V_:Meth K QW "failing_column" T2
 U1:Meth K QW "keep" T4
 Wb:Meth K QW "by_few" T6
 T9:Meth K QW "take" RC
 Wl:Meth K QW "apart" UT
 Q3:NoAttr K QW "columns"
 QY:NoAttr K QW "kept"
 RE:NoAttr K QW "place"
 U2:NoAttr K QW "tables"
 Q4:NoAttr K QW "width"
 QU:mg "len" = none
 QZ:mg "list" = none
 RF:mg "enumerate" = none
 QX:mg "range" = none
 U3:mg "reversed" = none
 Q8:mg "max" = none
 Q5:mg "abs" = none
 Rf:mg "min" = none
 Q6:mg "zip" = none
 U4:mg "sum" = none
 RG:mg "isinstance" = none
 Wc:mg "bool" = none
 Wd:mg "int" = none
 U5:{ t:Tok // mg "WINDOW" = some (.int 300 t) }
 We:{ t:Tok // mg "LONG" = some (.int 4000 t) }
 Wf:{ t:Tok // mg "GREATEST_WORK" = some (.int 32 t) }
 Wg:{ t:Tok // mg "START" = some (.int 97 t) }
def Fs (K:ap):Sp:=λvs H Q _=>∃(a:Addr)(xs:aa),vs=[.ref a]/\SqL K H a (xs.map V')/\xs.length<=1000/\dU H Q ((aL xs).map V')
variable {P:Program}{w:World}{K:ap}{mg:bh}{base:Heap}(T:Tx K mg)
theorem tO:FnOk P w K mg base CX0 1 T.RH T.RI ["numbers"] (Fs K):=by
 refine T.Q9.ok Ac (λy H Q E h=>?_) (λz A outer s H y Q E F h=>?_)
 ·obtain⟨a,b,rfl,_⟩:=h;rfl
 obtain⟨a,b,rfl,g,G,q⟩:=h;refine⟨_,s!"ɿķȟɪʝgˎȪˏɷɞȻȪȮȵ.ć(,ķʑĈȨˑ#˥ȢÛÄȪ$",?_⟩
 w_up
 refine⟨_,.inl g,?_⟩;rw[af]
 w_up
 refine gU (λm σ j=>m<=b.length/\σ=[some (.ref a),some (.int (m:Int))]/\j=H/\∀k,m<=k->co b k=0) b.length ⟨aA _,rfl,rfl,λk hk=>aD hk⟩ ?_;have d:∀n:Nat,n<=b.length->aL b=b.take n->∃x,SqL K H a x/\∀p,H p=none->∃o,(SqL K (upd H p (.lst (eQ x none (some (n:Int))))) p o\/SqT K (upd H p (.lst (eQ x none (some (n:Int))))) p o)/\
   ∀l,upd H p (.lst (eQ x none (some (n:Int)))) l=none->Q (.ref l) (upd (upd H p (.lst (eQ x none (some (n:Int))))) l (.lst o)):=by
  intro n B e;refine⟨_,g,λp t=>⟨_,.inl (SqL.of ak),λr c=>?_⟩⟩;rw[Em]at c ⊢;have C:((b.drop (HT.sIx b.length 0 none)).take (HT.sIx b.length b.length (some ((n:Nat):Int))-HT.sIx b.length 0 none))=aL b:=by
   rw[HT.sIx_nat,HT.sIx_none,mD,e,Nat.min_eq_left B];rfl
  rw[C]at c ⊢;exact q r _ ((az t _).trans (az c _)) ((az t _).free c) ak
 rintro m σ j ⟨hm,rfl,rfl,hz⟩
 cases m with
 | zero=>
  w_left;k_units
  rw[if_neg (by simp)];exact d 0 (aR _) (EG (aR _) hz (.inl rfl))
 | succ m=>
  have D:((m+1:Nat):Int)-1=(m:Int):=by omega
  w_left;simp![D]
  rw[if_pos ()];refine⟨_,g,_,gZ (),?_⟩
  w_left;k_units
  refine bO (λh=>?_) (λh=>?_)
  ·refine⟨λf u=>f=[some (Z' a),some (V' (m:Int))]/\u=j,?_,rfl,rfl⟩
   rintro f u ⟨rfl,rfl⟩
   refine⟨m,oH _,(),rfl,rfl,λk hk=>?_⟩;by_cases e:k=m
   ·rw[e,aI ()];exact h
   ·exact hz k ()
  ·exact d (m+1) hm (EG hm hz (.inr (by show co b m≠0;rw[aI ()];exact h)))
def Ah (K:ap)(f:aa->aa->aa):Sp:=λvs H Q _=>∃(a b:Addr)(xs ys:aa),vs=[.ref a,.ref b]/\SqL K H a (xs.map V')/\SqL K H b (ys.map V')/\xs.length<=100/\ys.length<=100/\
 (∀x∈xs,Bd 60000 x)/\(∀y∈ys,Bd 60000 y)/\dU H Q ((f xs ys).map V')
theorem Ai (k:Nat):(bI k [V' 0]).flatten=(bI k (0:Int)).map V':=by
 induction k with
 | zero=>rfl
 | succ k ih=>rw[iE,uL,ih,iE];rfl
theorem MX (k j:Nat):co (bI k 0) j=0:=by
 unfold co;rw[aq,jc]
 split <;> rfl
theorem MY (xs:aa)(k j:Nat):co (xs++bI k 0) j=co xs j:=by
 by_cases h:j<xs.length
 ·unfold co;rw[aq,aq,cA h]
 ·rw[aD (xs:=xs) ()];unfold co;rw[aq,cQ (),jc]
  split <;> rfl
theorem tQ:FnOk P w K mg base CX0 2 T.RJ T.RK ["one","other"] (Ah K fq):=by
 refine T.Q_.ok tq (λvs H Q E h=>?_) (λy0 A outer s H vs Q E hr h=>?_)
 ·obtain⟨a,b,xs,f,rfl,_⟩:=h;rfl
 obtain⟨a,b,xs,f,rfl,Z,D,la,lb,_,_,q⟩:=h;refine⟨_,s!"ɉĉ˒ˑɟ*ĊʊȻɼɪɅÜ Ýɏʷ/ĉʸ6ĉ˦ÞȰȫßȺà¥ʺáȴâãäʻ",?_⟩
 w_up
 refine⟨_,.inl Z,λl hl=>⟨(),λp hp=>?_⟩⟩;have C:=az hl (.lst (xs.map V'));have u:=az hp (.lst [V' 0]);refine⟨_,.inl ((C.trans u).seq D),_,.inl ((C.trans u).seq Z),_,ak,?_⟩;rw[af,af,Ai];obtain⟨k,hk⟩:∃k:Nat,((f.length:Int)-(xs.length:Int)).toNat=k:=⟨_,rfl⟩
 rw[hk];have x0:k<=100:=by omega
 refine⟨(),(),dm (bD (by simp;omega)),λp1 hp1=>?_⟩;have F:=az hp1 (.lst ((bI k (0:Int)).map V'));refine⟨_,F _ _ (u _ _ ak),_,ak,dm (bD (by simp;omega)),λt x=>?_⟩;rw[<-aT];have G:=(C.trans (u.trans F)).trans (az x (.lst ((xs++bI k 0).map V')));have I:=(C.trans (u.trans F)).free x;have h4:upd (upd (upd (upd H l (.lst (xs.map V'))) p (.lst [V' 0])) p1 (.lst ((bI k (0:Int)).map V'))) t (.lst ((xs++bI k 0).map V')) t=_:=ak;generalize upd (upd (upd (upd H l (.lst (xs.map V'))) p (.lst [V' 0])) p1 (.lst ((bI k (0:Int)).map V'))) t (.lst ((xs++bI k 0).map V'))=H4 at G h4 ⊢
 w_up
 refine⟨_,G.seq D,?_⟩;obtain⟨J,c⟩:∃J:Nat->L2.St->Hp->Prop,∀i σ n,J i σ n↔∃(g:aa)(L M:Option V),σ=[some (Z' a),some (Z' b),some (Z' t),L,M]/\n t=some (.lst (g.map V'))/\g.length=xs.length+k/\
  (∀j,co g j=co xs j+if j<i then co f j else 0)/\Same H n:=⟨_,λ_ _ _=>Iff.rfl⟩
 refine rX J ((c _ _ _).mpr ⟨_,none,none,rfl,h4,by simp,λj=>by rw[MY,if_neg ()];omega,G⟩) (λi σ n _ z=>by obtain⟨_,_,_,_,_,_,_,z5⟩:=(c i σ n).mp z;exact z5.seq D) ?_ ?_
 ·intro i v pt σ n O o R;obtain⟨g,L,M,rfl,S,lz,d,sz⟩:=(c _ _ _).mp o;have hi:i<f.length:=by have:=(aY.mp O).1;rw[af]at this;exact this
  rw[aG,ao hi]at O;obtain rfl:V' f[i]=v:=Option.some.inj O;have s5:=az R (.tup [V' i,V' f[i]])
  w_left;k_units
  refine⟨_,SqT.of ak,rfl,?_⟩
  w_left;k_units
  have m:i<g.length:=by omega
  have y:=s5 _ _ S;refine⟨_,SqL.of y,_,gZ m,_,rfl,_,y,i,jw #v[af,m],(c _ _ _).mpr ⟨g.set i (g[i]+f[i]),_,_,rfl,by rw[ak,map_set],#v[oJ,lz],λj=>?_,(sz.trans s5).more I⟩⟩;rw[nH _ _ _ _ m];by_cases e:j=i
  ·subst e;have:=d j;rw[if_neg (),aI m]at this;rw[if_pos rfl,if_pos (),aI hi];omega
  ·rw[if_neg e,d j];by_cases hj:j<i
   ·rw[if_pos hj,if_pos ()]
   ·rw[if_neg hj,if_neg ()]
 ·intro σ n o;obtain⟨g,L,M,rfl,S,lz,d,sz⟩:=(c _ _ _).mp o;rw[af]at d
  w_left;k_units
  refine⟨t,g,rfl,SqL.of S,(),λr U X B Y=>?_⟩;refine q r U (sz.trans X) (sz.free B) ?_;rw[Y,LX xs f g λj=>by rw[d j];by_cases hj:j<f.length;rw[if_pos hj];rw[if_neg hj,aD (xs:=f) ()]]
theorem MZ:FnOk P w K mg base CX0 3 T.RM T.RN ["one","other"] (Ah K iY):=by
 refine T.T_.ok MO (λD H Q E h=>?_) (λF A outer s H D Q E G h=>?_)
 ·obtain⟨a,b,u,e,rfl,_⟩:=h;rfl
 obtain⟨a,b,u,e,rfl,I,B,la,lb,ba,bb,q⟩:=h;refine⟨_,s!"ʺåȤƍ æçèɚ#ʠɾȽȢ$",?_⟩
 w_up
 refine⟨⟨_,B⟩,λC hC=>?_⟩;obtain⟨k,c⟩:∃k:cx,∀i d,k i d↔d C=some (.lst (((e.take i).map λx=>-x).map V'))/\Same H d:=⟨_,λ_ _=>Iff.rfl⟩
 refine eE k ((c _ _).mpr ⟨ak,az hC _⟩) (λi d _ z=>((c i d).mp z).2.seq B) ?_ ?_
 ·intro i v d m n;obtain⟨j,f⟩:=(c _ _).mp n;have hi:i<e.length:=by have:=(aY.mp m).1;rw[af]at this;exact this
  rw[aG,ao hi]at m;obtain rfl:V' e[i]=v:=Option.some.inj m
  w_left;simp![bst]
  refine⟨_,j,#v[af,af,bX,bD ()],(c _ _).mpr ⟨?_,f.more hC⟩⟩;rw[ak,Qq hi,aT,aT];rfl
 ·intro d n;obtain⟨j,f⟩:=(c _ _).mp n;rw[af,e_]at j;refine⟨a,C,u,e.map λx=>-x,rfl,f.seq I,SqL.of j,la,#v[af,lb],ba,λy hy=>?_,λr o p g t=>q r o (f.trans p) (f.free g) ?_⟩
  ·obtain⟨x,hx,rfl⟩:=aZ.mp hy;exact (bb x hx).neg
  ·rw[t,LY]
theorem M4 (ys:aa):aQ [] ys=[]:=sQ.mpr λk=>by
 rw[iq];split <;> rfl
theorem Aj (xs:aa):aQ xs []=[]:=sQ.mpr λk=>by
 rw[iq]
 split
 ·exact fF λj _=>by unfold cz;split <;> simp[f_]
 ·rfl
theorem jC:FnOk P w K mg base CX0 2 T.RO T.RP ["one","other"] (Ah K aQ):=by
 refine T.Q0.ok lG (λvs H Q E h=>?_) (λj0 A outer s H vs Q E hr h=>?_)
 ·obtain⟨a,b,xs,c,rfl,_⟩:=h;rfl
 obtain⟨a,b,xs,c,rfl,R,S,la,lb,ba,bb,q⟩:=h;refine⟨_,s!"˓ɷɪȵ¹ɷɼʃə˧ÏɤĊʊȻɃɪɼ&ɅÜ Ýɟʷ/Ïʸ6Ï˦ɀÜ Ýɏʷ?ÏʸCÏ˦ÞȰɃȫɛßȾȺɐà¥ʺáȴâãäʻ",?_⟩
 w_up
 refine⟨_,.inl R,?_⟩;rw[af];have nil:aQ xs c=[]->0<=sizeLine/\∀(p:Addr),H p=none->Q (Z' p) (upd H p (HO.lst [])):=λe=>⟨aR _,λp U=>q p _ (az U _) U (by rw[ak,e];rfl)⟩
 refine bO (λh=>nil ?_) (λh=>⟨_,.inl S,?_⟩)
 ·rw[bC (show xs.length=0 by omega)];exact M4 c
 rw[af];refine bO (λJ=>nil ?_) (λJ=>?_)
 ·rw[bC (show c.length=0 by omega)];exact Aj xs
 w_up
 refine⟨(),λp U=>?_⟩;have X:=az U (.lst [V' 0]);refine⟨_,.inl (X.seq R),_,.inl (X.seq S),_,ak,?_⟩;rw[af,af,Ai];obtain⟨k,hk⟩:∃k:Nat,((xs.length:Int)+(c.length:Int)-1).toNat=k:=⟨_,rfl⟩
 rw[hk];refine⟨(),(),dm (bD (by simp;omega)),λy L=>?_⟩;have Y:=X.trans (az L (.lst ((bI k (0:Int)).map V')));have Z:=X.free L;have h4:upd (upd H p (.lst [V' 0])) y (.lst ((bI k (0:Int)).map V')) y=_:=ak;generalize upd (upd H p (.lst [V' 0])) y (.lst ((bI k (0:Int)).map V'))=H4 at Y h4 ⊢
 w_up
 refine⟨_,Y.seq R,?_⟩;obtain⟨Pv,n⟩:∃Pv:Nat->L2.St->Hp->Prop,∀l σ g,Pv l σ g↔∃(f:aa)(r1 r2 B C:Option V),σ=[some (Z' a),some (Z' b),some (Z' y),r1,r2,B,C]/\g y=some (.lst (f.map V'))/\f.length=k/\
  (∀j,co f j=if j+1<xs.length+c.length then cv xs c l j else 0)/\Same H g:=⟨_,λ_ _ _=>Iff.rfl⟩
 refine rX Pv ((n _ _ _).mpr ⟨_,none,none,none,none,rfl,h4,by simp,λj=>by rw[MX];split <;> rfl,Y⟩) (λi σ g _ z=>by obtain⟨_,_,_,_,_,_,_,_,_,z5⟩:=(n i σ g).mp z;exact z5.seq R) ?_ ?_
 ·intro l v pt σ g D m F;obtain⟨f,r1,r2,B,C,rfl,G,I,d,sz⟩:=(n _ _ _).mp m;have hi:l<xs.length:=by have:=(aY.mp D).1;rw[af]at this;exact this
  rw[aG,ao hi]at D;obtain rfl:V' xs[l]=v:=Option.some.inj D;have M:=az F (.tup [V' l,V' xs[l]])
  w_left;k_units
  refine⟨_,SqT.of ak,rfl,?_⟩
  w_left;k_units
  have s6:=sz.trans M;have o:=M _ _ G;generalize upd g pt (.tup [V' l,V' xs[l]])=H5 at s6 o ⊢;refine⟨_,s6.seq S,?_⟩;obtain⟨Pw,u⟩:∃Pw:Nat->L2.St->Hp->Prop,∀j σ g,Pw j σ g↔∃(f:aa)(B C:Option V),σ=[some (Z' a),some (Z' b),some (Z' y),some (V' l),some (V' xs[l]),B,C]/\g y=some (.lst (f.map V'))/\f.length=k/\
   (∀t,co f t=(if t+1<xs.length+c.length then cv xs c l t else 0)+if l<=t/\t<l+j then xs[l]*co c (t-l) else 0)/\Same H g:=⟨_,λ_ _ _=>Iff.rfl⟩
  refine rX Pw ((u _ _ _).mpr ⟨f,_,_,rfl,o,I,λt=>by rw[d t,if_neg (show ¬(l<=t/\t<l+0) by omega)];omega,s6⟩) (λi σ g _ z=>by obtain⟨_,_,_,_,_,_,_,z5⟩:=(u i σ g).mp z;exact z5.seq S) ?_ ?_
  ·intro j v pt σ g D m F;obtain⟨f,B,C,rfl,G,I,d,sz⟩:=(u _ _ _).mp m;have hj:j<c.length:=by have:=(aY.mp D).1;rw[af]at this;exact this
   rw[aG,ao hj]at D;obtain rfl:V' c[j]=v:=Option.some.inj D;have M:=az F (.tup [V' j,V' c[j]])
   w_left;k_units
   refine⟨_,SqT.of ak,rfl,?_⟩;have x0:(l:Int)+(j:Int)=((l+j:Nat):Int):=rfl
   w_left;simp![x0]
   have x:l+j<f.length:=by omega
   have o:=M _ _ G;refine⟨_,SqL.of o,_,gZ x,(ba _ (bY hi)).fits (bb _ (bY hj)) (),_,rfl,_,o,l+j,jw #v[af,x],(u _ _ _).mpr ⟨f.set (l+j) (f[l+j]+xs[l]*c[j]),_,_,rfl,by rw[ak,map_set],#v[oJ,I],λt=>?_,(sz.trans M).more Z⟩⟩;rw[nH _ _ _ _ x];by_cases e:t=l+j
   ·subst e;have:=d (l+j);rw[if_neg (show ¬(l<=l+j/\l+j<l+j) by omega),aI x]at this;rw[if_pos (show l+j=l+j from rfl),if_pos (show l<=l+j/\l+j<l+(j+1) by omega),show l+j-l=j by omega,aI hj];omega
   ·rw[if_neg e,d t];by_cases h3:l<=t/\t<l+j
    ·rw[if_pos h3,if_pos (show l<=t/\t<l+(j+1) by omega)]
    ·rw[if_neg h3,if_neg (show ¬(l<=t/\t<l+(j+1)) by omega)]
  ·intro σ g m;obtain⟨f,B,C,rfl,G,I,d,sz⟩:=(u _ _ _).mp m;rw[af]at d;refine (n _ _ _).mpr ⟨f,_,_,_,_,rfl,G,I,λt=>?_,sz⟩;rw[d t];have e:cv xs c (l+1) t=cv xs c l t+co xs l*cz c t l:=rfl;rw[e,aI hi];unfold cz;by_cases h1:t+1<xs.length+c.length
   ·rw[if_pos h1,if_pos h1];by_cases J:l<=t
    ·rw[if_pos J];by_cases h3:t<l+c.length
     ·rw[if_pos ⟨J,h3⟩]
     ·rw[if_neg (),aD (xs:=c) (),dq]
    ·rw[if_neg (),if_neg J,dq]
   ·rw[if_neg h1,if_neg h1,if_neg ()];rfl
 ·intro σ g m;obtain⟨f,r1,r2,B,C,rfl,G,I,d,sz⟩:=(n _ _ _).mp m;rw[af]at d
  w_left;k_units
  refine⟨y,f,rfl,SqL.of G,(),λr y0 z0 O u0=>q r y0 (sz.trans z0) (sz.free O) ?_⟩;rw[u0,LW xs c f d]
theorem cN {xs:aa}{P:Int->Prop}(h:∀x∈xs,P x)(a:P 0)(j:Nat):P (co xs j):=by
 by_cases z:j<xs.length
 ·rw[aI z];exact h _ (bY z)
 ·rw[aD ()];exact a
theorem cu {xs:aa}{P:Int->Prop}(h:∀j,P (co xs j)):∀x∈xs,P x:=λx hx=>by
 obtain⟨k,hk,rfl⟩:=cm.mp hx;rw[<-aI hk];exact h k
theorem og {xs:aa}(h:xs=[]\/co xs (xs.length-1)≠0):Nml xs:=by
 refine d_.mpr λx hx=>?_;rcases h with rfl|h
 ·simp at hx
 ·have a:xs.length≠0:=by intro z;rw[bC z]at hx;simp at hx
  rw[aI ()]at h;rw[fK,ao ()]at hx;rw[<-Option.some.inj hx];exact h
theorem jD (xs:aa):Nml (xs++[1]):=d_.mpr λx hx=>by rw[uR]at hx;rw[<-Option.some.inj hx];decide
theorem fj {c:Int}(h:c≠0):Nml [c]:=d_.mpr λx hx=>by simp at hx;omega
theorem tS {M N:Nat}{ys:aa}(hy:∀y∈ys,y.natAbs<=N):∀xs:aa,(∀x∈xs,x.natAbs<=M)->∀j,(co (be xs ys) j).natAbs<=xs.length*(M*N)
 | [],_,j=>by simp[be,f_]
 | x :: xs,h,j=>by
  have a:co (ys.map λz=>x*z) j=x*co ys j:=by
   by_cases h:j<ys.length
   ·rw[aI #v[af,h],aI h,cE]
   ·rw[aD (by rw[af];omega),aD (xs:=ys) ()];simp
  have b:(x*co ys j).natAbs<=M*N:=by
   rw[b6];refine dJ (h x (by simp)) ?_;by_cases z:j<ys.length
   ·rw[aI z];exact hy _ (bY z)
   ·rw[aD ()];exact aR _
  have c:(co (0 :: be xs ys) j).natAbs<=xs.length*(M*N):=by
   rw[fG]
   split
   ·exact aR _
   ·exact tS hy xs (λy hy=>h y (by simp[hy])) _
  have e:co (be (x :: xs) ys) j=x*co ys j+co (0 :: be xs ys) j:=by rw[be,fH,a]
  rw[e,cC,gP,eI];have:=ib (x*co ys j) (co (0 :: be xs ys) j);omega
theorem hI {xs ys:aa}{k l c:Nat}(hx:∀x∈xs,Bd k x)(hy:∀y∈ys,Bd l y)(a:xs.length<=2 ^ c)(j:Nat):Bd (k+l+c) (pm (co xs) (co ys) j):=by
 rw[<-ga];have b:=tS (M:=2 ^ k-1) (N:=2 ^ l-1) (ys:=ys) (λy h=>by have:y.natAbs<2 ^ l:=hy y h;omega) xs (λx h=>by have:x.natAbs<2 ^ k:=hx x h;omega) j;have g:=dG k;have d:=dG l;have e:=dG c;have f:(2 ^ k-1)*(2 ^ l-1)<2 ^ k*2 ^ l:=by
  refine ca (dZ _ (Nat.sub_le _ 1)) ?_;exact Qu () d
 show (co (be xs ys) j).natAbs<2 ^ (k+l+c);rw[du,du];refine ca b ?_;refine ca (dA _ a) ?_;rw[fW (2 ^ k*2 ^ l)];exact Jd f e
theorem i8 {xs ys ws:aa}(nx:Nml xs)(b:Nml ys)(a:Nml ws)(h:∀j,co ws j=pm (co xs) (co ys) j):ws.length<=xs.length+ys.length-1:=by
 by_cases x0:xs=[]
 ·rw[nL a λk=>by rw[h k,x0];exact fF λj _=>by rw[f_];simp];exact aR _
 by_cases w0:ws=[]
 ·rw[w0];exact aR _
 have:=(zL nx x0 a b (one:=ws) (q:=ys) h w0).2;omega
theorem Ft {n m:Nat}{f:aH}(h:n<=m)(a:∀j,n<=j->j<m->f j=0):au m f=au n f:=by
 induction m with
 | zero=>rw[show n=0 by omega]
 | succ m ih=>
  by_cases e:n=m+1
  ·rw[e]
  ·simp only[au];rw[ih () λj b c=>a j b (),a m () ()];omega
theorem Ak (xs ys:aa)(k:Nat):pm (co xs) (co ys) k=cv xs ys xs.length k:=by
 have b:pm (co xs) (co ys) k=au (k+1) λj=>co xs j*cz ys k j:=by
  unfold pm;exact cB λj e=>by unfold cz;rw[if_pos ()]
 have c:au (k+1+xs.length) (λj=>co xs j*cz ys k j)=au (k+1) λj=>co xs j*cz ys k j:=
  Ft () λj a _=>by unfold cz;rw[if_neg ()];simp
 have d:au (k+1+xs.length) (λj=>co xs j*cz ys k j)=au xs.length λj=>co xs j*cz ys k j:=
  Ft () λj a _=>by rw[aD a];simp
 rw[b,<-c,d];rfl
theorem cO {xs ys:aa}(hx:Nml xs)(hy:Nml ys)(h:∀n,val n xs=val n ys):xs=ys:=ip hx hy λk=>fh h k
theorem oh (xs ys:aa)(k:Nat):co (aQ xs ys) k=pm (co xs) (co ys) k:=by
 unfold aQ;rw[cL,iq,Ak]
 split
 ·rfl
 ·rw[sM _ _ _ ()]
theorem tT (xs ys:aa)(k:Nat):co (fq xs ys) k=co xs k+co ys k:=by
 unfold fq;rw[cL,iq]
 split
 ·rfl
 ·rw[aD (xs:=xs) (),aD (xs:=ys) ()];rfl
theorem Fu (n:Int)(xs ys:aa):val n (aQ xs ys)=val n xs*val n ys:=by
 rw[<-cy];exact fu (λk=>by rw[oh,ga]) n
theorem Al (n:Int)(xs ys:aa):val n (fq xs ys)=val n xs+val n ys:=by
 rw[<-eG];exact fu (λk=>by rw[tT,fH]) n
theorem Am (xs ys:aa):Nml (fq xs ys):=cM _
theorem Ao (xs ys:aa):(fq xs ys).length<=max xs.length ys.length:=aM (k_ _) (by simp)
theorem Ap (xs ys:aa)(hy:ys≠[]):(aQ xs ys).length<=xs.length+ys.length-1:=by
 have h:=de.mpr hy;refine g_ (cM _) λk hk=>?_;show co (aQ xs ys) k=0;rw[oh,Ak,sM _ _ _ ()]
def M6 (ps f:aa):Prop:=f.length<=ps.length/\Nml f/\ps.length<=60/\(∀i j (hi:i<ps.length) (hj:j<ps.length),i≠j->ps[i]≠ps[j])/\(∀p∈ps,Bd 40 p)/\∀p∈ps,Bd 10000 (val p f)
theorem M9 {m i:Nat}{g h:aH}(hi:i<m)(e:∀j,j<m->j≠i->h j=g j):((aJ m).map g).set i (h i)=(aJ m).map h:=by
 refine ie (by simp) λj c a=>?_;have b:j<m:=by simpa using a
 rw[List.getElem_set,cE,cE,jR]
 split
 ·rename_i z;rw[z]
 ·rename_i z;exact (e j b (Ne.symm z)).symm
theorem Aq {m i:Nat}{g:aH}(hi:i<m):((aJ m).map g)[i]?=some (g i):=by
 rw[aG,ij hi];rfl
theorem Fv {m:Nat}{g h:aH}(e:∀j,j<m->g j=h j):(aJ m).map g=(aJ m).map h:=eK λj a=>e j (cU.mp a)
def M_ (K:ap):Sp:=λvs H Q _=>∃(A B:Addr)(ps f:aa),vs=[.ref A,.ref B]/\SqL K H A (ps.map V')/\SqL K H B ((ps.map λp=>val p f).map V')/\M6 ps f/\dU H Q (f.map V')
theorem Na:FnOk P w K mg base CX0 3 T.SJ T.SK ["places","values"] (M_ K):=by
 refine T.Us.ok km (λvs H Q E h=>?_) (λk1 A outer s H vs Q E hr h=>?_)
 ·obtain⟨A,B,b,f,rfl,_⟩:=h;rfl
 obtain⟨A,B,b,f,rfl,hA,hB,⟨lf,nf,n1,x0,bp,bv⟩,q⟩:=h;refine⟨_,s!"ɉÅȟˑɏɅĸɦɠʢ$ʼÅʣɀéɦȻʢɠȻȫ˔ʒ6Åʣê˨Ȼʤ˕ʤȻʽȻɞ˕ɞȻȺ˖ëȰȺ¥ʋÅ˗ɅéɦȻʢ˔˔ʒ6Å˩?Åɋåȴæçè˪ʿȧ?#ɗȽɞ˕˘$#ɗʤ˕ʌȨɛ",?_⟩
 w_up
 refine⟨_,.inl hB,λS nS=>?_⟩;have u0:=az nS (.lst ((b.map λp=>val p f).map V'));have e0:(b.map λp=>val p f)=(aJ b.length).map (rnd f b 0):=by
  refine ie (by simp) λi h1 h2=>?_;rw[cE,cE,jR,MG (⇑h1)]
 rw[e0]at u0 ⊢;have eS:=ak (H:=H) (a:=S) (o:=.lst (((aJ b.length).map (rnd f b 0)).map V'));generalize L2.upd H S (.lst (((aJ b.length).map (rnd f b 0)).map V'))=H1 at u0 eS ⊢;have X:∀g:aH,(((aJ b.length).map g).map V').length=b.length:=λg=>by simp
 obtain⟨m,hm⟩:∃m,b.length=m:=⟨_,rfl⟩
 w_up
 refine⟨_,.inl (SqL.of eS),(),(),by rw[X];omega,by rw[X];omega,?_⟩;rw[X];obtain⟨M,u⟩:∃M:Nat->L2.St->Hp->Prop,∀i σ G,M i σ G↔∃r3 J:Option V,σ=[some (Z' A),some (Z' B),some (Z' S),r3,J,none]/\G S=some (.lst (((aJ b.length).map (rnd f b i)).map V'))/\Same H G:=⟨_,λ_ _ _=>Iff.rfl⟩
 refine gY M ((u _ _ _).mpr ⟨none,none,rfl,eS,u0⟩) ?_ ?_
 ·intro i σ H2 hi D;obtain⟨r3,J,rfl,I,Y⟩:=(u _ _ _).mp D;have Z:(1:Int)+(i:Int)-1=(i:Int):=by omega
  w_left;simp![Z]
  clear Z;refine⟨_,.inl (SqL.of I),(),(),?_⟩;rw[X];refine⟨rV () () () (),b.length-1-i,rW (),?_⟩;obtain⟨Pw,L⟩:∃Pw:Nat->L2.St->Hp->Prop,∀t σ G,Pw t σ G↔∃r:Option V,σ=[some (Z' A),some (Z' B),some (Z' S),some (V' (1+(i:Int))),r,none]/\G S=some (.lst (((aJ b.length).map (mxR f b i (b.length-t))).map V'))/\Same H G:=⟨_,λ_ _ _=>Iff.rfl⟩
  refine nn Pw ((L _ _ _).mpr ⟨J,rfl,?_,Y⟩) ?_ ?_
  ·rw[I,Fv (h:=mxR f b i (b.length-0)) λj hj=>by unfold mxR;rw[if_neg ()]]
  ·intro t σ H3 ht D;obtain⟨r,rfl,C,s3⟩:=(L _ _ _).mp D;obtain⟨pl,O⟩:∃pl,b.length-t=pl+1:=⟨b.length-t-1,()⟩
   rw[O]at C;have F:pl<b.length:=by omega
   have ne:=x0 pl (pl-(i+1)) F () ();have g1:mxR f b i (pl+1) pl=rnd f b i pl:=by unfold mxR;rw[if_neg ()]
   have g2:mxR f b i (pl+1) (pl-1)=rnd f b i (pl-1):=by unfold mxR;rw[if_neg ()]
   have b1:=bp _ (bY F);have b2:=bp _ (bY (show pl-(i+1)<b.length by omega));have ep:(b.length:Int)-1+(t:Int) * -1=(pl:Int):=by omega
   have y0:(pl:Int)-1=((pl-1:Nat):Int):=by omega
   have z0:(pl:Int)-(1+(i:Int))=((pl-(i+1):Nat):Int):=by omega
   w_left;simp![ep,y0,z0]
   clear ep y0 z0;refine⟨_,SqL.of C,_,nv (Aq F),_,SqL.of C,_,nv (Aq (show pl-1<b.length by omega)),_,rfl,_,rfl,_,s3.seq hA,_,gZ F,_,s3.seq hA,_,gZ (show pl-(i+1)<b.length by omega),_,rfl,_,rfl,(),cP (b1.sub b2) (e9 () ()),_,C,pl,jw #v[X,F],(L _ _ _).mpr ⟨_,rfl,?_,s3.more nS⟩⟩;rw[ak,g1,g2,MI () F ne,map_set,show b.length-(t+1)=pl by omega];have hs:=M9 (m:=b.length) (i:=pl) (g:=mxR f b i (pl+1)) (h:=mxR f b i pl) F λj _ hj=>by
    unfold mxR;by_cases z:pl<=j
    ·rw[if_pos z,if_pos ()]
    ·rw[if_neg z,if_neg ()]
   rw[<-hs];congr 3;unfold mxR;rw[if_pos (aA _)]
  ·intro σ H3 D;obtain⟨r,rfl,C,s3⟩:=(L _ _ _).mp D;refine (u _ _ _).mpr ⟨_,_,rfl,?_,s3⟩;rw[C,Fv λj hj=>?_];unfold mxR;by_cases z:b.length-(b.length-1-i)<=j
   ·rw[if_pos z]
   ·rw[if_neg z,MF ()]
 intro σ H2 D;obtain⟨r3,J,rfl,I,Y⟩:=(u _ _ _).mp D;clear D u M eS u0
 w_up
 refine⟨aR _,λR0 n0=>?_⟩;have v0:=az n0 (.lst []);have j0:=ak (H:=H2) (a:=R0) (o:=.lst []);generalize L2.upd H2 R0 (.lst [])=H3 at v0 j0 ⊢;have lt:∀i (h:i<b.length),(val b[i] f).natAbs<=2 ^ 10000:=λi h=>dm (bv _ (bY h))
 w_up
 refine⟨_,.inl (SqL.of (v0 _ _ I)),(),(),?_⟩;rw[X];refine⟨rV () () () (),b.length,rW (),?_⟩;obtain⟨M,u⟩:∃M:Nat->L2.St->Hp->Prop,∀t σ G,M t σ G↔∃(J:Option V)(R:Addr)(a:aa),σ=[some (Z' A),some (Z' B),some (Z' S),r3,J,some (Z' R)]/\G R=some (.lst (a.map V'))/\H R=none/\Nml a/\a.length<=t/\(∀x∈a,Bd (10100+60*t) x)/\(∀n,val n a=dd f (b.take (b.length-t)++[n]))/\Same H2 G:=⟨_,λ_ _ _=>Iff.rfl⟩
 refine nn M ((u _ _ _).mpr ⟨J,R0,[],rfl,j0,Y.free n0,b_,aA _,λx hx=>by simp at hx,λn=>?_,v0⟩) ?_ ?_
 ·rw[EZ (by rw[b4,bX];simp;omega)];rfl
 ·intro t σ H4 ht D;obtain⟨J,R,a,rfl,eR,nR,na,la,ba,va,s4⟩:=(u _ _ _).mp D;obtain⟨pl,O⟩:∃pl,b.length-t=pl+1:=⟨b.length-t-1,()⟩
  have F:pl<b.length:=by omega
  have ep:(b.length:Int)-1+(t:Int) * -1=(pl:Int):=by omega
  have x1:=(Y.trans s4).seq hA;have y1:=s4 _ _ I;have g1:rnd f b ((b.length:Int)-1).toNat pl=dd f (run b 0 (pl+1)):=MH ();have b1:=bp _ (bY F);have bc:Bd 10061 (dd f (run b 0 (pl+1))):=by
   have h:=tj f x0 lt pl 0 ();refine ca h ?_;rw[<-du];exact mH () ()
  have st:∀n,dd f (b.take pl++[n])=dd f (run b 0 (pl+1))+(n-b[pl])*dd f (b.take (pl+1)++[n]):=λn=>by
   have Z:b.take (pl+1)=b.take pl++[b[pl]]:=by rw[cY,ao F];rfl
   have e2:run b 0 (pl+1)=b.take (pl+1):=by unfold run;rw[mD]
   rw[e2,Z];exact E4 f (b.take pl) b[pl] n
  generalize dd f (run b 0 (pl+1))=c at g1 bc st;rw[O]at va;have k0:∀y∈[-b[pl],1],Bd 41 y:=λy hy=>by
   simp only[bj,mw,or_false]at hy;rcases hy with rfl|rfl
   ·exact b1.neg.mono ()
   ·exact Bd.one ()
  have bm:∀k,Bd (10147+60*t) (co (aQ a [-b[pl],1]) k):=λk=>by
   rw[oh];exact (hI (c:=6) ba k0 (aM la ()) k).mono ()
  have bn:∀k,Bd (10100+60*(t+1)) (co (fq (aQ a [-b[pl],1]) [c]) k):=λk=>by
   rw[tT];refine ((bm k).add (cN (P:=λv=>Bd (10147+60*t) v) (λv hv=>?_) (Bd.zero _) k)).mono ();rw[aW.mp hv];exact bc.mono ()
  have lm:=Ap a [-b[pl],1] (by simp);have x2:(aQ a [-b[pl],1]).length<=t+1:=by simp at lm;omega
  w_left;simp![ep]
  refine⟨_,x1,_,gZ F,_,rfl,(),λq1 m1=>?_⟩;have w1:=az m1 (.lst [V' (-b[pl]),V' 1]);refine⟨R,q1,a,[-b[pl],1],rfl,SqL.of (w1 _ _ eR),SqL.of ak,(),by simp,λx hx=>(ba x hx).mono (),λy hy=>(k0 y hy).mono (),λR1 H5 s5 y2 z1=>?_⟩;have U:=w1.trans s5;refine⟨_,SqL.of (U _ _ y1),_,nv (Aq F),(),λq2 m2=>?_⟩;rw[g1];have w2:=az m2 (.lst [V' c]);refine⟨R1,q2,aQ a [-b[pl],1],[c],rfl,SqL.of (w2 _ _ z1),SqL.of ak,(),by simp,cu λk=>(bm k).mono (),λy hy=>#v[aW.mp hy,bc.mono ()],λR2 H6 s6 u1 v1=>?_⟩;have j1:=U.trans (w2.trans s6);refine (u _ _ _).mpr ⟨_,R2,_,rfl,v1,Y.free (s4.free (U.free (w2.free u1))),Am _ _,?_,cu bn,λn=>?_,s4.trans j1⟩
  ·have:=Ao (aQ a [-b[pl],1]) [c];simp at this;omega
  ·rw[Al,Fu,va,show b.length-(t+1)=pl by omega,st n];have Z:val n [-b[pl],1]=n-b[pl]:=by simp[val];omega
   have e2:val n [c]=c:=by simp[val]
   rw[Z,e2];generalize dd f (b.take (pl+1)++[n])=d;grind
 intro σ H4 D;obtain⟨J,R,a,rfl,eR,nR,na,la,ba,va,s4⟩:=(u _ _ _).mp D;have e:a=f:=cO na nf λn=>by
  rw[va,fB,List.take_zero,gk,tf]
 rw[e]at eR
 w_left;k_units
 exact q R H4 (Y.trans s4) nR eR
theorem Ar {X:Cx}{K:ap}(hK:X.K=K):gq X (.type "list") (λb H Q=>∃p a,b=[.ref p]/\(SqL K H p a\/SqT K H p a)/\∀l,H l=none->Q (.ref l) (upd H l (.lst a))):=by subst hK;exact j_
theorem Fx {X:Cx}{K:ap}(hK:X.K=K):gq X (.builtin "len") (λb H Q=>∃p a,b=[.ref p]/\(SqL K H p a\/SqT K H p a)/\Q (.int (a.length:Nat)) H):=by subst hK;exact bH
theorem oi {X:Cx}{K:ap}(hK:X.K=K):IxR X (ql K):=by subst hK;exact bM
structure LL (K:ap)(H:Hp)(as:am)(ps:ac):Prop where
 len:as.length=ps.length
 get:∀(i:Nat)(a:Addr)(p:aa),as[i]?=some a->ps[i]?=some p->SqL K H a (p.map V')
theorem LL.same {K:ap}{H b:Hp}{as:am}{ps:ac}(h:LL K H as ps)(s:Same H b):LL K b as ps:=⟨h.len,λi a p c d=>s.seq (h.get i a p c d)⟩
theorem LL.nth {K:ap}{H:Hp}{as:am}{ps:ac}(h:LL K H as ps){i:Nat}{v:V}(c:(as.map Z')[i]?=some v):∃a p,v=.ref a/\as[i]?=some a/\ps[i]?=some p/\SqL K H a (p.map V'):=by
 rw[aG]at c;obtain⟨a,b,rfl⟩:=cZ.mp c;have hi:=(aY.mp b).1;have d:i<ps.length:=by rw[<-h.len];exact hi
 exact⟨a,ps[i],rfl,b,ao d,h.get i a _ b (ao d)⟩
theorem LL.lastAt {K:ap}{H:Hp}{as:am}{ps:ac}(h:LL K H as ps)(b:ps≠[]):∃a p,atI (as.map Z') (-1)=some (.ref a)/\as.getLast?=some a/\ps.getLast?=some p/\SqL K H a (p.map V'):=by
 have g:ps.length≠0:=λz=>b (bC z);have c:as.length-1<as.length:=by have:=h.len;omega
 have d:as.length-1<ps.length:=by have:=h.len;omega
 refine⟨as[as.length-1],ps[as.length-1],?_,?_,?_,h.get (as.length-1) _ _ (ao c) (ao d)⟩
 ·have e:=Es (n:=(as.map Z').length) (i:=1) () (by rw[af];omega);have f:(-((1:Nat):Int))=-1:=rfl;rw[f]at e;unfold atI;rw[e];show (as.map Z')[(as.map Z').length-1]?=_;rw[aG,af,ao c];rfl
 ·rw[fK,ao c]
 ·rw[fK,<-h.len,ao d]
def dL (p:aa):PyData:=.list (p.map PyData.int)
theorem Fy {K:ap}{H:Hp}:∀(as:am)(c:ac),LL K H as c->DVs K H (as.map Z') (c.map dL)
 | [],[],_=>.nil
 | a :: as,p :: c,h=>.cons (DV.ints (h.get 0 a p rfl rfl)) (Fy as c ⟨by have:=h.len;simpa using this,λi b r d e=>h.get (i+1) b r (⇑d) (⇑e)⟩)
 | [],_ :: _,h=>by have:=h.len;simp at this
 | _ :: _,[],h=>by have:=h.len;simp at this
theorem tU {K:ap}{H:Hp}{R:Addr}{as:am}{ps:ac}(a:SqL K H R (as.map Z'))(h:LL K H as ps):DV K H (.ref R) (.list (ps.map dL)):=.lst a (Fy as ps h)
theorem Fz (ps:ac):PyData.eqv (.list (ps.map dL)) (.list (ps.map dL))=true:=by
 have h:∀ps:ac,PyData.eqvAll (ps.map dL) (ps.map dL)=true:=λps=>by
  induction ps with
  | nil=>rfl
  | cons p ps ih=>simp[PyData.eqvAll,PyData.eqv,zq,dL,ih]
 simp[PyData.eqv,h]
theorem tV (ps:ac):PyData.canLay0 (.list (ps.map dL))=true:=by
 have h:∀ps:ac,PyData.canLayAll0 (ps.map dL)=true:=λps=>by
  induction ps with
  | nil=>rfl
  | cons p ps ih=>simp[PyData.canLayAll0,PyData.canLay0,zr,dL,ih]
 simp[PyData.canLay0,h]
theorem FA (ps:ac):PyData.depth (.list (ps.map dL))<=64:=by
 have h:∀ps:ac,PyData.depthAll (ps.map dL)<=1:=λps=>by
  induction ps with
  | nil=>exact aR _
  | cons p ps ih=>simp[PyData.depthAll,PyData.depth,zt,dL];omega
 have:=h ps;simp[PyData.depth];omega
def dh (row:aa)(tb:ac)(cs:aw):Nat->Int×aa
 | 0=>(1,row)
 | i+1=>(co (tb.getD i []) (cs.getD i 0),cV (λx y=>(co (tb.getD i []) (cs.getD i 0)*x-co (dh row tb cs i).2 (cs.getD i 0)*y).fdiv (dh row tb cs i).1) (dh row tb cs i).2 (tb.getD i []))
structure LowOk (row:aa)(tb:ac)(cs:aw):Prop where
 len:tb.length<=cs.length
 few:row.length<=60
 wid:∀b∈tb,b.length=row.length
 col:∀c∈cs,c<row.length
 bb:∀b∈tb,∀y∈b,Bd 4000 y
 ne:∀i,i<tb.length->(dh row tb cs i).1≠0/\Bd 4000 (dh row tb cs i).1
 br:∀i,i<tb.length->∀x∈(dh row tb cs i).2,Bd 4000 x
theorem oj {row:aa}{tb:ac}{cs:aw}(h:LowOk row tb cs):∀i,i<=tb.length->(dh row tb cs i).2.length=row.length
 | 0,_=>rfl
 | i+1,hi=>by
  have a:=oj h i ();have b:(tb.getD i []).length=row.length:=by
   rw[aq,ao ()];exact h.wid _ (bY _)
  show (cV _ _ _).length=_;rw[mI,a,b,Nat.min_self]
theorem lJ {xs:aa}{i:Nat}(h:i<xs.length):atI (xs.map V') (i:Int)=some (V' (co xs i)):=by rw[gZ h,aI h]
def Nb (K:ap):Sp:=λvs H Q _=>∃(R Tb Cl:Addr)(row:aa)(ts:am)(tb:ac)(cs:aw),vs=[.ref R,.ref Tb,.ref Cl]/\SqL K H R (row.map V')/\SqL K H Tb (ts.map Z')/\LL K H ts tb/\SqL K H Cl ((cs.map λc:Nat=>(c:Int)).map V')/\LowOk row tb cs/\
 ∀(R':Addr)(H':Hp),Same H H'->(R'=R/\tb=[]\/H R'=none/\H' R'=some (.lst ((dh row tb cs tb.length).2.map V')))->SqL K H' R' ((dh row tb cs tb.length).2.map V')->Q (.ref R') H'
theorem FC:FnOk P w K mg base CX0 1 T.SG T.SH ["row","table","columns"] (Nb K):=by
 refine T.SI.ok jB (λvs H Q E h=>?_) (λu0 A outer s H vs Q E hr h=>?_)
 ·obtain⟨R,Tb,Cl,row,M,tb,a,rfl,_⟩:=h;rfl
 obtain⟨R,Tb,Cl,row,M,tb,a,rfl,hR,hT,hL,hC,ok,q⟩:=h;refine⟨_,s!"ɒºɨ&Ʌ˫,ɡʷ6ºʸ?ºʹʍºɨȳȺɛȦ˂ºɨɞɛȦ'Ĺ() ìɓɓɢÐCƎɕÐTĺɕÐ/Əɕí˫)˙K˨ȻȾȰȢȾȫȪȺºɄɑ/ºɨɐȨȢ",?_⟩
 have j0:=hL.len
 w_up
 obtain⟨O,f⟩:∃O:Nat->L2.St->Hp->Prop,∀i σ o,O i σ o↔∃(k:Addr)(S U X Y:Option V),σ=[some (Z' k),some (Z' Tb),some (Z' Cl),some (V' (dh row tb a i).1),S,U,X,Y]/\(k=R/\i=0\/H k=none/\o k=some (.lst ((dh row tb a i).2.map V')))/\SqL K o k ((dh row tb a i).2.map V')/\Same H o:=⟨_,λ_ _ _=>Iff.rfl⟩
 w_up
 refine⟨_,hT,_,hC,zC (xs:=M.map Z') (ys:=(a.map λc:Nat=>(c:Int)).map V') O ((f _ _ _).mpr ⟨R,none,none,none,none,rfl,.inl ⟨rfl,rfl⟩,hR,Same.refl _⟩) (λi σ o _ _ z=>by obtain⟨_,_,_,_,_,_,_,_,z⟩:=(f i σ o).mp z;exact⟨z.seq hT,z.seq hC⟩) ?_ ?_⟩
 ·intro i v1 v2 p σ Z e1 e2 hp np;obtain⟨k,S,U,X,Y,rfl,dR,d,s1⟩:=(f _ _ _).mp hp;rw[aG]at e1;obtain⟨t,ht,rfl⟩:=cZ.mp e1;have hi:i<tb.length:=by have:=(aY.mp ht).1;omega
  have m:i<a.length:=by have:=ok.len;omega
  rw[aG,aG,ao m]at e2;obtain rfl:V' (a[i]:Int)=v2:=Option.some.inj e2;have I:=hL.get i t _ ht (ao hi);have ll:=oj ok i ();have lb:=ok.wid _ (bY hi);have lc:=ok.col _ (bY m);have eb:tb.getD i []=tb[i]:=by rw[aq,ao hi];rfl
  have ec:a.getD i 0=a[i]:=by rw[aq,ao m];rfl
  have st:dh row tb a (i+1)=(co tb[i] a[i],cV (λx y=>(co tb[i] a[i]*x-co (dh row tb a i).2 a[i]*y).fdiv (dh row tb a i).1) (dh row tb a i).2 tb[i]):=by rw[dh,eb,ec]
  obtain⟨n0,nb⟩:=ok.ne i hi;have br:=ok.br i hi;have bb:=ok.bb _ (bY hi);have u:=az np (.tup [Z' t,V' (a[i]:Int)]);generalize dh row tb a i=L at d ll st n0 nb br ⊢;obtain⟨bf,e⟩:=L;dsimp only at d ll st n0 nb br ⊢;generalize tb[i]=b at I lb st bb;generalize a[i]=c at e2 lc st u ⊢;have few:=ok.few;have B:=s1.trans u
  w_left;k_units
  refine⟨_,SqT.of ak,rfl,_,_,rfl,_,_,rfl,rfl,_,rfl,_,_,rfl,B.seq I,_,lJ (),_,_,rfl,u.seq d,_,lJ (),_,rfl,_,u.seq d,_,B.seq I,λD J=>?_⟩;have C:=B.seq I;have F:=u.seq d;generalize L2.upd Z p (.tup [Z' t,V' (c:Int)])=H2 at B u C F J ⊢;have x0:Bd 4000 (co b c):=cN (P:=λv=>Bd 4000 v) bb (Bd.zero _) c;have y0:Bd 4000 (co e c):=cN (P:=λv=>Bd 4000 v) br (Bd.zero _) c;obtain⟨Pc,g⟩:∃Pc:cx,∀j n,Pc j n↔n D=some (.lst (((cV (λx y=>(co b c*x-co e c*y).fdiv bf) e b).take j).map V'))/\Same H2 n:=⟨_,λ_ _=>Iff.rfl⟩
  refine zB (xs:=e.map V') (ys:=b.map V') Pc ((g _ _).mpr ⟨ak,az J _⟩) (λi n _ _ y=>by obtain⟨_,y⟩:=(g i n).mp y;exact⟨y.seq F,y.seq C⟩) ?_ ?_
  ·intro j w1 w2 r n f1 f2 hc nr;obtain⟨G,k2⟩:=(g _ _).mp hc;rw[aG]at f1 f2;obtain⟨x,hx,rfl⟩:=cZ.mp f1;obtain⟨y,hy,rfl⟩:=cZ.mp f2;have u2:=az nr (.tup [V' x,V' y]);have bx:=br x (bT hx);have z0:=bb y (bT hy)
   w_left;simp![fg,eL]
   have hj:j<e.length:=(aY.mp hx).1;refine⟨x0.fits bx (),y0.fits z0 (),n0,cP nb (e9 () ()),_,u2 _ _ G,?_,(g _ _).mpr ⟨?_,(k2.trans u2).more J⟩⟩
   ·rw[af,bX];exact bD ()
   ·have hz:(cV (λx y=>(co b c*x-co e c*y).fdiv bf) e b)[j]?=some ((co b c*x-co e c*y).fdiv bf):=by
     rw[uX,hx,hy]
    rw[ak,cY,hz,aT];rfl
  intro n hc;obtain⟨G,k2⟩:=(g _ _).mp hc;rw[gl #v[mI,af,af,aA _]]at G;refine (f _ _ _).mpr ?_;rw[st];exact⟨D,_,_,_,_,rfl,.inr ⟨B.free J,G⟩,SqL.of G,B.trans k2⟩
 intro σ Z hp;obtain⟨k,S,U,X,Y,rfl,dR,d,s1⟩:=(f _ _ _).mp hp;have hn:min (M.map Z').length ((a.map λc:Nat=>(c:Int)).map V').length=tb.length:=by
  have:=ok.len;simp;omega
 rw[hn]at d dR
 w_left;k_units
 refine q k Z s1 ?_ d;rcases dR with ⟨z1,z2⟩|z
 ·exact .inl ⟨z1,bC z2⟩
 ·exact .inr z
def FD (K:ap):Sp:=λvs H Q _=>∃(a:Addr)(xs:aa)(n:Int)(k l:Nat),vs=[.ref a,.int n]/\SqL K H a (xs.map V')/\xs.length<=64/\(∀x∈xs,Bd k x)/\Bd l n/\k+l*100<=60000000/\Q (.int (val n xs)) H
theorem tX (n:Int)(xs:aa)(i:Nat)(h:i<xs.length):val n (xs.drop (xs.length-1-i))=val n (xs.drop (xs.length-i))*n+xs[xs.length-1-i]:=by
 rw[Bj (),show xs.length-1-i+1=xs.length-i by omega];simp only[val];rw[cw];omega
theorem As:FnOk P w K mg base CX0 1 T.RT T.RU ["poly","n"] (FD K):=by
 refine T.Rn.ok tw (λt H Q E h=>?_) (λu A outer s H t Q E y h=>?_)
 ·obtain⟨a,b,n,k,l,rfl,_⟩:=h;rfl
 obtain⟨a,b,n,k,l,rfl,o,B,hk,p,C,q⟩:=h;refine⟨_,s!"ɉċʑɅĻ ļɟʼċ˩-ċȟʧȰȪȫ˚",?_⟩
 k_units
 refine⟨_,o,?_⟩;obtain⟨g,c⟩:∃g:Nat->L2.St->Hp->Prop,∀i σ d,g i σ d↔(∃r,σ=[some (Z' a),some (V' n),some (V' (val n (b.drop (b.length-i)))),r])/\Bd (k+(l+1)*i) (val n (b.drop (b.length-i)))/\d=H:=⟨_,λ_ _ _=>Iff.rfl⟩
 refine Er g ((c _ _ _).mpr ⟨⟨none,by simp[val]⟩,by simp[val,Bd.zero],rfl⟩) (λi σ d _ z=>#v[((c i σ d).mp z).2.2,o]) ?_ ?_
 ·intro i v σ d hi j m;obtain⟨⟨r,rfl⟩,f,rfl⟩:=(c _ _ _).mp m;rw[af]at hi j;rw[aG,ao ()]at j;obtain rfl:V' b[b.length-1-i]=v:=Option.some.inj j
  k_units
  have hx:Bd k b[b.length-1-i]:=hk _ (bY _);have e:b.length-(i+1)=b.length-1-i:=by omega
  have x:(l+1)*i<=l*64+64:=by have:=dZ (l+1) (by omega:i<=64);omega
  refine⟨f.fits p (),(c _ _ _).mpr ⟨⟨_,by rw[e,tX n b i hi]⟩,?_,rfl⟩⟩;rw[e,tX n b i hi];refine ((f.mul p).add (hx.mono (by omega:k<=k+(l+1)*i+l))).mono ?_;rw[mJ];omega
 ·intro σ d m;obtain⟨⟨r,rfl⟩,_,rfl⟩:=(c _ _ _).mp m
  k_units
  rw[af,fB,mD];exact q
def KB (a:Addr)(H H':Hp):Prop:=∀y o,y≠a->H y=some o->H' y=some o
theorem KB.on {a:Addr}{H b c:Hp}(k:KB a H b)(s:Same b c):KB a H c:=λy o n e=>s _ _ (k y o n e)
theorem KB.set {a:Addr}{H b:Hp}{o:HO}(k:KB a H b):KB a H (L2.upd b a o):=λy o n e=>#v[aC n,k y o n e]
theorem KB.of {a:Addr}{H b:Hp}(s:Same H b):KB a H b:=λy o _ e=>s y o e
theorem KB.free {a p:Addr}{H b:Hp}{o:HO}(k:KB a H b)(h:b a=some o)(n:b p=none):H p=none/\p≠a:=by
 have d:p≠a:=λz=>by rw[z,h]at n;cases n
 refine⟨?_,d⟩
 cases e:H p with
 | none=>rfl
 | some u=>rw[k p u d e]at n;cases n
def i9 (w:Int)(Kp Cl:Addr)(pl:Int)(Tb:Addr):List (Str×V):=[(Str.ofString "width",.int w),(Str.ofString "kept",.ref Kp),(Str.ofString "columns",.ref Cl),(Str.ofString "place",.int pl),(Str.ofString "tables",.ref Tb)]
def FE (C:Addr):Sp:=λvs H Q _=>∃(x dx:Addr)(w:Int),vs=[.ref x,.int w]/\H x=some (.ins C dx [])/\
 ∀(Kp Cl Tb:Addr)(H':Hp),(∀y o,y≠x->H y=some o->H' y=some o)->H Kp=none->H Cl=none->H Tb=none->Kp≠Cl->Kp≠Tb->Cl≠Tb->H' x=some (.ins C dx (i9 w Kp Cl 97 Tb))->H' Kp=some (.lst [])->H' Cl=some (.lst [])->H' Tb=some (.dK [])->Q .non H'
theorem FF:FnOk P w K mg base CX0 1 T.TN T.TQ ["self","width"] (FE T.QW):=by
 refine T.VP.ok MV (λZ H Q E h=>?_) (λx0 A outer s H Z Q E hr h=>?_)
 ·obtain⟨x,c,w,rfl,_⟩:=h;rfl
 obtain⟨x,c,w,rfl,hx,q⟩:=h;refine⟨_,s!"'Ñ˃ 'ÑȢə 'ÑȢə 'ÑȢ˭Ɛ ƑɆɄ.ÑȢƒ ",?_⟩
 have k0:KB x H H:=KB.of (Same.refl H)
 w_up
 refine⟨_,_,_,hx,T.QV,T.Q4,(),?_⟩;have g:=k0.set (o:=.ins T.QW c (aV (Str.ofString "width") (V' w) []));have i:=ak (H:=H) (a:=x) (o:=.ins T.QW c (aV (Str.ofString "width") (V' w) []));generalize L2.upd H x (.ins T.QW c (aV (Str.ofString "width") (V' w) []))=y at g i ⊢
 w_up
 refine⟨(),λb B=>?_⟩;have C:=az B (.lst []);obtain⟨m1,j⟩:=g.free i B;refine⟨_,_,_,C _ _ i,T.QV,T.QY,by show 1<1000;decide,?_⟩;have k:=(g.on C).set (o:=.ins T.QW c (aV (Str.ofString "kept") (Z' b) (aV (Str.ofString "width") (V' w) [])));have m:=ak (H:=L2.upd y b (.lst [])) (a:=x) (o:=.ins T.QW c (aV (Str.ofString "kept") (Z' b) (aV (Str.ofString "width") (V' w) [])));have n:L2.upd (L2.upd y b (.lst [])) x (.ins T.QW c (aV (Str.ofString "kept") (Z' b) (aV (Str.ofString "width") (V' w) []))) b=some (.lst []):=by rw[aC j];exact ak
 generalize L2.upd (L2.upd y b (.lst [])) x (.ins T.QW c (aV (Str.ofString "kept") (Z' b) (aV (Str.ofString "width") (V' w) [])))=p at k m n ⊢;clear g i B C
 w_up
 refine⟨(),λd f=>?_⟩;have r:=az f (.lst []);obtain⟨m2,D⟩:=k.free m f;have F:b≠d:=λz=>by rw[<-z,n]at f;cases f
 refine⟨_,_,_,r _ _ m,T.QV,T.Q3,by show 2<1000;decide,?_⟩;have S:=(k.on r).set (o:=.ins T.QW c (aV (Str.ofString "columns") (Z' d) (aV (Str.ofString "kept") (Z' b) (aV (Str.ofString "width") (V' w) []))));have U:=ak (H:=L2.upd p d (.lst [])) (a:=x) (o:=.ins T.QW c (aV (Str.ofString "columns") (Z' d) (aV (Str.ofString "kept") (Z' b) (aV (Str.ofString "width") (V' w) []))));have X:L2.upd (L2.upd p d (.lst [])) x (.ins T.QW c (aV (Str.ofString "columns") (Z' d) (aV (Str.ofString "kept") (Z' b) (aV (Str.ofString "width") (V' w) [])))) b=some (.lst []):=by rw[aC j];exact r _ _ n
 have Y:L2.upd (L2.upd p d (.lst [])) x (.ins T.QW c (aV (Str.ofString "columns") (Z' d) (aV (Str.ofString "kept") (Z' b) (aV (Str.ofString "width") (V' w) [])))) d=some (.lst []):=by rw[aC D];exact ak
 generalize L2.upd (L2.upd p d (.lst [])) x (.ins T.QW c (aV (Str.ofString "columns") (Z' d) (aV (Str.ofString "kept") (Z' b) (aV (Str.ofString "width") (V' w) []))))=t at S U X Y ⊢;clear k m f r n
 w_up
 refine⟨_,_,_,U,T.QV,T.RE,by show 3<1000;decide,?_⟩;have G:=S.set (o:=.ins T.QW c (aV (Str.ofString "place") (V' 97) (aV (Str.ofString "columns") (Z' d) (aV (Str.ofString "kept") (Z' b) (aV (Str.ofString "width") (V' w) [])))));have I:=ak (H:=t) (a:=x) (o:=.ins T.QW c (aV (Str.ofString "place") (V' 97) (aV (Str.ofString "columns") (Z' d) (aV (Str.ofString "kept") (Z' b) (aV (Str.ofString "width") (V' w) [])))));have J:=(aC (H:=t) (o:=.ins T.QW c (aV (Str.ofString "place") (V' 97) (aV (Str.ofString "columns") (Z' d) (aV (Str.ofString "kept") (Z' b) (aV (Str.ofString "width") (V' w) []))))) j).trans X;have L:=(aC (H:=t) (o:=.ins T.QW c (aV (Str.ofString "place") (V' 97) (aV (Str.ofString "columns") (Z' d) (aV (Str.ofString "kept") (Z' b) (aV (Str.ofString "width") (V' w) []))))) D).trans Y;generalize L2.upd t x (.ins T.QW c (aV (Str.ofString "place") (V' 97) (aV (Str.ofString "columns") (Z' d) (aV (Str.ofString "kept") (Z' b) (aV (Str.ofString "width") (V' w) [])))))=G4 at G I J L ⊢
 w_up
 intro M e;have u:=az e (.dK []);obtain⟨m5,d5⟩:=G.free I e;have O:b≠M:=λz=>by rw[<-z,J]at e;cases e
 have R:d≠M:=λz=>by rw[<-z,L]at e;cases e
 refine⟨_,_,_,u _ _ I,T.QV,T.U2,by show 4<1000;decide,?_⟩;refine q b d M _ (G.on u).set m1 m2 m5 F O R ?_ #v[aC j,u _ _ J] #v[aC D,u _ _ L] #v[aC d5,ak];rw[ak];rfl
def cn (w:Nat)(vec:ac)(num:Nat)(pl:Int):aa:=vec.map (val pl)++(aJ (w+1)).map λo=>if o=num then 1 else 0
def Nc (K:ap)(C:Addr):Sp:=λvs H Q _=>∃(x dx Kp Cl Tb Vc:Addr)(pc:Int)(w num:Nat)(pl:Int)(as:am)(vec:ac),vs=[.ref x,.ref Vc,.int (num:Int),.int pl]/\H x=some (.ins C dx (i9 w Kp Cl pc Tb))/\SqL K H Vc (as.map Z')/\LL K H as vec/\w<=20/\vec.length<=20/\Bd 40 pl/\(∀p∈vec,p.length<=60/\∀c∈p,Bd 1000 c)/\dU H Q ((cn w vec num pl).map V')
theorem FG:FnOk P w K mg base CX0 2 T.TR T.TU ["self","vector","number","place"] (Nc K T.QW):=by
 refine T.VQ.ok Fo (λR H Q E h=>?_) (λS A outer s H R Q E U h=>?_)
 ·obtain⟨x,X,Y,Z,Tb,Vc,pc,w,f,pl,as,vec,rfl,_⟩:=h;rfl
 obtain⟨x,X,Y,Z,Tb,Vc,pc,w,f,pl,as,vec,rfl,hx,I,J,w20,x0,t,bv,q⟩:=h;refine⟨_,s!"˄6Ɋɩ-Č˅ʄɃɎȼKîɷ˃ȩ&&ƓɄȨ*zʩ/ƔʔɾȥčȤƕ ĎďĐʎȺ",?_⟩
 have lv:=J.len
 w_up
 refine⟨_,_,_,hx,T.QV,T.Q4,_,rfl,_,rfl,(),(),λD L=>?_⟩;rw[show ((w:Int)+1).toNat=w+1 by omega];obtain⟨d,b⟩:∃d:cx,∀j c,d j c↔c D=some (.lst (((aJ j).map λo:Nat=>if o=f then (1:Int) else 0).map V'))/\Same H c:=⟨_,λ_ _=>Iff.rfl⟩
 refine rL d ((b _ _).mpr ⟨ak,az L _⟩) ?_ ?_
 ·intro j c hj e;obtain⟨u,n⟩:=(b _ _).mp e;have e0:(0:Int)+(j:Int)=(j:Int):=ii _;have nx:∀v:Int,v=(if j=f then (1:Int) else 0)->∃B,c D=some (.lst B)/\B.length<sizeLine/\d (j+1) (L2.upd c D (.lst (B++[V' v]))):=λv C=>by
   refine⟨_,u,#v[af,af,gw,bD ()],(b _ _).mpr ⟨?_,n.more L⟩⟩;rw[ak,fL,aT,aT,C];rfl
  w_left;simp![bst,e0,eL]
  refine bO (λz=>nx 1 (by rw[if_pos ()])) (λz=>nx 0 (by rw[if_neg ()]))
 intro H1 e;obtain⟨eD,g⟩:=(b _ _).mp e;clear e b d;refine⟨⟨_,g.seq I⟩,λM k=>?_⟩;obtain⟨d,b⟩:∃d:cx,∀j c,d j c↔c M=some (.lst (((vec.map (val pl)).take j).map V'))/\Same H1 c:=⟨_,λ_ _=>Iff.rfl⟩
 refine eE (xs:=as.map Z') d ((b _ _).mpr ⟨ak,az k _⟩) (λi c _ y=>by obtain⟨_,y⟩:=(b i c).mp y;exact (g.trans y).seq I) ?_ ?_
 ·intro j v c C e;obtain⟨u,n⟩:=(b _ _).mp e;obtain⟨a,p,rfl,ha,F,sq⟩:=J.nth C;have hj:j<vec.length:=(aY.mp F).1;obtain⟨b1,b2⟩:=bv p (bT F)
  w_left;simp![bst,eL]
  refine⟨a,p,pl,1000,40,rfl,(g.trans n).seq sq,(),b2,t,(),_,u,?_,(b _ _).mpr ⟨?_,n.more k⟩⟩
  ·rw[af,bX];exact bD ()
  ·rw[ak,cY,aG,F,aT];rfl
 intro H2 e;obtain⟨m,G⟩:=(b _ _).mp e;rw[af,lv,gl #v[af,aA _]]at m;refine⟨M,rfl,D,rfl,_,m,_,G _ _ eD,?_,λr O=>?_⟩
 ·rw[af,af,af,af,gw];exact dm (bD ())
 ·refine q r _ ((g.trans G).trans (az O _)) ((g.trans G).free O) ?_;rw[ak];unfold cn;rw[aT]
def dgL (p:aa):Int:=((p.length-1:Nat):Int)
def iw (ps:ac)(M:Int):Prop:=(ps.map dgL=[]/\M=0)\/(M∈ps.map dgL/\∀a∈ps.map dgL,a<=M)
def Nd (K:ap):Sp:=λvs H Q _=>∃(A:Addr)(as:am)(ps:ac),vs=[.ref A]/\SqL K H A (as.map Z')/\LL K H as ps/\ps.length<=60/\∀M H',Same H H'->iw ps M->Q (.int M) H'
theorem FH:FnOk P w K mg base CX0 1 T.SL T.SM ["polys"] (Nd K):=by
 refine T.SN.ok MS (λu H Q E h=>?_) (λx A outer s H u Q E O h=>?_)
 ·obtain⟨A,as,d,rfl,_⟩:=h;rfl
 obtain⟨A,as,d,rfl,k,m,z,q⟩:=h;refine⟨_,s!"ȨƖ˛#ʠȢK:Ľˮ˜:ľʅȭɟ˯$Ɨ&Ƙ",?_⟩;have B:=m.len
 k_units
 refine⟨⟨_,k⟩,λD n=>?_⟩;obtain⟨f,b⟩:∃f:cx,∀j c,f j c↔c D=some (.lst (((d.map dgL).take j).map V'))/\Same H c:=⟨_,λ_ _=>Iff.rfl⟩
 refine eE (xs:=as.map Z') f ((b _ _).mpr ⟨ak,az n _⟩) (λi c _ y=>by obtain⟨_,y⟩:=(b i c).mp y;exact y.seq k) ?_ ?_
 ·intro j v c C g;obtain⟨F,o⟩:=(b _ _).mp g;obtain⟨a,p,rfl,R,r,G⟩:=m.nth C;have S:j<d.length:=(aY.mp r).1
  simp![bst,eL]
  refine⟨_,.inl (o.seq G),?_⟩;have e:(if 0 > ((p.map V').length:Int)-1 then 0 else ((p.map V').length:Int)-1)=dgL p:=by unfold dgL;rw[af];split <;> omega
  try rw[e]
  refine⟨_,F,?_,(b _ _).mpr ⟨?_,o.more n⟩⟩
  ·rw[af,bX];exact bD ()
  ·rw[ak,cY,aG,r,aT];rfl
 intro I g;obtain⟨t,J⟩:=(b _ _).mp g;rw[af,B,gl #v[af,aA _]]at t;exact⟨D,rfl,_,SqL.of t,λM L=>q M I J L⟩
theorem At {X:Cx}{K:ap}{b l:Expr}{a:TE}(hK:X.K=K)(c:PE X l a):PI X b l (yY K a):=by subst hK;exact cW c
structure VL (K:ap)(H:Hp)(vs:am)(qs:ax):Prop where
 len:vs.length=qs.length
 get:∀(i:Nat)(v:Addr)(q:ac),vs[i]?=some v->qs[i]?=some q->∃as,SqL K H v (as.map Z')/\LL K H as q
def iy (q:ac)(cs:aw):ac:=cs.map λc=>q.getD c []
def iz (qs:ax)(c:Nat):ac:=qs.map λq=>q.getD c []
theorem kr {α β:Type}{Φ:α->β->Prop}{rs:List α}{L:List β}{r:α}(h:∀(t:Nat)(r:α)(p:β),rs[t]?=some r->L[t]?=some p->Φ r p)(d:∀p,L[rs.length]?=some p->Φ r p):∀(t:Nat)(b:α)(p:β),(rs++[r])[t]?=some b->L[t]?=some p->Φ b p:=λt b p a c=>by
 by_cases hi:t<rs.length
 ·rw[cA hi]at a;exact h t b p a c
 ·rw[cQ ()]at a;have:t-rs.length=0:=by have:=(aY.mp a).1;simp at this;omega
  rw[this]at a;have e:t=rs.length:=by omega
  cases Option.some.inj a
  rw[e]at c;exact d p c
theorem ol {α:Type}{xs:List α}{i:Nat}{d:α}(h:i<xs.length):xs[i]?=some (xs.getD i d):=by
 rw[aq,ao h];rfl
def Nf (K:ap):Sp:=λvs H Q _=>∃(A B:Addr)(us:am)(qs:ax)(cs:aw),vs=[.ref A,.ref B]/\SqL K H A (us.map Z')/\VL K H us qs/\SqL K H B ((cs.map λc:Nat=>(c:Int)).map V')/\qs≠[]/\qs.length<=20/\cs.length<=20/\(∀q∈qs,∀c∈cs,c<q.length)/\
 ∀(bv bc:aa)(m N:Int)(H':Hp),Same H H'->bv.length=qs.length->bc.length=cs.length->(∀(i:Nat)(b:Int)(q:ac),bv[i]?=some b->qs[i]?=some q->iw (iy q cs) b)->(∀(i:Nat)(b:Int)(c:Nat),bc[i]?=some b->cs[i]?=some c->iw (iz qs c) b)->m∈bv->(∀b∈bv,m<=b)->N=(if bc.sum<bv.sum-m then bc.sum else bv.sum-m)->Q (.int N) H'
theorem Ng:FnOk P w K mg base CX0 2 T.SO T.SQ ["vectors","columns"] (Nf K):=by
 refine T.Uv.ok Ad (λvs H Q E h=>?_) (λx1 A outer s H vs Q E hr h=>?_)
 ·obtain⟨A,B,us,o,J,rfl,_⟩:=h;rfl
 obtain⟨A,B,us,o,J,rfl,hA,hV,hB,q0,y1,z1,hw,q⟩:=h;refine⟨_,s!"'Ŀ(- đɩ,ƙʔȢʪŀȴŁłŃɌʩ)ƚ˅Ēʅɾ˱ȪȢȦ$ńɄ'Ŀ(/ đɩ)ƛʔɾȥŀȴŁłŃɌʩ)Ɯ˅Ēʅɾ˱˃Ȧ$ńɄȨ:ē˳˜:ŅɄņŇɡ:ň˳ɡ#:ŅɄņŇɮʌ",?_⟩
 have lu:=hV.len
 w_up
 refine⟨⟨_,hA⟩,λD nD=>?_⟩;obtain⟨U,a⟩:∃U:cx,∀j k,U j k↔∃bv:aa,k D=some (.lst (bv.map V'))/\bv.length=j/\(∀(i:Nat)(b:Int)(q:ac),bv[i]?=some b->o[i]?=some q->iw (iy q J) b)/\Same H k:=⟨_,λ_ _=>Iff.rfl⟩
 refine eE (xs:=us.map Z') U ((a _ _).mpr ⟨[],ak,rfl,λi b q e=>by simp at e,az nD _⟩) (λi k _ y=>by obtain⟨_,_,_,_,y⟩:=(a i k).mp y;exact y.seq hA) ?_ ?_
 ·intro j v k hv X;obtain⟨bv,k1,Z,k3,L⟩:=(a _ _).mp X;rw[aG]at hv;obtain⟨u,hu,rfl⟩:=cZ.mp hv;have hj:j<o.length:=by have:=(aY.mp hu).1;omega
  have x0:o[j]?=some o[j]:=ao hj;obtain⟨as,sA,lA⟩:=hV.get j u _ hu x0;have z0:=hw _ (bY hj)
  w_left;simp![bst,eL]
  generalize o[j]=qv at lA z0 x0;refine⟨⟨_,L.seq hB⟩,λD1 C=>?_⟩;obtain⟨Pi,d⟩:∃Pi:cx,∀i f,Pi i f↔∃g:am,f D1=some (.lst (g.map Z'))/\g.length=i/\(∀(t:Nat)(r:Addr)(p:aa),g[t]?=some r->(iy qv J)[t]?=some p->SqL K H r (p.map V'))/\Same k f:=⟨_,λ_ _=>Iff.rfl⟩
  refine eE (xs:=(J.map λc:Nat=>(c:Int)).map V') Pi ((d _ _).mpr ⟨[],ak,rfl,λt r p e=>by simp at e,az C _⟩) (λi f _ y=>by obtain⟨_,_,_,_,y⟩:=(d i f).mp y;exact (L.trans y).seq hB) ?_ ?_
  ·intro i v f F hi;obtain⟨g,m1,G,m3,x⟩:=(d _ _).mp hi;rw[aG,aG]at F;obtain⟨z,hz,rfl⟩:=cZ.mp F;obtain⟨c,n,rfl⟩:=cZ.mp hz;have O:=z0 c (bT n);have I:c<as.length:=by have:=lA.len;omega
   have u1:i<J.length:=(aY.mp n).1
   w_left;simp![bst,eL]
   refine⟨_,(L.trans x).seq sA,Z' as[c],fE (by rw[aG,ao I];rfl),_,m1,#v[af,bD ()],(d _ _).mpr ⟨g++[as[c]],by rw[ak,aT];rfl,by simp[G],kr m3 λp R=>?_,x.more C⟩⟩;rw[G]at R;unfold iy at R;rw[aG,n]at R;obtain rfl:=Option.some.inj R;exact lA.get c _ _ (ao I) (ol O)
  intro f hi;obtain⟨g,m1,G,m3,x⟩:=(d _ _).mp hi;rw[af,af]at G;have hR:LL K f g (iy qv J):=⟨by unfold iy;rw[af];exact G,λt r p e1 e2=>(L.trans x).seq (m3 t r p e1 e2)⟩
  refine⟨D1,g,_,rfl,SqL.of m1,hR,by unfold iy;rw[af];omega,λM H2 s2 hM=>⟨_,s2 _ _ (x _ _ k1),#v[af,bD ()],(a _ _).mpr ⟨bv++[M],by rw[ak,aT];rfl,by simp[Z],?_,(L.trans (x.trans s2)).more nD⟩⟩⟩;refine kr (Φ:=λb q=>iw (iy q J) b) k3 λq hq=>?_;rw[Z,x0]at hq;obtain rfl:=Option.some.inj hq;exact hM
 intro H1 X;obtain⟨bv,k1,Z,k3,L⟩:=(a _ _).mp X;rw[af,lu]at Z;clear X a U
 w_up
 refine⟨⟨_,L.seq hB⟩,λD2 u0=>?_⟩;obtain⟨U,a⟩:∃U:cx,∀j k,U j k↔∃Y:aa,k D2=some (.lst (Y.map V'))/\Y.length=j/\(∀(i:Nat)(b:Int)(c:Nat),Y[i]?=some b->J[i]?=some c->iw (iz o c) b)/\Same H1 k:=⟨_,λ_ _=>Iff.rfl⟩
 refine eE (xs:=(J.map λc:Nat=>(c:Int)).map V') U ((a _ _).mpr ⟨[],ak,rfl,λi b q e=>by simp at e,az u0 _⟩) (λi k _ y=>by obtain⟨_,_,_,_,y⟩:=(a i k).mp y;exact (L.trans y).seq hB) ?_ ?_
 ·intro j v k hv X;obtain⟨Y,c1,c2,c3,c4⟩:=(a _ _).mp X;rw[aG,aG]at hv;obtain⟨z,hz,rfl⟩:=cZ.mp hv;obtain⟨c,n,rfl⟩:=cZ.mp hz;have hj:j<J.length:=(aY.mp n).1;have S:=L.trans c4
  w_left;simp![bst,eL]
  refine⟨⟨_,S.seq hA⟩,λD1 C=>?_⟩;obtain⟨Pi,d⟩:∃Pi:cx,∀i f,Pi i f↔∃g:am,f D1=some (.lst (g.map Z'))/\g.length=i/\(∀(t:Nat)(r:Addr)(p:aa),g[t]?=some r->(iz o c)[t]?=some p->SqL K H r (p.map V'))/\Same k f:=⟨_,λ_ _=>Iff.rfl⟩
  refine eE (xs:=us.map Z') Pi ((d _ _).mpr ⟨[],ak,rfl,λt r p e=>by simp at e,az C _⟩) (λi f _ y=>by obtain⟨_,_,_,_,y⟩:=(d i f).mp y;exact (S.trans y).seq hA) ?_ ?_
  ·intro i v f F hi;obtain⟨g,m1,G,m3,x⟩:=(d _ _).mp hi;rw[aG]at F;obtain⟨u,hu,rfl⟩:=cZ.mp F;have j0:i<o.length:=by have:=(aY.mp hu).1;omega
   have y0:o[i]?=some o[i]:=ao j0;obtain⟨as,sA,lA⟩:=hV.get i u _ hu y0;have O:=hw _ (bY j0) c (bT n);generalize o[i]=qv at lA O y0;have I:c<as.length:=by have:=lA.len;omega
   w_left;simp![bst,eL]
   refine⟨_,(S.trans x).seq sA,Z' as[c],fE (by rw[aG,ao I];rfl),_,m1,#v[af,bD ()],(d _ _).mpr ⟨g++[as[c]],by rw[ak,aT];rfl,by simp[G],kr m3 λp R=>?_,x.more C⟩⟩;rw[G]at R;unfold iz at R;rw[aG,y0]at R;obtain rfl:=Option.some.inj R;exact lA.get c _ _ (ao I) (ol O)
  intro f hi;obtain⟨g,m1,G,m3,x⟩:=(d _ _).mp hi;rw[af,lu]at G;have hR:LL K f g (iz o c):=⟨by unfold iz;rw[af];exact G,λt r p e1 e2=>(S.trans x).seq (m3 t r p e1 e2)⟩
  refine⟨D1,g,_,rfl,SqL.of m1,hR,by unfold iz;rw[af];omega,λM H2 s2 hM=>⟨_,s2 _ _ (x _ _ c1),#v[af,bD ()],(a _ _).mpr ⟨Y++[M],by rw[ak,aT];rfl,by simp[c2],?_,(c4.trans (x.trans s2)).more u0⟩⟩⟩;refine kr (Φ:=λb c=>iw (iz o c) b) c3 λv1 hq=>?_;rw[c2,n]at hq;obtain rfl:=Option.some.inj hq;exact hM
 intro H2 X;obtain⟨Y,c1,c2,c3,c4⟩:=(a _ _).mp X;rw[af,af]at c2;have k0:bv≠[]:=λz=>by rw[z]at Z;exact q0 (bC Z.symm)
 w_up
 exact⟨bv,SqL.of (c4 _ _ k1),bv,SqL.of (c4 _ _ k1),k0,λm hm n0=>⟨Y,SqL.of c1,q bv Y m _ H2 (L.trans c4) Z c2 k3 c3 hm n0 rfl⟩⟩
structure LH (H:Hp)(as:am)(ps:ac):Prop where
 len:as.length=ps.length
 get:∀(i:Nat)(a:Addr)(p:aa),as[i]?=some a->ps[i]?=some p->H a=some (.lst (p.map V'))
theorem LH.ll {K:ap}{H:Hp}{as:am}{ps:ac}(h:LH H as ps):LL K H as ps:=⟨h.len,λi a p b c=>SqL.of (h.get i a p b c)⟩
theorem LH.same {H b:Hp}{as:am}{ps:ac}(h:LH H as ps)(s:Same H b):LH b as ps:=⟨h.len,λi a p c d=>s _ _ (h.get i a p c d)⟩
theorem LH.nil (H:Hp):LH H [] []:=⟨rfl,λi a p b _=>by simp at b⟩
theorem LH.snoc {H:Hp}{as:am}{ps:ac}{a:Addr}{p:aa}(h:LH H as ps)(e:H a=some (.lst (p.map V'))):LH H (as++[a]) (ps++[p]):=by
 refine⟨by simp[h.len],λi b r c d=>?_⟩;by_cases z:i<as.length
 ·rw[cA z]at c;rw[cA #v[<-h.len,z]]at d;exact h.get i b r c d
 ·rw[cQ ()]at c;rw[cQ (by rw[<-h.len];omega),<-h.len]at d;have f:i-as.length=0:=by
   rcases Je (i-as.length) with y|y
   ·exact y
   ·rw[ic (by simp;omega)]at c;cases c
  rw[f]at c d;simp at c d;rw[<-c,<-d];exact e
theorem LH.set {H:Hp}{as:am}{ps:ac}{a:Addr}{p:aa}(h:LH H as ps)(e:H a=some (.lst (p.map V')))(i:Nat):LH H (as.set i a) (ps.set i p):=by
 refine⟨by simp[h.len],λj b r c d=>?_⟩;by_cases z:i=j
 ·subst z;have f:i<as.length:=by have:=(aY.mp c).1;simpa using this
  rw[uI f]at c;rw[uI #v[<-h.len,f]]at d;rw[<-Option.some.inj c,<-Option.some.inj d];exact e
 ·rw[oE z]at c d;exact h.get j b r c d
theorem LH.upd {H:Hp}{as:am}{ps:ac}{b:Addr}{o:HO}(h:LH H as ps)(n:b∉as):LH (L2.upd H b o) as ps:=⟨h.len,λi a p c d=>by
 rw[aC (λz=>n #v[<-z,bT c])];exact h.get i a p c d⟩
theorem LH.mem {H:Hp}{as:am}{ps:ac}(h:LH H as ps){a:Addr}(b:a∈as):∃p:aa,H a=some (.lst (p.map V')):=by
 obtain⟨i,hi,e⟩:=cm.mp b;have c:i<ps.length:=by rw[<-h.len];exact hi
 exact⟨ps[i],h.get i a ps[i] #v[<-e,ao hi] (ao c)⟩
theorem LH.notin {H:Hp}{as:am}{ps:ac}(h:LH H as ps){a:Addr}(b:H a=none):a∉as:=λz=>by
 obtain⟨p,e⟩:=h.mem z;rw[b]at e;cases e
def dE (w:Nat)(Wm:ax)(cs:aw)(p:Int):Nat->ac
 | 0=>[]
 | n+1=>dE w Wm cs p n++[(dh (cn w (Wm.getD n []) n p) (dE w Wm cs p n) cs n).2]
def fx (w:Nat)(Wm:ax)(cs:aw)(p:Int)(n:Nat):aa:=(dh (cn w (Wm.getD n []) n p) (dE w Wm cs p n) cs n).2
theorem eh (w:Nat)(Wm:ax)(cs:aw)(p:Int):∀n,(dE w Wm cs p n).length=n
 | 0=>rfl
 | n+1=>by rw[dE,b4,eh w Wm cs p n];rfl
def Piv (w:Nat)(Wm:ax)(cs:aw)(p:Int)(n:Nat):Prop:=∀i,i<n->co (fx w Wm cs p i) (cs.getD i 0)≠0
def VecAt (H:Hp)(M:am)(u:Addr)(q:ac):Prop:=∃as:am,H u=some (.lst (as.map Z'))/\LH H as q/\u∉M/\∀a∈as,a∉M
def TabAt (H:Hp)(M:am)(w:Nat)(Wm:ax)(cs:aw)(e:Key×V):Prop:=∃(p:Int)(ta:Addr)(n:Nat)(rs:am),e=(.inl p,.ref ta)/\ta∈M/\H ta=some (.lst (rs.map Z'))/\LH H rs (dE w Wm cs p n)/\n<=Wm.length/\Piv w Wm cs p n/\∀r∈rs,r∉M
structure Spn {K:ap}{mg:bh}(T:Tx K mg)(H:Hp)(x dx Kp Cl Tb:Addr)(us:am)(kvs:List (Key×V))(M:am)(w:Nat)(Wm:ax)(cs:aw)(pl:Int):Prop where
 hx:H x=some (.ins T.QW dx (i9 w Kp Cl pl Tb))
 hK:H Kp=some (.lst (us.map Z'))
 hC:H Cl=some (.lst ((cs.map λc:Nat=>(c:Int)).map V'))
 hT:H Tb=some (.dK kvs)
 lk:us.length=Wm.length
 lc:cs.length=Wm.length
 vec:∀(i:Nat)(u:Addr)(q:ac),us[i]?=some u->Wm[i]?=some q->VecAt H M u q
 tab:∀e∈kvs,TabAt H M w Wm cs e
 inj:∀e∈kvs,∀e'∈kvs,e.2=e'.2->e.1=e'.1
 mem:x∈M/\Kp∈M/\Cl∈M/\Tb∈M
 out:∀e∈kvs,e.2≠.ref Kp/\e.2≠.ref Cl
 ne:Kp≠Cl
 al:∀a∈M,∃o,H a=some o
def KX (M:am)(H H':Hp):Prop:=∀y o,y∉M->H y=some o->H' y=some o
theorem LH.kx {H b:Hp}{as:am}{ps:ac}{M:am}(h:LH H as ps)(k:KX M H b)(n:∀a∈as,a∉M):LH b as ps:=⟨h.len,λi a p c d=>k _ _ (n a (bT c)) (h.get i a p c d)⟩
theorem VecAt.same {H a:Hp}{M:am}{u:Addr}{q:ac}(h:VecAt H M u q)(s:Same H a):VecAt a M u q:=by
 obtain⟨as,b,c,d,e⟩:=h;exact⟨as,s _ _ b,c.same s,d,e⟩
theorem TabAt.same {H a:Hp}{M:am}{w:Nat}{Wm:ax}{cs:aw}{e:Key×V}(h:TabAt H M w Wm cs e)(s:Same H a):TabAt a M w Wm cs e:=by
 obtain⟨p,b,n,c,d,f,g,i,j⟩:=h;exact⟨p,b,n,c,d,f,s _ _ g,i.same s,j⟩
section
variable {K:ap}{mg:bh}{T:Tx K mg}{H H':Hp}{x dx Kp Cl Tb:Addr}{us:am}{kvs:List (Key×V)}{M:am}{w:Nat}{Wm:ax}{cs:aw}{pl:Int}
theorem Spn.same (S:Spn T H x dx Kp Cl Tb us kvs M w Wm cs pl)(s:Same H H'):Spn T H' x dx Kp Cl Tb us kvs M w Wm cs pl:=
 ⟨s _ _ S.hx,s _ _ S.hK,s _ _ S.hC,s _ _ S.hT,S.lk,S.lc,λi u q b c=>(S.vec i u q b c).same s,λe d=>(S.tab e d).same s,S.inj,S.mem,S.out,S.ne,λa f=>by obtain⟨o,e⟩:=S.al a f;exact⟨o,s _ _ e⟩⟩
theorem Spn.put {p:Int}{D:Addr}(S:Spn T H x dx Kp Cl Tb us kvs M w Wm cs pl)(d:H D=none)(hn:∀e∈kvs,e.1≠.inl p):
  Spn T (L2.upd (L2.upd H D (.lst [])) Tb (.dK (kvs++[(.inl p,.ref D)]))) x dx Kp Cl Tb us (kvs++[(.inl p,.ref D)]) (D :: M) w Wm cs pl:=by
 obtain⟨R,U,X,Y⟩:=S.mem;have u:=az d (.lst []);have f:∀{y:Addr}{o:HO},H y=some o->(∀z,o≠.dK z)->L2.upd (L2.upd H D (.lst [])) Tb (.dK (kvs++[(.inl p,.ref D)])) y=some o:=λ{y o} e Z=>by
  have:y≠Tb:=λz=>by rw[z,S.hT]at e;cases e;exact Z _ rfl
  rw[aC this];exact u _ _ e
 have G:∀{y:Addr}{o:HO},H y=some o->y≠D:=λ{y o} e z=>by rw[z,d]at e;cases e
 have dT:D≠Tb:=λz=>by rw[z,S.hT]at d;cases d
 have O:∀{as:am}{j:ac},LH H as j->LH (L2.upd (L2.upd H D (.lst [])) Tb (.dK (kvs++[(.inl p,.ref D)]))) as j:=λh=>⟨h.len,λi a B I J=>f (h.get i a B I J) (λz y=>nomatch y)⟩
 have k:∀{as:am}{j:ac},LH H as j->(∀a∈as,a∉M)->∀a∈as,a∉D :: M:=λ{as j} h n a C z=>by
  rcases bj.mp z with z|z
  ·obtain⟨i,hi,rfl⟩:=cm.mp C;have:=h.get i _ _ (ao hi) (ao #v[<-h.len,hi]);exact G this z
  ·exact n a C z
 refine⟨f S.hx (λz y=>nomatch y),f S.hK (λz y=>nomatch y),f S.hC (λz y=>nomatch y),ak,S.lk,S.lc,λi v q I J=>?_,λe b=>?_,λe b P c z=>?_,⟨.tail _ R,.tail _ U,.tail _ X,.tail _ Y⟩,λe b=>?_,S.ne,λa C=>?_⟩
 ·obtain⟨as,g,m,s,F⟩:=S.vec i v q I J;refine⟨as,f g (λz y=>nomatch y),O m,λz=>?_,k m F⟩;rcases bj.mp z with z|z
  ·exact G g z
  ·exact s z
 ·rcases a8.mp b with b|b
  ·obtain⟨B,L,n,Q,g,m,s,F,h5,h6,h7⟩:=S.tab e b;exact⟨B,L,n,Q,g,.tail _ m,f s (λz y=>nomatch y),O F,h5,h6,k F h7⟩
  ·rw[aW.mp b];exact⟨p,D,0,[],rfl,.head _,#v[aC dT,ak],LH.nil _,aR _,λi hi=>by omega,λr hr=>by simp at hr⟩
 ·have t:∀e∈kvs,e.2≠.ref D:=λe b z=>by
   obtain⟨B,L,n,Q,g,m,s,_⟩:=S.tab e b;rw[g]at z;have:L=D:=by injection z
   exact G s this
  rcases a8.mp b with b|b <;> rcases a8.mp c with c|c
  ·exact S.inj e b P c z
  ·rw[aW.mp c]at z ⊢;exact absurd z (t e b)
  ·rw[aW.mp b]at z ⊢;exact absurd z.symm (t P c)
  ·rw[aW.mp b,aW.mp c]
 ·rcases a8.mp b with b|b
  ·exact S.out e b
  ·rw[aW.mp b];refine⟨λz=>?_,λz=>?_⟩
   ·injection z with z;rw[z,S.hK]at d;cases d
   ·injection z with z;rw[z,S.hC]at d;cases d
 ·by_cases z:a=Tb
  ·rw[z];exact⟨_,ak⟩
  ·rw[aC z];rcases bj.mp C with y|y
   ·rw[y];exact⟨_,ak⟩
   ·obtain⟨o,e⟩:=S.al a y;exact⟨o,u _ _ e⟩
theorem Spn.row {p:Int}{b R:Addr}{n:Nat}{rs:am}(S:Spn T H x dx Kp Cl Tb us kvs M w Wm cs pl)(s:(Sum.inl p,Z' b)∈kvs)(t:H b=some (.lst (rs.map Z')))(B:LH H rs (dE w Wm cs p n))(c:∀r∈rs,r∉M)(L:n<Wm.length)(O:Piv w Wm cs p (n+1))(P:H R=some (.lst ((fx w Wm cs p n).map V')))(F:R∉M):
  Spn T (L2.upd H b (.lst ((rs++[R]).map Z'))) x dx Kp Cl Tb us kvs M w Wm cs pl:=by
 obtain⟨p0,Q,n0,U,X,Y,g3,_⟩:=S.tab _ s;have G:b∈M:=by injection X with _ z;injection z with z;rw[z];exact Y
 have kx:KX M H (L2.upd H b (.lst ((rs++[R]).map Z'))):=λy o Z e=>by
  have d:y≠b:=λz=>Z #v[z,G];rw[aC d];exact e
 have o:=S.out _ s;have I:∀{y:Addr}{u:HO},H y=some u->(∀z,u≠.lst z)->L2.upd H b (.lst ((rs++[R]).map Z')) y=some u:=λ{y u} e hz=>by
  rw[aC (λz=>by rw[z,t]at e;cases e;exact hz _ rfl)];exact e
 refine⟨I S.hx (λz y=>nomatch y),?_,?_,I S.hT (λz y=>nomatch y),S.lk,S.lc,λi v q e1 e2=>?_,λe f=>?_,S.inj,S.mem,S.out,S.ne,λa ha=>?_⟩
 ·rw[aC (λz=>o.1 (by rw[z]))];exact S.hK
 ·rw[aC (λz=>o.2 (by rw[z]))];exact S.hC
 ·obtain⟨as,j,C,k,m⟩:=S.vec i v q e1 e2;exact⟨as,kx _ _ k j,C.kx kx m,k,m⟩
 ·by_cases z:e.2=.ref b
  ·have ek:=S.inj _ f _ s z;have ee:e=(.inl p,.ref b):=Prod.ext ek z;rw[ee];refine⟨p,b,n+1,rs++[R],rfl,G,ak,?_,L,O,λr hr=>?_⟩
   ·exact (B.kx kx c).snoc (kx _ _ F P)
   ·rcases a8.mp hr with h|h
    ·exact c r h
    ·rw[aW.mp h];exact F
  ·obtain⟨p',g,n',D,j,C,k,m,h5,h6,J⟩:=S.tab e f;have d:g≠b:=λy=>z (by rw[j,y]);exact⟨p',g,n',D,j,C,#v[aC d,k],m.kx kx J,h5,h6,J⟩
 ·by_cases z:a=b
  ·rw[z];exact⟨_,ak⟩
  ·rw[aC z];exact S.al a ha
end
def KW (x Kp Cl Tb:Addr)(kvs:List (Key×V))(H H':Hp):Prop:=∀y o,y≠x->y≠Kp->y≠Cl->y≠Tb->(∀e∈kvs,e.2≠Z' y)->H y=some o->H' y=some o
theorem Spn.kx {K:ap}{mg:bh}{T:Tx K mg}{H b:Hp}{x j c f g:Addr}{us:am}{a:List (Key×V)}{M:am}{w:Nat}{Wm:ax}{cs:aw}{pl:Int}(S:Spn T H x j c f g us a M w Wm cs pl)(k:KW x c f g a H b):KX M H b:=λy o i e=>by
 obtain⟨m,q,r,s⟩:=S.mem;have d:∀{z:Addr},z∈M->y≠z:=λ{z} t h=>i #v[h,t];refine k y o (d m) (d q) (d r) (d s) (λu B z=>?_) e;obtain⟨p,F,n,G,C,D,_⟩:=S.tab u B;rw[C]at z;injection z with z;exact i #v[<-z,D]
structure TBd (w:Nat)(Wm:ax)(cs:aw)(p:Int):Prop where
 w20:w<=20
 bp:Bd 40 p
 low:∀n,n<Wm.length->Piv w Wm cs p n->LowOk (cn w (Wm.getD n []) n p) (dE w Wm cs p n) cs
 vec:∀q∈Wm,q.length<=20/\∀f∈q,f.length<=60/\∀c∈f,Bd 1000 c
theorem Nh {K:ap}{H:Hp}{a:Addr}{b:List (Key×V)}(h:H a=some (.dK b)):tyV K "dict" (.ref a) H:=.inr (.inr (.inl ⟨rfl,.inl ⟨_,h⟩⟩))
def Ni {K:ap}{mg:bh}(T:Tx K mg):Sp:=λvs H Q _=>∃(x dx Kp Cl Tb:Addr)(us:am)(kvs:List (Key×V))(M:am)(w:Nat)(Wm:ax)(cs:aw)(pl p:Int),vs=[.ref x,.int p]/\Spn T H x dx Kp Cl Tb us kvs M w Wm cs pl/\TBd w Wm cs p/\kvs.length<=900/\Wm.length<=20/\
 ∀(H':Hp)(kvs':List (Key×V))(M':am),Spn T H' x dx Kp Cl Tb us kvs' M' w Wm cs pl->KW x Kp Cl Tb kvs H H'->(∀a∈M,a∈M')->(∀a∈M',a∈M\/H a=none)->kvs'.length<=kvs.length+1->(∀e∈kvs',e∈kvs\/∀a,e.2=Z' a->H a=none)->
  (∀(ta:Addr)(rs:am),ta∈M'->H' ta=some (.lst (rs.map Z'))->LH H' rs (dE w Wm cs p Wm.length)->Piv w Wm cs p Wm.length->Q (.ref ta) H')/\(¬Piv w Wm cs p Wm.length->Q .non H')
theorem Nj {b:List (Key×V)}{k:Key}(h:fe b k=none):(∀e∈b,e.1≠k)/\∀v,iW b k v=b++[(k,v)]:=by
 have a:∀e∈b,e.1≠k:=λe c z=>by
  unfold fe at h;rw[Option.map_eq_none_iff,List.find?_eq_none]at h;exact h e c (by simp[z])
 refine⟨a,λv=>?_⟩;unfold iW;rw[if_neg];rw[List.any_eq_true]
 rintro ⟨e,c,z⟩
 exact a e c (⇑z)
theorem Nk {a:List (Key×V)}{k:Key}{u:V}(h:fe a k=some u):(k,u)∈a:=by
 unfold fe at h;obtain⟨e,b,rfl⟩:=cZ.mp h;have c:=List.find?_some b;have d:=List.mem_of_find?_eq_some b;have:e.1=k:=by simpa using c
 rw[<-this];exact d
theorem FI:FnOk P w K mg base CX0 3 T.TV T.TW ["self","place"] (Ni T):=by
 refine T.VR.ok tL (λvs H Q E h=>?_) (λm2 A outer s H vs Q E hr h=>?_)
 ·obtain⟨x,dx,U,X,Y,us,f,M,w,Wm,j,pl,p,rfl,_⟩:=h;rfl
 obtain⟨x,dx,U,X,Y,us,f,M,w,Wm,j,pl,p,rfl,S,B,l9,n2,q⟩:=h;refine⟨_,s!"mȠ-ĔȟdƝƞƟƠɎȝ,#ə$˝¬ʢ˴ȩɒĔȟʢɯĔɋŉȴŊŋŌɌʇō1ŎȯŏɌȳɎ˖ɮɏȝ-ʕ˵ȳȺȳɎ˖Ȧʃ˶˞Ȱ˙˚",?_⟩
 obtain⟨J,hJ⟩:∃J:Nat->L2.St->Hp->Prop,∀m σ L,J m σ L↔∃(k:Addr)(n:Nat)(t:am)(b:List (Key×V))(G:am)(r3 r4:Option V),σ=[some (Z' x),some (V' p),some (Z' k),r3,r4]/\Spn T L x dx U X Y us b G w Wm j pl/\(Sum.inl p,Z' k)∈b/\L k=some (.lst (t.map Z'))/\LH L t (dE w Wm j p n)/\n<=Wm.length/\Piv w Wm j p n/\(∀r∈t,r∉G)/\KW x U X Y f H L/\(∀a∈M,a∈G)/\(∀a∈G,a∈M\/H a=none)/\b.length<=f.length+1/\(∀e∈b,e∈f\/∀a,e.2=Z' a->H a=none)/\m=Wm.length-n:=⟨_,λ_ _ _=>Iff.rfl⟩
 w_left;refine fP (λσ L=>∃m,J m σ L) ?_ ?_
 ·w_left;k_units
  refine⟨_,_,_,S.hx,T.QV,T.U2,_,rfl,Nh S.hT,aR _,λD O=>⟨Y,rfl,f,.inl p,rfl,az O _ _ _ S.hT,l9,λu hu=>?_,λZ=>?_⟩⟩
  ·have u1:=az O (.lst []);have he:=Nk hu;obtain⟨p',k,n,t,h1,h2,h3,h4,h5,h6,h7⟩:=S.tab _ he;injection h1 with z1 z2;injection z1 with z1;subst z1 z2;exact⟨_,(hJ _ _ _).mpr ⟨k,n,t,f,M,none,none,rfl,S.same u1,he,u1 _ _ h3,h4.same u1,h5,h6,h7,λy o _ _ _ _ _ e=>u1 _ _ e,λ_ h=>h,λ_ h=>.inl h,(),λ_ h=>.inl h,rfl⟩⟩
  ·obtain⟨m1,n1⟩:=Nj Z;rw[n1];have c:=S.put O m1;have dT:D≠Y:=λz=>by rw[z,S.hT]at O;cases O
   refine⟨_,(hJ _ _ _).mpr ⟨D,0,[],_,D :: M,none,none,rfl,c,by simp,#v[aC dT,ak],LH.nil _,aR _,λi hi=>by omega,λr hr=>by simp at hr,λy o _ _ _ d _ e=>?_,λa h=>.tail _ h,λa h=>?_,by simp,λe h=>?_,rfl⟩⟩
   ·rw[aC d];exact az O _ _ _ e
   ·rcases bj.mp h with z|z
    ·exact .inr #v[z,O]
    ·exact .inl z
   ·rcases a8.mp h with z|z
    ·exact .inl z
    ·rw[aW.mp z];exact .inr λa y=>by injection y with y;rw[<-y];exact O
 rintro σ H1 ⟨m,hm⟩
 w_up
 refine gU J m hm ?_;clear hm;intro m σ H2 hm;obtain⟨k,n,t,b,G,r3,r4,rfl,c,he,g,C,nk,pv,x0,kx,ms,mf,y0,tk,rfl⟩:=(hJ _ _ _).mp hm;have u0:(t.map Z').length=n:=by rw[af,C.len,eh]
 have x2:(us.map Z').length=Wm.length:=by rw[af];exact c.lk
 obtain⟨q1,q2⟩:=q H2 b G c kx ms mf y0 tk;obtain⟨_,x3,_,_,g1,g2,_⟩:=c.tab _ he;have tM:k∈G:=by injection g1 with _ z;injection z with z;rw[z];exact g2
 w_left;k_units
 refine⟨_,.inl (SqL.of g),_,_,_,c.hx,T.QV,T.QY,_,rfl,U,rfl,_,.inl (SqL.of c.hK),?_⟩;rw[u0,x2];refine bO (λz=>?_) (λz=>?_)
 ·have Z:n<Wm.length:=by omega
  have hu:n<us.length:=by have:=c.lk;omega
  have y1:Wm[n]?=some Wm[n]:=ao Z;obtain⟨as,v1,v2,v3,v4⟩:=c.vec n _ _ (ao hu) y1;have ek:Wm.getD n []=Wm[n]:=by rw[aq,y1];rfl
  obtain⟨b1,b2⟩:=B.vec _ (bY Z);have lo:=B.low n Z pv;have j0:n<j.length:=by have:=c.lc;omega
  refine⟨J (Wm.length-(n+1)),λy3 L z=>⟨_,(),z⟩,_,.inl (SqL.of g),_,_,c.hx,rfl,_,_,_,c.hx,T.QV,T.QY,_,rfl,U,rfl,?_⟩;rw[u0];refine⟨_,SqL.of c.hK,Z' us[n],fE (by rw[aG,ao hu];rfl),x,dx,U,X,Y,us[n],pl,w,n,p,as,Wm[n],rfl,c.hx,SqL.of v1,v2.ll,B.w20,b1,B.bp,b2,λR H3 s3 nR eR=>?_⟩;have S3:=c.same s3;rw[<-ek]at eR;refine⟨_,_,_,S3.hx,T.QV,T.Q3,_,rfl,R,k,X,_,t,_,j,rfl,SqL.of eR,SqL.of (s3 _ _ g),(C.same s3).ll,SqL.of S3.hC,lo,λI H4 s4 dR y2=>?_⟩;have S4:=S3.same s4;have F:=s3.trans s4;rw[eh]at dR y2;have u2:H4 I=some (.lst ((fx w Wm j p n).map V'))/\H2 I=none:=by
   rcases dR with ⟨z1,z2⟩|⟨z1,z2⟩
   ·have n0:n=0:=by have:=eh w Wm j p n;rw[z2]at this;exact this.symm
    subst n0;rw[z1];exact⟨s4 _ _ eR,nR⟩
   ·exact⟨z2,s3.free z1⟩
  obtain⟨k0,j2⟩:=u2;have ll:=oj lo n #v[eh,aA _];have j1:=lo.col _ (bY j0);refine⟨_,_,_,S4.hx,T.QV,T.Q3,_,rfl,X,rfl,_,SqL.of S4.hC,V' (j[n]:Int),fE (by rw[aG,aG,ao j0];rfl),I,rfl,_,_,rfl,SqL.of k0,_,lJ (show j[n]<(fx w Wm j p n).length by unfold fx;rw[ll];exact j1),?_⟩;have ec:j.getD n 0=j[n]:=by rw[aq,ao j0];rfl
  have k1:KW x U X Y f H H4:=λy o a1 a2 a3 a4 a5 e=>F _ _ (kx y o a1 a2 a3 a4 a5 e);have x1:I∉G:=λz=>by obtain⟨o,e⟩:=c.al _ z;rw[j2]at e;cases e
  w_left;k_units
  refine bO (λz0=>?_) (λz0=>?_)
  ·exact (q H4 b G S4 k1 ms mf y0 tk).2 λhp=>hp n Z #v[ec,z0]
  have hp1:Piv w Wm j p (n+1):=λi hi=>by
   by_cases z:i<n
   ·exact pv i z
   ·rw[show i=n by omega,ec];exact z0
  have S5:=S4.row he (F _ _ g) (C.same F) x0 Z hp1 k0 x1;have k2:∀r∈t++[I],r∉G:=λr hr=>by
   rcases a8.mp hr with h|h
   ·exact x0 r h
   ·rw[aW.mp h];exact x1
  have kt:KX G H4 (L2.upd H4 k (.lst ((t++[I]).map Z'))):=λy o ny e=>by
   have d:y≠k:=λz=>ny #v[z,tM];rw[aC d];exact e
  have et:(t++[I]).map Z'=t.map Z'++[Z' I]:=by rw[aT];rfl
  rw[et]at S5 kt;refine⟨fO (SqL.of (F _ _ g)),_,F _ _ g,#v[u0,bD ()],(hJ _ _ _).mpr ⟨k,n+1,t++[I],b,G,_,_,rfl,S5,he,by rw[ak,et],?_,(),hp1,k2,λy o a1 a2 a3 a4 a5 e=>?_,ms,mf,y0,tk,rfl⟩⟩
  ·exact ((C.same F).kx kt x0).snoc (kt _ _ x1 k0)
  ·have e4:=k1 y o a1 a2 a3 a4 a5 e;have d:y≠k:=λz=>by
    rcases tk _ he with h|h
    ·exact a5 _ h (by rw[z])
    ·rw[z,h k rfl]at e;cases e
   rw[aC d];exact e4
 ·have e:n=Wm.length:=by omega
  rw[e]at C pv;exact q1 k t tM g C pv
def dI (w:Nat)(Wm:ax)(cs:aw)(q:ac)(p:Int):aa:=(dh (cn w q Wm.length p) (dE w Wm cs p Wm.length) cs Wm.length).2
theorem VecAt.kx {H a:Hp}{M:am}{u:Addr}{q:ac}(h:VecAt H M u q)(k:KX M H a):VecAt a M u q:=by
 obtain⟨as,d,e,b,c⟩:=h;exact⟨as,k _ _ b d,e.kx k c,b,c⟩
theorem VecAt.more {H:Hp}{M M':am}{u:Addr}{q:ac}(h:VecAt H M u q)(d:∀a∈M',a∈M\/H a=none):VecAt H M' u q:=by
 obtain⟨as,c,b,f,g⟩:=h;have ne:∀{y:Addr}{o:HO},H y=some o->y∉M->y∉M':=λ{y o} e n z=>by
  rcases d y z with h|h
  ·exact n h
  ·rw[h]at e;cases e
 refine⟨as,c,b,ne c f,λa j=>?_⟩;obtain⟨i,hi,rfl⟩:=cm.mp j;exact ne (b.get i _ _ (ao hi) (ao #v[<-b.len,hi])) (g _ (bY hi))
def Nl {K:ap}{mg:bh}(T:Tx K mg):Sp:=λvs H Q _=>∃(x dx Kp Cl Tb Vc:Addr)(us:am)(kvs:List (Key×V))(M:am)(w:Nat)(Wm:ax)(cs:aw)(pl p:Int)(q:ac),vs=[.ref x,.ref Vc,.int p]/\Spn T H x dx Kp Cl Tb us kvs M w Wm cs pl/\TBd w Wm cs p/\kvs.length<=900/\Wm.length<=20/\VecAt H M Vc q/\q.length<=20/\(∀f∈q,f.length<=60/\∀c∈f,Bd 1000 c)/\(Piv w Wm cs p Wm.length->LowOk (cn w q Wm.length p) (dE w Wm cs p Wm.length) cs)/\
 ∀(H':Hp)(kvs':List (Key×V))(M':am),Spn T H' x dx Kp Cl Tb us kvs' M' w Wm cs pl->KW x Kp Cl Tb kvs H H'->(∀a∈M,a∈M')->(∀a∈M',a∈M\/H a=none)->kvs'.length<=kvs.length+1->(∀e∈kvs',e∈kvs\/∀a,e.2=Z' a->H a=none)->
  (∀R:Addr,R∉M'->H' R=some (.lst ((dI w Wm cs q p).map V'))->Piv w Wm cs p Wm.length->Q (.ref R) H')/\(¬Piv w Wm cs p Wm.length->Q .non H')
theorem FJ:FnOk P w K mg base CX0 4 T.TX T.TY ["self","vector","place"] (Nl T):=by
 refine T.VS.ok Fp (λvs H Q E h=>?_) (λy0 A outer s H vs Q E t h=>?_)
 ·obtain⟨x,k,m,n,u,Vc,C,c,M,w,Wm,d,pl,p,q,rfl,_⟩:=h;rfl
 obtain⟨x,k,m,n,u,Vc,C,c,M,w,Wm,d,pl,p,q,rfl,S,B,l9,D,hV,F,bq,lo,f⟩:=h;refine⟨_,s!"ɒơȟʇŐ1őȤĕŒʻɫïȫ˟]ɹȥŉȤĕ ŊŋŌɌʇō1ŎȤĕŏʫ#˴ɡɮʕ",?_⟩
 w_up
 refine⟨k,_,S.hx,rfl,x,k,m,n,u,C,c,M,w,Wm,d,pl,p,rfl,S,B,l9,D,λH1 a G b kx ms mf lk tk=>⟨λta rs tM I J pv=>?_,λnp=>?_⟩⟩
 ·obtain⟨as,v1,v2,v3,v4⟩:=hV.kx (S.kx kx)
  w_up
  rw[if_neg (λz=>nomatch z)];have L:(C.map Z').length=Wm.length:=by rw[af];exact b.lk
  refine⟨_,_,b.hx,rfl,_,_,_,b.hx,T.QV,T.QY,_,rfl,m,rfl,_,.inl (SqL.of b.hK),?_⟩;rw[L];refine⟨x,k,m,n,u,Vc,pl,w,Wm.length,p,as,q,rfl,b.hx,SqL.of v1,v2.ll,B.w20,F,B.bp,bq,λR H3 g nR O=>?_⟩;have U:=b.same g;refine⟨_,_,_,U.hx,T.QV,T.Q3,_,rfl,R,ta,n,_,rs,_,d,rfl,SqL.of O,SqL.of (g _ _ I),(J.same g).ll,SqL.of U.hC,lo pv,λr H4 X dR Y=>?_⟩;have S4:=U.same X;rw[eh]at dR Y;have j:H4 r=some (.lst ((dI w Wm d q p).map V'))/\H1 r=none:=by
   rcases dR with ⟨Z,z2⟩|⟨Z,z2⟩
   ·have n0:Wm.length=0:=by have:=eh w Wm d p Wm.length;rw[z2]at this;exact this.symm
    unfold dI;rw[n0]at O ⊢;rw[Z];exact⟨X _ _ O,nR⟩
   ·exact⟨z2,g.free Z⟩
  have x0:r∉G:=λz=>by obtain⟨o,e⟩:=b.al _ z;rw[j.2]at e;cases e
  exact (f H4 a G S4 (λy o a1 a2 a3 a4 a5 e=>X _ _ (g _ _ (kx y o a1 a2 a3 a4 a5 e))) ms mf lk tk).1 r x0 j.1 pv
 ·w_left;k_units
  exact (f H1 a G b kx ms mf lk tk).2 np
def dV (qs:ax)(ws:ac)(c:Nat):Nat->aa
 | 0=>[]
 | n+1=>fq (dV qs ws c n) (aQ ((qs.getD n []).getD c []) (ws.getD n []))
theorem mem_getD {α:Type}{xs:List α}{i:Nat}{d:α}(h:i<xs.length):xs.getD i d∈xs:=#v[aq,ao h,bY _]
structure FcOk (w:Nat)(qs:ax)(ws:ac):Prop where
 len:ws.length=qs.length
 few:qs.length<=20
 w20:w<=20
 wid:∀q∈qs,q.length=w
 bq:∀q∈qs,∀f∈q,f.length<=40/\∀c∈f,Bd 1000 c
 bw:∀f∈ws,f.length<=40/\∀c∈f,Bd 20000 c
theorem Au {w:Nat}{a:ax}{ws:ac}{c:Nat}(o:FcOk w a ws)(d:c<w):∀n,n<=a.length->(dV a ws c n).length<=80/\∀x∈dV a ws c n,Bd (21010+n) x
 | 0,_=>⟨aR _,λx hx=>by simp[dV]at hx⟩
 | n+1,hn=>by
  obtain⟨p,e⟩:=Au o d n ();have b:(a.getD n [])∈a:=mem_getD ();have f:(ws.getD n [])∈ws:=mem_getD (by have:=o.len;omega);have q:=o.wid _ b;have g:((a.getD n []).getD c [])∈a.getD n []:=mem_getD ();obtain⟨h,i⟩:=o.bq _ b _ g;obtain⟨r,j⟩:=o.bw _ f;have s:(aQ ((a.getD n []).getD c []) (ws.getD n [])).length<=80:=by
   by_cases z:ws.getD n []=[]
   ·rw[z,Aj];exact aR _
   ·have:=Ap ((a.getD n []).getD c []) (ws.getD n []) z;omega
  have m:∀k,Bd 21006 (co (aQ ((a.getD n []).getD c []) (ws.getD n [])) k):=λk=>by
   rw[oh];exact hI (c:=6) i j (aM h ()) k
  refine⟨aM (Ao _ _) (),cu λk=>?_⟩;show Bd _ (co (fq _ _) k);rw[tT];exact (cN (P:=λv=>Bd (21010+n) v) e (Bd.zero _) k).add ((m k).mono ())
def Nm {K:ap}{mg:bh}(T:Tx K mg):Sp:=λvs H Q _=>∃(x dx Kp Cl Tb Vc Wt:Addr)(us:am)(kvs:List (Key×V))(M:am)(w:Nat)(Wm:ax)(cs:aw)(pl:Int)(q:ac)(ad:am)(ws:ac),vs=[.ref x,.ref Vc,.ref Wt]/\Spn T H x dx Kp Cl Tb us kvs M w Wm cs pl/\VecAt H M Vc q/\SqL K H Wt (ad.map Z')/\LL K H ad ws/\FcOk w (Wm++[q]) ws/\
 ∀H',Same H H'->(∀c:Nat,c<w->c∉cs->dV (Wm++[q]) ws c (Wm.length+1)≠[]->(∀c',c'<c->c'∉cs->dV (Wm++[q]) ws c' (Wm.length+1)=[])->Q (.int (c:Int)) H')/\((∀c,c<w->c∉cs->dV (Wm++[q]) ws c (Wm.length+1)=[])->Q .non H')
theorem No:FnOk P w K mg base CX0 4 T.T2 T.T3 ["self","vector","weights"] (Nm T):=by
 refine T.VV.ok lI (λvs H Q E h=>?_) (λy3 A outer s H vs Q E hr h=>?_)
 ·obtain⟨x,dx,Kp,Cl,Tb,b,Wt,C,z1,M,w,Wm,U,pl,q,ad,X,rfl,_⟩:=h;rfl
 obtain⟨x,dx,Kp,Cl,Tb,b,Wt,C,z1,M,w,Wm,U,pl,q,ad,X,rfl,S,hV,hW,lW,o,x0⟩:=h;refine⟨_,s!"ʬɸʼØȟɫƢȫɎƣ.ƤIɯØ˗Ʌˁ#*zɎEɏɡʷ?ØʸCØʹɑ6Øɋåȴæçèȧ6ʐʿɌȳɛ˖ȝCʌ.Ɉhȷ6$ʃȫɹ]",?_⟩
 w_up
 refine⟨_,_,_,S.hx,T.QV,T.Q4,_,rfl,_,rfl,by have:=o.w20;omega,by have:=o.w20;omega,?_⟩;rw[iD];have w20:=o.w20;obtain⟨Pv,g⟩:∃Pv:Nat->L2.St->Hp->Prop,∀i σ F,Pv i σ F↔∃r3 r4 Y Z:Option V,σ=[some (Z' x),some (Z' b),some (Z' Wt),r3,r4,Y,Z]/\Same H F/\∀c,c<i->c∉U->dV (Wm++[q]) X c (Wm.length+1)=[]:=⟨_,λ_ _ _=>Iff.rfl⟩
 refine gY Pv ((g _ _ _).mpr ⟨none,none,none,none,rfl,Same.refl _,λc B=>by omega⟩) ?_ ?_
 ·intro i σ H1 hi hp;obtain⟨r3,r4,Y,Z,rfl,s1,hz⟩:=(g _ _ _).mp hp;have e0:(0:Int)+(i:Int)=(i:Int):=ii _;have S1:=S.same s1;have fl:((U.map λc:Nat=>(c:Int)).map V').all gy=true:=by simp[gy]
  w_up
  rw[e0];refine⟨_,_,_,S1.hx,T.QV,T.Q3,_,rfl,Cl,rfl,_,.inl (SqL.of S1.hC),rfl,fl,?_⟩;rw[LF];have G:((i:Int)∈U.map λc:Nat=>(c:Int))↔i∈U:=by
   rw[aZ];constructor
   ·rintro ⟨c,B,e⟩
    rw[show i=c by omega];exact B
   ·intro h;exact⟨i,h,rfl⟩
  refine bO (λz=>?_) (λz=>?_)
  ·have j1:=G.mp (⇑z);refine (g _ _ _).mpr ⟨_,_,_,_,rfl,s1,λc B I=>?_⟩;by_cases y:c=i
   ·rw[y]at I;exact absurd j1 I
   ·exact hz c () I
  have y0:i∉U:=λh=>z (by simpa using G.mpr h)
  w_up
  refine⟨aR _,λA0 k1=>?_⟩;have u0:=az k1 (.lst []);have z0:=ak (H:=H1) (a:=A0) (o:=.lst []);generalize L2.upd H1 A0 (.lst [])=H2 at u0 z0 ⊢;have S2:=S1.same u0
  w_up
  refine⟨_,_,_,S2.hx,T.QV,T.QY,_,rfl,(),λq1 m1=>?_⟩;have u1:=az m1 (.lst [Z' b]);refine⟨Kp,rfl,_,u1 _ _ S2.hK,_,ak,?_,λq2 m2=>?_⟩
  ·rw[af];have:=S.lk;have:=o.few;simp at this;exact dm (bD (by simp;omega))
  have u2:=az m2 (.lst (C.map Z'++[Z' b]));have J:=ak (H:=L2.upd H2 q1 (.lst [Z' b])) (a:=q2) (o:=.lst (C.map Z'++[Z' b]));have s2:=s1.trans (u0.trans (u1.trans u2));have eA:=(u1.trans u2) _ _ z0;generalize L2.upd (L2.upd H2 q1 (.lst [Z' b])) q2 (.lst (C.map Z'++[Z' b]))=H3 at J s2 eA ⊢;have lk:=S.lk;have few:=o.few;rw[b4]at few;simp only[cC,Bi]at few;have lq:(Wm++[q]).length=Wm.length+1:=by simp
  have j0:=kr (Φ:=λu qv=>VecAt H M u qv) (L:=Wm++[q]) (rs:=C) (r:=b) (λt u qv e1 J=>by
   have ht:t<Wm.length:=by have:=(aY.mp e1).1;omega
   rw[cA ht]at J;exact S.vec t u qv e1 J) (λqv J=>by
   rw[cQ (),show C.length-Wm.length=0 by omega]at J
   cases Option.some.inj J
   exact hV)
  have k0:H3 q2=some (.lst ((C++[b]).map Z')):=by rw[J,aT];rfl
  obtain⟨Pz,j⟩:∃Pz:Nat->L2.St->Hp->Prop,∀n σ F,Pz n σ F↔∃(An:Addr)(Y Z:Option V),σ=[some (Z' x),some (Z' b),some (Z' Wt),some (V' (i:Int)),some (Z' An),Y,Z]/\F An=some (.lst ((dV (Wm++[q]) X i n).map V'))/\Same H3 F:=⟨_,λ_ _ _=>Iff.rfl⟩
  refine⟨_,SqL.of k0,_,s2.seq hW,zC (xs:=(C++[b]).map Z') (ys:=ad.map Z') Pz ((j _ _ _).mpr ⟨A0,Y,Z,rfl,eA,Same.refl _⟩) (λn σ F _ _ y=>by obtain⟨_,_,_,_,_,y⟩:=(j n σ F).mp y;exact⟨SqL.of (y _ _ k0),(s2.trans y).seq hW⟩) ?_ ?_⟩
  ·intro n v1 v2 pr σ H4 e1 e3 O n1;obtain⟨An,t5,t6,rfl,D,s4⟩:=(j _ _ _).mp O;rw[aG]at e1;obtain⟨u,hu,rfl⟩:=cZ.mp e1;have I:n<(Wm++[q]).length:=by have:=(aY.mp hu).1;simp at this ⊢;omega
   obtain⟨a,f,rfl,ha,hf,x2⟩:=lW.nth e3;have y2:(Wm++[q])[n]?=some ((Wm++[q]).getD n []):=ol I;obtain⟨as,v1,v2,v3,v4⟩:=j0 n u _ hu y2;have n0:=mem_getD (d:=([]:ac)) I;have m:=o.wid _ n0;have x1:i<as.length:=by rw[v2.len,m];exact hi
   obtain⟨b1,b2⟩:=Au o hi n ();have z2:=bT hf;obtain⟨c1,c2⟩:=o.bw _ z2;have j2:=mem_getD (d:=([]:aa)) (show i<((Wm++[q]).getD n []).length by rw[m];exact hi);obtain⟨d1,d2⟩:=o.bq _ n0 _ j2;have k2:X.getD n []=f:=by rw[aq,hf];rfl
   have p:=v2.get i _ _ (ao x1) (ol (d:=[]) (show i<((Wm++[q]).getD n []).length by rw[m];exact hi));have st:dV (Wm++[q]) X i (n+1)=fq (dV (Wm++[q]) X i n) (aQ (((Wm++[q]).getD n []).getD i []) f):=by rw[dV,k2]
   obtain⟨g1,g2⟩:=Au o hi (n+1) ();have w1:=az n1 (.tup [Z' u,Z' a]);have R:=s2.trans (s4.trans w1);generalize ((Wm++[q]).getD n []).getD i []=pq at d1 d2 p st;have bm:∀k,Bd 21006 (co (aQ pq f) k):=λk=>by
    rw[oh];exact hI (c:=6) d2 c2 (aM d1 ()) k
   have lm:(aQ pq f).length<=80:=by
    by_cases z:f=[]
    ·rw[z,Aj];exact aR _
    ·have:=Ap pq f z;omega
   w_left;k_units
   refine⟨_,SqT.of ak,rfl,_,_,rfl,_,_,rfl,rfl,?_⟩;refine⟨u,rfl,_,SqL.of (R _ _ v1),Z' as[i],fE (by rw[aG,ao x1];rfl),as[i],a,pq,f,rfl,SqL.of (R _ _ p),R.seq x2,(),(),λc B=>(d2 c B).mono (),λc B=>(c2 c B).mono (),λR1 H5 s5 z3 n2=>?_⟩;refine⟨An,R1,_,_,rfl,SqL.of (s5 _ _ (w1 _ _ D)),SqL.of n2,(),(),λc B=>(b2 c B).mono (),cu λk=>(bm k).mono (),λR2 H6 s6 u3 x3=>?_⟩;exact (j _ _ _).mpr ⟨R2,_,_,rfl,by rw[x3,st],s4.trans (w1.trans (s5.trans s6))⟩
  intro σ H4 O;obtain⟨An,t5,t6,rfl,D,s4⟩:=(j _ _ _).mp O;have y1:min ((C++[b]).map Z').length (ad.map Z').length=Wm.length+1:=by
   have h1:=lW.len;have h2:=o.len;rw[lq]at h2;simp;omega
  rw[y1]at D
  w_left;k_units
  refine⟨_,.inl (SqL.of D),?_⟩;rw[af];refine bO (λz=>?_) (λz=>?_)
  ·exact (x0 H4 (s2.trans s4)).1 i hi y0 (λy=>by rw[y]at z;simp at z) hz
  ·refine (g _ _ _).mpr ⟨_,_,_,_,rfl,s2.trans s4,λc B I=>?_⟩;by_cases y:c=i
   ·rw[y];exact bC ()
   ·exact hz c () I
 intro σ H1 hp;obtain⟨r3,r4,Y,Z,rfl,s1,hz⟩:=(g _ _ _).mp hp
 w_left;k_units
 exact (x0 H1 s1).2 hz
theorem tY {row:aa}{tb:ac}{cs:aw}{c:Nat}:∀i,i<=cs.length->dh row tb (cs++[c]) i=dh row tb cs i
 | 0,_=>rfl
 | i+1,h=>by
  have e:(cs++[c]).getD i 0=cs.getD i 0:=by rw[aq,aq,cA ()]
  rw[dh,dh,tY i (),e]
theorem tZ {w:Nat}{Wm:ax}{cs:aw}{q:ac}{c:Nat}{p:Int}(a:cs.length=Wm.length):∀n,n<=Wm.length->dE w (Wm++[q]) (cs++[c]) p n=dE w Wm cs p n
 | 0,_=>rfl
 | n+1,h=>by
  have e:(Wm++[q]).getD n []=Wm.getD n []:=by rw[aq,aq,cA ()]
  rw[dE,dE,tZ a n (),e,tY n ()]
theorem FK {w:Nat}{Wm:ax}{cs:aw}{q:ac}{c:Nat}{p:Int}{n:Nat}(b:cs.length=Wm.length)(h:n<=Wm.length)(d:Piv w Wm cs p n):Piv w (Wm++[q]) (cs++[c]) p n:=λi hi=>by
 have e:(Wm++[q]).getD i []=Wm.getD i []:=by rw[aq,aq,cA ()]
 have f:(cs++[c]).getD i 0=cs.getD i 0:=by rw[aq,aq,cA ()]
 have a:=d i hi;unfold fx at a ⊢;rw[tZ b i (),e,tY i (),f];exact a
section
variable {K:ap}{mg:bh}{T:Tx K mg}{H:Hp}{x dx Kp Cl Tb:Addr}{us:am}{kvs:List (Key×V)}{M:am}{w:Nat}{Wm:ax}{cs:aw}{pl:Int}
theorem Spn.keep {b:Addr}{q:ac}{c:Nat}(S:Spn T H x dx Kp Cl Tb us kvs M w Wm cs pl)(D:VecAt H M b q):
  Spn T (L2.upd (L2.upd H Kp (.lst ((us++[b]).map Z'))) Cl (.lst (((cs++[c]).map λc:Nat=>(c:Int)).map V'))) x dx Kp Cl Tb (us++[b]) kvs M w (Wm++[q]) (cs++[c]) pl:=by
 obtain⟨U,F,G,X⟩:=S.mem;have kx:KX M H (L2.upd (L2.upd H Kp (.lst ((us++[b]).map Z'))) Cl (.lst (((cs++[c]).map λc:Nat=>(c:Int)).map V'))):=λy o j e=>by
  have d:y≠Cl:=λz=>j #v[z,G];have f:y≠Kp:=λz=>j #v[z,F];rw[aC d,aC f];exact e
 have k:∀{y:Addr}{u:HO},H y=some u->(∀z,u≠.lst z)->L2.upd (L2.upd H Kp (.lst ((us++[b]).map Z'))) Cl (.lst (((cs++[c]).map λc:Nat=>(c:Int)).map V')) y=some u:=λ{y u} e m=>by
  have d:y≠Cl:=λz=>by rw[z,S.hC]at e;cases e;exact m _ rfl
  have f:y≠Kp:=λz=>by rw[z,S.hK]at e;cases e;exact m _ rfl
  rw[aC d,aC f];exact e
 refine⟨k S.hx (λz y=>nomatch y),#v[aC S.ne,ak],ak,k S.hT (λz y=>nomatch y),by simp[S.lk],by simp[S.lc],?_,λe r=>?_,S.inj,S.mem,S.out,S.ne,λa I=>?_⟩
 ·refine kr (Φ:=λu qv=>VecAt _ M u qv) (λt u qv s g=>?_) λqv g=>?_
  ·have J:t<Wm.length:=by have:=(aY.mp s).1;have:=S.lk;omega
   rw[cA J]at g;exact (S.vec t u qv s g).kx kx
  ·rw[cQ (by have:=S.lk;omega),show us.length-Wm.length=0 by have:=S.lk;omega]at g
   cases Option.some.inj g
   exact D.kx kx
 ·obtain⟨p,h,n,L,i,O,P,Q,B,R,C⟩:=S.tab e r;have o:=S.out e r;have d:h≠Cl:=λz=>o.2 (by rw[i,z]);have f:h≠Kp:=λz=>o.1 (by rw[i,z]);refine⟨p,h,n,L,i,O,#v[aC d,aC f,P],?_,by simp;omega,FK S.lc B R,C⟩;rw[tZ S.lc n B];exact Q.kx kx C
 ·by_cases z1:a=Cl
  ·rw[z1];exact⟨_,ak⟩
  ·rw[aC z1];by_cases z2:a=Kp
   ·rw[z2];exact⟨_,ak⟩
   ·rw[aC z2];exact S.al a I
theorem Spn.go {pl':Int}(S:Spn T H x dx Kp Cl Tb us kvs M w Wm cs pl):Spn T (L2.upd H x (.ins T.QW dx (i9 w Kp Cl pl' Tb))) x dx Kp Cl Tb us kvs M w Wm cs pl':=by
 have kx:KX M H (L2.upd H x (.ins T.QW dx (i9 w Kp Cl pl' Tb))):=λy o g e=>by
  have d:y≠x:=λz=>g #v[z,S.mem.1];rw[aC d];exact e
 have b:∀{y:Addr}{u:HO},H y=some u->(∀C d f,u≠.ins C d f)->L2.upd H x (.ins T.QW dx (i9 w Kp Cl pl' Tb)) y=some u:=λ{y u} e h=>by
  have d:y≠x:=λz=>by rw[z,S.hx]at e;cases e;exact h _ _ _ rfl
  rw[aC d];exact e
 refine⟨ak,b S.hK (λ_ _ _ y=>nomatch y),b S.hC (λ_ _ _ y=>nomatch y),b S.hT (λ_ _ _ y=>nomatch y),S.lk,S.lc,λi u q j k=>(S.vec i u q j k).kx kx,λe m=>?_,S.inj,S.mem,S.out,S.ne,λa r=>?_⟩
 ·obtain⟨p,s,n,t,B,D,F,G,I,J,c⟩:=S.tab e m;exact⟨p,s,n,t,B,D,b F (λ_ _ _ y=>nomatch y),G.kx kx c,I,J,c⟩
 ·by_cases z:a=x
  ·rw[z];exact⟨_,ak⟩
  ·rw[aC z];exact S.al a r
theorem Spn.more {D:Addr}{o:HO}(S:Spn T H x dx Kp Cl Tb us kvs M w Wm cs pl)(k:H D=none):Spn T (L2.upd H D o) x dx Kp Cl Tb us kvs (D :: M) w Wm cs pl:=by
 obtain⟨r,s,t,B⟩:=S.mem;have u:=az k o;have C:∀{y:Addr}{o:HO},H y=some o->y≠D:=λ{y o} e z=>by rw[z,k]at e;cases e
 have out:∀{y:Addr}{o:HO},H y=some o->y∉M->y∉D :: M:=λ{y o} e n z=>by
  rcases bj.mp z with z|z
  ·exact C e z
  ·exact n z
 have b:∀{as:am}{m:ac},LH H as m->(∀a∈as,a∉M)->∀a∈as,a∉D :: M:=λ{as m} h n a c=>by
  obtain⟨i,hi,rfl⟩:=cm.mp c;exact out (h.get i _ _ (ao hi) (ao #v[<-h.len,hi])) (n _ c)
 refine⟨u _ _ S.hx,u _ _ S.hK,u _ _ S.hC,u _ _ S.hT,S.lk,S.lc,λi v q F G=>?_,λe I=>?_,S.inj,⟨.tail _ r,.tail _ s,.tail _ t,.tail _ B⟩,S.out,S.ne,λa c=>?_⟩
 ·obtain⟨as,d,f,j,g⟩:=S.vec i v q F G;exact⟨as,u _ _ d,f.same u,out d j,b f g⟩
 ·obtain⟨p,J,n,L,d,f,j,g,O,P,Q⟩:=S.tab e I;exact⟨p,J,n,L,d,.tail _ f,u _ _ j,g.same u,O,P,b g Q⟩
 ·rcases bj.mp c with z|z
  ·rw[z];exact⟨_,ak⟩
  ·obtain⟨R,e⟩:=S.al a z;exact⟨R,u _ _ e⟩
theorem Spn.other {D:Addr}{o:HO}(S:Spn T H x dx Kp Cl Tb us kvs M w Wm cs pl)(h:D∈M)(n1:D≠x)(j:D≠Kp)(k:D≠Cl)(m:D≠Tb)(r:∀e∈kvs,e.2≠.ref D):Spn T (L2.upd H D o) x dx Kp Cl Tb us kvs M w Wm cs pl:=by
 have kx:KX M H (L2.upd H D o):=λy u s e=>by
  have d:y≠D:=λz=>s #v[z,h];rw[aC d];exact e
 refine⟨#v[aC (Ne.symm n1),S.hx],#v[aC (Ne.symm j),S.hK],#v[aC (Ne.symm k),S.hC],#v[aC (Ne.symm m),S.hT],S.lk,S.lc,λi v q t B=>(S.vec i v q t B).kx kx,λe b=>?_,S.inj,S.mem,S.out,S.ne,λa C=>?_⟩
 ·obtain⟨p,c,n,F,f,G,I,J,L,O,g⟩:=S.tab e b;have d:c≠D:=λz=>r e b (by rw[f,z]);exact⟨p,c,n,F,f,G,#v[aC d,I],J.kx kx g,L,O,g⟩
 ·by_cases z:a=D
  ·rw[z];exact⟨_,ak⟩
  ·rw[aC z];exact S.al a C
end
theorem KX.trans {M M':am}{H b c:Hp}(k:KX M H b)(f:KX M' b c)(g:∀a∈M',a∈M\/H a=none):KX M H c:=λy o d e=>by
 refine f y o (λz=>?_) (k y o d e);rcases g y z with h|h
 ·exact d h
 ·rw[h]at e;cases e
theorem ku {M M' M2:am}{H c:Hp}(k:KX M H c)(d:∀a∈M',a∈M\/H a=none)(b:∀a∈M2,a∈M'\/c a=none):∀a∈M2,a∈M\/H a=none:=λa f=>by
 rcases b a f with h|h
 ·exact d a h
 ·by_cases z:a∈M
  ·exact .inl z
  ·refine .inr ?_
   cases e:H a with
   | none=>rfl
   | some o=>rw[k a o z e]at h;cases h
def Np {K:ap}{mg:bh}(T:Tx K mg):Sp:=λvs H Q _=>∃(x dx Kp Cl Tb Vc:Addr)(us:am)(kvs:List (Key×V))(M:am)(w:Nat)(Wm:ax)(cs:aw)(pl:Int)(q:ac)(c N:Nat),vs=[.ref x,.ref Vc,.int (c:Int)]/\Spn T H x dx Kp Cl Tb us kvs M w Wm cs pl/\VecAt H M Vc q/\Wm.length<20/\kvs.length+N+1<=900/\(∀t:Nat,t<=N->TBd w (Wm++[q]) (cs++[c]) (pl+(t:Int)))/\Piv w (Wm++[q]) (cs++[c]) (pl+(N:Int)) (Wm.length+1)/\
 ∀(H':Hp)(kvs':List (Key×V))(M':am)(t:Nat),t<=N->Spn T H' x dx Kp Cl Tb (us++[Vc]) kvs' M' w (Wm++[q]) (cs++[c]) (pl+(t:Int))->Piv w (Wm++[q]) (cs++[c]) (pl+(t:Int)) (Wm.length+1)->KX M H H'->(∀a∈M,a∈M')->(∀a∈M',a∈M\/H a=none)->kvs'.length<=kvs.length+t+1->Q .non H'
theorem FM:FnOk P w K mg base CX0 4 T.T4 T.T5 ["self","vector","column"] (Np T):=by
 refine T.VX.ok MW (λvs H Q E h=>?_) (λy0 A outer s H vs Q E hr h=>?_)
 ·obtain⟨x,G,f,g,F,j,k,r,M,w,Wm,n,pl,q,c,N,rfl,_⟩:=h;rfl
 obtain⟨x,G,f,g,F,j,k,r,M,w,Wm,n,pl,q,c,N,rfl,S,hV,z0,l9,B,pN,x0⟩:=h;refine⟨_,s!"ʭɎɏʭɎɡ.ʀ=ïʇŐ1őȯŒɌɸ]ȩ.ƥȢ&Ʀ",?_⟩
 have lk:=S.lk;have lc:=S.lc
 w_up
 refine⟨_,_,_,S.hx,T.QV,T.QY,_,rfl,fO (SqL.of S.hK),f,rfl,_,S.hK,#v[af,bD ()],?_⟩;have I:L2.upd H f (.lst (k.map Z'++[Z' j])) x=some (.ins T.QW G (i9 w f g pl F)):=by
  rw[aC (J0 S.hx S.hK (λz=>nomatch z))];exact S.hx
 have u:L2.upd H f (.lst (k.map Z'++[Z' j])) g=some (.lst ((n.map λc:Nat=>(c:Int)).map V')):=by
  rw[aC (Ne.symm S.ne)];exact S.hC
 w_up
 refine⟨_,_,_,I,T.QV,T.Q3,_,rfl,fO (SqL.of u),g,rfl,_,u,#v[af,af,bD ()],?_⟩;have S1:=S.keep (c:=c) hV;have eu:(k++[j]).map Z'=k.map Z'++[Z' j]:=by rw[aT];rfl
 have ec:((n++[c]).map λc:Nat=>(c:Int)).map V'=(n.map λc:Nat=>(c:Int)).map V'++[V' (c:Int)]:=by rw[aT,aT];rfl
 rw[eu,ec]at S1;have L:KX M H (L2.upd (L2.upd H f (.lst (k.map Z'++[Z' j]))) g (.lst ((n.map λc:Nat=>(c:Int)).map V'++[V' (c:Int)]))):=λy o Z e=>by
  have d1:y≠g:=λz=>Z #v[z,S.mem.2.2.1];have d2:y≠f:=λz=>Z #v[z,S.mem.2.1];rw[aC d1,aC d2];exact e
 generalize L2.upd (L2.upd H f (.lst (k.map Z'++[Z' j]))) g (.lst ((n.map λc:Nat=>(c:Int)).map V'++[V' (c:Int)]))=H1 at S1 L ⊢;clear I u;have C:(Wm++[q]).length=Wm.length+1:=by simp
 w_up
 obtain⟨J,hJ⟩:∃J:Nat->L2.St->Hp->Prop,∀m σ H',J m σ H'↔∃(t:Nat)(b:List (Key×V))(M':am),σ=[some (Z' x),some (Z' j),some (V' (c:Int))]/\t<=N/\m=N-t/\Spn T H' x G f g F (k++[j]) b M' w (Wm++[q]) (n++[c]) (pl+(t:Int))/\KX M H H'/\(∀a∈M,a∈M')/\(∀a∈M',a∈M\/H a=none)/\b.length<=r.length+t:=⟨_,λ_ _ _=>Iff.rfl⟩
 refine gU J N ((hJ _ _ _).mpr ⟨0,r,M,rfl,aR _,(),by rw[show pl+((0:Nat):Int)=pl by omega];exact S1,L,λ_ h=>h,λ_ h=>.inl h,()⟩) ?_;intro m σ H2 hm;obtain⟨t,b,M',rfl,tN,rfl,O,i,ms,R,l2⟩:=(hJ _ _ _).mp hm
 w_left;k_units
 refine⟨G,_,O.hx,rfl,_,_,_,O.hx,T.QV,T.RE,_,rfl,x,G,f,g,F,k++[j],b,M',w,Wm++[q],n++[c],_,pl+(t:Int),rfl,O,B t tN,(),by rw[C];omega,λH3 p M3 U X Y D l3 u0=>⟨λta rs tM j0 k0 pv=>?_,λnp=>?_⟩⟩
 ·show if Z' ta=V.non then _ else Q V.non H3
  rw[if_neg (λz=>nomatch z)];rw[C]at pv;exact x0 H3 p M3 t tN U pv (i.trans (O.kx X) R) (λa h=>Y a (ms a h)) (ku i R D) ()
 ·show if V.non=V.non then _ else Q V.non H3
  rw[if_pos rfl];rw[C]at np;have tl:t<N:=by
   rcases Jf t N with h|h
   ·exact h
   ·rw[show t=N by omega]at np;exact absurd pN np
  refine⟨J (N-(t+1)),λn0 H' z=>⟨_,(),z⟩,_,_,_,U.hx,T.QV,T.RE,_,rfl,_,rfl,_,_,U.hx,by show 5<1000;decide,(hJ _ _ _).mpr ⟨t+1,p,M3,rfl,tl,rfl,?_,?_,λa h=>Y a (ms a h),ku i R D,()⟩⟩
  ·have S4:=U.go (pl':=pl+((t+1:Nat):Int));have e:aV (Str.ofString "place") (V' (pl+(t:Int)+1)) (i9 w f g (pl+(t:Int)) F)=i9 w f g (pl+((t+1:Nat):Int)) F:=by
    rw[show pl+((t+1:Nat):Int)=pl+(t:Int)+1 by omega];rfl
   rw[e];exact S4
  ·refine (i.trans (O.kx X) R).trans (M':=M3) (λy o Z e=>?_) (ku i R D);have d:y≠x:=λz=>Z #v[z,U.mem.1];rw[aC d];exact e
theorem lK (a:Int):(if a<0 then -a else a)=((a.natAbs:Nat):Int):=by split <;> omega
theorem Nq {a b u0 u1 l0 l1 s:Int}(hs:s=1\/s=-1)(hd:u0*l1-u1*l0=s):bJ (u0*a+u1*b).natAbs (l0*a+l1*b).natAbs=bJ a.natAbs b.natAbs:=by
 have c:∀{x y p q r t:Int},((bJ x.natAbs y.natAbs:Nat):Int)∣p*x+q*y:=λ{x y p q r t}=>by
  have f:((bJ x.natAbs y.natAbs:Nat):Int)∣x:=gS.mpr (je _ _);have g:((bJ x.natAbs y.natAbs:Nat):Int)∣y:=gS.mpr (jN _ _);exact I0 (eJ f (oU _ _)) (eJ g (oU _ _))
 have d:s*s=1:=by rcases hs with rfl|rfl <;> rfl
 refine Jg (oX ?_ ?_) (oX ?_ ?_)
 ·refine gS.mp ?_;have e:a=(s*l1)*(u0*a+u1*b)+(-(s*u1))*(l0*a+l1*b):=by
   have:(s*l1)*(u0*a+u1*b)+(-(s*u1))*(l0*a+l1*b)=s*(u0*l1-u1*l0)*a:=by grind
   rw[this,hd,d,dS]
  conv=>rhs;rw[e]
  exact c (r:=0) (t:=0)
 ·refine gS.mp ?_;have e:b=(-(s*l0))*(u0*a+u1*b)+(s*u0)*(l0*a+l1*b):=by
   have:(-(s*l0))*(u0*a+u1*b)+(s*u0)*(l0*a+l1*b)=s*(u0*l1-u1*l0)*b:=by grind
   rw[this,hd,d,dS]
  conv=>rhs;rw[e]
  exact c (r:=0) (t:=0)
 ·exact gS.mp (c (r:=0) (t:=0))
 ·exact gS.mp (c (r:=0) (t:=0))
structure Lh (a0 b0 x y P Q R S:Nat)(s:Int):Prop where
 hs:s=1\/s=-1
 det:(P:Int)*S-Q*R=s
 hx:s*(P*a0-Q*b0)=(x:Int)
 hy:s*(S*b0-R*a0)=(y:Int)
 xh:2 ^ 150<=x
 yx:y<=x
 hP:P<=a0+b0+1
 hQ:Q<=a0+b0+1
theorem Lh.sizes {a0 b0 x y P Q R S:Nat}{s:Int}(h:Lh a0 b0 x y P Q R S s):S*x+Q*y=a0/\R*x+P*y=b0:=by
 have a:s*s=1:=by rcases h.hs with z|z <;> rw[z] <;> rfl
 have b:(S:Int)*x+Q*y=a0:=by
  rw[<-h.hx,<-h.hy];have:(S:Int)*(s*(P*a0-Q*b0))+Q*(s*(S*b0-R*a0))=s*(P*S-Q*R)*a0:=by grind
  rw[this,h.det,a,dS]
 have c:(R:Int)*x+P*y=b0:=by
  rw[<-h.hx,<-h.hy];have:(R:Int)*(s*(P*a0-Q*b0))+P*(s*(S*b0-R*a0))=s*(P*S-Q*R)*b0:=by grind
  rw[this,h.det,a,dS]
 exact⟨by exact_mod_cast b,by exact_mod_cast c⟩
theorem Lh.few {a0 b0 x y P Q R S:Nat}{s:Int}(h:Lh a0 b0 x y P Q R S s):R<=a0+b0+1/\S<=a0+b0+1/\x<=a0+b0:=by
 obtain⟨b,c⟩:=h.sizes;have a:1<=x:=aM (dG 150) h.xh;have d:R<=R*x:=iJ _ a;have e:S<=S*x:=iJ _ a;refine⟨(),(),?_⟩;by_cases z:S=0
 ·by_cases z2:R=0
  ·have:=h.det;rw[z,z2]at this;rcases h.hs with y|y <;> rw[y]at this <;> simp at this
  ·have:x<=R*x:=gm _ ();omega
 ·have:x<=S*x:=gm _ ();omega
theorem Lh.step {a0 b0 x y P Q R S:Nat}{s:Int}(h:Lh a0 b0 x y P Q R S s)(hy:2 ^ 150<=y):Lh a0 b0 y (x % y) R S (P+x / y*R) (Q+x / y*S) (-s):=by
 obtain⟨a,b,_⟩:=h.few;have ex:(x:Int)=(x / y:Nat)*(y:Int)+(x % y:Nat):=by exact_mod_cast (Bu x y).symm
 refine⟨by rcases h.hs with z|z <;> simp[z],?_,?_,?_,hy,dm (mK _ (by have:=dG 150;omega)),a,b⟩
 ·have:=h.det
  push_cast
  generalize ((x / y:Nat):Int)=t;grind
 ·rw[<-h.hy];grind
 ·have c:=h.hx;have d:=h.hy;have e:((x % y:Nat):Int)=x-(x / y:Nat)*y:=by omega
  rw[e,<-c,<-d]
  push_cast
  generalize ((x / y:Nat):Int)=t;grind
theorem Lh.less {a b x y P Q R S c:Nat}{s:Int}(h:Lh (a / 2 ^ c) (b / 2 ^ c) x y P Q R S s)(F:2 ^ (c+299)<=a)(i:a<2 ^ (c+300))(j:b<=a)(hy:y<2 ^ 150):((-s*R)*(a:Int)+(s*S)*b).natAbs<a:=by
 obtain⟨n,o⟩:=h.sizes;have d:=dG c;have G:a / 2 ^ c<2 ^ 300:=by rw[QB d,<-du,mv 300 c];exact i
 have b3:b / 2 ^ c<=a / 2 ^ c:=QC j;have H:(2:Nat) ^ 300=2 ^ 150*2 ^ 150:=by rw[<-du]
 have p:S<2 ^ 150:=by
  refine mz λz=>?_;have:=dJ z h.xh;omega
 have q:R<2 ^ 150:=by
  refine mz λz=>?_;have:=dJ z h.xh;omega
 have f:(a:Int)=(a / 2 ^ c:Nat)*(2 ^ c:Nat)+(a % 2 ^ c:Nat):=by exact_mod_cast (Bu a (2 ^ c)).symm
 have g:(b:Int)=(b / 2 ^ c:Nat)*(2 ^ c:Nat)+(b % 2 ^ c:Nat):=by exact_mod_cast (Bu b (2 ^ c)).symm
 have k:a % 2 ^ c<2 ^ c:=mK _ d;have m:b % 2 ^ c<2 ^ c:=mK _ d;have e:(-s*R)*(a:Int)+(s*S)*b=(y:Int)*(2 ^ c:Nat)+(s*(S*(b % 2 ^ c:Nat))-s*(R*(a % 2 ^ c:Nat))):=by
  rw[<-h.hy];generalize a % 2 ^ c=k at f k ⊢;generalize b % 2 ^ c=m at g m ⊢;generalize ((a / 2 ^ c:Nat):Int)=A at f ⊢;generalize ((b / 2 ^ c:Nat):Int)=I at g ⊢;generalize ((2 ^ c:Nat):Int)=C at f g ⊢;rw[f,g];grind
 rw[e];have u:((y:Int)*(2 ^ c:Nat)).natAbs<=2 ^ 150*2 ^ c:=by
  rw[b6,dy,dy];exact dA _ (dm hy)
 have sz:∀t r:Nat,t<2 ^ 150->r<2 ^ c->(s*((t:Int)*(r:Int))).natAbs<=2 ^ 150*2 ^ c:=λt r n o=>by
  rw[b6,b6,dy,dy];have:s.natAbs=1:=by rcases h.hs with z|z <;> rw[z] <;> rfl
  rw[this,eI];exact dJ (dm n) (dm o)
 have B:=sz S (b % 2 ^ c) p m;have D:=sz R (a % 2 ^ c) q k;have big:4*(2 ^ 150*2 ^ c)<=2 ^ (c+299):=by
  have:(4:Nat)*(2 ^ 150*2 ^ c)=2 ^ (c+152):=by
   rw[show c+152=2+(150+c) by omega,du,du]
  rw[this];exact e9 () ()
 have pos:0<2 ^ 150*2 ^ c:=gM (dG _) d;generalize 2 ^ 150*2 ^ c=Z at u B D big pos;have:=ib ((y:Int)*(2 ^ c:Nat)) (s*(S*(b % 2 ^ c:Nat))-s*(R*(a % 2 ^ c:Nat)));have:=my (s*(S*(b % 2 ^ c:Nat))) (s*(R*(a % 2 ^ c:Nat)));omega
def Nr:Sp:=λvs H Q _=>∃(a b:Nat),vs=[.int (a:Int),.int (b:Int)]/\b<=a/\4000<Builtin.Int.intBits (a:Int)/\Bd 1000000 (a:Int)/\∀(c d:Nat)(r:Addr)(H':Hp),Same H H'->H' r=some (.tup [.int (c:Int),.int (d:Int)])->bJ c d=bJ a b->d<a->Q (.ref r) H'
theorem Nt:FnOk P w K mg base CX0 1 T.RY T.RZ ["big","small"] Nr:=by
 refine T.Ua.ok gg (λvs H Q E h=>?_) (λz0 A outer s H vs Q E hr h=>?_)
 ·obtain⟨a,b,rfl,_⟩:=h;rfl
 obtain⟨a,b,rfl,u,ha,g,q⟩:=h;refine⟨_,s!"ɉʖȻĖœŔŕŖȢ˭ŗ ŘɇɒsɤřȢȰɯsɤřȪȰʋsɤƧ&ʗ˭ŗ Řɇ&ʍʖ˷˯˂ʖ˷˯˝ðȺɛȩȡ_sɤ¦ȫȺȡ¢ʖȻȫ˸ȺɒʖȺɯʖ!¢ȡÇʖ½˜ɖ˹˸ˇ˜ɖ˹˸ˇ$ʍʖɵɑTʖ!ÇȨ˷ˋ#ʧɖ˹ȢȾɖ˹Ȫ$#ˋ#ʧˇȢȾˇȪʌ",?_⟩
 obtain⟨bl,B,j,C⟩:∃bl:Nat,Builtin.Int.intBits (a:Int)=bl/\2 ^ (bl-1)<=a/\a<2 ^ bl:=by
  refine⟨_,rfl,?_,?_⟩
  ·refine oN λz=>?_;have:=zo (i:=(a:Int)) (k:=Builtin.Int.intBits (a:Int)-1) #v[dy,z];omega
  ·have:=(intBits_le_iff (m:=Builtin.Int.intBits (a:Int)) (x:=(a:Int))).mp (aA _);rw[dy]at this;exact this
 rw[B]at ha;have j0:4000<=bl:=by omega
 obtain⟨c,hc⟩:∃c,bl=c+300:=⟨bl-300,()⟩
 have ea:(a:Int) / 2 ^ c=((a / 2 ^ c:Nat):Int):=by push_cast;rfl
 have eb:(b:Int) / 2 ^ c=((b / 2 ^ c:Nat):Int):=by push_cast;rfl
 have c0:=dG c;have f:2 ^ 299<=a / 2 ^ c:=by
  rw[Nat.le_div_iff_mul_le c0,<-du];rw[hc,show c+300-1=299+c by omega]at j;exact j
 have D:a / 2 ^ c<2 ^ 300:=by
  rw[QB c0,<-du,mv 300 c,<-hc];exact C
 have n:b / 2 ^ c<=a / 2 ^ c:=QC u;have p1:(2:Nat) ^ 150<=2 ^ 299:=e9 () ()
 w_up
 rw[B,show ((bl:Nat):Int)-300=(c:Int) by omega]
 w_up
 refine⟨(),?_⟩;rw[iD,ea]
 w_up
 refine⟨(),?_⟩;rw[iD,eb]
 w_up
 refine⟨⟨(),()⟩,⟨(),(),()⟩,?_⟩;obtain⟨Y,F,G⟩:∃Y:Nat,(1:Int)*2 ^ ((300:Int) / 2).toNat=(Y:Int)/\Y=2 ^ 150:=⟨2 ^ 150,(),rfl⟩
 rw[F];clear F
 w_up
 refine⟨(),λU0 n0=>?_⟩;have u0:=az n0 (.tup [V' 1,V' 0]);have e0:=ak (H:=H) (a:=U0) (o:=.tup [V' 1,V' 0]);generalize L2.upd H U0 (.tup [V' 1,V' 0])=H0 at u0 e0 ⊢
 w_up
 refine⟨(),λL0 n1=>?_⟩;have u1:=az n1 (.tup [V' 0,V' 1]);have e1:=ak (H:=H0) (a:=L0) (o:=.tup [V' 0,V' 1]);have f1:=u1 _ _ e0;have s1:=u0.trans u1;generalize L2.upd H0 L0 (.tup [V' 0,V' 1])=H1 at s1 e1 f1 ⊢;clear u0 u1 e0 n0 n1;generalize x0:a / 2 ^ c=a0 at f D n ⊢;generalize y0:b / 2 ^ c=b0 at n ⊢;have I:(2:Nat) ^ 302=4*2 ^ 300:=by rw[show (302:Nat)=2+300 by rfl,du]
 have bk:∀{k:Nat},k<=a0+b0+1->Bd 302 (k:Int):=λ{k} hk=>by
  show k<2 ^ 302;omega
 have bs:∀{k:Nat}{t:Int},k<=a0+b0+1->(t=1\/t=-1)->Bd 302 (t*(k:Int)):=λ{k t} hk ht=>by
  rcases ht with rfl|rfl
  ·rw[dS];exact bk hk
  ·rw[show (-1:Int)*k=-k by omega];exact (bk hk).neg
 clear I
 w_up
 obtain⟨J,hJ⟩:∃J:Nat->L2.St->Hp->Prop,∀m σ M,J m σ M↔∃(x y P Q R S:Nat)(s:Int)(U L:Addr)(r8 r9 O:Option V),σ=[some (V' (a:Int)),some (V' (b:Int)),some (V' (c:Int)),some (V' (x:Int)),some (V' (y:Int)),some (V' (Y:Int)),some (Z' U),some (Z' L),r8,r9,O]/\m=y/\Lh a0 b0 x y P Q R S s/\M U=some (.tup [V' (s*P),V' (-s*Q)])/\M L=some (.tup [V' (-s*R),V' (s*S)])/\Same H M:=⟨_,λ_ _ _=>Iff.rfl⟩
 refine gU J b0 ((hJ _ _ _).mpr ⟨a0,b0,1,0,0,1,1,U0,L0,none,none,none,rfl,rfl,⟨.inl rfl,by simp,by simp,by simp,aM p1 f,n,(),()⟩,by rw[f1];rfl,by rw[e1];rfl,s1⟩) ?_;intro m σ H2 hm;obtain⟨x,y,P',Q',Z,S',d,U,L,r8,r9,O,rfl,rfl,e,eU,X,s2⟩:=(hJ _ _ _).mp hm;obtain⟨g1,g2,g3⟩:=e.few;have r:-d=1\/-d=-1:=by rcases e.hs with z|z <;> simp[z]
 w_left;k_units
 refine bO (λz=>?_) (λz=>?_)
 ·have zy:2 ^ 150<=m:=by rw[<-G];exact_mod_cast z
  have m0:m≠0:=by have:=dG 150;omega
  have ef:(x:Int).fdiv (m:Int)=((x / m:Nat):Int):=by rw[Be _ ()];exact_mod_cast rfl
  have er:(x:Int)-((x / m:Nat):Int)*(m:Int)=((x % m:Nat):Int):=by
   have:(x:Int)=(x / m:Nat)*(m:Int)+(x % m:Nat):=by exact_mod_cast (Bu x m).symm
   omega
  have st:=e.step zy;have yx:=e.yx;have bx:Bd 302 (((x / m:Nat)):Int):=bk (aM (Nat.div_le_self _ _) ());have bm:Bd 302 (m:Int):=bk ();rw[ef];refine⟨J (x % m),λk0 M h=>⟨_,mK _ (),h⟩,(),cP (show ((m:Nat):Int).natAbs<2 ^ 302 from bm) (e9 () ()),bx.fits bm (),_,SqT.of eU,_,rfl,_,SqT.of X,_,rfl,_,rfl,bx.fits (bs g1 r) (),_,rfl,_,SqT.of eU,_,rfl,_,SqT.of X,_,rfl,_,rfl,bx.fits (bs g2 e.hs) (),_,rfl,(),λp np=>?_⟩;have w1:=az np (.tup [V' (d*P'-((x / m:Nat):Int)*(-d*Z)),V' (-d*Q'-((x / m:Nat):Int)*(d*S'))]);rw[er];refine (hJ _ _ _).mpr ⟨m,x % m,Z,S',_,_,_,L,p,_,_,_,rfl,rfl,st,?_,?_,s2.trans w1⟩
  ·rw[w1 _ _ X];simp
  ·rw[ak];congr 4
   ·push_cast
    generalize ((x / m:Nat):Int)=t;grind
   ·push_cast
    generalize ((x / m:Nat):Int)=t;congr 2;grind
 ·have zy:m<2 ^ 150:=by rw[<-G];exact mz λy=>z (by exact_mod_cast y)
  have bb:Bd 1000000 (b:Int):=ca (show (b:Int).natAbs<=(a:Int).natAbs by omega) g;have ls:((-d*Z)*(a:Int)+(d*S')*b).natAbs<a:=by
   rw[<-x0,<-y0]at e;refine e.less ?_ ?_ u zy
   ·rw[show c+299=bl-1 by omega];exact j
   ·rw[<-hc];exact C
  have bP:=bs e.hP e.hs;have bQ:=bs e.hQ r;refine⟨_,SqT.of eU,_,rfl,_,rfl,bP.fits g (),_,SqT.of eU,_,rfl,_,rfl,bQ.fits bb (),_,SqT.of X,_,rfl,_,rfl,(bs g1 r).fits g (),_,SqT.of X,_,rfl,_,rfl,(bs g2 e.hs).fits bb (),(),λp np=>?_⟩;rw[lK,lK];refine q _ _ p _ (s2.trans (az np _)) ak ?_ ls
  ·have:=Nq (a:=(a:Int)) (b:=(b:Int)) (u0:=d*P') (u1:=-d*Q') (l0:=-d*Z) (l1:=d*S') (s:=d) e.hs (by
    have h1:=e.det;have h2:d*d=1:=by rcases e.hs with z|z <;> rw[z] <;> rfl
    grind)
   rw[this,dy,dy]
def Nu:Sp:=λvs H Q _=>∃a b:Int,vs=[.int a,.int b]/\Bd 1000000 b/\∀H',Same H H'->Q (.int (bJ a.natAbs b.natAbs:Nat)) H'
theorem Aw:FnOk P w K mg base CX0 2 T.R6 T.R7 ["one","other"] Nu:=by
 refine T.Rs.ok i4 (λG H Q E h=>?_) (λI A outer s H G Q E L h=>?_)
 ·obtain⟨a,b,rfl,_⟩:=h;rfl
 obtain⟨a,b,rfl,M,q⟩:=h;refine⟨_,s!"ɉˠˋɟɒˠˋɏʝʞĖœŔŕŖȫ˭ƨ Ʃɇȩɯ­ɋƪʙƫƬƭ˺#ɺȰȫ$ɉˠ˻ɑ/ˠ˻˝®ȫȵʋ­ɤcȰȫɉˠȫɑ/ˠɛ˚",?_⟩
 w_left;simp![lK]
 obtain⟨J,o⟩:∃J:Nat->L2.St->Hp->Prop,∀m σ g,J m σ g↔∃(x y:Nat)(p:Option V),σ=[some (V' a),some (V' b),some (V' (x:Int)),some (V' (y:Int)),p,none]/\m=y/\bJ x y=bJ a.natAbs b.natAbs/\Bd 1000000 (y:Int)/\Same H g:=⟨_,λ_ _ _=>Iff.rfl⟩
 refine gU J b.natAbs ((o _ _ _).mpr ⟨a.natAbs,b.natAbs,none,rfl,rfl,rfl,by show ((b.natAbs:Nat):Int).natAbs<_;rw[dy];exact M,Same.refl _⟩) ?_;intro m σ O u;obtain⟨x,y,p,rfl,rfl,f,j,B⟩:=(o _ _ _).mp u
 w_up
 refine bO (λz=>?_) (λz=>?_)
 ·have m0:m≠0:=λy=>by rw[y]at z;revert z;decide
  have R:(x:Int) % (m:Int)=((x % m:Nat):Int):=by exact_mod_cast rfl
  rw[R]
  w_up
  refine⟨λe g=>∃C,C<m/\J C e g,λe g h=>h,(),m,x % m,rfl,dm (mK _ ()),by exact_mod_cast z,j,λc d r n S D t hd=>⟨r,rfl,_,SqT.of D,_,rfl,r,rfl,_,SqT.of D,_,rfl,d,hd,(o _ _ _).mpr ⟨c,d,_,rfl,rfl,?_,?_,B.trans S⟩⟩⟩
  ·rw[t,<-f,uY m,<-Jh,uY]
  ·exact ca (show (d:Int).natAbs<=(m:Int).natAbs by omega) j
 ·clear u o J;refine gU (λk σ n=>∃(x y:Nat)(r:Option V),σ=[some (V' a),some (V' b),some (.int x),some (.int y),p,r]/\n=O/\k=y/\bJ x y=bJ a.natAbs b.natAbs) m ⟨x,m,none,rfl,rfl,rfl,f⟩ ?_
  rintro k σ n ⟨x,y,r,rfl,rfl,rfl,f⟩
  w_left;k_units
  refine bO (λh=>?_) (λh=>?_)
  ·refine⟨λe F=>e=[some (V' a),some (V' b),some (V' k),some (V' ((x:Int) % (k:Int))),p,some (V' ((x:Int) % (k:Int)))]/\F=n,?_,(),rfl,rfl⟩
   rintro e F ⟨rfl,rfl⟩
   refine⟨x % k,mK _ (),k,x % k,_,by rw[<-Int.natCast_emod],rfl,rfl,?_⟩;rw[uY k,<-Jh,uY];exact f
  ·have U:k=0:=by omega
   subst U;rw[Nat.gcd_zero_right]at f;rw[f];exact q n B
def FN (K:ap)(_:Addr):Sp:=λvs H Q _=>∃(a b:Addr)(one Wo:aa)(k l:Nat),vs=[.ref a,.ref b]/\SqL K H a (one.map V')/\SqL K H b (Wo.map V')/\one.length<=64/\Wo.length<=64/\Nml one/\Nml Wo/\
 (∀x∈one,Bd k x)/\(∀y∈Wo,Bd l y)/\k<=100000/\l<=8995/\
 ((Wo=[]/\False)\/(Wo≠[]/\((∃q,Nml q/\Div one Wo q/\dU H Q (q.map V'))\/((∀q,¬Div one Wo q)/\∀H',Same H H'->Q .non H'))))
theorem FO {k:Nat}{x d:Int}(h:Bd k x)(hd:d≠0):Bd (k+1) (x.fdiv d):=by
 unfold Bd at *;have e:=Int.fmod_add_mul_fdiv x d;have r:(x.fmod d).natAbs<d.natAbs:=by
  rcases Bm hd with g|g
  ·have f:=QD (-x) (show 0 < -d by omega);have i:=Int.fmod_lt_of_pos (-x) (show 0 < -d by omega);rw[Int.neg_fmod_neg]at f i;omega
  ·have f:=QD x g;have i:=Int.fmod_lt_of_pos x g;omega
 have a:(d*x.fdiv d).natAbs=d.natAbs*(x.fdiv d).natAbs:=b6 _ _;have s:d.natAbs*(x.fdiv d).natAbs<2 ^ k+d.natAbs:=by
  rw[<-a,show d*x.fdiv d=x-x.fmod d by clear a r h hd;omega];exact ca (my _ _) (Nat.add_lt_add h r)
 have j:1<=d.natAbs:=jf.mpr hd;clear e a r h;generalize d.natAbs=c at *;generalize (x.fdiv d).natAbs=b at *;rw[iF];by_cases z:b<=1
 ·have:=dG k;omega
 ·have m:c*2<=c*b:=dZ _ ();have n:b<=c*b:=gm _ j;omega
theorem t_:FnOk P w K mg base CX0 3 T.Ro T.RX ["one","other"] (FN K T.Ro):=by
 refine T.Rb.ok i3 (λvs H Q E h=>?_) (λv1 A outer s H vs Q E hr h=>?_)
 ·obtain⟨a,b,one,Wo,k,l,rfl,_⟩:=h;rfl
 obtain⟨a,b,one,Wo,k,l,rfl,hA,U,la,lb,no,Z,bk,bl,hk,hl,q⟩:=h;refine⟨_,s!"˵ɼȵñ˧¯ȟˑɟɒ¯ȟ:Ľˮ#ɠɃȻɪɼȼɯ¯ɤĊʊȫɅéɦȻȫ˔˔ʒ?¯ȟʍ¯ȟʤȻɃɛɼȮ˂¯ɤ¦ɐˡɝɫ®Ⱦɵˡɝɐʏ˶'êɵëȺɛ¥.ɀÜ Ýɏʷ_¯ʸ¢¯˦ÞȰɃɛʮßȾɵ!¢Ĉ¥ɫhȲʐáȴâãäʻ$ʃ]ɹȺ",?_⟩
 w_up
 refine⟨_,.inl U,?_⟩;rw[af];refine bO (λh0=>?_) (λh0=>?_)
 ·rcases q with ⟨_,q⟩|⟨hn,_⟩
  ·exact q.elim
  ·exact absurd (bC ()) hn
 have c:Wo≠[]:=by intro z;rw[z]at h0;simp at h0
 have q:=(q.resolve_left λz=>c z.1).2;have lo:=de.mpr c
 w_up
 refine⟨_,.inl hA,λR nR=>?_⟩;have s1:=az nR (.lst (one.map V'))
 w_up
 refine⟨_,.inl (s1.seq hA),_,.inl (s1.seq U),?_⟩;rw[af,af];obtain⟨n,hn⟩:∃n:Nat,(if (one.length:Int)-(Wo.length:Int)+1 > 0 then (one.length:Int)-(Wo.length:Int)+1 else 0)=(n:Int):=⟨one.length+1-Wo.length,by split <;> omega⟩
 have j0:n=one.length+1-Wo.length:=by split at hn <;> omega
 rw[hn];clear hn
 w_up
 refine⟨(),λp np=>⟨_,ak,?_⟩⟩;have J:=az np (.lst [V' 0]);rw[Ai,iD];refine⟨(),(),dm (bD (by simp;omega)),λm nA=>?_⟩;have s3:=az nA (.lst ((bI n (0:Int)).map V'));have sG:=s1.trans (J.trans s3);have gR:=s3 _ _ (J _ _ (ak (H:=H) (a:=R) (o:=.lst (one.map V'))));have gA:upd (upd (upd H R (.lst (one.map V'))) p (.lst [V' 0])) m (.lst ((bI n (0:Int)).map V')) m=_:=ak;have x0:R≠m:=d8 (J _ _ (ak (H:=H) (a:=R) (o:=.lst (one.map V')))) nA;have fA:=(s1.trans J).free nA;generalize upd (upd (upd H R (.lst (one.map V'))) p (.lst [V' 0])) m (.lst ((bI n (0:Int)).map V'))=G at sG gR gA ⊢;clear s1 J s3 nA np
 w_up
 refine⟨(),(),rV () () () (),n,rW (),?_⟩;have y0:∀(rest d:aa)(r1 r2 r3 B C:Option V)(g:Hp),(∀q,Div one Wo q->∀k,co rest k=0)->((∀k,co rest k=0)->Div one Wo d/\Nml d)->g R=some (.lst (rest.map V'))->g m=some (.lst (d.map V'))->Same H g->rest.length<=64->
   Fs K [Z' R] g (λx H1=>∃p,x=Z' p/\∃x,(SqL K H1 p x\/SqT K H1 p x)/\if 0<(x.length:Int) then Q V.non H1 else Q (Z' m) H1) E0:=by
  intro rest d r1 r2 r3 B C g e1 e2 hR t F lr;refine⟨R,rest,rfl,SqL.of hR,(),λf H2 J nf ef=>⟨f,rfl,_,.inl (SqL.of ef),?_⟩⟩;rw[af];refine bO (λh=>?_) (λh=>?_)
  ·rcases q with ⟨q0,_,hd,_⟩|⟨_,q⟩
   ·have:=sQ.mpr (e1 q0 hd);rw[this]at h;simp at h
   ·exact q _ (F.trans J)
  ·have tz:aL rest=[]:=bC ();obtain⟨d1,d2⟩:=e2 (sQ.mp tz);rcases q with ⟨q0,n0,hd,q⟩|⟨q,_⟩
   ·rw[Me Z c n0 d2 hd d1]at q;exact q m _ (F.trans J) fA (J _ _ t)
   ·exact absurd d1 (q d)
 by_cases hc:one.length+1<Wo.length
 ·have n0:n=0:=by omega
  subst n0;refine nn (λi σ g=>σ=[some (Z' a),some (Z' b),some (Z' R),some (V' ((0:Nat):Int)),some (Z' m),none,none,none,none,none]/\g=G) ⟨rfl,rfl⟩ (λi σ g hi=>by omega) ?_
  rintro σ g ⟨rfl,rfl⟩
  w_left;k_units
  refine y0 one [] none none none none none g (λq hq k=>?_) (λhz=>?_) gR gA sG la
  ·by_cases O:one=[]
   ·rw[O];rfl
   ·by_cases hq':Nml q
    ·obtain⟨y1,y2⟩:=zL Z c no hq' hq O;have:=de.mpr y1;omega
    ·obtain⟨y1,y2⟩:=zL (q:=aL q) Z c no (cM q) (λk=>by rw[hq k];unfold pm;exact cB λj _=>by rw[cL]) O;have:=de.mpr y1;omega
  ·have O:=nL no hz;rw[O];exact⟨Mn,b_⟩
 have k0:n+Wo.length=one.length+1:=by omega
 clear j0 hc;have r:co Wo (Wo.length-1)=Wo.getLast c:=by
  rw[aI (),Bv]
 have l0:Wo.getLast c≠0:=by rw[<-r];exact dw Z c
 have z0:Bd l (Wo.getLast c):=bl _ (List.getLast_mem c);obtain⟨Pv,L⟩:∃Pv:Nat->L2.St->Hp->Prop,∀i σ g,Pv i σ g↔∃(d rest:aa)(r1 r2 r3 B C:Option V),σ=[some (Z' a),some (Z' b),some (Z' R),some (V' (n:Int)),some (Z' m),r1,r2,r3,B,C]/\g R=some (.lst (rest.map V'))/\g m=some (.lst (d.map V'))/\
  DivAt one Wo d rest (n-i)/\(∀x∈rest,Bd (k+(l+2)*i) x)/\Same H g:=⟨_,λ_ _ _=>Iff.rfl⟩
 refine nn Pv ((L _ _ _).mpr ⟨_,one,none,none,none,none,none,rfl,gR,gA,Mg c k0,λx hx=>(bk x hx).mono (),sG⟩) ?_ ?_
 ·intro i σ g hi hp;obtain⟨d,rest,r1,r2,r3,B,C,rfl,hR,t,D,hb,F⟩:=(L _ _ _).mp hp;obtain⟨low,u0⟩:∃low,n-i=low+1:=⟨n-i-1,()⟩
  rw[u0]at D;have ei:(n:Int)-1+(i:Int) * -1=(low:Int):=by omega
  have ix:(low:Int)+(Wo.length:Int)-1=((low+(Wo.length-1):Nat):Int):=by omega
  have j1:=D.lr;have u1:=D.la;have X:low+(Wo.length-1)<rest.length:=by omega
  have k1:(l+2)*i<=(l+2)*64:=dZ _ ()
  w_left;simp![ei]
  clear ei;refine⟨_,.inl (F.seq U),?_⟩;rw[af];simp only[ix];clear ix;refine⟨_,SqL.of hR,_,gZ X,?_⟩;have ct:co rest (low+(Wo.length-1))=rest[low+(Wo.length-1)]:=aI X;have bt:=hb _ (bY X);generalize rest[low+(Wo.length-1)]=tp at ct bt ⊢;have bf:=FO bt l0;refine⟨_,F.seq U,_,jx c,tp,rfl,_,rfl,l0,cP z0 (e9 () ()),_,F.seq U,_,jx c,_,rfl,bf.fits z0 (),?_⟩
  w_left;k_units
  refine bO (λh=>?_) (λh=>?_)
  ·rcases q with ⟨q0,_,hd,_⟩|⟨_,q⟩
   ·have z:=Ml Z c D hd;rw[ct,r]at z;exact absurd z h
   ·exact q _ F
  have hf:tp.fdiv (Wo.getLast c)*Wo.getLast c=tp:=by simpa using h
  generalize tp.fdiv (Wo.getLast c)=f at hf bf ⊢;refine⟨_,t,low,jw (by rw[af];omega),?_⟩;rw[map_set];have s5:=F.more fA (o:=.lst ((d.set low f).map V'));have R5:=(aC x0:upd g m (.lst ((d.set low f).map V')) R=g R).trans hR;have A5:upd g m (.lst ((d.set low f).map V')) m=_:=ak;generalize upd g m (.lst ((d.set low f).map V'))=H5 at s5 R5 A5 ⊢;refine⟨_,s5.seq U,?_⟩;obtain⟨Pw,y⟩:∃Pw:Nat->L2.St->Hp->Prop,∀j σ S,Pw j σ S↔∃(I:aa)(B C:Option V),σ=[some (Z' a),some (Z' b),some (Z' R),some (V' (n:Int)),some (Z' m),some (V' (low:Int)),some (V' tp),some (V' f),B,C]/\S R=some (.lst (I.map V'))/\S m=some (.lst ((d.set low f).map V'))/\I.length=rest.length/\
   (∀u,co I u=co rest u-if low<=u/\u<low+j then f*co Wo (u-low) else 0)/\Same H S:=⟨_,λ_ _ _=>Iff.rfl⟩
  refine rX Pw ((y _ _ _).mpr ⟨rest,_,_,rfl,R5,A5,rfl,λu=>by rw[if_neg ()];omega,s5⟩) (λj σ S _ z=>by obtain⟨_,_,_,_,_,_,_,_,z5⟩:=(y j σ S).mp z;exact z5.seq U) ?_ ?_
  ·intro j v pt σ S hv Y x1;obtain⟨I,B,C,rfl,xR,xA,xl,xc,xs⟩:=(y _ _ _).mp Y;have hj:j<Wo.length:=by have:=(aY.mp hv).1;rw[af]at this;exact this
   rw[aG,ao hj]at hv;obtain rfl:V' Wo[j]=v:=Option.some.inj hv;have st:=az x1 (.tup [V' j,V' Wo[j]]);have z1:(low:Int)+(j:Int)=((low+j:Nat):Int):=rfl
   w_left;k_units
   refine⟨_,SqT.of ak,rfl,?_⟩
   w_left;simp![z1]
   have M:low+j<I.length:=by omega
   have yR:=st _ _ xR;have yA:=st _ _ xA;refine⟨_,SqL.of yR,_,gZ M,bf.fits (bl _ (bY hj)) (),_,rfl,_,yR,low+j,jw #v[af,M],(y _ _ _).mpr ⟨I.set (low+j) (I[low+j]-f*Wo[j]),_,_,rfl,by rw[ak,map_set],#v[aC (Ne.symm x0),yA],#v[oJ,xl],λu=>?_,(xs.trans st).more nR⟩⟩;rw[nH _ _ _ _ M];by_cases e:u=low+j
   ·subst e;have z:=xc (low+j);rw[if_neg (show ¬(low<=low+j/\low+j<low+j) by omega),aI M]at z;rw[if_pos (show low+j=low+j from rfl),if_pos (show low<=low+j/\low+j<low+(j+1) by omega),show low+j-low=j by omega,aI hj];omega
   ·rw[if_neg e,xc u];by_cases h3:low<=u/\u<low+j
    ·rw[if_pos h3,if_pos (show low<=u/\u<low+(j+1) by omega)]
    ·rw[if_neg h3,if_neg (show ¬(low<=u/\u<low+(j+1)) by omega)]
  ·intro σ S Y;obtain⟨I,B,C,rfl,xR,xA,xl,xc,xs⟩:=(y _ _ _).mp Y;rw[af]at xc;have D':DivAt one Wo (d.set low f) I low:=Mi c D () #v[r,ct,hf] xl λu=>by
    rw[xc u];by_cases h3:low<=u
    ·rw[if_pos h3];by_cases h4:u<low+Wo.length
     ·rw[if_pos ⟨h3,h4⟩]
     ·rw[if_neg (),aD (xs:=Wo) (),dq]
    ·rw[if_neg (),if_neg h3]
   refine (L _ _ _).mpr ⟨_,I,_,_,_,_,_,rfl,xR,xA,by rw[show n-(i+1)=low by omega];exact D',λx hx=>?_,xs⟩;obtain⟨u,hu,rfl⟩:=cm.mp hx;have eu:=xc u;rw[aI hu,aI (show u<rest.length by omega)]at eu;have b1:=hb _ (bY (show u<rest.length by omega));have b2:Bd (k+(l+2)*i+1+l) (if low<=u/\u<low+Wo.length then f*co Wo (u-low) else 0):=by
    split
    ·rcases Jf (u-low) Wo.length with z|z
     ·rw[aI z];exact bf.mul (bl _ (bY z))
     ·rw[aD z,dq];exact Bd.zero _
    ·exact Bd.zero _
   rw[eu];have e2:(l+2)*(i+1)=(l+2)*i+(l+2):=mJ _ _;exact ((b1.mono ()).sub b2).mono ()
 ·intro σ g hp;obtain⟨d,rest,r1,r2,r3,B,C,rfl,hR,t,D,hb,F⟩:=(L _ _ _).mp hp;rw[fB]at D
  w_left;k_units
  refine y0 rest d r1 r2 r3 B C g (λq hq=>Mj Z c D q hq) (λhz=>⟨EQ D hz,?_⟩) hR t F (by have:=D.lr;omega);by_cases O:one=[]
  ·have:d.length=0:=by have:=D.la;rw[O]at this;simp at this;omega
   rw[bC this];exact b_
  ·exact Mm c no O D.la (EQ D hz)
theorem FP {n:Nat}(h:n<=5000):n<sizeLine:=ca h ()
def ah (xs:aa):Nat:=xs.foldl (λg x=>bJ x.natAbs g) 0
theorem ua (xs:aa)(x:Int):ah (xs++[x])=bJ x.natAbs (ah xs):=by unfold ah;rw[List.foldl_append];rfl
theorem ub {b:Nat}(c:0<b):∀a:aa,(∀x∈a,x.natAbs<b)->ah a<b:=λa=>by
 refine nG (P:=λa=>(∀x∈a,x.natAbs<b)->ah a<b) (λ_=>c) (λa x d h=>?_) a;rw[ua];by_cases z:x.natAbs=0
 ·rw[z,Nat.gcd_zero_left];exact d λy hy=>h y (by simp[hy])
 ·exact ca (Nat.gcd_le_left _ ()) (h x (by simp))
theorem gh (xs:aa):∀x∈xs,((ah xs:Nat):Int)∣x:=by
 refine nG (P:=λxs=>∀x∈xs,((ah xs:Nat):Int)∣x) (by simp) (λxs y a x hx=>?_) xs;rw[ua];rcases a8.mp hx with z|z
 ·exact eJ (gO.mpr (jN _ _)) (a x z)
 ·rw[aW.mp z];exact uZ.mp (gO.mpr (je _ _))
theorem iA (d:Nat)(xs:aa):(∀x∈xs,(d:Int)∣x)->d∣ah xs:=by
 refine nG (P:=λxs=>(∀x∈xs,(d:Int)∣x)->d∣ah xs) (λ_=>Bw d) (λxs y a h=>?_) xs;rw[ua];refine oX ?_ (a λx hx=>h x (by simp[hx]));exact gO.mp (uZ.mpr (h y (by simp)))
def Nv (K:ap):Sp:=λvs H Q _=>∃(a:Addr)(xs:aa),vs=[.ref a]/\SqL K H a (xs.map V')/\(∀x∈xs,Bd 900000 x)/\∀H',Same H H'->Q (.int (ah xs:Nat)) H'
theorem uc:FnOk P w K mg base CX0 3 T.R_ T.Sa ["poly"] (Nv K):=by
 refine T.Rc.ok tD (λk H Q E h=>?_) (λm A outer s H k Q E n h=>?_)
 ·obtain⟨a,xs,rfl,_⟩:=h;rfl
 obtain⟨a,xs,rfl,j,o,q⟩:=h;refine⟨_,s!"ɿėʑ˼ȹ-ė˩,ėɋĘʉęĚěʰɏȨȪ",?_⟩
 k_units
 refine⟨⟨_,j⟩,?_⟩;obtain⟨d,b⟩:∃d:Nat->L2.St->Hp->Prop,∀i σ c,d i σ c↔∃r:Option V,σ=[some (Z' a),some (V' (ah (xs.take i):Nat)),r]/\Same H c:=⟨_,λ_ _ _=>Iff.rfl⟩
 refine iV (xs:=xs.map V') d ((b _ _ _).mpr ⟨_,rfl,Same.refl _⟩) (λi σ c _ z=>by obtain⟨_,_,z⟩:=(b i σ c).mp z;exact z.seq j) ?_ ?_
 ·intro i v σ c e f;obtain⟨r,rfl,g⟩:=(b _ _ _).mp f;have hi:i<xs.length:=by have:=(aY.mp e).1;rw[af]at this;exact this
  rw[aG,ao hi]at e;obtain rfl:V' xs[i]=v:=Option.some.inj e;have p:xs.take (i+1)=xs.take i++[xs[i]]:=by rw[cY,ao hi];rfl
  k_units
  refine⟨_,_,rfl,?_,λu t=>(b _ _ _).mpr ⟨some (V' xs[i]),?_,g.trans t⟩⟩
  ·have:Bd 900000 ((ah (xs.take i):Nat):Int):=by
    show ((ah (xs.take i):Nat):Int).natAbs<2 ^ 900000;rw[dy];exact ub (dG _) _ λx hx=>o x (ik hx)
   exact this.mono ()
  ·rw[p,ua,dy]
 ·intro σ c f;obtain⟨r,rfl,g⟩:=(b _ _ _).mp f;rw[af,e_]
  k_units
  exact q _ g
def Nw (K:ap):Sp:=λvs H Q _=>∃(a:Addr)(xs:aa)(c:Int),vs=[.ref a,.int c]/\SqL K H a (xs.map V')/\xs.length<=5000/\c≠0/\c.natAbs<2 ^ 9000/\dU H Q ((xs.map λx=>x.fdiv c).map V')
theorem Ax:FnOk P w K mg base CX0 1 T.Sb T.Sc ["poly","number"] (Nw K):=by
 refine T.Rv.ok MP (λo H Q E h=>?_) (λp A outer s H o Q E y h=>?_)
 ·obtain⟨a,xs,c,rfl,_⟩:=h;rfl
 obtain⟨a,xs,c,rfl,m,B,r,t,q⟩:=h;refine⟨_,s!"Ȩʩ,ČʔȢK˨˃",?_⟩
 k_units
 refine⟨⟨_,m⟩,λC hC=>?_⟩;obtain⟨e,b⟩:∃e:cx,∀i f,e i f↔f C=some (.lst (((xs.take i).map λx=>x.fdiv c).map V'))/\Same H f:=⟨_,λ_ _=>Iff.rfl⟩
 refine eE (xs:=xs.map V') e ((b _ _).mpr ⟨by rw[ak];rfl,az hC _⟩) (λi n _ z=>((b i n).mp z).2.seq m) ?_ ?_
 ·intro i v n g j;obtain⟨d,k⟩:=(b _ _).mp j;have hi:i<xs.length:=by have:=(aY.mp g).1;rw[af]at this;exact this
  rw[aG,ao hi]at g;obtain rfl:V' xs[i]=v:=Option.some.inj g
  simp![bst,eL]
  have u:xs.take (i+1)=xs.take i++[xs[i]]:=by rw[cY,ao hi];rfl
  refine⟨r,t,_,d,FP (by simp;omega),(b _ _).mpr ⟨?_,k.more hC⟩⟩;rw[ak,u,aT,aT];rfl
 intro D j;obtain⟨d,k⟩:=(b _ _).mp j;rw[af,e_]at d;exact q C _ k hC d
def di (xs:aa):aa:=if xs≠[]/\co xs (xs.length-1)<0 then xs.map λx=>-x else xs
def Nx (K:ap):Sp:=λvs H Q _=>∃(a:Addr)(xs:aa),vs=[.ref a]/\SqL K H a (xs.map V')/\xs.length<=1000/\dU H Q ((di xs).map V')
theorem FQ:FnOk P w K mg base CX0 1 T.Sf T.Sg ["poly"] (Nx K):=by
 refine T.Sh.ok MQ (λt H Q E h=>?_) (λu A outer s H t Q E B h=>?_)
 ·obtain⟨a,xs,rfl,_⟩:=h;rfl
 obtain⟨a,xs,rfl,d,f,q⟩:=h;refine⟨_,s!"ʡˎɪˏ=¬ʚʃʠȢKȽȢɹˑɟ",?_⟩
 w_up
 refine⟨_,.inl d,?_⟩;rw[af];unfold di at q;have lst:¬(xs≠[]/\co xs (xs.length-1)<0)->∃x,(SqL K H a x\/SqT K H a x)/\∀l,H l=none->Q (Z' l) (upd H l (HO.lst x)):=λh=>by
  rw[if_neg h]at q;exact⟨_,.inl d,λl f=>q l _ (az f _) f ak⟩
 refine bO (λh=>?_) (λh=>lst λz=>?_)
 ·have c:xs≠[]:=by intro z;rw[z]at h;simp at h
  refine⟨_,d,_,jx c,?_⟩
  w_left;k_units
  have p:co xs (xs.length-1)=xs.getLast c:=by rw[aI (),Bv]
  refine bO (λg=>?_) (λg=>lst λz=>g #v[<-p,z.2]);rw[if_pos ⟨c,#v[p,g]⟩]at q;refine⟨⟨_,d⟩,λC hC=>?_⟩;obtain⟨j,b⟩:∃j:cx,∀i k,j i k↔k C=some (.lst (((xs.take i).map λx=>-x).map V'))/\Same H k:=⟨_,λ_ _=>Iff.rfl⟩
  refine eE (xs:=xs.map V') j ((b _ _).mpr ⟨by rw[ak];rfl,az hC _⟩) (λi r _ z=>((b i r).mp z).2.seq d) ?_ ?_
  ·intro i v r m n;obtain⟨e,o⟩:=(b _ _).mp n;have hi:i<xs.length:=by have:=(aY.mp m).1;rw[af]at this;exact this
   rw[aG,ao hi]at m;obtain rfl:V' xs[i]=v:=Option.some.inj m
   w_left;simp![bst,eL]
   have y:xs.take (i+1)=xs.take i++[xs[i]]:=by rw[cY,ao hi];rfl
   refine⟨_,e,bD (by simp;omega),(b _ _).mpr ⟨?_,o.more hC⟩⟩;rw[ak,y,aT,aT];rfl
  intro D n;obtain⟨e,o⟩:=(b _ _).mp n;rw[af,e_]at e;exact q C _ o hC e
 ·have:0<xs.length:=de.mpr z.1;omega
def Ny (K:ap):Sp:=λvs H Q _=>∃(a:Addr)(xs:aa),vs=[.ref a]/\SqL K H a (xs.map V')/\xs≠[]/\xs.length<=1000/\∀(M:Nat) H',Same H H'->(∀x∈xs,x.natAbs<=M)->(∃x∈xs,x.natAbs=M)->Q (.int (M:Int)) H'
theorem FR:FnOk P w K mg base CX0 1 T.Sk T.Sl ["poly"] (Ny K):=by
 refine T.Sm.ok MR (λr H Q E h=>?_) (λt A outer s H r Q E B h=>?_)
 ·obtain⟨a,xs,rfl,_⟩:=h;rfl
 obtain⟨a,xs,rfl,o,d,D,q⟩:=h;refine⟨_,s!"Ȩ:Ĝˮ#ʠȢKˋɟ$",?_⟩
 simp![lK]
 refine⟨⟨_,o⟩,λC hC=>?_⟩;obtain⟨e,b⟩:∃e:cx,∀i f,e i f↔f C=some (.lst (((xs.take i).map λx=>((x.natAbs:Nat):Int)).map V'))/\Same H f:=⟨_,λ_ _=>Iff.rfl⟩
 refine eE (xs:=xs.map V') e ((b _ _).mpr ⟨by rw[ak];rfl,az hC _⟩) (λi p _ z=>((b i p).mp z).2.seq o) ?_ ?_
 ·intro i v p g j;obtain⟨c,k⟩:=(b _ _).mp j;have hi:i<xs.length:=by have:=(aY.mp g).1;rw[af]at this;exact this
  rw[aG,ao hi]at g;obtain rfl:V' xs[i]=v:=Option.some.inj g
  simp![bst,eL,lK]
  have u:xs.take (i+1)=xs.take i++[xs[i]]:=by rw[cY,ao hi];rfl
  refine⟨_,c,bD (by simp;omega),(b _ _).mpr ⟨?_,k.more hC⟩⟩;rw[ak,u,aT,aT];rfl
 intro F j;obtain⟨c,k⟩:=(b _ _).mp j;rw[af,e_]at c;refine⟨C,rfl,_,SqL.of c,by simpa using d,λM m n=>?_⟩;obtain⟨x,hx,rfl⟩:=aZ.mp m;exact q _ _ k (λy hy=>by have:=n _ (aZ.mpr ⟨y,hy,rfl⟩);omega) ⟨x,hx,rfl⟩
def Nz (K:ap):Sp:=λvs H Q _=>∃(n b:Int)(k:Nat),vs=[.int n,.int b]/\0<n/\2 ^ k*n<b ^ k/\k<=900/\29<=b/\b.natAbs<2 ^ 9000/\
 ∀f:aa,val b f=n->(∀x∈f,2*x.natAbs<=b.natAbs)->f≠[]->0<co f (f.length-1)->f.length<=900->dU H Q (f.map V')
theorem NA:FnOk P w K mg base CX0 1 T.Si T.Sj ["number","base"] (Nz K):=by
 refine T.Ud.ok n_ (λJ H Q E h=>?_) (λL A outer s H J Q E hr h=>?_)
 ·obtain⟨n,b,k,rfl,_⟩:=h;rfl
 obtain⟨n,b,G,rfl,O,nb,k9,u,bb,q⟩:=h;refine⟨_,s!"ɉò˗˝®Ȣȵɒòɤc˃ˌh*Ś&ȫȪȩ.ć(/òȟȪĈIʭȰʱɑ)òɤ¦ȻȢȫȪ˚",?_⟩
 w_up
 refine⟨aR _,λf y=>?_⟩
 w_up
 refine gU (λm σ j=>∃(a:Int)(ds:aa)(k:Nat)(r:Option V),m=a.natAbs/\σ=[some (V' a),some (V' b),some (Z' f),r]/\j f=some (.lst (ds.map V'))/\Same H j/\0<=a/\2 ^ k*a<b ^ k/\ds.length+k<=G/\(∀x∈ds,2*x.natAbs<=b.natAbs)/\(0<a\/ds≠[]/\0<co ds (ds.length-1))/\∀rest,val b rest=a->val b (ds++rest)=n) n.natAbs ?_ ?_
 ·exact⟨n,[],G,none,rfl,rfl,ak,az y _,(),nb,by simp,by simp,.inl O,λrest h=>h⟩
 rintro m σ j ⟨a,ds,k,r,rfl,rfl,hz,sz,h0,hk,hl,hb,hp,hv⟩
 w_left;k_units
 refine bO (λh=>?_) (λh=>?_)
 ·have hn:a≠0:=by simpa using h
  refine⟨λo g=>∃low t:Int,o=[some (V' t),some (V' b),some (Z' f),some (V' low)]/\g=upd j f (.lst ((ds++[low]).map V'))/\a=low+b*t/\2*low.natAbs<=b.natAbs/\0<=t,?_,(),?_⟩
  ·rintro o g ⟨low,t,rfl,rfl,c,d,p⟩
   have tb:b*t<=2*a:=by
    by_cases z:t=0
    ·rw[z];omega
    ·have B:b*1<=b*t:=mE () ();generalize b*t=X at B c ⊢;omega
   have tn:t<a:=by
    by_cases z:t=0
    ·omega
    ·have I:29*t<=b*t:=Br u p;omega
   obtain⟨e,rfl⟩:∃e,k=e+1:=⟨k-1,by
    by_cases z:k=0
    ·rw[z]at hk;simp at hk;omega
    ·omega⟩
   refine⟨t.natAbs,(),t,rfl,ds++[low],e,_,rfl,ak,sz.more y,p,?_,by simp;omega,λx hx=>?_,?_,λrest C=>?_⟩
   ·rw[kL,kL]at hk;have e1:2 ^ e*(b*t)<=2 ^ e*(2*a):=mE tb (Int.pow_nonneg ());have e2:(2:Int) ^ e*(2*a)=2 ^ e*2*a:=by grind
    have R:(2 ^ e*t)*b<b ^ e*b:=by
     have:(2:Int) ^ e*(b*t)=(2 ^ e*t)*b:=by grind
     omega
    exact Int.lt_of_mul_lt_mul_right R ()
   ·rcases a8.mp hx with z|z
    ·exact hb x z
    ·rw[aW.mp z];exact d
   ·by_cases z:t=0
    ·refine .inr ⟨by simp,?_⟩;rw[show (ds++[low]).length-1=ds.length by simp,kZ,if_pos rfl];rw[z,dq]at c;omega
    ·exact .inl ()
   ·rw[oM];refine hv ([low]++rest) ?_;show low+b*val b rest=a;rw[C,c]
  ·obtain⟨M,D⟩:∃M:L2.St->Hp->Prop,∀σ g,M σ g↔∃low t:Int,σ=[some (V' a),some (V' b),some (Z' f),some (V' low)]/\g=j/\a=low+b*t/\2*low.natAbs<=b.natAbs/\0<=t:=⟨_,λ_ _=>Iff.rfl⟩
   have m1:=Int.emod_nonneg a (show b≠0 by omega);have m2:=Int.emod_lt_of_pos a (show 0<b by omega);have m3:=Int.emod_add_mul_ediv a b;have S:=Int.ediv_nonneg h0 (show 0<=b by omega);have F:=bb;clear hk bb nb
   w_left;refine fP M ?_ ?_
   ·w_left;k_units
    refine⟨.inl ⟨(),()⟩,bO (λU=>(D _ _).mpr ⟨_,a / b+1,rfl,rfl,?_,(),()⟩) (λU=>(D _ _).mpr ⟨_,a / b,rfl,rfl,(),(),S⟩)⟩;rw[ig,oG];omega
   ·intro σ g Y;obtain⟨low,t,rfl,rfl,c,d,p⟩:=(D _ _).mp Y
    w_left;k_units
    have Z:(a-low).fdiv b=t:=by
     rw[show a-low=b*t by omega];exact kI _ ()
    rw[Z];refine⟨fO (SqL.of hz),_,hz,bD (by simp;omega),(),F,by rw[aT];rfl,c,d,p⟩
 ·have e0:a=0:=by simpa using h
  subst e0;rcases hp with z|⟨B,I⟩
  ·omega
  have v:=hv [] rfl;rw[mo]at v;exact q ds v hb B I () f _ sz y hz
structure Two (a b g:aa)(G:Nat):Prop where
 na:Nml a
 nb:Nml b
 a0:a≠[]
 b0:b≠[]
 la:a.length<=40
 lb:b.length<=40
 ba:∀z∈a,Bd 5000 z
 bb:∀z∈b,Bd 5000 z
 pg:hH (co g)
 ng:Nml g
 lg:g.length<=40
 up:0<co g (g.length-1)
 bG:Bd 4480 (G:Int)
 da:∃x,Div a g x
 db:∃y,Div b g y
 bz:∃(U V:aa)(m:Int),m≠0/\(∀z∈g,m.natAbs*z.natAbs<=G)/\∀n,val n U*val n a+val n V*val n b=m*val n g
theorem FS {p:Int}(b:1<=p){a:aa}(na:Nml a)(a0:a≠[])(h:∀z∈a,2*z.natAbs<=p.natAbs):val p a≠0:=by
 have c:=dw na a0;rcases Bm c with g|g
 ·have e:∀j,co (a.map λz=>-1*z) j=-1*co a j:=λj=>by
   by_cases h:j<a.length
   ·rw[aI (xs:=a.map _) (⇑h),aI h,cE]
   ·rw[aD (xs:=a.map _) (by simp;omega),aD (),dq]
  have:=(s_ b (a.map λz=>-1*z) (⇑a0) (λx hx=>by
   obtain⟨z,d,rfl⟩:=aZ.mp hx;have:=h z d;omega) (by rw[af,e];omega)).2
  rw[bL]at this;omega
 ·have:=(s_ b a a0 h g).2;omega
theorem FT {p:Int}(b:1<=p):∀a:aa,(∀z∈a,2*z.natAbs<=p.natAbs)->(val p a).natAbs<p.natAbs ^ a.length
 | [],_=>by simp[val]
 | x :: a,h=>by
  have i:=FT b a λz c=>h z (by simp[c]);have hx:=h x (by simp);have e:val p (x :: a)=x+p*val p a:=rfl;rw[e,cC,iF];have m:p.natAbs*((val p a).natAbs+1)<=p.natAbs*p.natAbs ^ a.length:=dZ _ i;rw[Ji,kP,fW _ (p.natAbs ^ a.length)]at m;have n:(p*val p a).natAbs=p.natAbs*(val p a).natAbs:=b6 _ _;have d:1<=p.natAbs:=jf.mpr ();refine cP (ca (ib _ _) ?_) m;rw[n];clear n m i e h b;generalize p.natAbs=pn at *;generalize x.natAbs=f at *;omega
theorem few {p L:Nat}(a:29<=p)(h:p ^ L<2 ^ L*p ^ 40):L<=52:=by
 refine oN λf=>?_;obtain⟨r,rfl⟩:∃r,L=52+r:=⟨L-52,()⟩
 have b:p ^ (52+r)=p ^ 40*(p ^ 12*p ^ r):=by rw[<-du,<-du];congr 1;omega
 have c:(2:Nat) ^ (52+r)=2 ^ 52*2 ^ r:=du 2 52 r;have g:29 ^ 12<=p ^ 12:=mL a 12;have d:2 ^ r<=p ^ r:=mL () r;have e:2 ^ 52*2 ^ r<=p ^ 12*p ^ r:=dJ () d;rw[b,c,fW (2 ^ 52*2 ^ r)]at h;exact absurd h (Nat.not_lt.mpr (dZ (p ^ 40) e))
theorem NB {p:Nat}(a:29<=p){n:Nat}(h:n<p ^ 40):2 ^ 60*n<p ^ 60:=by
 have b:p ^ 60=p ^ 20*p ^ 40:=by rw[<-du]
 have c:29 ^ 20<=p ^ 20:=mL a 20;have d:2 ^ 60*n<29 ^ 20*p ^ 40:=by
  refine ca (dA n (show 2 ^ 60<=29 ^ 20 by decide)) (Jd h ())
 rw[b];exact cP d (dA _ c)
theorem FW (f:aH)(c:Int)(j:Nat):pm f (λi=>if i=0 then c else 0) j=c*f j:=by
 unfold pm;rw[lC (i:=j) () λi hi a=>?_]
 ·show f j*(if j-j=0 then c else 0)=_;rw[if_pos (fB j),cw]
 ·show f i*(if j-i=0 then c else 0)=0;rw[if_neg (),dq]
theorem NC {a b g:aa}{G:Nat}(i:Two a b g G){p:Int}{M:Nat}(hp:2*(M:Int)+29<=p)(hM:(∀z∈a,z.natAbs<=M)\/(∀z∈b,z.natAbs<=M)):
  (0<bJ (val p a).natAbs (val p b).natAbs/\bJ (val p a).natAbs (val p b).natAbs<p.natAbs ^ 40)/\∀f:aa,val p f=(bJ (val p a).natAbs (val p b).natAbs:Nat)->(∀x∈f,2*x.natAbs<=p.natAbs)->f≠[]->0<co f (f.length-1)->
   f.length<=60/\0<ah f/\Nml (f.map λx=>x.fdiv (ah f))/\(∀qa qb,Div a (f.map λx=>x.fdiv (ah f)) qa->Div b (f.map λx=>x.fdiv (ah f)) qb->f.map (λx=>x.fdiv (ah f))=g)/\(2*(G:Int)+1<=p->f.map (λx=>x.fdiv (ah f))=g):=by
 obtain⟨U,V,m,m0,hG,bz⟩:=i.bz;obtain⟨x,hx⟩:=i.da;obtain⟨y,hy⟩:=i.db;have vx:=ir.mp hx;have vy:=ir.mp hy;have s:∃d:aa,(val p d≠0/\(val p d).natAbs<p.natAbs ^ 40)/\(bJ (val p a).natAbs (val p b).natAbs)∣(val p d).natAbs:=by
  have pw:∀d:aa,d.length<=40->(∀z∈d,z.natAbs<=M)->(val p d).natAbs<p.natAbs ^ 40:=λd hd n=>
   cP (FT () d λz R=>by have:=n z R;omega) (e9 () hd)
  rcases hM with h|h
  ·exact⟨a,⟨FS () i.na i.a0 λz n=>by have:=h z n;omega,pw a i.la h⟩,je _ _⟩
  ·exact⟨b,⟨FS () i.nb i.b0 λz n=>by have:=h z n;omega,pw b i.lb h⟩,jN _ _⟩
 obtain⟨d,⟨d0,dl⟩,dd⟩:=s;have F:0<bJ (val p a).natAbs (val p b).natAbs:=mB λz=>by
  rw[z]at dd;exact d0 (Int.natAbs_eq_zero.mp (Bo dd))
 have S:=jd (jf.mpr d0) dd;refine⟨⟨F,ca S dl⟩,λf T fs f0 O=>?_⟩;have fl:f.length<=60:=by
  have t:=(s_ () f f0 fs O).1;rw[T]at t;have e:(p.natAbs:Int)=p:=by omega
  have t':p.natAbs ^ (f.length-1)<=2 ^ (f.length-1)*bJ (val p a).natAbs (val p b).natAbs:=by
   have:((p.natAbs ^ (f.length-1):Nat):Int)<=((2 ^ (f.length-1)*bJ (val p a).natAbs (val p b).natAbs:Nat):Int):=by
    rw[Bx,fm,Bx,e];exact t
   exact Int.ofNat_le.mp this
  have:=few (p:=p.natAbs) (L:=f.length-1) () (ca t' (Jd () (dG _)));omega
 have hl:f.length-1<f.length:=by have:=de.mpr f0;omega
 have o:0<ah f:=mB λz=>by
  have:=gh f _ (bY hl);rw[z]at this;have:=I_.mp (⇑this);rw[aI hl,this]at O;omega
 have c0:((ah f:Nat):Int)≠0:=by omega
 have fz:∀z∈f,((ah f:Nat):Int)*z.fdiv (ah f:Nat)=z:=λz n=>by
  obtain⟨t,X⟩:=gh f z n;rw[X,kI _ c0]
 have P:∀j,co f j=((ah f:Nat):Int)*co (f.map λx=>x.fdiv (ah f:Nat)) j:=λj=>by
  by_cases q:j<f.length
  ·rw[aI q,aI (xs:=f.map _) (⇑q),cE];exact (fz _ (bY q)).symm
  ·rw[aD (),aD (xs:=f.map _) (by simp;omega),dq]
 have Y:val p f=((ah f:Nat):Int)*val p (f.map λx=>x.fdiv (ah f:Nat)):=by
  rw[<-bL];refine fu (λj=>?_) p;rw[P j];by_cases q:j<f.length
  ·rw[aI (xs:=(f.map _).map _) (⇑q),cE,aI (xs:=f.map _) (⇑q)]
  ·rw[aD (xs:=f.map _) (by simp;omega),aD (xs:=(f.map _).map _) (by simp;omega),dq]
 have Z:∀z∈f.map (λx=>x.fdiv (ah f:Nat)),2*(((ah f:Nat):Int)*z).natAbs<=p.natAbs:=λz n=>by
  obtain⟨x,hx,rfl⟩:=aZ.mp n;rw[fz x hx];exact fs x hx
 have H:(f.map λx=>x.fdiv (ah f:Nat)).length=f.length:=af _;have r:0<co (f.map λx=>x.fdiv (ah f:Nat)) (f.length-1):=by
  rw[P]at O;exact By O ()
 have fp:hH (co (f.map λx=>x.fdiv (ah f:Nat))):=λe he=>by
  have:e*ah f∣ah f:=iA _ f λz n=>by
   obtain⟨j,q,rfl⟩:=cm.mp n;rw[<-aI q,P j,fm,cw];exact Ja _ (he j)
  obtain⟨t,X⟩:=this;have:ah f*1=ah f*(e*t):=by rw[kP,<-gQ,fW _ e];exact X
  have:=Bk o this;exact (QE this.symm)
 generalize j0:(f.map λx=>x.fdiv (ah f:Nat))=u at *;generalize ah f=c at *;have I:u≠[]:=de.mp ();have B:Nml u:=d_.mpr λz n=>by
  rw[fK,H,ao ()]at n;rw[aI ()]at r;rw[<-Option.some.inj n];omega
 obtain⟨h,Q⟩:((val p g).natAbs)∣bJ (val p a).natAbs (val p b).natAbs:=oX #v[vx p,b6,Nat.dvd_mul_right _ _] #v[vy p,b6,Nat.dvd_mul_right _ _];have h1:1<=h:=mB λz=>by rw[z,Nat.mul_zero]at Q;omega
 have J:0<val p u:=by
  have:0<(c:Int)*val p u:=by rw[<-Y,T];omega
  exact By this ()
 have hv:(c:Int)*val p u=(h:Int)*((val p g).natAbs:Int):=by rw[<-Y,T,Q,fm,cw]
 refine⟨fl,o,B,λqa qb da db=>?_,λk0=>?_⟩
 ·rcases Mv (c:=c) (h:=h) hp fp B I () Z i.pg i.ng hx hy (hM.imp (λz=>⟨i.a0,i.na,z⟩) λz=>⟨i.b0,i.nb,z⟩) da db m0 bz () J hv with e|e
  ·exact e
  ·exfalso;have lg:u.length=g.length:=by rw[e,af]
   rw[<-H,e]at r;rw[af]at r;have hg:g.length-1<g.length:=by have:=de.mpr I;omega
   rw[aI (xs:=g.map _) (⇑hg),cE]at r;have:=i.up;rw[aI hg]at this;omega
 ·have hm:h∣m.natAbs:=by
   have dv:(bJ (val p a).natAbs (val p b).natAbs:Int)∣m*val p g:=by
    rw[<-bz p];exact I0 (eJ (uZ.mp (gO.mpr (je _ _))) (oU _ _)) (eJ (uZ.mp (gO.mpr (jN _ _))) (oU _ _))
   have dn:=iH.mpr dv;rw[dy,b6,Q,fW m.natAbs]at dn;have gp:0<(val p g).natAbs:=mB λz=>by rw[z,Nat.zero_mul]at Q;omega
   exact Nat.dvd_of_mul_dvd_mul_left gp dn
  have x0:=jd (jf.mpr m0) hm;have m1:=jf.mpr m0;have g0:g≠[]:=λz=>by have:=i.up;rw[z]at this;simp[co]at this
  have gs:∀z∈g,2*z.natAbs<=p.natAbs:=λz n=>by
   have:=hG z n;have:z.natAbs<=m.natAbs*z.natAbs:=gm _ m1;omega
  have y0:=(s_ () g g0 gs i.up).2;have hc:∀k,co f k=co (g.map λz=>(h:Int)*z) k:=Mw () f _ fs (λz n=>by
   obtain⟨y,hy,rfl⟩:=aZ.mp n;have h2:=hG y hy;have h3:h*y.natAbs<=m.natAbs*y.natAbs:=dA _ x0;rw[b6,dy];omega) (by rw[bL,Y,hv];congr 1;omega)
  have C:∀k,(c:Int)*co u k=(h:Int)*co g k:=λk=>by
   rw[<-P k,hc k];by_cases q:k<g.length
   ·rw[aI (xs:=g.map _) (⇑q),aI q,cE]
   ·rw[aD (xs:=g.map _) (by simp;omega),aD (),dq]
  have z0:h∣c:=by
   refine gO.mp (Classical.byContradiction λD=>?_);have z:=sV fp h h1 (λj=>if j=0 then (c:Int) else 0) (λj=>by
    rw[FW,C j];exact iL _ _) 0
   exact D (⇑z)
  have u0:c∣h:=by
   refine gO.mp (Classical.byContradiction λD=>?_);have z:=sV i.pg c o (λj=>if j=0 then (h:Int) else 0) (λj=>by
    rw[FW,<-C j];exact iL _ _) 0
   exact D (⇑z)
  have ch:c=h:=Jg u0 z0;refine ip B i.ng λk=>?_;have:=C k;rw[ch]at this;exact jP () this
def ND (K:ap):Sp:=λvs H Q _=>∃(p q:Addr)(a b g:aa)(G:Nat),vs=[.ref p,.ref q]/\SqL K H p (a.map V')/\SqL K H q (b.map V')/\Two a b g G/\dU H Q (g.map V')
theorem FX {one Wo q:aa}(h:Div one Wo q):Div one Wo (aL q):=λk=>by
 rw[h k];unfold pm;exact cB λj _=>by rw[cL]
theorem FY {K:ap}{c:Addr}{H:Hp}{d g:Addr}{one Wo:aa}{k l:Nat}{R:VK}(m:SqL K H d (one.map V'))(n:SqL K H g (Wo.map V'))(l1:one.length<=64)(o:Wo.length<=64)(n1:Nml one)(p:Nml Wo)(i:Wo≠[])(b1:∀x∈one,Bd k x)(b2:∀y∈Wo,Bd l y)(hk:k<=100000)(r:l<=8995)(j:∀x b,Same H b->((x=.non/\∀q,¬Div one Wo q)\/∃(F:Addr)(q:aa),x=.ref F/\H F=none/\b F=some (.lst (q.map V'))/\Nml q/\Div one Wo q)->R x b):
  FN K c [.ref d,.ref g] H R E0:=by
 refine⟨d,g,one,Wo,k,l,rfl,m,n,l1,o,n1,p,b1,b2,hk,(),.inr ⟨i,?_⟩⟩;by_cases a:∃q,Div one Wo q
 ·obtain⟨q,a⟩:=a;exact .inl ⟨aL q,cM q,FX a,λF b s f e=>j _ _ s (.inr ⟨F,aL q,rfl,f,e,cM q,FX a⟩)⟩
 ·exact .inr ⟨λq h=>a ⟨q,h⟩,λb s=>j _ _ s (.inl ⟨rfl,λq h=>a ⟨q,h⟩⟩)⟩
theorem jE {k l:Nat}{n:Int}(b:Bd l n):∀a:aa,(∀x∈a,Bd k x)->Bd (k+(l+1)*a.length) (val n a)
 | [],_=>Bd.zero _
 | x :: a,h=>by
  have i:=jE b a λy hy=>h y (by simp[hy]);have e:val n (x :: a)=x+n*val n a:=rfl;rw[e,cC,mJ];exact (((h x (by simp)).mono (l:=l+(k+(l+1)*a.length)) ()).add (b.mul i)).mono ()
theorem NE:FnOk P w K mg base CX0 4 T.Sn T.So ["one","other"] (ND K):=by
 refine T.Ug.ok oa (λvs H Q E h=>?_) (λu2 A outer s H vs Q E n h=>?_)
 ·obtain⟨p,q,a,b,g,G,rfl,_⟩:=h;rfl
 obtain⟨pa,pb,a,b,g,G,rfl,hA,hB,c,q⟩:=h;refine⟨_,s!"ɉóȟɃ*Ś&:ē˳ʐśʉŜŝŞʛʐśʉŜŝŞ˽$&.ʀ°±ɒóɋƮʉƯưƱ˪ĘʉęĚě˪čʉĎďĐɚɡʐčʉĎďĐʫɡ$ɡɒóɋĝʉĞğĠ˺ʐôʉõö÷˺ʌʡµ=Ùȥøʉùúûɚʱ]ȩ¶=Ùȥøʉùúûʫʱ˟ȫIɑ-óȟʧȰȰ&",?_⟩
 w_up
 refine⟨pa,a,rfl,hA,c.a0,by have:=c.la;omega,λMa H1 O x0 y0=>⟨pb,b,rfl,O.seq hB,c.b0,by have:=c.lb;omega,λMb H2 s2 z0 u0=>⟨_,rfl,_,rfl,.inl ⟨(),()⟩,?_⟩⟩⟩;have big:∀(M:Nat)(xs:aa),(∀z∈xs,Bd 5000 z)->(∃z∈xs,z.natAbs=M)->Bd 5000 (M:Int):=λM xs hb ⟨z,hz,e⟩=>by rw[<-e];exact hb z hz
 obtain⟨M,j0,hM,k0⟩:∃M:Nat,(2*if (Mb:Int)<(Ma:Int) then (Mb:Int) else (Ma:Int))+29=2*(M:Int)+29/\((∀z∈a,z.natAbs<=M)\/(∀z∈b,z.natAbs<=M))/\Bd 5000 (M:Int):=by
  by_cases h:(Mb:Int)<(Ma:Int)
  ·exact⟨Mb,by rw[if_pos h],.inr z0,big _ _ c.bb u0⟩
  ·exact⟨Ma,by rw[if_neg h],.inl x0,big _ _ c.ba y0⟩
 rw[j0];have s3:=O.trans s2;have n0:Bd 8990 (2*(M:Int)+29):=(((Bd.of_lt (k:=2) (m:=3) () ():Bd 2 (2:Int)).mul k0).add ((Bd.of_lt (m:=30) () ():Bd 5 (29:Int)).mono ())).mono ();refine gU (λk σ H'=>∃(p:Int)(r:Option V),k=(2*(G:Int)+1-p).toNat/\σ=[some (Z' pa),some (Z' pb),some (V' p),r]/\Same H H'/\2*(M:Int)+29<=p/\Bd 8990 p) (2*(G:Int)+1-(2*(M:Int)+29)).toNat ⟨_,none,rfl,rfl,s3,(),n0⟩ ?_
 rintro k σ H' ⟨p,r,rfl,rfl,L,hp,bp⟩
 w_left;k_units
 obtain⟨⟨y2,R⟩,fi⟩:=NC c hp hM;obtain⟨xg,x1⟩:=c.da;obtain⟨yg,y1⟩:=c.db;have la:=c.la;have lb:=c.lb;have bG:=c.bG;have z1:=jE bp a c.ba;have bvb:=jE bp b c.bb;have z2:Bd 400000 (val p a):=z1.mono ();have S:Bd 400000 (val p b):=bvb.mono ();refine⟨λU H1=>∃r:Option V,U=[some (Z' pa),some (Z' pb),some (V' (p*p+1)),r]/\Same H H1/\p<2*(G:Int)+1,?_,?_⟩
 ·rintro U H1 ⟨r,rfl,sN,hG⟩
  have pp:29*p<=p*p:=Br () ();have u1:Bd 4482 (2*(G:Int)):=((Bd.of_lt (k:=2) (m:=3) () ():Bd 2 (2:Int)).mul bG).mono ();have bq:Bd 4482 p:=ca (show p.natAbs<=(2*(G:Int)).natAbs by omega) u1;have v1:=((bq.mul bq).add (Bd.one ())).mono (l:=8990) ();refine⟨_,?_,p*p+1,rfl,r,rfl,sN,(),v1⟩;generalize p*p=X at pp;omega
 have pe:((p.natAbs:Nat):Int)=p:=by omega
 have t:(2:Int) ^ 60*((bJ (val p a).natAbs (val p b).natAbs:Nat):Int)<p ^ 60:=by
  have h:=NB (p:=p.natAbs) () R;have h2:((2 ^ 60*bJ (val p a).natAbs (val p b).natAbs:Nat):Int)<((p.natAbs ^ 60:Nat):Int):=Int.ofNat_lt.mpr h;rw[fm,Bx,Bx,pe]at h2;exact h2
 have b9:p.natAbs<2 ^ 9000:=cP bp (e9 () ());refine⟨pa,a,p,5000,8990,rfl,L.seq hA,(),c.ba,bp,(),pb,b,p,5000,8990,rfl,L.seq hB,(),c.bb,bp,(),_,_,rfl,S.mono (),λH9 s9=>?_⟩;have L:=L.trans s9;refine⟨_,p,60,rfl,(),t,(),(),b9,λf fv fs f0 ft fl F G1 O nF eF=>?_⟩;obtain⟨v2,c0,fn,Y,B⟩:=fi f fv fs f0 ft;have bf:∀x∈f,Bd 8990 x:=λx hx=>ca (show x.natAbs<=p.natAbs by have:=fs x hx;omega) bp;have j1:∀x∈f,Bd 900000 x:=λx hx=>(bf x hx).mono ();have k1:((ah f:Nat):Int).natAbs<2 ^ 9000:=by
  rw[dy];exact cP (ub (dG _) f bf) (e9 () ())
 clear t b9 R fl;refine⟨F,f,rfl,SqL.of eF,j1,λj2 C=>⟨F,f,_,rfl,SqL.of (C _ _ eF),(),(),k1,λF2 G2 s2 g1 o=>?_⟩⟩;have D:(f.map λx=>x.fdiv (ah f:Nat))≠[]:=by simpa using f0
 have I:∀y∈f.map (λx=>x.fdiv (ah f:Nat)),Bd 8991 y:=λy hy=>by
  obtain⟨x,hx,rfl⟩:=aZ.mp hy;exact FO (bf x hx) ()
 have J:(f.map λx=>x.fdiv (ah f:Nat)).length<=64:=by rw[af];omega
 have Z:=L.trans (O.trans (C.trans s2));have m1:H F2=none:=(L.trans (O.trans C)).free g1;have u:IntMulOk p p:=bp.fits bp ();generalize (f.map λx=>x.fdiv (ah f:Nat))=f2 at fn Y B o D I J;refine FY (one:=a) (Wo:=f2) (k:=5000) (l:=8991) (Z.seq hA) (SqL.of o) () J c.na fn D c.ba I () () λx3 G3 d n1=>?_;rcases n1 with ⟨rfl,j⟩|⟨Fq,qa,rfl,_,_,_,da⟩
 ·rw[if_neg (by simp)];refine⟨u,_,rfl,Z.trans d,Bz λz=>?_⟩;rw[B z]at j;exact j xg x1
 rw[if_pos (by simp)];refine FY (one:=b) (Wo:=f2) (k:=5000) (l:=8991) ((Z.trans d).seq hB) (SqL.of (d _ _ o)) () J c.nb fn D c.bb I () () λx4 G4 s4 x2=>?_;rcases x2 with ⟨rfl,j⟩|⟨k2,qb,rfl,_,_,_,db⟩
 ·rw[if_neg (by simp)];refine⟨u,_,rfl,Z.trans (d.trans s4),Bz λz=>?_⟩;rw[B z]at j;exact j yg y1
 rw[if_pos (by simp)];have e:=s4 _ _ (d _ _ o);rw[Y qa qb da db]at e;exact q F2 _ (Z.trans (d.trans s4)) m1 e
def FZ (K:ap):Sp:=λvs H Q _=>∃(pa pb:Addr)(a b:aa),vs=[.ref pa,.ref pb]/\SqL K H pa (a.map V')/\SqL K H pb (b.map V')/\a.length<=1000/\b.length<=1000/\
 ((a=[]/\dU H Q ((di b).map V'))\/(a≠[]/\b=[]/\dU H Q ((di a).map V'))\/
  (a≠[]/\b≠[]/\0<ah a/\0<ah b/\(∀z∈a,Bd 5000 z)/\(∀z∈b,Bd 5000 z)/\∃(g:aa)(G:Nat),Two (a.map λx=>x.fdiv (ah a:Nat)) (b.map λx=>x.fdiv (ah b:Nat)) g G/\dU H Q ((g.map λz=>((bJ (ah a) (ah b):Nat):Int)*z).map V')))
theorem NG:FnOk P w K mg base CX0 5 T.Sq T.Sr ["one","other"] (FZ K):=by
 refine T.Uh.ok tE (λU H Q E h=>?_) (λX A outer s H U Q E d h=>?_)
 ·obtain⟨p,q,a,b,rfl,_⟩:=h;rfl
 obtain⟨pa,o,a,b,rfl,e,f,la,lb,q⟩:=h;refine⟨_,s!"˵ɪʃȥşʳŠšŢ˽I˵ɼʃȥşʳŠšŢʛ˧ġɋôʳõö÷ʛɒġɋôʳõö÷˽ɯġɨȥĘʳęĚěʰʱȨʩ6ĢʔȥƲʳƳƴƵ˪ĝʳĞğĠɚɡʐĝʳĞğĠʫɮʌKȾȪȢ",?_⟩
 k_units
 refine⟨_,.inl e,?_⟩;rw[af];refine bO (λh=>?_) (λh=>⟨_,.inl f,?_⟩)
 ·have a0:a=[]:=bC ();rcases q with ⟨_,q⟩|⟨z,_⟩|⟨z,_⟩
  ·exact⟨o,b,rfl,f,lb,q⟩
  ·exact absurd a0 z
  ·exact absurd a0 z
 have a0:a≠[]:=by intro z;rw[z]at h;simp at h
 rw[af];refine bO (λh=>?_) (λh=>?_)
 ·have b0:b=[]:=bC ();rcases q with ⟨z,_⟩|⟨_,_,q⟩|⟨_,z,_⟩
  ·exact absurd z a0
  ·exact⟨pa,a,rfl,e,la,q⟩
  ·exact absurd b0 z
 have b0:b≠[]:=by intro z;rw[z]at h;simp at h
 rcases q with ⟨z,_⟩|⟨_,z,_⟩|⟨_,_,Y,cb,ba,bb,g,G,j,q⟩
 ·exact absurd z a0
 ·exact absurd z b0
 have k:∀{xs:aa},(∀z∈xs,Bd 5000 z)->Bd 5000 ((ah xs:Nat):Int):=λ{xs} hx=>by
  show ((ah xs:Nat):Int).natAbs<2 ^ 5000;rw[dy];exact ub (dG _) xs hx
 have I:∀{x:Int},Bd 5000 x->x.natAbs<2 ^ 9000:=λ{x} hx=>cP hx (e9 () ());refine⟨pa,a,rfl,e,λx hx=>(ba x hx).mono (),λH7 J=>⟨o,b,rfl,J.seq f,λx hx=>(bb x hx).mono (),λH8 Z=>⟨_,_,rfl,(k bb).mono (),λH9 s9=>?_⟩⟩⟩;have r:=J.trans (Z.trans s9);rw[dy,dy];refine⟨pa,a,_,rfl,r.seq e,(),(),I (k ba),λA1 H1 L n1 e1=>⟨o,b,_,rfl,(r.trans L).seq f,(),(),I (k bb),λB1 H2 M n2 e2=>⟨A1,B1,_,_,g,G,rfl,SqL.of (M _ _ e1),SqL.of e2,j,λF H3 s3 n3 O=>?_⟩⟩⟩;have sg:∀z∈g,Bd 4480 z:=λz hz=>by
  obtain⟨_,_,m,m0,hG,_⟩:=j.bz;have h1:=hG z hz;have h2:z.natAbs<=m.natAbs*z.natAbs:=gm _ (jf.mpr m0);exact ca (show z.natAbs<=(G:Int).natAbs by omega) j.bG
 have gc:Bd 5000 ((bJ (ah a) (ah b):Nat):Int):=ca (show ((bJ (ah a) (ah b):Nat):Int).natAbs<=((ah a:Nat):Int).natAbs by have:=Nat.gcd_le_left (ah b) Y;omega) (k ba);have lg:=j.lg;refine⟨F,rfl,⟨_,SqL.of O⟩,λC hC=>?_⟩;obtain⟨t,c⟩:∃t:cx,∀i u,t i u↔u C=some (.lst (((g.take i).map λz=>((bJ (ah a) (ah b):Nat):Int)*z).map V'))/\Same H3 u:=⟨_,λ_ _=>Iff.rfl⟩
 refine eE (xs:=g.map V') t ((c _ _).mpr ⟨by rw[ak];rfl,az hC _⟩) (λi R _ z=>SqL.of (((c i R).mp z).2 _ _ O)) ?_ ?_
 ·intro i v R y B;obtain⟨n,D⟩:=(c _ _).mp B;have hi:i<g.length:=by have:=(aY.mp y).1;rw[af]at this;exact this
  rw[aG,ao hi]at y;obtain rfl:V' g[i]=v:=Option.some.inj y
  simp![bst,eL]
  have et:g.take (i+1)=g.take i++[g[i]]:=by rw[cY,ao hi];rfl
  refine⟨gc.fits (sg _ (bY hi)) (),_,n,FP (by simp;omega),(c _ _).mpr ⟨?_,D.more hC⟩⟩;rw[ak,et,aT,aT];rfl
 intro H4 B;obtain⟨n,D⟩:=(c _ _).mp B;rw[af,e_]at n;have S:=r.trans (L.trans (M.trans s3));exact q C _ (S.trans D) (S.free hC) n
def dvL (xs:aa)(c:Nat):aa:=xs.map λx=>x.fdiv (c:Int)
theorem NH {c:Nat}(a:0<c){x:Int}(h:(c:Int)∣x):(c:Int)*x.fdiv (c:Int)=x:=by
 rw[Be _ ()];exact uU h
theorem NI (xs:aa)(c:Nat)(j:Nat):co (dvL xs c) j=(co xs j).fdiv (c:Int):=by
 unfold dvL;by_cases h:j<xs.length
 ·rw[aI #v[af,h],aI h,cE]
 ·rw[aD (by rw[af];omega),aD ()];simp
theorem jF {xs:aa}(a:0<ah xs)(j:Nat):((ah xs:Nat):Int)*co (dvL xs (ah xs)) j=co xs j:=by
 rw[NI];exact NH a (cN (gh xs) (oS _) j)
theorem lM {xs:aa}(a:0<ah xs)(n:Int):((ah xs:Nat):Int)*val n (dvL xs (ah xs))=val n xs:=by
 rw[<-bL];refine fu (λj=>?_) n;rw[<-jF a j];by_cases h:j<(dvL xs (ah xs)).length
 ·rw[aI #v[af,h],aI h,cE]
 ·rw[aD (by rw[af];omega),aD ()];simp
theorem jG (xs:aa)(c:Nat):(dvL xs c).length=xs.length:=af ..
theorem gu {xs:aa}(h:Nml xs)(a:xs≠[]):0<ah xs:=by
 refine mB λz=>?_;have:=dw h a;have b:=cN (P:=λx=>((ah xs:Nat):Int)∣x) (gh xs) (oS _) (xs.length-1);rw[z]at b;exact this (I_.mp b)
theorem ud {xs:aa}(h:Nml xs)(a:xs≠[]):Nml (dvL xs (ah xs)):=by
 refine og (.inr λz=>?_);rw[jG]at z;have:=jF (gu h a) (xs.length-1);rw[z,dq]at this;exact dw h a this.symm
theorem ue {xs:aa}(a:0<ah xs):hH (co (dvL xs (ah xs))):=λd hd=>by
 have h:d*ah xs∣ah xs:=iA _ _ (cu λj=>by
  rw[<-jF a j,fm,cw (d:Int)];exact Ja _ (hd j))
 obtain⟨e,b⟩:=h;have c:ah xs*(d*e)=ah xs*1:=by rw[kP,<-gQ,fW (ah xs) d];exact b.symm
 have f:=Bk a c;exact QE f
theorem F1 {p g A:aa}(a:0<ah p)(b:0<ah g)(h:∀j,co A j=pm (co p) (co g) j):ah A=ah p*ah g:=by
 have e:∀j,co A j=((ah p*ah g:Nat):Int)*pm (co (dvL p (ah p))) (co (dvL g (ah g))) j:=λj=>by
  rw[h j,fm,cD,<-nJ,<-Md];congr 1
  ·funext i;exact (jF a i).symm
  ·funext i;exact (jF b i).symm
 have m:ah p*ah g∣ah A:=iA _ _ (cu λj=>#v[e j,iL _ _]);obtain⟨f,d⟩:=m;have n:0<ah p*ah g:=gM a b;have c:f=1:=Mu (ue a) (ue b) f λj=>by
  have k:=cN (P:=λx=>((ah A:Nat):Int)∣x) (gh A) (oS _) j;rw[e j,d,fm _ f]at k;exact Qv () k
 rw[d,c,kP]
theorem uf (xs:aa):∃e:Int,(e=1\/e=-1)/\∀j,co (di xs) j=e*co xs j:=by
 unfold di
 split
 ·exact⟨-1,.inr rfl,λj=>by rw[zJ];omega⟩
 ·exact⟨1,.inl rfl,λj=>by omega⟩
theorem lN (xs:aa):(di xs).length=xs.length:=by unfold di;split <;> simp
theorem lP {xs:aa}(h:Nml xs)(a:xs≠[]):0<co (di xs) ((di xs).length-1):=by
 have:=dw h a;rw[lN];unfold di
 split
 ·rename_i z;rw[zJ];omega
 ·rename_i z;have:¬co xs (xs.length-1)<0:=λy=>z ⟨a,y⟩;omega
theorem NJ {xs ys:aa}(c:Nml xs)(hy:Nml ys){e:Int}(d:e=1\/e=-1)(h:∀j,co ys j=e*co xs j)(i:ys≠[]->0<co ys (ys.length-1)):ys=di xs:=by
 by_cases hx:xs=[]
 ·have:ys=[]:=nL hy λk=>by rw[h k,hx,f_];simp
  rw[this,hx];rfl
 obtain⟨f,m,g⟩:=uf xs;have a:ys.length=xs.length:=Nat.le_antisymm (g_ hy λk hk=>by rw[h k,aD hk];simp) (g_ c λk hk=>by
  have:=h k;rw[aD hk]at this;rcases d with rfl|rfl <;> omega)
 have b:ys≠[]:=by intro z;rw[z]at a;exact hx (bC a.symm)
 have n:=i b;have o:=lP c hx;rw[lN,g]at o;rw[a,h]at n;have:e=f:=by rcases d with rfl|rfl <;> rcases m with rfl|rfl <;> first|rfl|omega
 exact zH (by rw[a,lN]) λk _=>by rw[h k,g k,this]
theorem Ay {xs:aa}(h:Nml xs):Nml (di xs):=by
 by_cases hx:xs=[]
 ·rw[hx];exact b_
 ·have:=lP h hx;exact og (.inr ())
theorem NK {p q g A B U W:aa}{m:Int}(np:Nml p)(nq:Nml q)(ng:Nml g)(nA:Nml A)(nB:Nml B)(p0:p≠[])(q0:q≠[])(g0:g≠[])(lA:A.length<=40)(lB:B.length<=40)(lg:g.length<=40)(bA:∀z∈A,Bd 5000 z)(bB:∀z∈B,Bd 5000 z){G:Nat}(bg:∀z∈g,m.natAbs*z.natAbs<=G)(hm:m≠0)(bG:Bd 4480 (G:Int))(hb:∀n,val n U*val n p+val n W*val n q=m)(hA:∀n,val n A=val n p*val n g)(hB:∀n,val n B=val n q*val n g):
  0<ah A/\0<ah B/\A≠[]/\B≠[]/\Two (dvL A (ah A)) (dvL B (ah B)) (di (dvL g (ah g))) G/\
   (di (dvL g (ah g))).map (λz=>((bJ (ah A) (ah B):Nat):Int)*z)=di (g.map λz=>((ah (p++q):Nat):Int)*z):=by
 have cp:=gu np p0;have F:=gu nq q0;have b:=gu ng g0;have L:∀j,co A j=pm (co p) (co g) j:=λj=>by rw[<-ga];exact fh (λn=>by rw[hA,cy]) j
 have M:∀j,co B j=pm (co q) (co g) j:=λj=>by rw[<-ga];exact fh (λn=>by rw[hB,cy]) j
 have O:=F1 cp b L;have Q:=F1 F b M;have i:0<ah A:=by rw[O];exact gM cp b
 have s:0<ah B:=by rw[Q];exact gM F b
 have R:A≠[]:=by intro z;rw[z]at i;simp[ah]at i
 have S:B≠[]:=by intro z;rw[z]at s;simp[ah]at s
 obtain⟨e,o,H⟩:=uf (dvL g (ah g));have T:e*e=1:=by rcases o with rfl|rfl <;> rfl
 have k:=ud ng g0;have t:dvL g (ah g)≠[]:=by intro z;have:=jG g (ah g);rw[z]at this;exact g0 (bC this.symm)
 have X:∀n,val n (di (dvL g (ah g)))=e*val n (dvL g (ah g)):=λn=>by
  rw[<-bL];refine fu (λj=>?_) n;rw[H j];by_cases h:j<(dvL g (ah g)).length
  ·rw[aI (xs:=oV _ _) #v[af,h],aI h,cE]
  ·rw[aD (xs:=oV _ _) (by rw[af];omega),aD (xs:=dvL _ _) ()];simp
 have y:∀{r C:aa},0<ah r->ah C=ah r*ah g->0<ah C->(∀n,val n C=val n r*val n g)->∀n,val n (dvL C (ah C))=val n (dvL r (ah r))*val n (dvL g (ah g)):=λ{r C} I Y h3 h4 n=>by
  have f:=lM h3 n;rw[h4 n,<-lM I n,<-lM b n]at f;have D:((ah C:Nat):Int)*val n (dvL C (ah C))=((ah C:Nat):Int)*(val n (dvL r (ah r))*val n (dvL g (ah g))):=by
   rw[f]
   conv=>rhs;rw[Y,fm]
   simp only[cD,jO]
  exact jP () D
 have kA:=y cp O i hA;have kB:=y F Q s hB;have a:∀{C:aa},0<ah C->(∀z∈C,Bd 5000 z)->∀z∈dvL C (ah C),Bd 5000 z:=λ{C} I Y=>cu λj=>by
  have f:=jF I j;have D:Bd 5000 (co C j):=cN Y (Bd.zero _) j;have a3:(co C j).natAbs=ah C*(co (dvL C (ah C)) j).natAbs:=by rw[<-f,b6,dy]
  have a4:(co (dvL C (ah C)) j).natAbs<=ah C*(co (dvL C (ah C)) j).natAbs:=gm _ I;exact ca (show (co (dvL C (ah C)) j).natAbs<=(co C j).natAbs by omega) D
 refine⟨i,s,R,S,⟨ud nA R,ud nB S,by intro z;have:=jG A (ah A);rw[z]at this;exact R (bC this.symm),by intro z;have:=jG B (ah B);rw[z]at this;exact S (bC this.symm),
  by rw[jG];exact lA,#v[jG,lB],a i bA,a s bB,?_,Ay k,#v[lN,jG,lg],lP k t,bG,?_,?_,?_⟩,?_⟩
 ·intro d hd;refine ue b d λj=>?_;have:=hd j;rw[H j]at this;rcases o with rfl|rfl
  ·rwa [dS]at this
  ·rw[Int.neg_mul,dS]at this;exact Int.dvd_neg.mp this
 ·refine⟨(dvL p (ah p)).map λx=>e*x,ir.mpr λn=>?_⟩;rw[kA n,X n,bL];generalize val n (dvL p (ah p))=u;generalize val n (dvL g (ah g))=v
  calc u*v=(e*e)*(u*v):=by rw[T,dS]
   _=e*v*(e*u):=by simp only[cD,cw,jO]
 ·refine⟨(dvL q (ah q)).map λx=>e*x,ir.mpr λn=>?_⟩;rw[kB n,X n,bL];generalize val n (dvL q (ah q))=u;generalize val n (dvL g (ah g))=v
  calc u*v=(e*e)*(u*v):=by rw[T,dS]
   _=e*v*(e*u):=by simp only[cD,cw,jO]
 ·refine⟨U.map λx=>((ah p:Nat):Int)*x,W.map λx=>((ah q:Nat):Int)*x,m*e,?_,?_,λn=>?_⟩
  ·rcases o with rfl|rfl <;> omega
  ·refine cu λj=>?_;have f:(m*e).natAbs=m.natAbs:=by rcases o with rfl|rfl <;> omega
   have D:(co (di (dvL g (ah g))) j).natAbs=(co (dvL g (ah g)) j).natAbs:=by rw[H j];rcases o with rfl|rfl <;> omega
   have a3:=jF b j;have a4:m.natAbs*(co g j).natAbs<=G:=cN (P:=λz=>m.natAbs*z.natAbs<=G) bg (by simp) j;have a5:(co g j).natAbs=ah g*(co (dvL g (ah g)) j).natAbs:=by rw[<-a3,b6,dy]
   have a6:(co (dvL g (ah g)) j).natAbs<=ah g*(co (dvL g (ah g)) j).natAbs:=gm _ b;rw[f,D];exact aM (dZ _ ()) a4
  ·have f:=hb n;rw[<-lM cp n,<-lM F n]at f;rw[bL,bL,kA n,kB n,X n,<-f];generalize val n (dvL p (ah p))=u;generalize val n (dvL q (ah q))=Z;generalize val n (dvL g (ah g))=v;generalize ((ah p:Nat):Int)=c1;generalize ((ah q:Nat):Int)=c2
   calc c1*val n U*(u*v)+c2*val n W*(Z*v)=(val n U*(c1*u)+val n W*(c2*Z))*v:=by rw[uS];simp only[cD,cw,jO]
    _=(val n U*(c1*u)+val n W*(c2*Z))*((e*e)*v):=by rw[T,dS]
    _=_:=by simp only[cD]
 ·have ec:bJ (ah A) (ah B)=ah (p++q)*ah g:=by
   rw[O,Q,Nat.gcd_mul_right];congr 1;refine Jg (iA _ _ λx hx=>?_) (oX (iA _ _ λx hx=>gh _ x (by simp[hx])) (iA _ _ λx hx=>gh _ x (by simp[hx])));rcases a8.mp hx with z|z
   ·exact eJ (gO.mpr (je _ _)) (gh p x z)
   ·exact eJ (gO.mpr (jN _ _)) (gh q x z)
  have y0:0<ah (p++q):=mB λz=>by
   rw[z]at ec;have:0<bJ (ah A) (ah B):=Jj _ i;omega
  have J:∀(c:Int)(xs:aa) j,co (xs.map λz=>c*z) j=c*co xs j:=λc xs j=>by
   by_cases h:j<xs.length
   ·rw[aI #v[af,h],aI h,cE]
   ·rw[aD (by rw[af];omega),aD (xs:=xs) ()];simp
  have ut:=lP k t;have x0:0<bJ (ah A) (ah B):=Jj _ i;have tp:0<co ((di (dvL g (ah g))).map λz=>((bJ (ah A) (ah B):Nat):Int)*z) (((di (dvL g (ah g))).map λz=>((bJ (ah A) (ah B):Nat):Int)*z).length-1):=by
   rw[af,J];exact uT () ut
  refine NJ ?_ (og (.inr ())) o (λj=>?_) (λ_=>tp)
  ·refine og (.inr ?_);rw[af,J];exact fX () (dw ng g0)
  ·rw[J,J,H,ec,<-jF b j,fm];simp only[cD,cw,jO]
def fQ (A B R:aa):Prop:=
 (A=[]/\R=di B)\/(A≠[]/\B=[]/\R=di A)\/
 (A≠[]/\B≠[]/\0<ah A/\0<ah B/\(∀z∈A,Bd 5000 z)/\(∀z∈B,Bd 5000 z)/\∃(g:aa)(G:Nat),Two (dvL A (ah A)) (dvL B (ah B)) g G/\R=g.map λz=>((bJ (ah A) (ah B):Nat):Int)*z)
theorem dN (c:Int)(xs:aa)(j:Nat):co (xs.map λz=>c*z) j=c*co xs j:=by
 by_cases h:j<xs.length
 ·rw[aI #v[af,h],aI h,cE]
 ·rw[aD (by rw[af];omega),aD (xs:=xs) ()];simp
theorem fS (n:Int)(xs:aa):val n (aL xs)=val n xs:=fu (λk=>cL xs k) n
def pdL (g h:aa):aa:=aL (be g h)
theorem cI (g h:aa):Nml (pdL g h):=cM _
theorem a7 (n:Int)(g h:aa):val n (pdL g h)=val n g*val n h:=by unfold pdL;rw[fS,cy]
theorem NL (g:aa):pdL g []=[]:=cO (cI _ _) b_ λn=>by rw[a7];simp[val]
theorem lQ (g h:aa)(j:Nat):co (pdL g h) j=pm (co g) (co h) j:=by unfold pdL;rw[cL,ga]
theorem gG {g h:aa}(ng:Nml g)(b:Nml h)(g0:g≠[])(c:h≠[]):pdL g h≠[]:=λz=>by
 have:=lQ g h (h.length-1+(g.length-1));rw[z,f_,kh (λj a=>gD j a) (λj a=>gD j a)]at this;exact fX (dw ng g0) (dw b c) this.symm
theorem ug {g h:aa}(ng:Nml g)(a:Nml h):(pdL g h).length<=g.length+h.length-1:=i8 ng a (cI _ _) (lQ g h)
theorem Az {g h:aa}{M N:Nat}(a:∀z∈g,z.natAbs<=M)(b:∀z∈h,z.natAbs<=N):∀z∈pdL g h,z.natAbs<=g.length*(M*N):=cu λj=>by
 unfold pdL;rw[cL];exact tS b g a j
theorem F3 (xs:aa):∃e:Int,(e=1\/e=-1)/\∀n,val n (di xs)=e*val n xs:=by
 obtain⟨e,a,b⟩:=uf xs;exact⟨e,a,λn=>by rw[<-bL];exact fu (λj=>by rw[b j,dN]) n⟩
theorem F4 {xs:aa}(h:xs≠[]):di xs≠[]:=λz=>h (bC (by rw[<-lN,z];rfl))
theorem NM {K:ap}{H:Hp}{pa a:Addr}{A B R:aa}{Q:VK}{E:XK}(b:SqL K H pa (A.map V'))(c:SqL K H a (B.map V'))(la:A.length<=1000)(lb:B.length<=1000)(h:fQ A B R)(q:dU H Q (R.map V')):FZ K [.ref pa,.ref a] H Q E:=by
 refine⟨pa,a,A,B,rfl,b,c,la,lb,?_⟩;rcases h with ⟨z,rfl⟩|⟨d,e,rfl⟩|⟨f,i,j,k,b1,b2,g,G,m,rfl⟩
 ·exact .inl ⟨z,q⟩
 ·exact .inr (.inl ⟨d,e,q⟩)
 ·exact .inr (.inr ⟨f,i,j,k,b1,b2,g,G,m,q⟩)
def NN (K:ap):Sp:=λvs H Q _=>∃(R:Addr)(as:am)(rows:ac)(f:Nat->aa),vs=[.ref R]/\SqL K H R (as.map Z')/\LL K H as rows/\rows.length<=1000/\(∀r∈rows,r.length<=1000)/\(∀i,(f i).length<=1000)/\
 f 0=[]/\(∀i r,rows[i]?=some r->fQ (f i) r (f (i+1)))/\dU H Q ((f rows.length).map V')
theorem F5:FnOk P w K mg base CX0 6 T.Ss T.Su ["polys"] (NN K):=by
 refine T.Sv.ok tG (λx H Q E h=>?_) (λy A outer s H x Q E B h=>?_)
 ·obtain⟨R,as,rows,f,rfl,_⟩:=h;rfl
 obtain⟨R,as,rows,f,rfl,n,o,lr,br,C,D,fs,q⟩:=h;refine⟨_,s!"ɿģ˗˼ȹ-ģ˩,ģɋƶȤƷ ƸƹƺʫɡȨȪ",?_⟩
 w_up
 refine⟨aR _,λF p=>?_⟩;have t:=az p (.lst [])
 w_up
 refine⟨⟨_,t.seq n⟩,?_⟩;obtain⟨j,b⟩:∃j:Nat->L2.St->Hp->Prop,∀i σ c,j i σ c↔∃(X:Addr)(k:Option V),σ=[some (Z' R),some (Z' X),k]/\c X=some (.lst ((f i).map V'))/\H X=none/\Same H c:=⟨_,λ_ _ _=>Iff.rfl⟩
 refine iV (xs:=as.map Z') j ((b _ _ _).mpr ⟨F,_,rfl,by rw[ak,D];rfl,p,t⟩) (λi σ c _ z=>by obtain⟨_,_,_,_,_,z⟩:=(b i σ c).mp z;exact z.seq n) ?_ ?_
 ·intro i v σ c G m;obtain⟨X,k,rfl,g,u,d⟩:=(b _ _ _).mp m;obtain⟨a,r,rfl,O,e,I⟩:=o.nth G
  w_left;k_units
  exact NM (SqL.of g) (d.seq I) (C i) (br r (bT e)) (fs i r e) λY S J L M=>(b _ _ _).mpr ⟨Y,_,rfl,M,d.free L,d.trans J⟩
 ·intro σ c m;obtain⟨X,k,rfl,g,u,d⟩:=(b _ _ _).mp m
  w_left;k_units
  rw[af,o.len]at g;exact q X _ d u g
def fT (b:Bool)(R:aa):aa:=if b then R.map (λz=>-z) else R
def NO (K:ap):Sp:=λvs H Q _=>∃(A:Addr)(as:am)(ps:ac)(f:Nat->aa)(qs:ac)(p0:aa)(t:Int),vs=[.ref A]/\SqL K H A (as.map Z')/\LL K H as ps/\ps.length<=60/\(∀p∈ps,p.length<=64/\Nml p/\∀c∈p,Bd 5000 c)/\(∀i,(f i).length<=64)/\f 0=[]/\(∀i r,ps[i]?=some r->fQ (f i) r (f (i+1)))/\
 ps.getLast?=some (p0++[t])/\f ps.length≠[]/\Nml (f ps.length)/\(∀c∈f ps.length,Bd 8000 c)/\qs.length=ps.length/\(∀(i:Nat)(p q:aa),ps[i]?=some p->qs[i]?=some q->Nml q/\Div p (fT (decide (t<0)) (f ps.length)) q)/\
 ∀(D:Addr)(bs:am)(H':Hp),Same H H'->H D=none->H' D=some (.lst (bs.map Z'))->LH H' bs qs->(∀b∈bs,H b=none)->D∉bs->Q (.ref D) H'
theorem NP {R:aa}(h:Nml R):Nml (R.map λz=>-z):=d_.mpr λx hx=>by
 rw[u_]at hx;obtain⟨y,hy,rfl⟩:=cZ.mp hx;have:=d_.mp h y hy;omega
theorem NQ:FnOk P w K mg base CX0 7 T.SR T.SS ["polys"] (NO K):=by
 refine T.Uw.ok Ae (λvs H Q E h=>?_) (λz0 A outer s H vs Q E Y h=>?_)
 ·obtain⟨A,as,Z,f,I,p0,t,rfl,_⟩:=h;rfl
 obtain⟨A,as,Z,f,I,p0,t,rfl,J,hL,u0,bp,bf,f0,fs,hl,fn,nf,x,lq,hq,x0⟩:=h;refine⟨_,s!"ɿţɨȥŤȤť ŦŧŨʛˌ¬ȳʚ˾ɑ,ţɨʠɾȽȢɹʩ,ĢʔȢʪøȤť ùúûʎ",?_⟩
 have la:=hL.len
 w_up
 refine⟨A,as,Z,f,rfl,J,hL,(),λr Y=>by have:=(bp r Y).1;omega,λi=>by have:=bf i;omega,f0,fs,λS H1 s1 nS eS=>?_⟩;generalize hR:f Z.length=R at fn nf x hq eS;have lR:R.length<=64:=by rw[<-hR];exact bf _
 obtain⟨M,hM⟩:∃M:L2.St->Hp->Prop,∀σ H',M σ H'↔∃S':Addr,σ=[some (Z' A),some (Z' S')]/\H' S'=some (.lst ((fT (decide (t<0)) R).map V'))/\Same H H':=⟨_,λ_ _=>Iff.rfl⟩
 w_left;refine fP M ?_ ?_
 ·w_left;k_units
  obtain⟨y0,rfl⟩:=oW.mp hl;obtain⟨k,a,rfl⟩:∃k a,as=k++[a]:=by
   cases z:as.getLast? with
   | none=>rw[uW]at z;rw[z]at la;simp at la
   | some a=>exact⟨_,a,(oW.mp z).choose_spec⟩
  have l1:k.length=y0.length:=by simpa using la
  have m:SqL K H a ((p0++[t]).map V'):=hL.get k.length a _ (by simp) (by rw[l1];simp);have e1:(k++[a]).map Z'=k.map Z'++[Z' a]:=by rw[aT];rfl
  have e2:(p0++[t]).map V'=p0.map V'++[V' t]:=by rw[aT];rfl
  rw[e1]at J;rw[e2]at m;refine⟨_,s1.seq J,_,DW _ _,a,rfl,_,s1.seq m,_,DW _ _,t,rfl,bO (λz=>⟨⟨_,SqL.of eS⟩,λD C=>?_⟩) (λz=>(hM _ _).mpr ⟨S,rfl,?_,s1⟩)⟩
  ·obtain⟨B,e⟩:∃B:cx,∀j g,B j g↔g D=some (.lst (((R.map λz=>-z).take j).map V'))/\Same H1 g:=⟨_,λ_ _=>Iff.rfl⟩
   refine eE (xs:=R.map V') B ((e _ _).mpr ⟨ak,az C _⟩) (λi g _ y=>by obtain⟨_,y⟩:=(e i g).mp y;exact SqL.of (y _ _ eS)) ?_ ?_
   ·intro j v g hv o;obtain⟨u,n⟩:=(e _ _).mp o;rw[aG]at hv;obtain⟨c,L,rfl⟩:=cZ.mp hv;have hj:=(aY.mp L).1
    w_left;simp![bst,eL]
    refine⟨_,u,?_,(e _ _).mpr ⟨?_,n.more C⟩⟩
    ·rw[af,bX];exact bD ()
    ·rw[ak,cY,aG,L,aT];rfl
   intro g o;obtain⟨u,n⟩:=(e _ _).mp o;rw[af,gl #v[af,aA _]]at u;refine (hM _ _).mpr ⟨D,rfl,?_,s1.trans n⟩;rw[u];unfold fT;rw[if_pos (⇑z)]
  ·rw[eS];unfold fT;rw[if_neg (⇑z)]
 intro σ H2 hm;obtain⟨S',rfl,O,F⟩:=(hM _ _).mp hm
 w_up
 have nR:Nml (fT (decide (t<0)) R)/\fT (decide (t<0)) R≠[]/\(fT (decide (t<0)) R).length<=64/\∀c∈fT (decide (t<0)) R,Bd 8000 c:=by
  unfold fT
  split
  ·refine⟨NP nf,λz=>fn (oQ.mp z),#v[af,lR],λc o=>?_⟩;obtain⟨d,hd,rfl⟩:=aZ.mp o;exact (x d hd).neg
  ·exact⟨nf,fn,lR,x⟩
 generalize fT (decide (t<0)) R=R' at nR hq O;obtain⟨n1,n2,n3,n4⟩:=nR;refine⟨⟨_,F.seq J⟩,λD C=>?_⟩;obtain⟨B,e⟩:∃B:cx,∀j g,B j g↔∃bs:am,g D=some (.lst (bs.map Z'))/\LH g bs (I.take j)/\D∉bs/\Same H2 g/\∀b∈bs,H2 b=none:=⟨_,λ_ _=>Iff.rfl⟩
 refine eE (xs:=as.map Z') B ((e _ _).mpr ⟨[],ak,LH.nil _,by simp,az C _,by simp⟩) (λi g _ y=>by obtain⟨_,_,_,_,y,_⟩:=(e i g).mp y;exact (F.trans y).seq J) ?_ ?_
 ·intro j v g hv o;obtain⟨bs,u,n,k3,G,k5⟩:=(e _ _).mp o;obtain⟨a,p,rfl,ha,hp,sq⟩:=hL.nth hv;have hj:j<Z.length:=(aY.mp hp).1;obtain⟨b1,b2,b3⟩:=bp p (bT hp);have U:I[j]?=some I[j]:=ao ();obtain⟨d1,d2⟩:=hq j p _ hp U
  w_left;simp![bst,eL]
  refine⟨a,S',p,R',5000,8000,rfl,(F.trans G).seq sq,SqL.of (G _ _ O),b1,n3,b2,n1,b3,n4,(),(),.inr ⟨n2,.inl ⟨I[j],d1,d2,λr Hy s3 nr er=>?_⟩⟩⟩;have lb:=n.len;rw[bX]at lb;have ne:r≠D:=λz=>by rw[z,u]at nr;cases nr
  refine⟨_,s3 _ _ u,#v[af,bD ()],(e _ _).mpr ⟨bs++[r],by rw[ak,aT];rfl,?_,by simp[k3];exact λz=>ne z.symm,(G.trans s3).more C,λb X=>?_⟩⟩
  rotate_left
  ·rcases a8.mp X with h|h
   ·exact k5 b h
   ·rw[aW.mp h];exact G.free nr
  rw[cY,U];refine LH.snoc ⟨n.len,λi b q e1 e2=>?_⟩ #v[aC ne,er];have X:b≠D:=λz=>k3 #v[<-z,bT e1];rw[aC X];exact s3 _ _ (n.get i b q e1 e2)
 intro g o;obtain⟨bs,u,n,k3,G,k5⟩:=(e _ _).mp o;rw[af,la,gl ()]at n;exact x0 D bs g (F.trans G) (F.free C) u n (λb X=>F.free (k5 b X)) k3
def i_ (w:Nat)(Wm:ax)(cs:aw)(p:Int)(n:Nat):Bool:=(aJ n).all λi=>co (fx w Wm cs p i) (cs.getD i 0) != 0
theorem uh {w:Nat}{Wm:ax}{cs:aw}{p:Int}{n:Nat}:i_ w Wm cs p n=true↔Piv w Wm cs p n:=by
 unfold i_ Piv;rw[List.all_eq_true];constructor
 ·intro h i hi;have:=h i (cU.mpr hi)
  simpa using this
 ·intro h i hi
  simpa using h i (cU.mp hi)
def plc (w:Nat)(Wm:ax)(cs:aw)(t:Nat):aa:=((aJ t).filter λp:Nat=>i_ w Wm cs (p:Int) Wm.length).map λp:Nat=>(p:Int)
theorem om {w:Nat}{Wm:ax}{cs:aw}{t:Nat}(h:Piv w Wm cs (t:Int) Wm.length):plc w Wm cs (t+1)=plc w Wm cs t++[(t:Int)]:=by
 unfold plc;rw[fL,Jk,aT];simp[uh.mpr h]
theorem oo {w:Nat}{Wm:ax}{cs:aw}{t:Nat}(h:¬Piv w Wm cs (t:Int) Wm.length):plc w Wm cs (t+1)=plc w Wm cs t:=by
 have a:i_ w Wm cs (t:Int) Wm.length=false:=by
  cases e:i_ w Wm cs (t:Int) Wm.length with
  | false=>rfl
  | true=>exact absurd (uh.mp e) h
 unfold plc;rw[fL,Jk,aT];simp[a]
theorem F6 {w:Nat}{Wm:ax}{cs:aw}{t:Nat}{p:Int}(h:p∈plc w Wm cs t):∃n:Nat,p=(n:Int)/\n<t/\Piv w Wm cs p Wm.length:=by
 unfold plc at h;obtain⟨n,a,rfl⟩:=aZ.mp h;obtain⟨b,c⟩:=kF.mp a;exact⟨n,rfl,cU.mp b,uh.mp c⟩
theorem F7 {w:Nat}{Wm:ax}{cs:aw}:∀t,(plc w Wm cs t).length<=t
 | 0=>aA _
 | t+1=>by
  have a:=F7 (w:=w) (Wm:=Wm) (cs:=cs) t;by_cases hp:Piv w Wm cs (t:Int) Wm.length
  ·rw[om hp,b4];simp;omega
  ·rw[oo hp];omega
theorem NR {w:Nat}{Wm:ax}{cs:aw}{t:Nat}:(plc w Wm cs (t+1)).length<=(plc w Wm cs t).length+1:=by
 by_cases hp:Piv w Wm cs (t:Int) Wm.length
 ·rw[om hp,b4];exact aA _
 ·rw[oo hp];omega
theorem F8 (w:Nat)(Wm:ax)(cs:aw):∀t,(plc w Wm cs t).Nodup
 | 0=>kO
 | t+1=>by
  have c:=F8 w Wm cs t;by_cases hp:Piv w Wm cs (t:Int) Wm.length
  ·rw[om hp,jQ];refine⟨c,by simp,λa d b e=>?_⟩;rw[aW.mp e];obtain⟨n,rfl,f,_⟩:=F6 d;omega
  ·rw[oo hp];exact c
structure OcOk (w:Nat)(Wm:ax)(cs:aw)(q:ac)(gs:ac)(Pn:Nat):Prop where
 k19:Wm.length<=19
 kw:Wm.length<=w
 wid:∀v∈Wm++[q],v.length=w
 col:∀c∈cs,c<w
 cl:cs.length<=19
 len:gs.length=Wm.length+1
 P7:Pn<=700
 tb:∀p:Nat,p<Pn->TBd w Wm cs (p:Int)
 lo:∀p:Nat,p<Pn->Piv w Wm cs (p:Int) Wm.length->LowOk (cn w q Wm.length (p:Int)) (dE w Wm cs (p:Int) Wm.length) cs
 vq:q.length<=20/\∀f∈q,f.length<=60/\∀c∈f,Bd 1000 c
 mrk:∀p:Nat,p<Pn->Piv w Wm cs (p:Int) Wm.length->∀(i:Nat)(g:aa),gs[i]?=some g->co (dI w Wm cs q (p:Int)) (w+i)=val (p:Int) g
 ng:∀g∈gs,Nml g/\∀p:Nat,p<Pn->Bd 10000 (val (p:Int) g)
def ui (qs:ax)(cs:aw)(N:Int):Prop:=∃(bv bc:aa)(m:Int),bv.length=qs.length/\bc.length=cs.length/\(∀(i:Nat)(b:Int)(q:ac),bv[i]?=some b->qs[i]?=some q->iw (iy q cs) b)/\(∀(i:Nat)(b:Int)(c:Nat),bc[i]?=some b->cs[i]?=some c->iw (iz qs c) b)/\m∈bv/\(∀b∈bv,m<=b)/\N=(if bc.sum<bv.sum-m then bc.sum else bv.sum-m)
def NS {K:ap}{mg:bh}(T:Tx K mg):Sp:=λvs H Q _=>∃(x dx Kp Cl Tb Vc:Addr)(us:am)(kvs:List (Key×V))(M:am)(w:Nat)(Wm:ax)(cs:aw)(pl:Int)(q gs:ac)(Pn:Nat)(f:Nat->aa)(qs:ac)(p0:aa)(t0:Int),vs=[.ref x,.ref Vc]/\Spn T H x dx Kp Cl Tb us kvs M w Wm cs pl/\VecAt H M Vc q/\OcOk w Wm cs q gs Pn/\kvs.length+Pn<=900/\(∀N,ui (Wm++[q]) cs N->0<=N/\N<60/\(∀g∈gs,(g.length:Int)<=N+1)/\N<((plc w Wm cs Pn).length:Int))/\
 ((∀p∈gs,p.length<=64/\Nml p/\∀c∈p,Bd 5000 c)/\(∀i,(f i).length<=64)/\f 0=[]/\(∀i r,gs[i]?=some r->fQ (f i) r (f (i+1)))/\gs.getLast?=some (p0++[t0])/\f gs.length≠[]/\Nml (f gs.length)/\(∀c∈f gs.length,Bd 8000 c)/\qs.length=gs.length/\(∀(i:Nat)(p q:aa),gs[i]?=some p->qs[i]?=some q->Nml q/\Div p (fT (decide (t0<0)) (f gs.length)) q))/\
 ∀(H':Hp)(kvs':List (Key×V))(M':am)(D:Addr)(bs:am),Spn T H' x dx Kp Cl Tb us kvs' M' w Wm cs pl->KX M H H'->(∀a∈M,a∈M')->(∀a∈M',a∈M\/H a=none)->kvs'.length<=kvs.length+Pn->D∉M'->H D=none->H' D=some (.lst (bs.map Z'))->LH H' bs qs->(∀b∈bs,b∉M'/\H b=none)->D∉bs->Q (.ref D) H'
theorem NT (bs:aa)(k:Nat):eQ (bs.map V') (some (k:Int)) none=(bs.drop k).map V':=by
 unfold eQ;rw[HT.sIx_nat,HT.sIx_none,af,<-IU,gl (by rw[af,oI];omega)];congr 1;by_cases z:k<=bs.length
 ·rw[Nat.min_eq_left z]
 ·rw[Nat.min_eq_right (),QF (aA _),QF ()]
theorem KW.trans {x d f g:Addr}{c b:List (Key×V)}{H i j:Hp}(k:KW x d f g c H i)(tk:∀e∈b,e∈c\/∀a,e.2=Z' a->H a=none)(t:KW x d f g b i j):KW x d f g c H j:=λy o m n p q r e=>by
 refine t y o m n p q (λs u z=>?_) (k y o m n p q r e);rcases tk s u with h|h
 ·exact r s h z
 ·rw[h y z]at e;cases e
theorem NU {M M1:am}{d b c:List (Key×V)}{H f:Hp}(kx:KX M H f)(ms:∀a∈M,a∈M1)(al:∀a∈M1,∃o,f a=some o)(tk:∀e∈b,e∈d\/∀a,e.2=Z' a->H a=none)(g:∀e∈c,e∈b\/∀a,e.2=Z' a->f a=none):∀e∈c,e∈d\/∀a,e.2=Z' a->H a=none:=λe k=>by
 rcases g e k with h|h
 ·exact tk e h
 ·refine .inr λa n=>?_;have i:=h a n
  cases z:H a with
  | none=>rfl
  | some o=>
   by_cases m:a∈M
   ·obtain⟨p,j⟩:=al a (ms a m);rw[i]at j;cases j
   ·rw[kx a o m z]at i;cases i
theorem NV:FnOk P w K mg base CX0 8 T.TZ T.T1 ["self","vector"] (NS T):=by
 refine T.VT.ok ko (λvs H Q E h=>?_) (λu9 A outer s H vs Q E hr h=>?_)
 ·obtain⟨x,dx,Kp,Cl,Tb,Y,us,U,M,w,Wm,cs,pl,q,gs,Pn,f,qs,p0,t0,rfl,_⟩:=h;rfl
 obtain⟨x,dx,Kp,Cl,Tb,Y,us,U,M,w,Wm,cs,pl,q,gs,Pn,f,qs,p0,t0,rfl,S,hV,O,l9,hN,hC,u7⟩:=h;refine⟨_,s!"ɉÈȟ˿ȥƻȴƼƽƾɌ*zɎEɏʕɒÈɨəɯÈɨəʋÈʑ˝¬ȷ/$ȰȩʍÈȟʇũ1ŪȯūʫʜˌÙɐ]ȩʭȫʜ˞Ⱥ#˥ɐÄɎÛ$I.ć(?ÈʑàʺƿȴǀǁǂɌǃ đɓɩ/Ǆɣ`6ǅ˅ʄɃ˴ȼʪǆȴǇǈǉʫ#ʩ)Č˅ĒʅȰK˱˃Ȧʌ",?_⟩
 have lk:=S.lk;have k19:=O.k19;have lq:(Wm++[q]).length=Wm.length+1:=by simp
 have z4:=kr (Φ:=λu qv=>VecAt H M u qv) (L:=Wm++[q]) (rs:=us) (r:=Y) (λt u qv e1 e2=>by
  have ht:t<Wm.length:=by have:=(aY.mp e1).1;omega
  rw[cA ht]at e2;exact S.vec t u qv e1 e2) (λqv e2=>by
  rw[cQ (),show us.length-Wm.length=0 by omega]at e2
  cases Option.some.inj e2
  exact hV)
 w_up
 refine⟨_,_,_,S.hx,T.QV,T.QY,_,rfl,(),λq1 m1=>?_⟩;have u1:=az m1 (.lst [Z' Y]);refine⟨Kp,rfl,_,u1 _ _ S.hK,_,ak,?_,λq2 m2=>?_⟩
 ·rw[af];exact dm (bD (by simp;omega))
 have u2:=az m2 (.lst (us.map Z'++[Z' Y]));have e2:=ak (H:=L2.upd H q1 (.lst [Z' Y])) (a:=q2) (o:=.lst (us.map Z'++[Z' Y]));have s2:=u1.trans u2;generalize L2.upd (L2.upd H q1 (.lst [Z' Y])) q2 (.lst (us.map Z'++[Z' Y]))=H3 at e2 s2 ⊢;clear u1 u2 m1 m2;have u4:H3 q2=some (.lst ((us++[Y]).map Z')):=by rw[e2,aT];rfl
 have S3:=S.same s2;have vl:VL K H3 (us++[Y]) (Wm++[q]):=⟨by simp[lk],λi v qv e1 e3=>by
  obtain⟨as,v1,v2,_⟩:=z4 i v qv e1 e3;exact⟨as,SqL.of (s2 _ _ v1),(v2.same s2).ll⟩⟩
 refine⟨_,_,_,S3.hx,T.QV,T.Q3,_,rfl,q2,Cl,us++[Y],Wm++[q],cs,rfl,SqL.of u4,vl,SqL.of S3.hC,by simp,by rw[lq];omega,by have:=O.cl;omega,λv hv c hc=>#v[O.wid v hv,O.col c hc],λbv bc m N H4 s4 d1 d2 d3 d4 d5 d6 d7=>?_⟩;obtain⟨N0,N6,gN,pN⟩:=hN N ⟨bv,bc,m,d1,d2,d3,d4,d5,d6,d7⟩;obtain⟨Nn,rfl⟩:∃Nn:Nat,N=(Nn:Int):=⟨N.toNat,()⟩
 clear d1 d2 d3 d4 d5 d6 d7 bv bc m;have n0:=s2.trans s4;have S4:=S.same n0;clear S3 vl u4 e2 s2 s4;refine⟨_,rfl,?_⟩
 w_up
 refine⟨aR _,λk x1=>?_⟩;have S5:=S4.more (o:=.lst []) x1;have u5:=az x1 (.lst []);have e5:=ak (H:=H4) (a:=k) (o:=.lst []);generalize L2.upd H4 k (.lst [])=H5 at S5 u5 e5 ⊢
 w_up
 refine⟨aR _,λMk X=>?_⟩;have S6:=S5.more (o:=.lst []) X;have u6:=az X (.lst []);have e6:=ak (H:=H5) (a:=Mk) (o:=.lst []);have f6:=u6 _ _ e5;have v4:k≠Mk:=λz=>by rw[<-z,e5]at X;cases X
 generalize L2.upd H5 Mk (.lst [])=H6 at S6 u6 e6 f6 ⊢;have j4:=n0.trans (u5.trans u6);have B:=n0.free x1;have C:=n0.free (u5.free X);have m4:∀a∈Mk :: k :: M,a∈M\/H a=none:=λa ha=>by
  rcases bj.mp ha with z|ha
  ·exact .inr #v[z,C]
  ·rcases bj.mp ha with z|z
   ·exact .inr #v[z,B]
   ·exact .inl z
 have V6:=(hV.more m4).same j4;have nk:∀e∈U,e.2≠Z' k/\e.2≠Z' Mk:=λe he=>by
  obtain⟨p,ta,n,rs,h1,h2,h3,_⟩:=S.tab e he;refine⟨λz=>?_,λz=>?_⟩
  ·rw[h1]at z;injection z with z;rw[z,B]at h3;cases h3
  ·rw[h1]at z;injection z with z;rw[z,C]at h3;cases h3
 have dP:k≠x/\k≠Kp/\k≠Cl/\k≠Tb:=⟨(λz=>by rw[z,S.hx]at B;cases B),(λz=>by rw[z,S.hK]at B;cases B),(λz=>by rw[z,S.hC]at B;cases B),(λz=>by rw[z,S.hT]at B;cases B)⟩
 have dM:Mk≠x/\Mk≠Kp/\Mk≠Cl/\Mk≠Tb:=⟨(λz=>by rw[z,S.hx]at C;cases C),(λz=>by rw[z,S.hK]at C;cases C),(λz=>by rw[z,S.hC]at C;cases C),(λz=>by rw[z,S.hT]at C;cases C)⟩
 clear S4 S5 u5 u6 e5 x1 X
 w_up
 w_up
 obtain⟨J,hJ⟩:∃J:Nat->L2.St->Hp->Prop,∀m σ I,J m σ I↔∃(t:Nat)(F:List (Key×V))(M':am)(r6:Option V)(G:am),σ=[some (Z' x),some (Z' Y),some (V' (1+(Nn:Int))),some (Z' k),some (Z' Mk),some (V' (t:Int)),r6]/\Spn T I x dx Kp Cl Tb us F M' w Wm cs pl/\VecAt I M' Y q/\I k=some (.lst ((plc w Wm cs t).map V'))/\I Mk=some (.lst (G.map Z'))/\LH I G ((plc w Wm cs t).map λp=>(dI w Wm cs q p).drop w)/\(∀a∈G,a∉M')/\k∈M'/\Mk∈M'/\KW x Kp Cl Tb U H I/\(∀a∈M,a∈M')/\(∀a∈M',a∈M\/H a=none)/\(∀e∈F,e.2≠Z' k/\e.2≠Z' Mk)/\(∀e∈F,e∈U\/∀a,e.2=Z' a->H a=none)/\F.length<=U.length+t/\t<=Pn/\(plc w Wm cs t).length<=Nn+1/\m=Pn-t:=⟨_,λ_ _ _=>Iff.rfl⟩
 refine gU J Pn ((hJ _ _ _).mpr ⟨0,U,Mk :: k :: M,none,[],rfl,S6,V6,f6,e6,LH.nil _,λa ha=>by simp at ha,.tail _ (.head _),.head _,λy o _ _ _ _ _ e=>j4 _ _ e,λa h=>.tail _ (.tail _ h),m4,nk,λ_ h=>.inl h,(),aR _,aR _,rfl⟩) ?_;intro m σ H7 hm;obtain⟨t,F,M',r6,G,rfl,S7,V7,eP,eM,y0,X,mP,mM,kw,ms,mf,nt,tk,v9,tP,v7,rfl⟩:=(hJ _ _ _).mp hm
 w_left;k_units
 refine⟨_,.inl (SqL.of eP),?_⟩;rw[af];refine bO (λz=>?_) (λz=>?_)
 ·have ht:t<Pn:=by
   rcases Jf t Pn with h|h
   ·exact h
   ·rw[show t=Pn by omega]at z;omega
  refine⟨J (Pn-(t+1)),λj9 I z=>⟨_,(),z⟩,dx,_,S7.hx,rfl,x,dx,Kp,Cl,Tb,Y,us,F,M',w,Wm,cs,pl,(t:Int),q,rfl,S7,O.tb t ht,(),(),V7,O.vq.1,O.vq.2,O.lo t ht,λH8 j0 M8 S8 y1 u0 z2 l8 n4=>?_⟩;have x5:=S7.kx y1;have y5:KX M8 H7 H8:=λy o ny e=>x5 y o (λz=>ny (u0 y z)) e;have V8:=(V7.more z2).kx y5;have g9:=nt;have j2:=y1 k _ dP.1 dP.2.1 dP.2.2.1 dP.2.2.2 (λe he=>(nt e he).1) eP;have z5:=y1 Mk _ dM.1 dM.2.1 dM.2.2.1 dM.2.2.2 (λe he=>(nt e he).2) eM;have x2:=y0.kx x5 X;have z0:∀a∈G,a∉M8:=λa ha z=>by
   rcases z2 a z with h|h
   ·exact X a ha h
   ·obtain⟨i,hi,rfl⟩:=cm.mp ha;have:=y0.get i _ _ (ao hi) (ao #v[<-y0.len,hi]);rw[h]at this;cases this
  have x3:∀e∈j0,e.2≠Z' k/\e.2≠Z' Mk:=λe he=>by
   rcases n4 e he with h|h
   ·exact nt e h
   ·refine⟨λz=>?_,λz=>?_⟩
    ·have y:=h k z;rw[eP]at y;cases y
    ·have y:=h Mk z;rw[eM]at y;cases y
  have v5:=kw.trans tk y1;have j7:=NU (S.kx kw) ms S7.al tk n4;have k7:=ku (S.kx kw) mf z2;have m7:∀a∈M,a∈M8:=λa h=>u0 a (ms a h);obtain⟨Mx,y3⟩:∃Mx:L2.St->Hp->Prop,∀σ I,Mx σ I↔∃(r6:Option V)(Z:am),σ=[some (Z' x),some (Z' Y),some (V' (1+(Nn:Int))),some (Z' k),some (Z' Mk),some (V' (t:Int)),r6]/\Spn T I x dx Kp Cl Tb us j0 M8 w Wm cs pl/\VecAt I M8 Y q/\I k=some (.lst ((plc w Wm cs (t+1)).map V'))/\I Mk=some (.lst (Z.map Z'))/\LH I Z ((plc w Wm cs (t+1)).map λp=>(dI w Wm cs q p).drop w)/\(∀a∈Z,a∉M8)/\KW x Kp Cl Tb U H I:=⟨_,λ_ _=>Iff.rfl⟩
  have y2:∀σ I,Mx σ I->∃r6:Option V,σ=[some (Z' x),some (Z' Y),some (V' (1+(Nn:Int))),some (Z' k),some (Z' Mk),some (V' (t:Int)),r6]/\J (Pn-(t+1)) [some (Z' x),some (Z' Y),some (V' (1+(Nn:Int))),some (Z' k),some (Z' Mk),some (V' ((t:Int)+1)),r6] I:=λσ I h=>by
   obtain⟨r6,Z,rfl,g1,g2,g3,g4,g5,g6,g7⟩:=(y3 _ _).mp h;exact⟨r6,rfl,(hJ _ _ _).mpr ⟨t+1,j0,M8,r6,Z,rfl,g1,g2,g3,g4,g5,g6,u0 _ mP,u0 _ mM,g7,m7,k7,x3,j7,(),(),by have:=NR (w:=w) (Wm:=Wm) (cs:=cs) (t:=t);omega,rfl⟩⟩
  refine⟨λR nR eR pv=>?_,λnp=>?_⟩
  ·w_left;refine fP Mx ?_ ?_
   ·w_left;k_units
    rw[if_pos (λz=>nomatch z)];have z3:=u0 _ mP;have u3:=u0 _ mM;have dR:R≠k:=λz=>nR #v[z,z3];have m9:=F7 (w:=w) (Wm:=Wm) (cs:=cs) t;have P7:=O.P7;have S9:=S8.other (o:=.lst ((plc w Wm cs t).map V'++[V' (t:Int)])) z3 dP.1 dP.2.1 dP.2.2.1 dP.2.2.2 λe he=>(x3 e he).1;have k9:KX M8 H8 (L2.upd H8 k (.lst ((plc w Wm cs t).map V'++[V' (t:Int)]))):=λy o ny e=>by
     have d:y≠k:=λz=>ny #v[z,z3];rw[aC d];exact e
    have j5:=ak (H:=H8) (a:=k) (o:=.lst ((plc w Wm cs t).map V'++[V' (t:Int)]));have v3:=(aC (H:=H8) (o:=.lst ((plc w Wm cs t).map V'++[V' (t:Int)])) (Ne.symm v4)).trans z5;have k5:=(aC (H:=H8) (o:=.lst ((plc w Wm cs t).map V'++[V' (t:Int)])) dR).trans eR;have m5:KW x Kp Cl Tb U H (L2.upd H8 k (.lst ((plc w Wm cs t).map V'++[V' (t:Int)]))):=λy o a1 a2 a3 a4 a5 e=>by
     have d:y≠k:=λz=>by rw[z,B]at e;cases e
     rw[aC d];exact v5 y o a1 a2 a3 a4 a5 e
    refine⟨fO (SqL.of j2),_,j2,#v[af,bD ()],?_⟩;generalize L2.upd H8 k (.lst ((plc w Wm cs t).map V'++[V' (t:Int)]))=H9 at S9 k9 j5 v3 k5 m5 ⊢;refine⟨fO (SqL.of v3),_,_,_,S9.hx,T.QV,T.Q4,_,rfl,_,rfl,_,SqL.of k5,λD nD=>?_⟩;rw[NT];have u:=az nD (.lst (((dI w Wm cs q (t:Int)).drop w).map V'));have SA:=S9.same u;have eD:=ak (H:=H9) (a:=D) (o:=.lst (((dI w Wm cs q (t:Int)).drop w).map V'));have n5:D∉M8:=λz=>by obtain⟨o,e⟩:=S9.al D z;rw[nD]at e;cases e
    have n7:D≠Mk:=λz=>n5 #v[z,u3];have x6:=u _ _ v3;have y6:=u _ _ j5;have z6:=(x2.kx k9 z0).same u;have VA:=(V8.kx k9).same u;have v6:KW x Kp Cl Tb U H (L2.upd H9 D (.lst (((dI w Wm cs q (t:Int)).drop w).map V'))):=λy o a1 a2 a3 a4 a5 e=>u _ _ (m5 y o a1 a2 a3 a4 a5 e);generalize L2.upd H9 D (.lst (((dI w Wm cs q (t:Int)).drop w).map V'))=HA at SA eD x6 y6 z6 VA v6 ⊢;have j3:G.length<=t:=by have:=y0.len;rw[af]at this;omega
    have kB:KX M8 HA (L2.upd HA Mk (.lst (G.map Z'++[Z' D]))):=λy o ny e=>by
     have d:y≠Mk:=λz=>ny #v[z,u3];rw[aC d];exact e
    refine⟨_,x6,#v[af,bD ()],(y3 _ _).mpr ⟨_,G++[D],rfl,SA.other u3 dM.1 dM.2.1 dM.2.2.1 dM.2.2.2 λe he=>(x3 e he).2,VA.kx kB,?_,by rw[ak,aT];rfl,?_,λa ha=>?_,λy o a1 a2 a3 a4 a5 e=>?_⟩⟩
    ·rw[aC v4,om pv,aT];exact y6
    ·rw[om pv,aT];exact (z6.kx kB z0).snoc #v[aC n7,eD]
    ·rcases a8.mp ha with h|h
     ·exact z0 a h
     ·rw[aW.mp h];exact n5
    ·have d:y≠Mk:=λz=>by rw[z,C]at e;cases e
     rw[aC d];exact v6 y o a1 a2 a3 a4 a5 e
   ·intro σ H9 h9;obtain⟨x8,rfl,hj⟩:=y2 σ H9 h9
    w_left;k_units
    exact hj
  ·w_left;refine fP Mx ?_ ?_
   ·w_left;k_units
    refine (y3 _ _).mpr ⟨_,G,rfl,S8,V8,?_,z5,?_,z0,v5⟩
    ·rw[oo np];exact j2
    ·rw[oo np];exact x2
   ·intro σ H9 h9;obtain⟨x8,rfl,hj⟩:=y2 σ H9 h9
    w_left;k_units
    exact hj
 ·have gt:Nn+1<=(plc w Wm cs t).length:=by omega
  refine⟨_,_,_,S7.hx,T.QV,T.QY,_,rfl,Kp,rfl,_,.inl (SqL.of S7.hK),?_⟩;have y8:(us.map Z').length=Wm.length:=by rw[af];exact lk
  rw[y8];refine⟨(),(),λD nD=>?_⟩;rw[show ((Wm.length:Int)+1).toNat=Wm.length+1 by omega];have P7:=O.P7;have lg:=O.len;have z1:∀p∈plc w Wm cs t,∃n:Nat,p=(n:Int)/\n<Pn/\Piv w Wm cs p Wm.length:=λp hp=>by
   obtain⟨n,h1,h2,h3⟩:=F6 hp;exact⟨n,h1,(),h3⟩
  have nd:=F8 w Wm cs t;obtain⟨x0,j6⟩:∃x0,plc w Wm cs t=x0:=⟨_,rfl⟩
  rw[j6]at z1 nd gt v7 eP y0;have j3:=y0.len;rw[af]at j3;obtain⟨Pc,j1⟩:∃Pc:cx,∀j Hx,Pc j Hx↔∃bs:am,Hx D=some (.lst (bs.map Z'))/\LH Hx bs (gs.take j)/\D∉bs/\Same H7 Hx:=⟨_,λ_ _=>Iff.rfl⟩
  refine rL Pc ((j1 _ _).mpr ⟨[],ak,LH.nil _,by simp,az nD _⟩) ?_ ?_
  ·intro j Hx hj hc;obtain⟨bs,k1,k2,k3,k4⟩:=(j1 _ _).mp hc;have m3:gs[j]?=some gs[j]:=ao ();obtain⟨n1,n2⟩:=O.ng _ (bY (show j<gs.length by omega));have n3:=gN _ (bY (show j<gs.length by omega));have e0:(0:Int)+(j:Int)=(j:Int):=ii _;have kj:=O.kw;generalize gs[j]=g at m3 n1 n2 n3
   w_left;simp![bst,eL,e0]
   refine⟨⟨_,SqL.of (k4 _ _ eM)⟩,λD1 k6=>?_⟩;obtain⟨Pi,k0⟩:∃Pi:cx,∀i Hy,Pi i Hy↔Hy D1=some (.lst (((x0.map λp=>val p g).take i).map V'))/\Same Hx Hy:=⟨_,λ_ _=>Iff.rfl⟩
   refine eE (xs:=G.map Z') Pi ((k0 _ _).mpr ⟨ak,az k6 _⟩) (λi Hy _ y=>by obtain⟨_,y⟩:=(k0 i Hy).mp y;exact SqL.of ((k4.trans y) _ _ eM)) ?_ ?_
   ·intro i v Hy hv hi;obtain⟨m1,m2⟩:=(k0 _ _).mp hi;rw[aG]at hv;obtain⟨a,ha,rfl⟩:=cZ.mp hv;have m6:i<x0.length:=by have:=(aY.mp ha).1;omega
    have x4:x0[i]?=some x0[i]:=ao m6;obtain⟨n,n6,x7,y4⟩:=z1 _ (bY m6);generalize x0[i]=p at x4 n6 y4;subst n6;have ea:=y0.get i a _ ha (by rw[aG,x4];rfl);have y7:=oj (O.lo n x7 y4) Wm.length #v[eh,aA _];have z8:q.length=w:=O.wid q (by simp);have u8:(dI w Wm cs q (n:Int)).length=w+(w+1):=by
     unfold dI;rw[y7];unfold cn;rw[b4,af,af,gw,z8]
    have v8:j<((dI w Wm cs q (n:Int)).drop w).length:=by rw[oI,u8];omega
    have j8:co ((dI w Wm cs q (n:Int)).drop w) j=val (n:Int) g:=by
     rw[<-O.mrk n x7 y4 j g m3];unfold co;rw[aq,aq,List.getElem?_drop]
    w_left;simp![bst,eL]
    refine⟨_,SqL.of ((k4.trans m2) _ _ ea),_,lJ v8,_,m1,?_,(k0 _ _).mpr ⟨?_,m2.more k6⟩⟩
    ·rw[af,bX];exact bD ()
    ·rw[ak,cY,aG,x4,aT,j8];rfl
   intro Hy hi;obtain⟨m1,m2⟩:=(k0 _ _).mp hi;rw[af,j3,gl #v[af,aA _]]at m1;refine⟨k,D1,x0,g,rfl,SqL.of ((k4.trans m2) _ _ eP),SqL.of m1,⟨(),n1,(),λa b ha hb k8 h=>by
    rcases Nat.lt_or_gt_of_ne k8 with y|y
    ·exact oY.mp nd a b ha hb y h
    ·exact oY.mp nd b a hb ha y h.symm,λp hp=>?_,λp hp=>?_⟩,λR Hz sz nR eR=>?_⟩
   ·obtain⟨n,rfl,h2,_⟩:=z1 p hp;exact Bd.of_lt (m:=701) () ()
   ·obtain⟨n,rfl,h2,_⟩:=z1 p hp;exact n2 n h2
   have lb:=k2.len;rw[bX]at lb;have ne:R≠D:=λz=>by rw[z,m2 _ _ k1]at nR;cases nR
   refine⟨_,sz _ _ (m2 _ _ k1),#v[af,bD ()],(j1 _ _).mpr ⟨bs++[R],by rw[ak,aT];rfl,?_,by simp[k3];exact λz=>ne z.symm,(k4.trans (m2.trans sz)).more nD⟩⟩;rw[cY,m3];refine LH.snoc ⟨k2.len,λi b' p e1 e2=>?_⟩ #v[aC ne,eR];have hb:b'≠D:=λz=>k3 #v[<-z,bT e1];rw[aC hb];exact sz _ _ (m2 _ _ (k2.get i b' p e1 e2))
  intro Hx hc;obtain⟨bs,k1,k2,k3,k4⟩:=(j1 _ _).mp hc;rw[gl ()]at k2;obtain⟨c1,c2,c3,c4,c5,c6,c7,c8,c9,g8⟩:=hC;refine⟨D,bs,gs,f,qs,p0,t0,rfl,SqL.of k1,k2.ll,(),c1,c2,c3,c4,c5,c6,c7,c8,c9,g8,λD2 m8 Hz sz z7 n8 x9 y9 z9=>?_⟩;have S8:=(S7.same k4).same sz;have fr:∀y,Hx y=none->y∉M'/\H y=none:=λy hy=>by
   have h1:y∉M':=λz=>by obtain⟨o,e⟩:=(S7.same k4).al y z;rw[hy]at e;cases e
   refine⟨h1,?_⟩
   cases e:H y with
   | none=>rfl
   | some o=>
    have:=k4 _ _ (S.kx kw y o (λz=>h1 (ms y z)) e);rw[hy]at this;cases this
  exact u7 Hz F M' D2 m8 S8 (S.kx λy o a1 a2 a3 a4 a5 e=>sz _ _ (k4 _ _ (kw y o a1 a2 a3 a4 a5 e))) ms mf () (fr D2 z7).1 (fr D2 z7).2 n8 x9 (λb hb=>fr b (y9 b hb)) z9
def spw (n:Nat)(few:aw)(ws:ac):Nat->ac
 | 0=>bI n []++[ws.getD few.length []]
 | t+1=>(spw n few ws t).set (few.getD t 0) (ws.getD t [])
theorem h_ (n:Nat)(few:aw)(ws:ac):∀t,(spw n few ws t).length=n+1
 | 0=>by simp[spw]
 | t+1=>#v[spw,oJ,h_ n few ws t]
theorem F9 {w:Nat}{Wm:ax}{cs:aw}{q:ac}{c:Nat}{p:Int}(a:cs.length=Wm.length)(b:Piv w Wm cs p Wm.length)(h:co (dI w Wm cs q p) c≠0):Piv w (Wm++[q]) (cs++[c]) p (Wm.length+1):=λi hi=>by
 by_cases z:i<Wm.length
 ·exact FK a (aA _) b i z
 ·have e:i=Wm.length:=by omega
  subst e;unfold fx;rw[tZ a _ (aA _),tY _ ()];have d:(Wm++[q]).getD Wm.length []=q:=by simp
  have f:(cs++[c]).getD Wm.length 0=c:=by rw[<-a];simp
  rw[d,f];exact h
structure SpTh (w B KM:Nat)(St:ax->aw->Int->Prop)(Vq:ax->ac->Prop)(Rl:ax->ac->ac->Prop):Prop where
 b3:(KM+2)*(2*B+2)<=900
 k18:KM<=18
 st0:St [] [] 97
 stS:∀Wm cs pl q c (t:Nat),St Wm cs pl->Vq Wm q->c<w->c∉cs->t<=B->Piv w (Wm++[q]) (cs++[c]) (pl+(t:Int)) (Wm.length+1)->St (Wm++[q]) (cs++[c]) (pl+(t:Int))
 bd:∀Wm cs pl q,St Wm cs pl->Vq Wm q->Wm.length<=KM/\q.length=w/\∀f∈q,f.length<=40/\∀c∈f,Bd 1000 c
 tb:∀Wm cs pl q,St Wm cs pl->Vq Wm q->TBd w Wm cs pl/\Piv w Wm cs pl Wm.length/\LowOk (cn w q Wm.length pl) (dE w Wm cs pl Wm.length) cs
 hit:∀Wm cs pl q c,St Wm cs pl->Vq Wm q->c<w->co (dI w Wm cs q pl) c≠0->c∉cs/\TBd w (Wm++[q]) (cs++[c]) pl
 oc:∀Wm cs pl q,St Wm cs pl->Vq Wm q->(∀c,c<w->co (dI w Wm cs q pl) c=0)->∃(gs:ac)(Pn:Nat)(f:Nat->aa)(qs:ac)(p0:aa)(t0:Int),OcOk w Wm cs q gs Pn/\Pn<=B/\(∀N,ui (Wm++[q]) cs N->0<=N/\N<60/\(∀g∈gs,(g.length:Int)<=N+1)/\N<((plc w Wm cs Pn).length:Int))/\
  ((∀p∈gs,p.length<=64/\Nml p/\∀c∈p,Bd 5000 c)/\(∀i,(f i).length<=64)/\f 0=[]/\(∀i r,gs[i]?=some r->fQ (f i) r (f (i+1)))/\gs.getLast?=some (p0++[t0])/\f gs.length≠[]/\Nml (f gs.length)/\(∀c∈f gs.length,Bd 8000 c)/\qs.length=gs.length/\(∀(i:Nat)(p q:aa),gs[i]?=some p->qs[i]?=some q->Nml q/\Div p (fT (decide (t0<0)) (f gs.length)) q))/\
  FcOk w (Wm++[q]) qs/\((∀c,c<w->c∉cs->dV (Wm++[q]) qs c (Wm.length+1)=[])->Rl Wm q qs)/\
  ∀c,c<w->c∉cs->dV (Wm++[q]) qs c (Wm.length+1)≠[]->∃N,N<=B/\(∀t:Nat,t<=N->TBd w (Wm++[q]) (cs++[c]) (pl+(t:Int)))/\Piv w (Wm++[q]) (cs++[c]) (pl+(N:Int)) (Wm.length+1)
 sub:∀Wm cs pl q (few:aw),St Wm cs pl->Vq Wm q->few.Pairwise (· < ·)->(∀i∈few,i<Wm.length)->few.length<Wm.length->
  Vq (few.map λi=>Wm.getD i []) q/\(∀(i j:Nat),few[i]?=some j->Vq ((few.take i).map λi=>Wm.getD i []) (Wm.getD j [])/\∀ws,¬Rl ((few.take i).map λi=>Wm.getD i []) (Wm.getD j []) ws)
 len:∀Wm q ws,Rl Wm q ws->ws.length=Wm.length+1
 up:∀Wm cs pl q (few:aw) ws,St Wm cs pl->Vq Wm q->few.Pairwise (· < ·)->(∀i∈few,i<Wm.length)->few.length<Wm.length->Rl (few.map λi=>Wm.getD i []) q ws->Rl Wm q (spw Wm.length few ws few.length)
def F_ {K:ap}{mg:bh}(T:Tx K mg)(w B:Nat)(St:ax->aw->Int->Prop)(Vq:ax->ac->Prop)(Rl:ax->ac->ac->Prop)(d:Nat):Sp:=λvs H Q _=>∃(x dx Kp Cl Tb Vc:Addr)(us:am)(kvs:List (Key×V))(M:am)(Wm:ax)(cs:aw)(pl:Int)(as:am)(q:ac),vs=[.ref x,.ref Vc]/\Spn T H x dx Kp Cl Tb us kvs M w Wm cs pl/\SqL K H Vc (as.map Z')/\LL K H as q/\St Wm cs pl/\Vq Wm q/\Wm.length<d/\kvs.length+(2*B+2)<=900/\
 (∀(H':Hp)(us':am)(kvs':List (Key×V))(M':am)(c:Nat)(pl':Int),Spn T H' x dx Kp Cl Tb us' kvs' M' w (Wm++[q]) (cs++[c]) pl'->St (Wm++[q]) (cs++[c]) pl'->KX M H H'->(∀a∈M,a∈M')->(∀a∈M',a∈M\/H a=none)->kvs'.length<=kvs.length+(2*B+2)->Q .non H')/\
 (∀(H':Hp)(kvs':List (Key×V))(M':am)(D:Addr)(bs:am)(ws:ac),Spn T H' x dx Kp Cl Tb us kvs' M' w Wm cs pl->Rl Wm q ws->KX M H H'->(∀a∈M,a∈M')->(∀a∈M',a∈M\/H a=none)->kvs'.length<=kvs.length+(2*B+2)->D∉M'->H D=none->H' D=some (.lst (bs.map Z'))->LH H' bs ws->(∀b∈bs,b∉M'/\H b=none)->D∉bs->Q (.ref D) H')
def NW {K:ap}{mg:bh}(T:Tx K mg)(w B:Nat)(St:ax->aw->Int->Prop)(Vq:ax->ac->Prop)(Rl:ax->ac->ac->Prop)(d:Nat):Sp:=λvs H Q _=>∃(x dx Kp Cl Tb Vc Fw:Addr)(us:am)(kvs:List (Key×V))(M:am)(Wm:ax)(cs:aw)(pl:Int)(q:ac)(few:aw),vs=[.ref x,.ref Vc,.ref Fw]/\Spn T H x dx Kp Cl Tb us kvs M w Wm cs pl/\VecAt H M Vc q/\H Fw=some (.lst ((few.map λc:Nat=>(c:Int)).map V'))/\St Wm cs pl/\Vq Wm q/\Wm.length<=d/\few.Pairwise (· < ·)/\(∀i∈few,i<Wm.length)/\few.length<Wm.length/\
 (∀H':Hp,Same H H'->Q .non H')/\
 (∀(H':Hp)(D:Addr)(bs:am)(ws:ac),Same H H'->Rl Wm q ws->H D=none->H' D=some (.lst (bs.map Z'))->LH H' bs ws->(∀b∈bs,H b=none)->D∉bs->Q (.ref D) H')
theorem NX {H:Hp}{x a:Addr}{o u:HO}(hx:H x=none)(hd:H a=none):Same H (L2.upd (L2.upd H a u) x o):=λb v e=>#v[aC (d8 e hx),aC (d8 e hd),e]
theorem Ga {K:ap}{mg:bh}{T:Tx K mg}{H:Hp}{Q:Addr->Hp->Prop}{E:XK}{w:Nat}(k:∀(x b g h j:Addr)(M:am)(c:Hp),Same H c->(∀a∈M,H a=none)->Spn T c x b g h j [] [] M w [] [] 97->Q x c)(x b:Addr)(hx:H x=none)(hd:H b=none)(_:b≠x):
  FE T.QW [.ref x,.int (w:Int)] (L2.upd (L2.upd H b (.own x)) x (.ins T.QW b [])) (λv s=>v=V.non/\Q x s) E:=by
 have m:Same H (L2.upd (L2.upd H b (.own x)) x (.ins T.QW b [])):=NX hx hd;refine⟨x,b,(w:Int),rfl,ak,λg h j c t z B C D G I ex n p r=>⟨rfl,?_⟩⟩;have F:Same H c:=λy o e=>t y o (d8 e hx) (m y o e);refine k x b g h j [x,g,h,j] c F (λa d=>?_) ⟨ex,n,p,r,rfl,rfl,λi u q e=>by simp at e,λe f=>by simp at f,λe f=>by simp at f,by simp,λe f=>by simp at f,D,λa d=>?_⟩
 ·simp only[bj,mw,or_false]at d;rcases d with rfl|rfl|rfl|rfl
  ·exact hx
  ·exact m.free z
  ·exact m.free B
  ·exact m.free C
 ·simp only[bj,mw,or_false]at d;rcases d with rfl|rfl|rfl|rfl
  ·exact⟨_,ex⟩
  ·exact⟨_,n⟩
  ·exact⟨_,p⟩
  ·exact⟨_,r⟩
theorem NY (xs:am)(a:Addr):eQ ((xs++[a]).map Z') (some (-1)) none=[Z' a]:=by
 unfold eQ;have e:HT.sIx ((xs++[a]).map Z').length 0 (some (-1))=xs.length:=by
  unfold HT.sIx;dsimp only;rw[if_pos ()];simp;omega
 rw[e,HT.sIx_none,<-IU];simp
theorem NZ {P:Program}{wd:World}{K:ap}{mg:bh}{base:Heap}(T:Tx K mg){w B KM:Nat}{St:ax->aw->Int->Prop}{Vq:ax->ac->Prop}{Rl:ax->ac->ac->Prop}(Z:SpTh w B KM St Vq Rl)(d:Nat)(F:FnOk P wd K mg base CX0 (2*d+9) T.RC T.RD ["self","vector"] (F_ T w B St Vq Rl d)):FnOk P wd K mg base CX0 (2*d+10) T.T6 T.T7 ["self","vector","few"] (NW T w B St Vq Rl d):=by
 refine T.VY.ok kq (λvs H Q E h=>?_) (λn5 A outer s H vs Q E hr h=>?_)
 ·obtain⟨x,dx,Kp,Cl,Tb,Vc,Fw,us,u4,M,Wm,cs,pl,q,few,rfl,_⟩:=h;rfl
 obtain⟨x,dx,Kp,Cl,Tb,Vc,Fw,us,u4,M,Wm,cs,pl,q,few,rfl,S,hV,hF,u0,j0,kd,fp,fk,fl,q1,q2⟩:=h;refine⟨_,s!"ɒÉȟŬŭ1ŮȴůŰɌɸʯȰ̀Éʣ^nȫoĤ1́ĥɌȳɎ˕$ʋÉȟnȫoĤ1́ĥ˽ɫïɛ˟˶ʍÉ˒ʠɎKə˥ɛÄȽ&ÛɅ˫-ʜʷ6ÉʸTÉ˦êɵëɐȺ¥Ȩɐ",?_⟩
 obtain⟨k18,qw,bq⟩:=Z.bd Wm cs pl q u0 j0;have b3:=Z.b3;have kM:=Z.k18
 w_up
 refine⟨_,_,_,S.hx,T.QV,T.Q4,_,rfl,Ga λx2 L k0 n0 x1 M2 H1 s1 m1 S1=>?_⟩;obtain⟨y2,z2⟩:=Z.sub Wm cs pl q few u0 j0 fp fk fl
 w_up
 obtain⟨Pv,u⟩:∃Pv:Nat->L2.St->Hp->Prop,∀i σ g,Pv i σ g↔∃(O:am)(f:List (Key×V))(M2:am)(C:aw)(G:Int)(r4:Option V),σ=[some (Z' x),some (Z' Vc),some (Z' Fw),some (Z' x2),r4,none,none,none]/\Spn T g x2 L k0 n0 x1 O f M2 w ((few.take i).map λi=>Wm.getD i []) C G/\St ((few.take i).map λi=>Wm.getD i []) C G/\(∀a∈M2,H a=none)/\f.length<=i*(2*B+2)/\Same H g:=⟨_,λ_ _ _=>Iff.rfl⟩
 have lf:(few.map λc:Nat=>(c:Int)).length=few.length:=af ..;refine⟨⟨_,SqL.of (s1 _ _ hF)⟩,iV (xs:=(few.map λc:Nat=>(c:Int)).map V') Pv ((u _ _ _).mpr ⟨[],[],M2,[],97,none,rfl,S1,Z.st0,m1,aR _,s1⟩) (λi σ g _ z=>by obtain⟨_,_,_,_,_,_,_,_,_,_,_,z⟩:=(u i σ g).mp z;exact SqL.of (z _ _ hF)) ?_ ?_⟩
 ·intro i v σ H2 hv hp;obtain⟨O,f,M2,C,G,r4,rfl,S2,t2,m2,l2,R⟩:=(u _ _ _).mp hp;rw[aG,aG]at hv;obtain⟨j',y1,rfl⟩:=cZ.mp hv;obtain⟨j,hj,rfl⟩:=cZ.mp y1;have hi:i<few.length:=(aY.mp hj).1;have j2:=fk j (bT hj);obtain⟨v1,v2⟩:=z2 i j hj;have hu:j<us.length:=by have:=S.lk;omega
  have g2:Wm[j]?=some Wm[j]:=ao j2;obtain⟨as,w1,w2,w3,w4⟩:=S.vec j _ _ (ao hu) g2;have ek:Wm.getD j []=Wm[j]:=by rw[aq,g2];rfl
  have et:few.take (i+1)=few.take i++[j]:=by rw[cY,hj];rfl
  have lt:((few.take i).map λi=>Wm.getD i []).length=i:=by rw[af,bX];omega
  have S0:=S.same R;have lb:i*(2*B+2)+(2*B+2)<=900:=by
   have:(i+1)*(2*B+2)<=(KM+2)*(2*B+2):=dA _ ();rw[gP,eI]at this;omega
  w_up
  refine⟨L,_,S2.hx,rfl,_,_,_,S0.hx,T.QV,T.QY,_,rfl,Kp,rfl,_,SqL.of S0.hK,Z' us[j],fE (by rw[aG,ao hu];rfl),x2,L,k0,n0,x1,us[j],O,f,M2,_,C,G,as,Wm[j],rfl,S2,SqL.of (R _ _ w1),(w2.same R).ll,t2,#v[<-ek,v1],by rw[lt];omega,(),λH3 n2 t M3 c x3 S3 t3 kx ms mf l3=>?_,λH3 t M3 D bs ws _ hR _ _ _ _ _ _ _ _ _ _=>by rw[<-ek]at hR;exact absurd hR (v2 ws)⟩;have s3:Same H H3:=λy o e=>kx y o (λz=>by rw[m2 y z]at e;cases e) (R y o e);have ea:((few.take (i+1)).map λi=>Wm.getD i [])=((few.take i).map λi=>Wm.getD i [])++[Wm[j]]:=by rw[et,aT,dY,uM,ek]
  refine (u _ _ _).mpr ⟨n2,t,M3,_,x3,_,rfl,#v[ea,S3],#v[ea,t3],λa ha=>?_,by rw[gP,eI];omega,s3⟩;rcases mf a ha with h|h
  ·exact m2 a h
  ·exact R.free h
 intro σ H2 hp;obtain⟨O,f,M2,C,G,r4,rfl,S2,t2,m2,l2,R⟩:=(u _ _ _).mp hp;rw[af,lf]at S2 t2 l2;rw[gl (aA _)]at S2 t2;clear hp u Pv;have lt:(few.map λi=>Wm.getD i []).length=few.length:=af ..;have lb:few.length*(2*B+2)+(2*B+2)<=900:=by
  have:(few.length+1)*(2*B+2)<=(KM+2)*(2*B+2):=dA _ ();rw[gP,eI]at this;omega
 obtain⟨v4,w1,w2,_,_⟩:=hV
 w_up
 refine⟨L,_,S2.hx,rfl,x2,L,k0,n0,x1,Vc,O,f,M2,_,C,G,v4,q,rfl,S2,SqL.of (R _ _ w1),(w2.same R).ll,t2,y2,by rw[lt];omega,(),λH3 n2 t M3 c x3 S3 t3 kx ms mf l3=>?_,λH3 t M3 D bs ws S3 hR kx ms mf l3 x6 nD eD lD nb Db=>?_⟩
 ·w_left;k_units
  exact q1 H3 λy o e=>kx y o (λz=>by rw[m2 y z]at e;cases e) (R y o e)
 have s3:Same H H3:=λy o e=>kx y o (λz=>by rw[m2 y z]at e;cases e) (R y o e);have S0:=S.same s3;have j4:=Z.up Wm cs pl q few ws u0 j0 fp fk fl hR;have lw:=Z.len _ _ _ hR;rw[lt]at lw;have z1:=lD.len
 w_up
 rw[if_neg (λz=>nomatch z)]
 w_up
 have g4:(us.map Z').length=Wm.length:=by rw[af];exact S.lk
 refine⟨_,_,_,S0.hx,T.QV,T.QY,_,rfl,Kp,rfl,⟨_,SqL.of S0.hK⟩,λD1 y3=>?_⟩;obtain⟨Pc,I⟩:∃Pc:cx,∀j Hx,Pc j Hx↔∃r:am,Hx D1=some (.lst (r.map Z'))/\LH Hx r (bI j [])/\D1∉r/\Same H3 Hx/\∀b∈r,H3 b=none:=⟨_,λ_ _=>Iff.rfl⟩
 refine eE (xs:=us.map Z') Pc ((I _ _).mpr ⟨[],ak,LH.nil _,by simp,az y3 _,by simp⟩) (λi Hx _ y=>by obtain⟨_,_,_,_,y,_⟩:=(I i Hx).mp y;exact SqL.of (y _ _ S0.hK)) ?_ ?_
 ·intro j v Hx hv hc;obtain⟨r,k1,k2,k3,k4,k5⟩:=(I _ _).mp hc;have hj:j<Wm.length:=by have:=(aY.mp hv).1;omega
  have lr:=k2.len;rw[mr]at lr
  w_left;k_units
  refine⟨aR _,λp np=>?_⟩;have ne:p≠D1:=λz=>by rw[z,k1]at np;cases np
  have u1:=az np (.lst []);refine⟨_,u1 _ _ k1,#v[af,bD ()],(I _ _).mpr ⟨r++[p],by rw[ak,aT];rfl,?_,by simp[k3];exact λz=>ne z.symm,(k4.trans u1).more y3,λb J=>?_⟩⟩
  ·rw[List.replicate_succ'];refine LH.snoc ((k2.same u1).upd k3) #v[aC ne,ak]
  ·rcases a8.mp J with h|h
   ·exact k5 b h
   ·rw[aW.mp h];exact k4.free np
 intro H4 hc;obtain⟨r,k1,k2,k3,k4,k5⟩:=(I _ _).mp hc;rw[g4]at k2;clear hc I Pc;have lr:=k2.len;rw[mr]at lr;have x0:=k4 _ _ eD;have z3:=lD.same k4;obtain⟨bi,bl,rfl⟩:∃bi bl,bs=bi++[bl]:=by
  cases z:bs.getLast? with
  | none=>rw[uW]at z;rw[z]at z1;simp at z1;omega
  | some a=>exact⟨_,a,(oW.mp z).choose_spec⟩
 have m4:bi.length=few.length:=by simp at z1;omega
 refine⟨_,SqL.of x0,λD2 v3=>⟨D1,rfl,?_⟩⟩;rw[NY];have u2:=az v3 (.lst [Z' bl]);refine⟨_,u2 _ _ k1,_,ak,by rw[af];exact dm (bD (by simp;omega)),λm nW=>?_⟩;have u3:=az nW (.lst (r.map Z'++[Z' bl]));have s4:=s3.trans (k4.trans (u2.trans u3));have eW:=ak (H:=L2.upd H4 D2 (.lst [Z' bl])) (a:=m) (o:=.lst (r.map Z'++[Z' bl]));have y0:H m=none:=s3.free (k4.free (u2.free nW));have z0:=k4.trans (u2.trans u3);have j1:=lD.same z0;have j3:=z0 _ _ eD;have n4:m≠D:=λz=>by rw[<-z]at x0;rw[u2 _ _ x0]at nW;cases nW
 have g3:m∉bi++[bl]:=(z3.same u2).notin nW;have x5:m∉r:=(k2.same u2).notin nW;have m3:=(k2.same u2).same u3;have n3:L2.upd (L2.upd H4 D2 (.lst [Z' bl])) m (.lst (r.map Z'++[Z' bl])) m=some (.lst ((r++[bl]).map Z')):=by rw[eW,aT];rfl
 have x4:=s4 _ _ hF;have y5:m≠Fw:=λz=>by rw[z,hF]at y0;cases y0
 generalize L2.upd (L2.upd H4 D2 (.lst [Z' bl])) m (.lst (r.map Z'++[Z' bl]))=H5 at s4 j1 j3 m3 n3 x4 z0 ⊢;have z5:H5 bl=some (.lst ((ws.getD few.length []).map V')):=by
  refine j1.get few.length bl _ (by rw[<-m4];simp) ?_;rw[aq,ao ()];rfl
 have y4:∀b∈bi++[bl],H b=none:=λb J=>R.free (nb b J).2;have u5:∀b∈r,H b=none:=λb J=>s3.free (k5 b J);clear u2 u3 v3 nW eW k1 k2 x0 z3 z0
 w_up
 obtain⟨Pz,U⟩:∃Pz:Nat->L2.St->Hp->Prop,∀n σ g,Pz n σ g↔∃(wb:am)(r4 r7:Option V),σ=[some (Z' x),some (Z' Vc),some (Z' Fw),some (Z' x2),r4,some (Z' D),some (Z' m),r7]/\g m=some (.lst (wb.map Z'))/\LH g wb (spw Wm.length few ws n)/\(∀b∈wb,H b=none/\b≠m)/\KB m H5 g:=⟨_,λ_ _ _=>Iff.rfl⟩
 have X:∀{g:Hp},KB m H5 g->SqL K g Fw ((few.map λc:Nat=>(c:Int)).map V')/\SqL K g D ((bi++[bl]).map Z'):=λ{g} k=>⟨SqL.of (k _ _ (Ne.symm y5) x4),SqL.of (k _ _ (Ne.symm n4) j3)⟩
 obtain⟨kf1,kf2⟩:=X (KB.of (Same.refl H5));refine⟨_,kf1,_,kf2,zC (xs:=(few.map λc:Nat=>(c:Int)).map V') (ys:=(bi++[bl]).map Z') Pz ((U _ _ _).mpr ⟨r++[bl],_,_,rfl,n3,#v[spw,m3.snoc z5],λb J=>?_,KB.of (Same.refl _)⟩) (λn σ g _ _ y=>by obtain⟨_,_,_,_,_,_,_,y⟩:=(U n σ g).mp y;exact X y) ?_ ?_⟩
 ·rcases a8.mp J with h|h
  ·exact⟨u5 b h,λz=>x5 #v[<-z,h]⟩
  ·rw[aW.mp h];exact⟨y4 bl (by simp),λz=>g3 (by rw[<-z];simp)⟩
 ·intro n v1 v2 pr σ H6 e1 e3 g1 v5;obtain⟨wb,t4,t7,rfl,eW,lW,Y,kb⟩:=(U _ _ _).mp g1;rw[aG,aG]at e1;obtain⟨j',y1,rfl⟩:=cZ.mp e1;obtain⟨j,hj,rfl⟩:=cZ.mp y1;rw[aG]at e3;obtain⟨b,J,rfl⟩:=cZ.mp e3;have hn:n<few.length:=(aY.mp hj).1;have j2:=fk j (bT hj);have w1:=az v5 (.tup [V' (j:Int),Z' b]);have n1:b≠m:=λz=>g3 #v[<-z,bT J];have j5:ws[n]?=some (ws.getD n []):=by rw[aq,ao ()];rfl
  have g5:=j1.get n b _ J j5;have m5:=lW.len;rw[h_]at m5;have ef:few.getD n 0=j:=by rw[aq,hj];rfl
  w_left;k_units
  refine⟨_,SqT.of ak,rfl,_,_,rfl,_,_,rfl,rfl,_,(j:Int),rfl,w1 _ _ eW,j,jw (by rw[af];omega),(U _ _ _).mpr ⟨wb.set j b,_,_,rfl,by rw[ak,List.map_set],?_,λc hc=>?_,(kb.on w1).set⟩⟩
  ·rw[spw,ef];exact ((lW.same w1).upd (λz=>(Y _ z).2 rfl)).set #v[aC n1,w1 _ _ (kb _ _ n1 g5)] j
  ·rcases QG hc with h|h
   ·exact Y c h
   ·rw[h];exact⟨y4 b (bT J),n1⟩
 intro σ H6 g1;obtain⟨wb,t4,t7,rfl,eW,lW,Y,kb⟩:=(U _ _ _).mp g1;have z4:min ((few.map λc:Nat=>(c:Int)).map V').length ((bi++[bl]).map Z').length=few.length:=by simp;omega
 rw[z4]at lW
 w_left;k_units
 refine q2 H6 m wb _ (λy o e=>kb y o (λz=>by rw[z,y0]at e;cases e) (s4 y o e)) j4 y0 eW lW (λb J=>(Y b J).1) λz=>(Y _ z).2 rfl
def ja (H:Hp)(Q:VK)(ds:ac):Prop:=∀(D:Addr)(bs:am) H',Same H H'->H D=none->H' D=some (.lst (bs.map Z'))->LH H' bs ds->(∀b∈bs,H b=none)->D∉bs->bs.Nodup->Q (.ref D) H'
theorem oq {K:ap}{a:Addr}{as:am}{ps ds:ac}{I:List (Nat×Str)}{J:TE}{Q:VK}{σ:L2.St}{g:Hp}{D:Addr}(q:g D=none)(P:SqL K g a (as.map Z'))(L:LL K g as ps)(hd:ds.length=ps.length)(Z:ps.length<=900)(hs:∀(i:Nat)(b:Addr)(p d:aa)(c:Hp)(R:VK),ps[i]?=some p->ds[i]?=some d->Same g c->SqL K c b (p.map V')->dU c R (d.map V')->J (bst I σ (some (Z' b))) c R)(S:ja g Q ds):jv (Itl K a) I J Q σ g D:=by
 obtain⟨r,f⟩:∃r:cx,∀j c,r j c↔∃bs:am,c D=some (.lst (bs.map Z'))/\LH c bs (ds.take j)/\D∉bs/\bs.Nodup/\(∀b∈bs,g b=none)/\Same g c:=⟨_,λ_ _=>Iff.rfl⟩
 refine eE (xs:=as.map Z') r ((f _ _).mpr ⟨[],ak,LH.nil _,by simp,kO,by simp,az q _⟩) (λi c _ z=>by obtain⟨_,_,_,_,_,_,z⟩:=(f i c).mp z;exact z.seq P) ?_ ?_
 ·intro j v c T s;obtain⟨bs,n,h,t,u,B,k⟩:=(f _ _).mp s;obtain⟨b,p,rfl,hb,M,U⟩:=L.nth T;have hj:j<ps.length:=(aY.mp M).1;have m:ds[j]?=some ds[j]:=ao ();refine hs j b p _ c _ M m k (k.seq U) λF H2 C o X=>?_;have lk:=h.len;rw[bX]at lk;have G:F≠D:=λz=>by rw[z,n]at o;cases o
  have H:F∉bs:=h.notin o;have O:D∉bs++[F]:=λz=>by
   rcases a8.mp z with z|z
   ·exact t z
   ·exact G (aW.mp z).symm
  refine⟨_,C _ _ n,#v[af,bD ()],(f _ _).mpr ⟨bs++[F],by rw[ak];simp,?_,O,?_,?_,(k.trans C).more q⟩⟩
  ·have e:ds.take (j+1)=ds.take j++[ds[j]]:=by rw[cY,m];rfl
   rw[e];exact ((h.same C).snoc X).upd O
  ·exact jQ.mpr ⟨u,by simp,λx hx y hy z=>H (by rw[aW.mp hy]at z;rw[<-z];exact hx)⟩
  ·intro x hx;rcases a8.mp hx with z|z
   ·exact B x z
   ·rw[aW.mp z];exact k.free o
 ·intro Y s;obtain⟨bs,n,h,t,u,B,k⟩:=(f _ _).mp s;rw[af,L.len,<-hd,e_]at h;exact S D bs Y k q n h B t u
theorem N4 {lo:Int}{n:Nat}{σ:L2.St}{f:Hp}{c:List (Nat×Str)}{g:TT}{h:TE}{Q:VK}{L:Addr}(a:cx)(o:a 0 (L2.upd f L (.lst [])))(hs:∀i H,i<n->a i H->g (bst c σ (some (.int (lo+i)))) H λb j=>if b=true then h (bst c σ (some (.int (lo+i)))) j λy k=>∃d,k L=some (.lst d)/\d.length<sizeLine/\a (i+1) (L2.upd k L (.lst (d++[y]))) else a (i+1) j)(hd:∀H,a n H->Q (.ref L) H):
  zu (Itr lo n) c g h Q σ f L:=by
 refine⟨λi m H=>m=n-i/\i<=n/\a i H,⟨n,by simp,aR _,o⟩,?_⟩
 rintro i m H ⟨rfl,hi,p⟩
 by_cases hlt:i<n
 ·refine .inr ⟨hlt,a (i+1),λq r=>⟨n-(i+1),(),rfl,hlt,r⟩,λv q y=>?_⟩;obtain⟨e,y⟩:=y;subst e y;exact hs i _ hlt p
 ·have e:i=n:=by omega
  subst e;exact .inl ⟨aA _,hd H p⟩
theorem Gb {P:Program}{wd:World}{K:ap}{mg:bh}{base:Heap}(T:Tx K mg){w B KM:Nat}{St:ax->aw->Int->Prop}{Vq:ax->ac->Prop}{Rl:ax->ac->ac->Prop}(Z:SpTh w B KM St Vq Rl):∀d:Nat,FnOk P wd K mg base CX0 (2*d+9) T.RC T.RD ["self","vector"] (F_ T w B St Vq Rl d)
 | 0=>T.US.ok i7 (λ_ _ _ _ h=>by obtain⟨_,_,_,_,_,_,_,_,_,_,_,_,_,_,_,_,_,_,_,_,z,_⟩:=h;exact absurd z (Nat.not_lt_zero _)) (λ_ _ _ _ _ _ _ _ _ h=>by obtain⟨_,_,_,_,_,_,_,_,_,_,_,_,_,_,_,_,_,_,_,_,z,_⟩:=h;exact absurd z (Nat.not_lt_zero _))
 | d+1=>by
  have F:=NZ (P:=P) (wd:=wd) (base:=base) T Z d (Gb T Z d);refine T.US.ok i7 (λvs H Q E h=>?_) (λy5 A outer s H vs Q E hr h=>?_)
  ·obtain⟨x,J,Kp,Cl,Tb,Vc,us,m1,M,Wm,g,pl,as,q,rfl,_⟩:=h;rfl
  obtain⟨x,J,Kp,Cl,Tb,Vc,us,m1,M,Wm,g,pl,as,q,rfl,S,hV,hL,u,C,kd,l9,q1,q2⟩:=h;refine⟨_,s!"˄-ɊɽɾyĦɭɄʁɟÁɄɒÁɨʇũ1Ūȯūʰʕʬɸ̀ÁʣɈ®ȳȫ˕ȵ'^ʇű1Ųȯųʰ˙Ȩ˶'Ǌ(?Ɋɓɩ/ǋɣ`)ǌ˅ʄ˴$K=®˱ȪɃǍʅȰ ȢȦȵKȢÁɄmȠCÁȟî=¬ȷɻ˴ȩʇǎ1́Ǐʰʜ]ɫÙɐ˟ɐIʍÁȟʇǐ1ǑȯǒʻɯÁȟʇǓ1ǔȯǕʰȝC$ɫïȺ˟ɐI'^ʇű1Ųȯųʰ˙Ȩ]",?_⟩
  obtain⟨k18,qw,bq⟩:=Z.bd Wm g pl q u C;obtain⟨tb,pv,lo⟩:=Z.tb Wm g pl q u C;have kM:=Z.k18;have b3:=Z.b3;have b1:2*(2*B+2)<=900:=aM (dA _ ()) b3;have w20:=tb.w20;have lk:=S.lk;have lc:=S.lc
  w_up
  refine⟨⟨_,hV⟩,λD nD=>oq (ps:=q) (ds:=q) nD hV hL rfl () (λi b p d Hx R' hp hd sx hb v3=>?_) (λO ob H1 s1 nO eO lO n1 j3 nd=>?_)⟩
  ·have e:d=p:=by rw[hp]at hd;exact (Option.some.inj hd).symm
   subst e
   w_left;simp![bst]
   exact⟨_,.inl hb,λl hl=>v3 l _ (az hl _) hl ak⟩
  have S1:=S.same s1;have nM:∀a,H a=none->a∉M:=λa r z=>by obtain⟨o,e⟩:=S.al a z;rw[r]at e;cases e
  have V1:VecAt H1 M O q:=⟨ob,eO,lO,nM O nO,λa r=>nM a (n1 a r)⟩
  clear eO lO n1 j3 nd
  w_up
  refine⟨J,_,S1.hx,rfl,_,_,_,S1.hx,T.QV,T.RE,_,rfl,x,J,Kp,Cl,Tb,O,us,m1,M,w,Wm,g,pl,pl,q,rfl,S1,tb,(),(),V1,(),λf hf=>⟨by have:=(bq f hf).1;omega,(bq f hf).2⟩,λ_=>lo,λH2 I M2 S2 y1 L z1 l2 k3=>⟨λR nR eR _=>?_,λnp=>absurd pv np⟩⟩;have j0:KX M H H2:=λy o U e=>S1.kx y1 y o U (s1 y o e);have V2:=(V1.more z1).kx (λy o U e=>S1.kx y1 y o (λz=>U (L y z)) e);have k:∀a∈M2,a∈M\/H a=none:=λa r=>(z1 a r).imp (λh=>h) s1.free;clear z1 k3 y1 V1 S1;have z5:(dI w Wm g q pl).length=w+(w+1):=by
   unfold dI;rw[oj lo Wm.length #v[eh,aA _]];unfold cn;rw[b4,af,af,gw,qw]
  w_up
  refine⟨_,_,_,S2.hx,T.QV,T.Q4,_,rfl,_,rfl,(),(),?_⟩;rw[iD];obtain⟨Pv,x0⟩:∃Pv:Nat->L2.St->Hp->Prop,∀i σ Y,Pv i σ Y↔∃r4:Option V,σ=[some (Z' x),some (Z' Vc),some (Z' O),some (Z' R),r4,none,none]/\Y=H2/\∀c,c<i->co (dI w Wm g q pl) c=0:=⟨_,λ_ _ _=>Iff.rfl⟩
  refine gY Pv ((x0 _ _ _).mpr ⟨none,rfl,rfl,λc hc=>by omega⟩) ?_ ?_
  ·intro i σ Y hi hp;obtain⟨r4,rfl,rfl,hz⟩:=(x0 _ _ _).mp hp;have e0:(0:Int)+(i:Int)=(i:Int):=ii _
   w_left;simp![e0]
   refine⟨_,SqL.of eR,_,lJ (),?_⟩
   w_left;k_units
   refine bO (λz=>?_) (λz=>(x0 _ _ _).mpr ⟨_,rfl,rfl,λc hc=>?_⟩)
   ·obtain⟨g3,m3⟩:=Z.hit Wm g pl q i u C hi (⇑z);have n3:=F9 lc pv (show co (dI w Wm g q pl) i≠0 by simpa using z);have x2:pl+((0:Nat):Int)=pl:=by omega
    refine⟨J,_,S2.hx,rfl,x,J,Kp,Cl,Tb,O,us,I,M2,w,Wm,g,pl,q,i,0,rfl,S2,V2,(),(),λt ht=>?_,#v[x2,n3],λH3 y2 M3 t ht S3 x4 u1 y4 z4 l3=>?_⟩
    ·rw[show t=0 by omega,x2];exact m3
    ·have et:t=0:=by omega
     subst et;have hs:=Z.stS Wm g pl q i 0 u C hi g3 (aR _) x4;exact q1 H3 _ y2 M3 i _ S3 hs (j0.trans u1 k) (λa h=>y4 a (L a h)) (ku j0 k z4) ()
   ·by_cases y:c=i
    ·rw[y];simpa using z
    ·exact hz c ()
  intro σ Y hp;obtain⟨r4,rfl,rfl,hz⟩:=(x0 _ _ _).mp hp;clear hp x0 Pv;obtain⟨gs,Pn,f,qs,p0,t0,O1,O2,O3,O4,O5,O6,O7⟩:=Z.oc Wm g pl q u C hz;have k0:(us.map Z').length=Wm.length:=by rw[af];exact S.lk
  w_up
  refine⟨_,_,_,S2.hx,T.QV,T.QY,_,rfl,Kp,rfl,_,.inl (SqL.of S2.hK),by rw[k0];omega,by rw[k0];omega,λFw z2=>?_⟩;rw[k0,iD];obtain⟨fw,G⟩:∃fw:Nat->aw,∀j,fw j=(aJ j).filter λn=>decide (co (dI w Wm g q pl) (w+n)≠0):=⟨_,λ_=>rfl⟩
  have u2:fw 0=[]:=by rw[G];rfl
  have v2:∀j,(fw j).length<=j:=λj=>by rw[G];exact aM (List.length_filter_le _ _) #v[gw,aA _]
  have v1:∀j,fw (j+1)=if co (dI w Wm g q pl) (w+j)≠0 then fw j++[j] else fw j:=λj=>by
   rw[G,G,fL,Jk];by_cases z:co (dI w Wm g q pl) (w+j)=0 <;> simp[z]
  have fp:(fw Wm.length).Pairwise (· < ·):=by rw[G];exact List.pairwise_lt_range.filter _
  have fk:∀i∈fw Wm.length,i<Wm.length:=λi hi=>by rw[G]at hi;exact cU.mp (kF.mp hi).1
  obtain⟨Pc,X⟩:∃Pc:cx,∀j Hx,Pc j Hx↔Hx Fw=some (.lst (((fw j).map λc:Nat=>(c:Int)).map V'))/\Same Y Hx:=⟨_,λ_ _=>Iff.rfl⟩
  have kw:=O1.kw;refine N4 Pc ((X _ _).mpr ⟨by rw[ak,u2];rfl,az z2 _⟩) ?_ ?_
  ·intro j Hx hj hc;obtain⟨k1,k2⟩:=(X _ _).mp hc;have e0:(0:Int)+(j:Int)=(j:Int):=ii _;have e1:(w:Int)+(j:Int)=((w+j:Nat):Int):=by omega
   have u4:=S2.same k2;have lj:=v2 j
   w_left;simp![fg,bst,e0,eL]
   refine⟨_,_,_,u4.hx,T.QV,T.Q4,_,rfl,_,rfl,_,SqL.of (k2 _ _ eR),_,#v[e1,lJ ()],?_⟩
   w_left;k_units
   refine bO (λz=>⟨_,k1,#v[af,af,bD ()],(X _ _).mpr ⟨?_,k2.more z2⟩⟩) (λz=>(X _ _).mpr ⟨?_,k2⟩)
   ·rw[ak,v1,if_pos (⇑z),aT,aT];rfl
   ·rw[k1,v1,if_neg (⇑z)]
  intro H3 hc;obtain⟨eF,s3⟩:=(X _ _).mp hc;clear hc X Pc;generalize fw Wm.length=few at fp fk eF;clear G u2 v2 v1;have S3:=S2.same s3;have V3:=V2.same s3;have u1:KX M H H3:=λy o U e=>s3 _ _ (j0 y o U e);have j2:∀a,Y a=none->a∉M2:=λa r z=>by obtain⟨o,e⟩:=S2.al a z;rw[r]at e;cases e
  have g2:∀a,Y a=none->H a=none:=λa r=>by
   cases e:H a with
   | none=>rfl
   | some o=>
    by_cases m:a∈M
    ·exact absurd (L a m) (j2 a r)
    ·rw[j0 a o m e]at r;cases r
  obtain⟨Mx,y0⟩:∃Mx:L2.St->Hp->Prop,∀σ Y,Mx σ Y↔∃v6:V,σ=[some (Z' x),some (Z' Vc),some (Z' O),some (Z' R),r4,some (Z' Fw),some v6]/\Same H3 Y/\(v6=.non\/∃(D:Addr)(bs:am)(ws:ac),v6=.ref D/\Rl Wm q ws/\H3 D=none/\Y D=some (.lst (bs.map Z'))/\LH Y bs ws/\(∀b∈bs,H3 b=none)/\D∉bs):=⟨_,λ_ _=>Iff.rfl⟩
  w_left;refine fP Mx ?_ ?_
  ·w_left;k_units
   refine⟨_,.inl (SqL.of eF),_,_,_,S3.hx,T.QV,T.QY,_,rfl,Kp,rfl,_,.inl (SqL.of S3.hK),?_⟩;rw[k0,af,af];refine bO (λz=>?_) (λz=>(y0 _ _).mpr ⟨_,rfl,Same.refl _,.inl rfl⟩);refine⟨J,_,S3.hx,rfl,x,J,Kp,Cl,Tb,O,Fw,us,I,M2,Wm,g,pl,q,few,rfl,S3,V3,eF,u,C,(),fp,fk,(),λH4 s4=>(y0 _ _).mpr ⟨_,rfl,s4,.inl rfl⟩,λH4 D bs ws s4 hR nD eD lD nb Db=>(y0 _ _).mpr ⟨_,rfl,s4,.inr ⟨D,bs,ws,rfl,hR,nD,eD,lD,nb,Db⟩⟩⟩
  intro σ H4 hm;obtain⟨v6,rfl,s4,v4⟩:=(y0 _ _).mp hm;clear hm y0 Mx;have S4:=S3.same s4;have V4:=V3.same s4;have j1:KX M H H4:=λy o U e=>s4 _ _ (u1 y o U e)
  w_up
  rcases v4 with rfl|⟨D,bs,ws,rfl,hR,nD,eD,lD,nb,Db⟩
  ·rw[if_neg (λz=>z rfl)]
   w_up
   refine⟨J,_,S4.hx,rfl,x,J,Kp,Cl,Tb,O,us,I,M2,w,Wm,g,pl,q,gs,Pn,f,qs,p0,t0,rfl,S4,V4,O1,(),O3,O4,λH5 z0 M5 D bs S5 m2 g1 n2 l5 j4 nD eD lD nb Db=>?_⟩;have n0:=j1.trans m2 k;have u0:=ku j1 k n2;have V5:=(V4.more n2).kx (λy o U e=>m2 y o (λz=>U (g1 y z)) e);have n5:∀a,H4 a=none->H a=none:=λa r=>g2 a (s3.free (s4.free r))
   w_up
   refine⟨J,_,S5.hx,rfl,x,J,Kp,Cl,Tb,O,D,us,z0,M5,w,Wm,g,pl,q,bs,qs,rfl,S5,V5,SqL.of eD,lD.ll,O5,λH6 s6=>⟨λc x3 y3 hs hb=>?_,λz3=>?_⟩⟩
   ·obtain⟨N,N1,N2,N3⟩:=O7 c x3 y3 hs;have S6:=S5.same s6
    w_left;k_units
    rw[if_neg (λz=>nomatch z)];refine⟨J,_,S6.hx,rfl,x,J,Kp,Cl,Tb,O,us,z0,M5,w,Wm,g,pl,q,c,N,rfl,S6,V5.same s6,(),(),N2,N3,λH7 u3 M7 t ht S7 k4 g4 m4 x5 l7=>?_⟩;have hs:=Z.stS Wm g pl q c t u C x3 y3 () k4;have x1:KX M H H6:=λy o U e=>s6 _ _ (n0 y o U e);exact q1 H7 _ u3 M7 c _ S7 hs (x1.trans g4 u0) (λa h=>m4 a (g1 a (L a h))) (ku x1 u0 x5) ()
   ·have S6:=S5.same s6
    w_left;k_units
    exact q2 H6 z0 M5 D bs qs S6 (O6 z3) (λy o U e=>s6 _ _ (n0 y o U e)) (λa h=>g1 a (L a h)) u0 () j4 (n5 D nD) (s6 _ _ eD) (lD.same s6) (λb hb=>⟨(nb b hb).1,n5 b (nb b hb).2⟩) Db
  ·rw[if_pos (λz=>nomatch z)];have n4:∀a,H3 a=none->a∉M2/\H a=none:=λa r=>⟨j2 a (s3.free r),g2 a (s3.free r)⟩
   exact q2 H4 I M2 D bs ws S4 hR j1 L k () (n4 D nD).1 (n4 D nD).2 eD lD (λb hb=>n4 b (nb b hb)) Db
theorem AA {f:aa}(q:Nml f){ps:aa}(nd:ps.Nodup)(x:f.length<=ps.length)(r:∀p∈ps,val p f=0):f=[]:=by
 have d:∀i j (hi:i<ps.length) (C:j<ps.length),i≠j->ps[i]≠ps[j]:=λa b g m e h=>by
  rcases Nat.lt_or_gt_of_ne e with y|y
  ·exact oY.mp nd a b g m y h
  ·exact oY.mp nd b a m g y h.symm
 have z:∀t,t<ps.length->dd f (ps.take (t+1))=0:=λt o=>by
  have h:=tj f d (B:=0) (λi h=>#v[r _ (bY h),aA _]) t 0 ();have s:run ps 0 (t+1)=ps.take (t+1):=by unfold run;rw[mD]
  rw[s]at h;omega
 have sT:∀k t,t+k=ps.length->∀n,dd f (ps.take t++[n])=0:=λk=>by
  induction k with
  | zero=>intro t o n;exact EZ (by rw[b4,bX];simp;omega)
  | succ k ih=>
   intro t o n;have c:t<ps.length:=by omega
   have u:ps.take (t+1)=ps.take t++[ps[t]]:=by rw[cY,ao c];rfl
   rw[E4 f (ps.take t) ps[t] n,<-u,z t c,ih (t+1) () n];simp
 exact cO q b_ λn=>by
  have:=sT ps.length 0 () n;rw[List.take_zero,gk,tf]at this;rw[this];rfl
theorem AB {f:aa}(d:Nml f)(g:f≠[])(pl:Int){N:Nat}(k:f.length<=N+1):∃t:Nat,t<=N/\val (pl+(t:Int)) f≠0:=by
 by_cases h:∃t:Nat,t<=N/\val (pl+(t:Int)) f≠0
 ·exact h
 refine absurd (AA d (ps:=(aJ (N+1)).map λt:Nat=>pl+(t:Int)) ?_ (by simp;omega) λp i=>?_) g
 ·refine List.Pairwise.map _ (λa b c=>?_) (List.nodup_range (n:=N+1));intro e;apply c;omega
 ·obtain⟨t,j,rfl⟩:=aZ.mp i;have:=cU.mp j;by_cases z:val (pl+(t:Int)) f=0
  ·exact z
  ·exact absurd ⟨t,(),z⟩ h
theorem N5 {w:Nat}{Wm:ax}{cs:aw}{d:aa}(nd:Nml d)(m:d≠[]){Pn:Nat}(h:∀p:Nat,p<Pn->val (p:Int) d≠0->Piv w Wm cs (p:Int) Wm.length):Pn<(plc w Wm cs Pn).length+d.length:=by
 have f:∀(g:Nat->Bool)(c:aw),(c.filter g).length+(c.filter λx=>! g x).length=c.length:=λg c=>by
  induction c with
  | nil=>rfl
  | cons x c ih=>cases e:g x <;> simp[List.filter_cons,e] <;> omega
 have e:=f (λp:Nat=>i_ w Wm cs (p:Int) Wm.length) (aJ Pn);rw[gw]at e;have o:(plc w Wm cs Pn).length=((aJ Pn).filter λp:Nat=>i_ w Wm cs (p:Int) Wm.length).length:=by unfold plc;rw[af]
 rw[o];have u:((aJ Pn).filter λp:Nat=>! i_ w Wm cs (p:Int) Wm.length).length<d.length:=by
  refine mz λi=>m (AA nd (ps:=((aJ Pn).filter λp:Nat=>! i_ w Wm cs (p:Int) Wm.length).map λp:Nat=>(p:Int)) ?_ #v[af,i] λp q=>?_)
  ·refine List.Pairwise.map _ (λa b j=>?_) ((List.nodup_range (n:=Pn)).filter _);intro e;apply j;omega
  ·obtain⟨t,r,rfl⟩:=aZ.mp q;obtain⟨s,k⟩:=kF.mp r;by_cases z:val (t:Int) d=0
   ·exact z
   ·have:=uh.mpr (h t (cU.mp s) z);rw[this]at k;simp at k
 omega
theorem N8 {g:Int->Int->Int}{a b:aa}{j:Nat}(c:j<a.length)(d:j<b.length):co (cV g a b) j=g (co a j) (co b j):=by
 rw[aI (by rw[mI];omega),List.getElem_zipWith,aI c,aI d]
theorem lU {w:Nat}{vec:ac}{a:Nat}{p:Int}(b:vec.length=w):(cn w vec a p).length=w+(w+1):=by
 unfold cn;rw[b4,af,af,gw,b]
theorem AC {w:Nat}{vec:ac}{a:Nat}{p:Int}{j:Nat}(b:j<vec.length):co (cn w vec a p) j=val p (vec.getD j []):=by
 unfold cn co;rw[aq,aq,cA #v[af,b],aG,ao b];rfl
theorem ky {w:Nat}{vec:ac}{a:Nat}{p:Int}{i:Nat}(b:vec.length=w)(hi:i<=w):co (cn w vec a p) (w+i)=if i=a then 1 else 0:=by
 unfold cn co;rw[aq,cQ (by rw[af];omega),af,b,Nat.add_sub_cancel_left,aG,ij ()];rfl
theorem Gd {w:Nat}{vec:ac}{a:Nat}{p:Int}{k l L:Nat}(b:Bd l p)(d:∀f∈vec,f.length<=L/\∀c∈f,Bd k c)(hk:0<k):∀y∈cn w vec a p,Bd (k+(l+1)*L) y:=λy hy=>by
 unfold cn at hy;rcases a8.mp hy with h|h
 ·obtain⟨f,e,rfl⟩:=aZ.mp h;obtain⟨g,i⟩:=d f e;exact (jE b f i).mono (QH (dZ _ g) _)
 ·obtain⟨o,_,rfl⟩:=aZ.mp h
  split
  ·exact Bd.one ()
  ·exact Bd.zero _
theorem Ge {z e:Int}(a:e≠0)(h:e∣z):z.fdiv e*e=z:=by
 obtain⟨k,rfl⟩:=h;rw[kI _ a,cw]
theorem Gf {e:Int}(c:e≠0)(n:Int):∀b:aa,(∀z∈b,e∣z)->val n (b.map λz=>z.fdiv e)*e=val n b
 | [],_=>by simp[val]
 | z :: b,h=>by
  have i:=Gf c n b λa d=>h a (by simp[d]);show (z.fdiv e+n*val n (b.map λz=>z.fdiv e))*e=z+n*val n b;rw[uS,Ge c (h z (by simp)),cD,i]
theorem N9 {e:Int}(f:e≠0){xs:aa}(nx:Nml xs)(h:∀z∈xs,e∣z):Nml (xs.map λz=>z.fdiv e):=d_.mpr λa c=>by
 rw[u_]at c;obtain⟨z,d,rfl⟩:=cZ.mp c;have g:=d_.mp nx z d;have b:=Ge f (h z (il d));intro y;rw[y]at b;simp at b;exact g b.symm
theorem N_ (n:Int)(b:Bool)(R:aa):val n (fT b R)=(if b then -1 else 1)*val n R:=by
 unfold fT
 cases b
 ·simp
 ·have:(R.map λz=>-z)=R.map λz=>-1*z:=eK λa _=>by omega
  rw[if_pos rfl,if_pos rfl,this,bL]
theorem jH {e:Int}(c:e≠0){y:aa}(d:Nml y):Nml (y.map λz=>e*z):=d_.mpr λa b=>by
 rw[u_]at b;obtain⟨z,f,rfl⟩:=cZ.mp b;exact fX c (d_.mp d z f)
theorem eH {x u:aa}(nx:Nml x)(b:Nml u)(c:x≠[])(u0:u≠[]):(pdL x u).length=x.length+u.length-1/\co (pdL x u) ((pdL x u).length-1)=co x (x.length-1)*co u (u.length-1):=by
 have e:x.length≠0:=λz=>c (bC z);have f:u.length≠0:=λz=>u0 (bC z);have t:co (pdL x u) (x.length+u.length-2)=co x (x.length-1)*co u (u.length-1):=by
  rw[lQ,show x.length+u.length-2=u.length-1+(x.length-1) by omega,kh (λj a=>gD j a) (λj a=>gD j a)]
 have g:=ug nx b;have i:x.length+u.length-1<=(pdL x u).length:=by
  refine oN λh=>?_;rw[aD ()]at t;exact fX (dw nx c) (dw b u0) t.symm
 have d:(pdL x u).length=x.length+u.length-1:=by omega
 exact⟨d,by rw[d,show x.length+u.length-1-1=x.length+u.length-2 by omega];exact t⟩
theorem iB (g:aa):pdL [] g=[]:=cO (cI _ _) b_ λn=>by rw[a7];simp[val]
def xp (d:Nat):aa:=bI d 0++[1]
theorem Oa (d:Nat):Nml (xp d):=jD _
theorem Ob (d:Nat):xp d≠[]:=by unfold xp;simp
theorem Gg (d:Nat):(xp d).length=d+1:=by unfold xp;simp
theorem Oc (d:Nat):co (xp d) ((xp d).length-1)=1:=by
 rw[Gg];unfold xp co;simp
theorem Gh {p:aa}(a:Nml p)(b:p≠[]):Nml (dvL p (ah p))/\dvL p (ah p)≠[]/\hH (co (dvL p (ah p)))/\p=pdL [((ah p:Nat):Int)] (dvL p (ah p)):=by
 have c:=gu a b;refine⟨ud a b,λz=>b (bC (by rw[<-jG p (ah p),z];rfl)),ue c,cO a (cI _ _) λn=>?_⟩;rw[a7,<-lM c n];simp[val]
structure Gc (p q g a b U W:aa)(m:Int):Prop where
 ng:Nml g
 g0:g≠[]
 pg:hH (co g)
 na:Nml a
 nb:Nml b
 pa:p=pdL a g
 qb:q=pdL b g
 m0:m≠0
 bz:∀n,val n U*val n a+val n W*val n b=m
theorem Gc.swap {p q g a b U W:aa}{m:Int}(h:Gc p q g a b U W m):Gc q p g b a W U m:=⟨h.ng,h.g0,h.pg,h.nb,h.na,h.qb,h.pa,h.m0,λn=>by rw[<-h.bz n];omega⟩
theorem AD:∀(n:Nat)(p q:aa),p.length+q.length<=n->Nml p->Nml q->(p≠[]\/q≠[])->∃(g a b U W:aa)(m:Int),Gc p q g a b U W m
 | 0,p,q,h,_,_,hz=>by
  have t:p=[]:=bC ();have B:q=[]:=bC ();rcases hz with z|z
  ·exact absurd t z
  ·exact absurd B z
 | n+1,p,q,h,u,o,hz=>by
  have s:∀{p q:aa},p.length+q.length<=n+1->Nml p->Nml q->q≠[]->q.length<=p.length->∃(g a b U W:aa)(m:Int),Gc p q g a b U W m:=λ{p q} h u o f F=>by
   have x:p≠[]:=λz=>f (bC (by rw[z]at F;simpa using F));have Z:q.length≠0:=λz=>f (bC z);have H:=dw o f;generalize hc:co q (q.length-1)=c at H;generalize I:co p (p.length-1)=l;obtain⟨d,hd⟩:∃d,p.length=d+q.length:=⟨p.length-q.length,()⟩
   obtain⟨t1,J⟩:=eH (Oa d) o (Ob d) f;rw[Gg]at t1;rw[Oc,hc,dS]at J;obtain⟨r,L⟩:∃r,r=aL (b7 (p.map λz=>c*z) ((pdL (xp d) q).map λz=>-l*z)):=⟨_,rfl⟩
   have S:Nml r:=by rw[L];exact cM _
   have rc:∀j,co r j=c*co p j-l*co (pdL (xp d) q) j:=λj=>by rw[L,cL,fH,dN,dN];grind
   have rv:∀n,val n r=c*val n p-l*(val n (xp d)*val n q):=λn=>by rw[L,fS,eG,bL,bL,a7];grind
   have lr:r.length<=p.length-1:=g_ S λk hk=>by
    rw[rc];by_cases z:k=p.length-1
    ·have e:(pdL (xp d) q).length-1=k:=by omega
     rw[e]at J;rw[J,z,I];grind
    ·rw[aD (xs:=p) (),aD (xs:=pdL (xp d) q) ()];simp
   obtain⟨g,C,b,U,W,m,G⟩:=AD n r q () S o (.inr f);have A:∀n,c*val n p=(val n C+l*(val n (xp d)*val n b))*val n g:=λn=>by
    have y:=rv n;have M:val n r=val n C*val n g:=by rw[G.pa,a7]
    have O:val n q=val n b*val n g:=by rw[G.qb,a7]
    rw[M,O]at y;grind
   obtain⟨i,D⟩:∃i,i=aL (b7 C ((pdL (xp d) b).map λz=>l*z)):=⟨_,rfl⟩
   have nA:Nml i:=by rw[D];exact cM _
   have P:∀n,val n i=val n C+l*(val n (xp d)*val n b):=λn=>by rw[D,fS,eG,bL,a7]
   have dv:∀j,c∣co i j:=by
    have t:=sV G.pg c.natAbs () (co i) λj=>by
     have e:pm (co g) (co i) j=c*co p j:=by
      rw[<-ga,<-dN];exact fh (λn=>by rw[cy,bL,A n,P n];grind) j
     rw[e];exact eJ (uV.mpr (mC c)) (iL _ _)
    exact λj=>uV.mp (t j)
   have T:∀z∈i,c∣z:=cu dv;obtain⟨a,X⟩:∃a,a=i.map λz=>z.fdiv c:=⟨_,rfl⟩
   have na:Nml a:=by rw[X];exact N9 H nA T
   have Y:∀n,val n a*c=val n i:=λn=>by rw[X];exact Gf H n i T
   refine⟨g,a,b,U.map λz=>c*z,aL (b7 W ((pdL (xp d) U).map λz=>-l*z)),m,G.ng,G.g0,G.pg,na,G.nb,?_,G.qb,G.m0,λn=>?_⟩
   ·refine cO u (cI _ _) λn=>?_;rw[a7];have y:=A n;rw[<-P n,<-Y n]at y;exact jP H (by rw[y];grind)
   ·rw[bL,fS,eG,bL,a7];have y:=G.bz n;have M:=Y n;rw[P n]at M;have O:val n C=val n a*c-l*(val n (xp d)*val n b):=by omega
    rw[O]at y;grind
  by_cases f:q=[]
  ·subst f;have x:p≠[]:=by
    rcases hz with z|z
    ·exact z
    ·exact absurd rfl z
   obtain⟨t,B,Q,R⟩:=Gh u x;refine⟨_,[((ah p:Nat):Int)],[],[1],[],((ah p:Nat):Int),t,B,Q,fj (by have:=gu u x;omega),b_,R,(iB _).symm,by have:=gu u x;omega,λn=>by simp[val]⟩
  ·by_cases F:q.length<=p.length
   ·exact s h u o f F
   ·by_cases x:p=[]
    ·subst x;obtain⟨t,B,Q,R⟩:=Gh o f;exact⟨_,[],[((ah q:Nat):Int)],[],[1],((ah q:Nat):Int),t,B,Q,b_,fj (by have:=gu o f;omega),(iB _).symm,R,by have:=gu o f;omega,λn=>by simp[val]⟩
    ·obtain⟨g,a,b,U,W,m,G⟩:=s () o u x ();exact⟨g,b,a,W,U,m,G.swap⟩
def dX (f:aH):Nat->List Rw
 | 0=>[]
 | k+1=>f :: dX (sh f) k
theorem l_:∀(k:Nat)(f:aH),(dX f k).length=k
 | 0,_=>rfl
 | k+1,f=>by rw[dX,cC,l_ k]
theorem AE {B:Nat}:∀(k:Nat)(f:aH),(∀J,(f J).natAbs<=B)->∀r∈dX f k,∀J,(r J).natAbs<=B
 | 0,_,_,r,hr,_=>by simp[dX]at hr
 | k+1,f,h,r,hr,J=>by
  rw[dX]at hr;rcases bj.mp hr with z|z
  ·rw[z];exact h J
  ·refine AE k (sh f) (λJ=>?_) r z J;unfold sh;split
   ·simp
   ·exact h _
theorem AF {L:Nat}:∀(k:Nat)(f:aH),(∀J,L+1<=J->f J=0)->∀r∈dX f k,∀J,L+k<=J->r J=0
 | 0,_,_,r,hr,_,_=>by simp[dX]at hr
 | k+1,f,h,r,hr,J,a=>by
  rw[dX]at hr;rcases bj.mp hr with z|z
  ·rw[z];exact h J ()
  ·refine AF (L:=L+1) k (sh f) (λJ a=>?_) r z J ();unfold sh;rw[if_neg ()];exact h _ ()
theorem Od (u:Int)(us:aa)(f:aH)(J:Nat):pm (co (u :: us)) f J=u*f J+pm (co us) (sh f) J:=by
 rw[ES];unfold pm sh;rw[iZ];congr 1;by_cases z:J=0
 ·rw[if_pos z,z];rfl
 ·rw[if_neg z];obtain⟨i,rfl⟩:∃i,J=i+1:=⟨J-1,()⟩
  exact cB λj a=>by
   show co us j*f (i+1-(j+1))=co us j*f (i+1-1-j);congr 2;omega
theorem AG:∀(a:aa)(f:aH)(J:Nat),dot a (dX f a.length) J=pm (co a) f J
 | [],f,J=>by
  rw[show pm (co []) f J=au (J+1) (λj=>co [] j*f (J-j)) from rfl,fF λj _=>by rw[f_];simp];rfl
 | u :: a,f,J=>by rw[cC,dX,dot,AG a (sh f) J,Od]
theorem ot:∀(N e:Nat)(a:aw),a.Nodup->(∀c∈a,e<=c/\c<e+N)->a.length<=N
 | 0,e,a,_,h=>by
  cases a with
  | nil=>exact aA _
  | cons c a=>have:=h c dr;omega
 | N+1,e,a,nd,h=>by
  by_cases z:e+N∈a
  ·have:=ot N e (a.erase (e+N)) (nd.erase _) λc b=>by
    have d:=(nd.mem_erase_iff).mp b;have:=h c d.2;have:=d.1;omega
   rw[List.length_erase_of_mem z]at this;omega
  ·have:=ot N e a nd λc b=>by
    have:=h c b;have:c≠e+N:=λy=>z #v[<-y,b];omega
   omega
theorem Oe {N e:Nat}{cs:aw}(nd:cs.Nodup)(h:∀c∈cs,e<=c/\c<e+N)(f:cs.length=N){J:Nat}(a:e<=J)(b:J<e+N):J∈cs:=by
 by_cases z:J∈cs
 ·exact z
 ·have:=ot N e (J :: cs) (kH.mpr ⟨z,nd⟩) λc d=>by
   rcases bj.mp d with y|y
   ·rw[y];exact⟨a,b⟩
   ·exact h c y
  rw[cC]at this;omega
theorem Of {p q g a b U W:aa}{m:Int}(G:Gc p q g a b U W m)(p0:p≠[])(q0:q≠[]){Bp Bq N k1 n1:Nat}(hp:∀z∈p,z.natAbs<=Bp)(hq:∀z∈q,z.natAbs<=Bq)(C:1<=Bp)(B:1<=Bq)(n0:b.length<=k1+1)(y1:a.length<=n1+1)(hN:k1+n1=N):
  ∃(U' W':aa)(m':Int),m'≠0/\(∀n,val n U'*val n p+val n W'*val n q=m'*val n g)/\∀z∈g,m'.natAbs*z.natAbs<=(N+1) ^ (N+1)*(Bp ^ k1*(Bq ^ n1*(Bp*Bq))):=by
 have a0:a≠[]:=λz=>p0 (by rw[G.pa,z,iB]);have b0:b≠[]:=λz=>q0 (by rw[G.qb,z,iB]);have la:a.length≠0:=λz=>a0 (bC z);have lb:b.length≠0:=λz=>b0 (bC z);have lg:g.length≠0:=λz=>G.g0 (bC z);have lp:=(eH G.na G.ng a0 G.g0).1;have lq:=(eH G.nb G.ng b0 G.g0).1;rw[<-G.pa]at lp;rw[<-G.qb]at lq;have vp:∀n,val n p=val n a*val n g:=λn=>by rw[G.pa,a7]
 have vq:∀n,val n q=val n b*val n g:=λn=>by rw[G.qb,a7]
 have pw:∀{x y z:Nat},1<=x->y<=z->x ^ y<=x ^ z:=λhx h=>e9 hx h;have one:∀{x y:Nat},1<=x->1<=x ^ y:=λ{x y} hx=>Nat.pow_pos hx;have top:Bp<=(N+1) ^ (N+1)*(Bp ^ k1*(Bq ^ n1*(Bp*Bq))):=by
  have h0:=iJ Bp B;have i:=gm (Bp*Bq) (one (x:=Bq) (y:=n1) B);have o:=gm (Bq ^ n1*(Bp*Bq)) (one (x:=Bp) (y:=k1) C);have h3:=gm (Bp ^ k1*(Bq ^ n1*(Bp*Bq))) (one (x:=N+1) (y:=N+1) ());omega
 obtain⟨e,he⟩:∃e,g.length=e+1:=⟨g.length-1,()⟩
 obtain⟨k,hk⟩:∃k,b.length=k+1:=⟨b.length-1,()⟩
 obtain⟨n,hn⟩:∃n,a.length=n+1:=⟨a.length-1,()⟩
 by_cases N0:n+k=0
 ·-- both are the common times a number
  obtain⟨c,hc⟩:=BA.mp (show a.length=1 by omega);have c0:c≠0:=λz=>by have:=G.na;rw[hc,z]at this;exact d_.mp this 0 rfl rfl
  refine⟨[1],[],c,c0,λn=>by rw[vp n,hc];simp[val],cu λj=>?_⟩;have M:co p j=c*co g j:=by
   rw[<-dN];exact fh (λn=>by rw[vp n,bL,hc];simp[val]) j
  rw[<-b6,<-M];exact aM (cN (P:=λz=>z.natAbs<=Bp) hp (by simp) j) top
 obtain⟨rs,D⟩:∃rs,rs=dX (co p) k++dX (co q) n:=⟨_,rfl⟩
 have z1:rs.length=k+n:=by rw[D,b4,l_,l_]
 have b1:∀r∈dX (co p) k,∀J,(r J).natAbs<=Bp:=λr z=>AE k _ (λJ=>cN (P:=λz=>z.natAbs<=Bp) hp (by simp) J) r z;have b2:∀r∈dX (co q) n,∀J,(r J).natAbs<=Bq:=λr z=>AE n _ (λJ=>cN (P:=λz=>z.natAbs<=Bq) hq (by simp) J) r z;obtain⟨X,hX⟩:∃X:Rw,∀J,X J=if J=e then 1 else 0:=⟨_,λ_=>rfl⟩
 obtain⟨β,w1,w2,w3,w4,w5⟩:∃β:Rw->Nat,(∀r∈rs++[X],∀J,(r J).natAbs<=β r)/\(∀r∈rs++[X],1<=β r)/\(∀r∈dX (co p) k,β r<=Bp)/\(∀r∈dX (co q) n,β r<=Bq)/\∀r,β r<=Bp*Bq:=by
  classical
  refine⟨λr=>if r∈dX (co p) k then (if r∈dX (co q) n then min Bp Bq else Bp) else if r∈dX (co q) n then Bq else 1,λr u J=>?_,λr u=>?_,λr u=>?_,λr u=>?_,λr=>?_⟩
  ·dsimp only;have hx:r=X\/r∈dX (co p) k\/r∈dX (co q) n:=by
    rcases a8.mp u with z|z
    ·rw[D]at z;exact .inr (a8.mp z)
    ·exact .inl (aW.mp z)
   split
   ·rename_i i
    split
    ·rename_i o;have:=b1 r i J;have:=b2 r o J;omega
    ·exact b1 r i J
   ·rename_i i
    split
    ·rename_i o;exact b2 r o J
    ·rename_i o;rcases hx with rfl|h|h
     ·rw[hX];split <;> simp
     ·exact absurd h i
     ·exact absurd h o
  ·dsimp only;split
   ·split <;> omega
   ·split <;> omega
  ·dsimp only;rw[if_pos u];split <;> omega
  ·dsimp only;split
   ·omega
   ·exact aA _
  ·have i:=iJ Bp B;have o:=gm Bq C;have h3:1<=Bp*Bq:=gM C B;dsimp only;split
   ·split <;> omega
   ·split <;> omega
 have frs:∀r∈rs,∀J,e+(k+n)<=J->r J=0:=λr u J H=>by
  rw[D]at u;rcases a8.mp u with z|z
  ·exact AF (L:=e+n) k _ (λJ H=>aD ()) r z J ()
  ·exact AF (L:=e+k) n _ (λJ H=>aD ()) r z J ()
 have O:∀d f:aa,d.length=k->f.length=n->∀J,dot (d++f) rs J=co (b7 (be d p) (be f q)) J:=λd f i o J=>by
  rw[D,Fe #v[l_,i],fH,ga,ga,<-i,<-o,AG,AG]
 have split:∀s:aa,s.length=k+n->∃d f:aa,s=d++f/\d.length=k/\f.length=n:=λs h=>⟨s.take k,s.drop k,(IZ k s).symm,by rw[bX];omega,by rw[oI];omega⟩
 have vS:∀(d f:aa) n,val n (b7 (be d p) (be f q))=(val n d*val n a+val n f*val n b)*val n g:=λd f n=>by
  rw[eG,cy,cy,vp n,vq n];grind
 have eS:∀d f:aa,aL (b7 (be d p) (be f q))=pdL (aL (b7 (be d a) (be f b))) g:=λd f=>cO (cM _) (cI _ _) λn=>by
  rw[fS,vS,a7,fS,eG,cy,cy]
 have F:∀zs:aa,aL zs=[]->∀z∈zs,z=0:=λzs h=>cu λj=>by
  rw[<-cL,h,f_]
 have x0:∀s:aa,s.length=rs.length->(∀J,e<=J->dot s rs J=0)->∀z∈s,z=0:=λs hl hz=>by
  obtain⟨d,f,rfl,lu,lw⟩:=split s ();have T0:aL (b7 (be d a) (be f b))=[]:=by
   by_cases z:aL (b7 (be d a) (be f b))=[]
   ·exact z
   ·have i:=eH (cM (b7 (be d a) (be f b))) G.ng z G.g0;have l1:(aL (b7 (be d a) (be f b))).length≠0:=λy=>z (bC y);have o:=hz ((pdL (aL (b7 (be d a) (be f b))) g).length-1) ();rw[O d f lu lw,<-cL,eS]at o;rw[i.2]at o;exact absurd o (fX (dw (cM _) z) (dw G.ng G.g0))
  have v0:∀n,val n d*val n a+val n f*val n b=0:=λn=>by
   have:=fS n (b7 (be d a) (be f b));rw[T0,eG,cy,cy]at this;rw[<-this];rfl
  have u0:aL d=[]:=by
   by_cases z:aL d=[]
   ·exact z
   ·obtain⟨V,hV⟩:∃V,V=aL (b7 (be W d) ((be U f).map λz=>-1*z)):=⟨_,rfl⟩
    have M:(aL d).map (λz=>m*z)=pdL b V:=cO (jH G.m0 (cM _)) (cI _ _) λn=>by
     rw[bL,fS,a7,hV,fS,eG,bL,cy,cy];have i:=v0 n;have o:=G.bz n;grind
    have V0:V≠[]:=λy=>by
     rw[y,NL]at M;exact z (oQ.mp M)
    have l1:=(eH G.nb #v[hV,cM _] b0 V0).1;have l2:=congrArg jM M;rw[af,l1]at l2;have l3:=k_ d;have l4:V.length≠0:=λy=>V0 (bC y);omega
  have w0:aL f=[]:=by
   by_cases z:aL f=[]
   ·exact z
   ·refine absurd (cO (cI _ _) b_ λn=>?_) (gG (cM f) G.nb z b0);have i:=v0 n;have o:val n d=0:=by rw[<-fS,u0];rfl
    rw[o]at i;rw[a7,fS];show _=0;omega
  intro z y0;rcases a8.mp y0 with h|h
  ·exact F d u0 z h
  ·exact F f w0 z h
 obtain⟨cs,c1,c2,c3,c4⟩:=Ff (e:=e) (N:=k+n) frs x0 rs.length (aA _);obtain⟨xs,x1,x2⟩:=i0 (rs:=rs) (cs:=cs) rs.length X;rw[e_]at x1 x2;have D0:=c4 rs.length (aA _);have Q:∀J,e<=J->J<e+(k+n)->bo rs cs rs.length X J=0:=λJ i o=>by
  obtain⟨l,hl,rfl⟩:=cm.mp (Oe c2 c3 () i o);exact kl X () hl
 obtain⟨d,f,rfl,lu,lw⟩:=split xs ();have z0:∀J,e+(k+n)<=J->dot (d++f) rs J=0:=λJ H=>by
  have:∀(s:aa)(R:List Rw),(∀r∈R,r J=0)->dot s R J=0:=λs=>by
   induction s with
   | nil=>intro R _;cases R <;> rfl
   | cons m s ih=>intro R hR;cases R with
    | nil=>rfl
    | cons r R=>rw[dot,hR r dr,ih R λx hx=>hR x (cX _ hx)];simp
  exact this _ _ λr u=>frs r u J H
 have Y:dot (d++f) rs e=- mi rs cs rs.length:=by
  have i:=x2 e;rw[Q e (aA _) (),hX,if_pos rfl]at i;omega
 have above:∀J,e<J->dot (d++f) rs J=0:=λJ H=>by
  by_cases z:J<e+(k+n)
  ·have i:=x2 J;rw[Q J () z,hX,if_neg ()]at i;omega
  ·exact z0 J ()
 have pq:prb β rs<=Bp ^ k1*Bq ^ n1:=by
  rw[D,z_];refine dJ (aM (Ab _ w3) ?_) (aM (Ab _ w4) ?_)
  ·rw[l_];exact pw C ()
  ·rw[l_];exact pw B ()
 have j0:(mi rs cs rs.length).natAbs<=(N+1) ^ (N+1)*(Bp ^ k1*(Bq ^ n1*(Bp*Bq))):=by
  unfold mi;rw[e_];refine aM (zZ (β:=β) (N:=N+1) () _ rs () (λr u=>w1 r (iC _ u)) λr u=>w2 r (iC _ u)) (dJ (pw () ?_) (aM pq ?_))
  ·unfold cr;rw[oZ,bX];omega
  ·exact dZ _ (iJ _ (gM C B))
 have k0:∀J,(bo rs cs rs.length X J).natAbs<=(N+1) ^ (N+1)*(Bp ^ k1*(Bq ^ n1*(Bp*Bq))):=λJ=>by
  unfold bo;rw[e_];refine aM (zZ (β:=β) (N:=N+1) () _ (rs++[X]) (by simp;omega) w1 w2) (dJ (pw () ?_) ?_)
  ·unfold cr;rw[cC,oZ,bX];omega
  ·rw[z_,<-gQ];refine dJ pq ?_;show β X*1<=_;rw[kP];exact w5 X
 have all:∀J,(dot (d++f) rs J).natAbs<=(N+1) ^ (N+1)*(Bp ^ k1*(Bq ^ n1*(Bp*Bq))):=λJ=>by
  by_cases z:J=e
  ·rw[z,Y,Bg];exact j0
  ·have i:=x2 J;rw[hX,if_neg z]at i;have o:dot (d++f) rs J=bo rs cs rs.length X J:=by omega
   rw[o];exact k0 J
 obtain⟨S,hS⟩:∃S,S=aL (b7 (be d p) (be f q)):=⟨_,rfl⟩
 have cS:∀J,co S J=dot (d++f) rs J:=λJ=>by rw[hS,cL,O d f lu lw]
 have nS:Nml S:=by rw[hS];exact cM _
 have S0:co S e≠0:=by rw[cS,Y];omega
 have lS:S.length=e+1:=by
  have i:=g_ nS (n:=e+1) λJ H=>by rw[cS,above J ()]
  have o:e<S.length:=mz λh=>S0 (aD h);omega
 have I:=eS d f;rw[<-hS]at I;obtain⟨T,hT⟩:∃T,T=aL (b7 (be d a) (be f b)):=⟨_,rfl⟩
 rw[<-hT]at I;have T0:T≠[]:=λz=>by rw[z,iB]at I;rw[I]at lS;simp at lS
 have lT:=(eH #v[hT,cM _] G.ng T0 G.g0).1;rw[<-I,lS]at lT;have u1:T.length≠0:=λz=>T0 (bC z);obtain⟨t,ht⟩:=BA.mp (show T.length=1 by omega);have t0:t≠0:=λz=>by
  have:Nml T:=by rw[hT];exact cM _
  rw[ht,z]at this;exact d_.mp this 0 rfl rfl
 have Z:∀n,val n S=t*val n g:=λn=>by rw[I,a7,ht];simp[val]
 refine⟨d,f,t,t0,λn=>?_,cu λj=>?_⟩
 ·rw[<-Z n,hS,fS,eG,cy,cy]
 ·rw[<-b6];have:t*co g j=co S j:=by rw[<-dN];exact fh (λn=>by rw[bL,Z n]) j
  rw[this,cS];exact all j
abbrev Rp:=Nat->aa
def gi (p q:aa):aa:=aL (b7 p q)
theorem ou (p q:aa):Nml (gi p q):=cM _
theorem kC (n:Int)(p q:aa):val n (gi p q)=val n p+val n q:=by unfold gi;rw[fS,eG]
theorem Og {p q:aa}{L:Nat}(a:p.length<=L)(b:q.length<=L):(gi p q).length<=L:=g_ (ou _ _) λk hk=>by
 unfold gi;rw[cL,fH,aD (xs:=p) (),aD (xs:=q) ()];rfl
def iop (c:Nat):List Rp->(List Rp->aa)->aa
 | [],_=>[]
 | r :: w,F=>gi (pdL [(-1) ^ w.length] (pdL (r c) (F w))) (iop c w λu=>F (r :: u))
def dtp:aw->List Rp->aa
 | [],[]=>[1]
 | [],_ :: _=>[]
 | c :: cs,l=>iop c l (dtp cs)
def evR (n:Int)(r:Rp):Rw:=λc=>val n (r c)
theorem Oh {c:Nat}:∀(w:List Rp)(F:List Rp->aa),Nml (iop c w F)
 | [],_=>b_
 | _ :: _,_=>ou _ _
theorem ia:∀(a:aw)(l:List Rp),Nml (dtp a l)
 | [],[]=>fj ()
 | [],_ :: _=>b_
 | _ :: _,_=>Oh _ _
theorem Gi (n:Int){c:Nat}:∀(w:List Rp)(F:List Rp->aa)(a:List Rw->Int),(∀u,val n (F u)=a (u.map (evR n)))->val n (iop c w F)=io c (w.map (evR n)) a
 | [],_,_,_=>rfl
 | r :: w,F,a,h=>by
  rw[iop,kC,a7,a7,dY,io,Gi n w (λu=>F (r :: u)) (λu=>a (evR n r :: u)) (λu=>by rw[h];rfl),h w,af];simp[val,evR];grind
theorem uj (n:Int):∀(a:aw)(l:List Rp),val n (dtp a l)=dt a (l.map (evR n))
 | [],[]=>by simp[dtp,dt,val]
 | [],_ :: _=>by simp[dtp,dt,val]
 | c :: a,l=>by rw[dtp,dt];exact Gi n l _ _ λu=>uj n a u
theorem Oi (k:Nat){f:aa}(a:Nml f):(pdL [(-1) ^ k] f).length<=f.length:=by
 have hk:(-1:Int) ^ k=1\/(-1:Int) ^ k=-1:=by
  induction k with
  | zero=>exact .inl rfl
  | succ k ih=>rw[kL];rcases ih with z|z <;> rw[z] <;> simp
 have:=ug (fj (c:=(-1) ^ k) (by rcases hk with z|z <;> rw[z] <;> decide)) a;simp at this;omega
theorem ma {c D:Nat}:∀(w b:List Rp)(F:List Rp->aa),(∀u,Nml (F u))->(∀pre r a,w=pre++r :: a->Nml (r c)/\(r c≠[]->(r c).length+(F (b++pre++a)).length<=D+2))->(iop c w λu=>F (b++u)).length<=D+1
 | [],_,_,_,_=>by simp[iop]
 | r :: w,b,F,nF,h=>by
  rw[iop];refine Og (aM (Oi _ (cI _ _)) ?_) ?_
  ·obtain⟨d,f⟩:=h [] r w rfl;by_cases z:r c=[]
   ·rw[z,iB];exact aR _
   ·have l:=ug d (nF (b++w));have:=f z;rw[mo]at this;omega
  ·have:=ma w (b++[r]) F nF λpre x a e=>by
    have:=h (r :: pre) x a (by rw[e];rfl)
    simpa using this
   simpa using this
theorem uk (d:Nat->Nat):∀(a:aw)(l:List Rp),(∀r∈l,∀c∈a,Nml (r c)/\(r c).length<=d c+1)->(dtp a l).length<=(a.map d).sum+1
 | [],[],_=>by simp[dtp]
 | [],_ :: _,_=>by simp[dtp]
 | c :: a,l,h=>by
  rw[dtp];refine ma l [] (dtp a) (ia a) λpre r b e=>?_;have g:r∈l:=by rw[e];simp
  obtain⟨i,k⟩:=h r g c dr;refine⟨i,λ_=>?_⟩;have:=uk d a (pre++b) λx hx j f=>h x (by
   rw[e];rcases a8.mp hx with z|z
   ·simp[z]
   ·simp[z]) j (cX _ f)
  rw[gk,dY,iM];omega
def gj (rd:Rp->Nat)(l:List Rp):Nat:=(l.map rd).sum
theorem ul (d:Rp->Nat):∀(a:aw)(l:List Rp),(∀r∈l,∀c∈a,Nml (r c)/\(r c).length<=d r+1)->(dtp a l).length<=gj d l+1
 | [],[],_=>by simp[dtp]
 | [],_ :: _,_=>by simp[dtp]
 | c :: a,l,h=>by
  rw[dtp];refine ma l [] (dtp a) (ia a) λpre r b e=>?_;have g:r∈l:=by rw[e];simp
  obtain⟨i,k⟩:=h r g c dr;refine⟨i,λ_=>?_⟩;have:=ul d a (pre++b) λx hx j f=>h x (by
   rw[e];rcases a8.mp hx with z|z
   ·simp[z]
   ·simp[z]) j (cX _ f)
  rw[e];unfold gj at this ⊢;simp only[gk,aT,gx,dY,iM]at this ⊢;omega
theorem AH {c M Fb L:Nat}:∀(w:List Rp)(F:List Rp->aa),(∀u,u.length+1=w.length->(∀r∈u,r∈w)->∀z∈F u,z.natAbs<=Fb)->(∀r∈w,(r c).length<=L/\∀z∈r c,z.natAbs<=M)->∀z∈iop c w F,z.natAbs<=w.length*(L*(M*Fb))
 | [],_,_,_=>by simp[iop]
 | r :: w,F,h,hb=>cu λj=>by
  have a:=AH (c:=c) (M:=M) (Fb:=Fb) (L:=L) w (λu=>F (r :: u)) (λu b d=>h (r :: u) (by simp[b]) λx hx=>by
   rcases bj.mp hx with z|z
   ·rw[z];exact dr
   ·exact cX _ (d x z)) λx hx=>hb x (cX _ hx)
  have e:=h w rfl λx hx=>cX _ hx;obtain⟨f,g⟩:=hb r dr;have i:co (pdL [(-1) ^ w.length] (pdL (r c) (F w))) j=(-1) ^ w.length*co (pdL (r c) (F w)) j:=by
   rw[<-dN];exact fh (λn=>by rw[a7,bL];simp[val]) j
  rw[iop,cC,gP,eI];unfold gi;rw[cL,fH,i];have k:((-1:Int) ^ w.length*co (pdL (r c) (F w)) j).natAbs<=L*(M*Fb):=by
   rw[b6,Bs];simp;exact aM (cN (P:=λz=>z.natAbs<=(r c).length*(M*Fb)) (Az g e) (by simp) j) (dA _ f)
  have m:(co (iop c w λu=>F (r :: u)) j).natAbs<=w.length*(L*(M*Fb)):=cN (P:=λz=>z.natAbs<=w.length*(L*(M*Fb))) a (by simp) j;have:=ib ((-1:Int) ^ w.length*co (pdL (r c) (F w)) j) (co (iop c w λu=>F (r :: u)) j);omega
theorem Gj {N M L:Nat}:∀(a:aw)(l:List Rp),l.length<=N->(∀r∈l,∀c∈a,(r c).length<=L/\∀z∈r c,z.natAbs<=M)->∀z∈dtp a l,z.natAbs<=(N*(L*M)) ^ a.length
 | [],[],_,_=>by simp[dtp]
 | [],_ :: _,_,_=>by simp[dtp]
 | c :: a,l,hl,hb=>by
  have h:=AH (c:=c) (M:=M) (L:=L) (Fb:=(N*(L*M)) ^ a.length) l (dtp a) (λu i e=>Gj a u () λr b f d=>hb r (e r b) f (cX _ d)) λr b=>hb r b c dr;intro z g;refine aM (h z g) ?_;rw[cC,iF];have:l.length*(L*(M*(N*(L*M)) ^ a.length))<=N*(L*(M*(N*(L*M)) ^ a.length)):=dA _ hl;refine aM this (kG ?_);rw[fW ((N*(L*M)) ^ a.length) (N*(L*M))];simp only[gQ]
theorem md {J:Nat}:∀(a:aa)(R:List Rw),(∀r∈R,r J=0)->dot a R J=0
 | [],R,_=>by cases R <;> rfl
 | m :: a,[],_=>rfl
 | m :: a,r :: R,h=>by rw[dot,h r dr,md a R λx hx=>h x (cX _ hx)];simp
theorem Oj {rs:List Rw}{cs:aw}{i:Nat}{x:Rw}{J:Nat}(h:∀r∈rs,r J=0)(hx:x J=0):bo rs cs i x J=0:=by
 obtain⟨c,_,a⟩:=i0 (rs:=rs) (cs:=cs) i x;rw[a,md _ _ λr b=>h r (ik b),hx];simp
def bW (w:Nat)(Wm:ax)(p:Int):List Rw:=(aJ Wm.length).map λi=>co (cn w (Wm.getD i []) i p)
section
variable {w:Nat}{Wm:ax}{cs:aw}{p:Int}
theorem jb:(bW w Wm p).length=Wm.length:=by unfold bW;rw[af,gw]
theorem jI {i:Nat}(h:i<(bW w Wm p).length):(bW w Wm p)[i]=co (cn w (Wm.getD i []) i p):=by
 have e:(bW w Wm p)[i]?=some (co (cn w (Wm.getD i []) i p)):=by
  rw[jb]at h;unfold bW;rw[aG,ij h];rfl
 exact Option.some.inj ((ao h).symm.trans e)
theorem Ol (W:∀v∈Wm,v.length=w){J:Nat}(c:w+(w+1)<=J):∀r∈bW w Wm p,r J=0:=λr b=>by
 unfold bW at b;obtain⟨i,hi,rfl⟩:=aZ.mp b;have a:=cU.mp hi;exact aD #v[lU (W _ (mem_getD a)),c]
theorem AI {n i:Nat}(h:i<n):(dE w Wm cs p n).getD i []=fx w Wm cs p i:=by
 induction n with
 | zero=>omega
 | succ n ih=>
  rw[dE,aq];by_cases z:i<n
  ·rw[cA #v[eh,z],<-aq];exact ih z
  ·have e:i=n:=by omega
   subst e;rw[cQ #v[eh,aA _],eh,fB];rfl
def Gk (w:Nat)(Wm:ax)(cs:aw)(p:Int)(n:Nat):Prop:=(∀i,i<=n->mi (bW w Wm p) cs i≠0)/\∀i,i<n->(fx w Wm cs p i).length=w+(w+1)/\∀j,co (fx w Wm cs p i) j=bo (bW w Wm p) cs i (co (cn w (Wm.getD i []) i p)) j
theorem me {n:Nat}(W:∀v∈Wm,v.length=w)(m:n<=Wm.length)(o:n<=cs.length)(h:Gk w Wm cs p n){x:aa}(c:x.length=w+(w+1)):∀i,i<=n->(dh x (dE w Wm cs p n) cs i).1=mi (bW w Wm p) cs i/\(dh x (dE w Wm cs p n) cs i).2.length=w+(w+1)/\∀j,co (dh x (dE w Wm cs p n) cs i).2 j=bo (bW w Wm p) cs i (co x) j
 | 0,_=>⟨rfl,c,λj=>by
  show co x j=dt [j] [co x];simp[dt,io]⟩
 | i+1,hi=>by
  obtain⟨q,d,e⟩:=me W m o h c i ();obtain⟨f,g⟩:=h.2 i ();have b:i<(bW w Wm p).length:=by rw[jb];omega
  have a:i<cs.length:=by omega
  have r:=AI (w:=w) (Wm:=Wm) (cs:=cs) (p:=p) (show i<n by omega);have s:cs.getD i 0=cs[i]:=by rw[aq,ao a];rfl
  have k:co (fx w Wm cs p i) cs[i]=mi (bW w Wm p) cs (i+1):=by rw[g,lF b a,jI]
  have m0:=h.1 i ();rw[dh,r,s];refine⟨k,by rw[mI,d,f];omega,λj=>?_⟩;by_cases hj:j<w+(w+1)
  ·rw[N8 () (),k,e,e,g,q];have st:=MM b a (λl t=>h.1 l ()) (co x) j;rw[jI b]at st;rw[<-st];exact kI _ m0
  ·rw[aD (by rw[mI,d,f];omega)];exact (Oj (Ol W ()) (aD ())).symm
theorem kD (W:∀v∈Wm,v.length=w):∀n,n<=Wm.length->n<=cs.length->Piv w Wm cs p n->Gk w Wm cs p n
 | 0,_,_,_=>⟨λi hi=>by rw[show i=0 by omega,zW];decide,λi hi=>by omega⟩
 | n+1,hk,hc,pv=>by
  have b:=kD W n () () λi hi=>pv i ();have d:(cn w (Wm.getD n []) n p).length=w+(w+1):=lU (W _ (mem_getD ()));obtain⟨_,f,g⟩:=me W () () b d n (aA _);have c:n<(bW w Wm p).length:=by rw[jb];omega
  have a:n<cs.length:=by omega
  have h:cs.getD n 0=cs[n]:=by rw[aq,ao a];rfl
  have hT:(fx w Wm cs p n).length=w+(w+1)/\∀j,co (fx w Wm cs p n) j=bo (bW w Wm p) cs n (co (cn w (Wm.getD n []) n p)) j:=⟨f,g⟩
  refine⟨λi hi=>?_,λi hi=>?_⟩
  ·by_cases z:i<=n
   ·exact b.1 i z
   ·have e:i=n+1:=by omega
    subst e;rw[lF c a,jI c,<-hT.2];have:=pv n ();rw[h]at this;exact this
  ·by_cases z:i<n
   ·exact b.2 i z
   ·rw[show i=n by omega];exact hT
def ck (w:Nat)(v:ac)(num:Nat):Rp:=λj=>if j<w then v.getD j [] else if j=w+num then [1] else []
theorem Om {v:ac}{a:Nat}(b:v.length=w)(c:a<=w):evR p (ck w v a)=co (cn w v a p):=by
 funext j
 unfold evR ck;by_cases z:j<w
 ·rw[if_pos z,AC ()]
 ·rw[if_neg z];obtain⟨i,rfl⟩:∃i,j=w+i:=⟨j-w,()⟩
  by_cases y:i<=w
  ·rw[ky b y];by_cases x:i=a
   ·rw[if_pos (),if_pos x];simp[val]
   ·rw[if_neg (),if_neg x];rfl
  ·rw[if_neg (),aD (by rw[lU b];omega)];rfl
def bN (w:Nat)(Wm:ax):List Rp:=(aJ Wm.length).map λi=>ck w (Wm.getD i []) i
theorem Gm (W:∀v∈Wm,v.length=w)(hk:Wm.length<=w+1)(p:Int):(bN w Wm).map (evR p)=bW w Wm p:=by
 unfold bN bW;rw[jg];refine eK λi hi=>?_;have:=cU.mp hi;exact Om (W _ (mem_getD this)) ()
def mkP (w:Nat)(Wm:ax)(cs:aw)(q:ac)(j:Nat):aa:=dtp (j :: cr cs Wm.length) (bN w (Wm++[q]))
theorem On (q:ac):bW w (Wm++[q]) p=bW w Wm p++[co (cn w q Wm.length p)]:=by
 unfold bW;rw[b4,mu,fL,aT];congr 1
 ·refine eK λi hi=>?_;have:=cU.mp hi;rw[aq,aq,cA this]
 ·simp
theorem ow (W:∀v∈Wm++[q],v.length=w)(hk:Wm.length<=w)(p:Int)(j:Nat):val p (mkP w Wm cs q j)=bo (bW w Wm p) cs Wm.length (co (cn w q Wm.length p)) j:=by
 unfold mkP bo;rw[uj,Gm W (by simp;omega),On,<-jb (w:=w) (Wm:=Wm) (p:=p),e_]
theorem AJ (W:∀v∈Wm++[q],v.length=w)(hk:Wm.length<=w)(a:Wm.length<=cs.length)(pv:Piv w Wm cs p Wm.length)(j:Nat):co (dI w Wm cs q p) j=val p (mkP w Wm cs q j):=by
 have b:∀v∈Wm,v.length=w:=λv c=>W v (by simp[c]);rw[ow W hk];exact (me b (aA _) a (kD b _ (aA _) a pv) (lU (W q (by simp))) Wm.length (aA _)).2.2 j
end
theorem Gn {rs:List Rw}{cs:aw}{i R:Nat}{x:Rw}(b:∀r∈rs,∀j,Bd R (r j))(hx:∀j,Bd R (x j))(hi:i<=7)(j:Nat):Bd ((R+3)*(i+1)+1) (bo rs cs i x j):=by
 have h:=zY (B:=2 ^ R) (N:=2 ^ 3) (gM (dG _) (dG _)) (j :: cr cs i) (rs.take i++[x]) (by rw[b4,bX];simp;omega) λr a c=>by
  rcases a8.mp a with z|z
  ·exact dm (b r (ik z) c)
  ·rw[aW.mp z];exact dm (hx c)
 rw[<-du,<-mN]at h;refine ca h (ca (e9 () ?_) (mH () (oH _)));rw[mv R 3];refine dZ _ ?_;unfold cr;rw[cC,oZ,bX];omega
theorem Oo {rs:List Rw}{cs:aw}{i R:Nat}(b:∀r∈rs,∀j,Bd R (r j))(hi:i<=7):Bd ((R+3)*i+1) (mi rs cs i):=by
 have h:=zY (B:=2 ^ R) (N:=2 ^ 3) (gM (dG _) (dG _)) (cr cs i) (rs.take i) (by rw[bX];omega) λr a c=>dm (b r (ik a) c);rw[<-du,<-mN]at h;refine ca h (ca (e9 () ?_) (mH () (oH _)));rw[mv R 3];refine dZ _ ?_;unfold cr;rw[oZ,bX];omega
structure VB (w:Nat)(Wm:ax)(L b:Nat):Prop where
 wid:∀v∈Wm,v.length=w
 nml:∀v∈Wm,∀f∈v,Nml f/\f.length<=L/\∀c∈f,Bd b c
 few:Wm.length<=6
 w9:w<=9
 b0:0<b
section
variable {w L b:Nat}{Wm:ax}{cs:aw}{p:Int}{q:ac}
theorem VB.row (B:VB w Wm L b){v:ac}(c:v∈Wm)(e:Bd 9 p)(a:Nat)(j:Nat):Bd (b+10*L) (co (cn w v a p) j):=
 cN (P:=λz=>Bd (b+10*L) z) (Gd e (λf d=>⟨(B.nml v c f d).2.1,(B.nml v c f d).2.2⟩) B.b0) (Bd.zero _) j
theorem VB.rows (B:VB w Wm L b)(c:Bd 9 p):∀r∈bW w Wm p,∀j,Bd (b+10*L) (r j):=λr a j=>by
 unfold bW at a;obtain⟨i,hi,rfl⟩:=aZ.mp a;exact B.row (mem_getD (cU.mp hi)) c i j
theorem VB.low (B:VB w Wm L b)(d:Bd 9 p)(q:(b+10*L+3)*7+1<=4000)(m:∀c∈cs,c<w){n:Nat}(o:n<=Wm.length)(g:n<=cs.length)(pv:Piv w Wm cs p n){v:ac}{a:Nat}(r:v.length=w)(bv:∀f∈v,f.length<=L/\∀c∈f,Bd b c):LowOk (cn w v a p) (dE w Wm cs p n) cs:=by
 have tb:=kD B.wid n o g pv;have w9:=B.w9;have few:=B.few;have k:(cn w v a p).length=w+(w+1):=lU r;have s:∀j,Bd (b+10*L) (co (cn w v a p) j):=λj=>cN (P:=λz=>Bd (b+10*L) z) (Gd d bv B.b0) (Bd.zero _) j;have big:∀i,i<=6->(b+10*L+3)*(i+1)+1<=4000:=λi hi=>aM (BB (dZ _ (show i+1<=7 by omega)) 1) q;refine⟨#v[eh,g],(),λy hy=>?_,λc h=>by rw[k];have:=m c h;omega,λy hy=>?_,λi hi=>?_,λi hi=>?_⟩
 ·obtain⟨i,hi,rfl⟩:=cm.mp hy;rw[eh]at hi;have e:=AI (w:=w) (Wm:=Wm) (cs:=cs) (p:=p) hi;rw[aq,ao #v[eh,hi]]at e;rw[show (dE w Wm cs p n)[i]'(#v[eh,hi])=fx w Wm cs p i from e,(tb.2 i hi).1,k]
 ·obtain⟨i,hi,rfl⟩:=cm.mp hy;rw[eh]at hi;have e:=AI (w:=w) (Wm:=Wm) (cs:=cs) (p:=p) hi;rw[aq,ao #v[eh,hi]]at e;rw[show (dE w Wm cs p n)[i]'(#v[eh,hi])=fx w Wm cs p i from e];refine cu λj=>?_;rw[(tb.2 i hi).2 j];exact (Gn (B.rows d) (B.row (mem_getD ()) d i) () j).mono (big i ())
 ·rw[eh]at hi;obtain⟨t,_⟩:=me B.wid o g tb k i ();rw[t];exact⟨tb.1 i (),(Oo (B.rows d) ()).mono (aM (BB (dZ _ (show i<=7 by omega)) 1) q)⟩
 ·rw[eh]at hi;obtain⟨_,_,u⟩:=me B.wid o g tb k i ();refine cu λj=>?_;rw[u];exact (Gn (B.rows d) s () j).mono (big i ())
theorem VB.tbd (B:VB w Wm L b)(i:Bd 9 p)(m:(b+10*L+3)*7+1<=4000)(r:L<=60)(e:b<=1000)(g:∀c∈cs,c<w)(j:Wm.length<=cs.length):TBd w Wm cs p:=by
 have w9:=B.w9;refine⟨(),i.mono (),λn o pv=>?_,λv k=>⟨by rw[B.wid v k];omega,λf a=>?_⟩⟩
 ·have h:=mem_getD (d:=([]:ac)) o;exact B.low i m g () () pv (B.wid _ h) λf a=>⟨(B.nml _ h f a).2.1,(B.nml _ h f a).2.2⟩
 ·obtain⟨_,s,q⟩:=B.nml v k f a;exact⟨(),λc j=>(q c j).mono e⟩
theorem Op (W:∀v∈Wm++[q],v.length=w)(hk:Wm.length<=w)(p:Int)(j:Nat):val p (mkP w Wm cs q j)=dot ((aJ Wm.length).map λi=>val p (mkP w Wm cs q (w+i))) (bW w Wm p) j+val p (mkP w Wm cs q (w+Wm.length))*co (cn w q Wm.length p) j:=by
 obtain⟨y,n,o⟩:=i0 (rs:=bW w Wm p) (cs:=cs) Wm.length (co (cn w q Wm.length p));have F:(bW w Wm p).take Wm.length=bW w Wm p:=gl #v[jb,aA _];rw[F]at n o;have lr:=jb (w:=w) (Wm:=Wm) (p:=p);have lq:=W q (by simp);have t:∀i,i<Wm.length->Wm.getD i []∈Wm++[q]:=λi hi=>iC _ (mem_getD hi);have B:∀i,i<Wm.length->∀a,a<=w->co (cn w (Wm.getD i []) i p) (w+a)=if a=i then 1 else 0:=λi hi a c=>ky (W _ (t i hi)) c
 have G:∀(e:aa)(s:Nat)(R:List Rw),e.length=R.length->(∀i (h:i<R.length) a,a<=w->R[i] (w+a)=if a=s+i then 1 else 0)->∀i (h:i<e.length),s+i<=w->dot e R (w+(s+i))=e[i]:=λe=>by
  induction e with
  | nil=>intro s R _ _ i h;simp at h
  | cons m e ih=>
   intro s R C D i h hs
   cases R with
   | nil=>simp at C
   | cons r R=>
    have g:=D 0 (by simp) (s+i) hs;simp only[Jl,Nat.add_zero]at g;have f:∀i (h:i<R.length) a,a<=w->R[i] (w+a)=if a=s+1+i then 1 else 0:=λi h a c=>by
     have:=D (i+1) (by simp;omega) a c;simp only[Jm]at this;rw[this,show s+(i+1)=s+1+i by omega]
    rw[dot,g]
    cases i with
    | zero=>
     have z:dot e R (w+(s+0))=0:=md _ _ λr g=>by
      obtain⟨l,b,rfl⟩:=cm.mp g;rw[f l b (s+0) (),if_neg ()]
     rw[z,if_pos ()];simp
    | succ i=>
     rw[if_neg ()];have:=ih (s+1) R (⇑C) f i (⇑h) ();rw[show s+(i+1)=s+1+i by omega,this];simp
 have u:y=(aJ Wm.length).map λi=>val p (mkP w Wm cs q (w+i)):=by
  refine ie (by rw[n,lr,af,gw]) λi x H=>?_;have hi:i<Wm.length:=by rw[n,lr]at x;exact x
  rw[cE,jR,ow W hk,o];have d:=G y 0 (bW w Wm p) n (λl h a c=>by
   rw[jI h,B l (by rw[lr]at h;exact h) a c,BC]) i x ()
  rw[BC]at d;rw[d,ky lq (),if_neg ()];simp
 have k:val p (mkP w Wm cs q (w+Wm.length))=mi (bW w Wm p) cs Wm.length:=by
  rw[ow W hk,o,ky lq hk,if_pos rfl,md _ _ λr g=>by
   obtain⟨l,b,rfl⟩:=cm.mp g;rw[jI b,B l (by rw[lr]at b;exact b) _ hk,if_neg (by rw[lr]at b;omega)]]
  simp
 rw[ow W hk p j,o,u,k]
theorem Go {c:Nat}(a:c∈cs)(b:cs.length=Wm.length):mkP w Wm cs q c=[]:=cO (ia _ _) b_ λn=>by
 unfold mkP;rw[uj];refine zV _ _ ?_;unfold cr;rw[mF,<-b,e_];exact a
end
def mx (xs:aw):Nat:=xs.foldr max 0
theorem AK {xs:aw}{x:Nat}(h:x∈xs):x<=mx xs:=by
 induction xs with
 | nil=>simp at h
 | cons y xs ih=>
  show x<=max y (mx xs);rcases bj.mp h with z|z
  ·omega
  ·have:=ih z;omega
theorem Gp {xs:aw}{b:Nat}(h:∀x∈xs,x<=b):mx xs<=b:=by
 induction xs with
 | nil=>exact aR _
 | cons y xs ih=>
  show max y (mx xs)<=b;have a:=h y dr;have c:=ih λx hx=>h x (cX _ hx);omega
theorem Gq {ps:ac}{b:Int}(h:iw ps b):b=((mx (ps.map λp=>p.length-1):Nat):Int):=by
 rcases h with ⟨z,rfl⟩|⟨a,c⟩
 ·have:ps=[]:=oQ.mp z;rw[this];rfl
 ·obtain⟨p,d,rfl⟩:=aZ.mp a;have f:p.length-1<=mx (ps.map λp=>p.length-1):=AK (aZ.mpr ⟨p,d,rfl⟩);have g:mx (ps.map λp=>p.length-1)<=p.length-1:=Gp λx hx=>by
   obtain⟨r,e,rfl⟩:=aZ.mp hx;have:=c _ (aZ.mpr ⟨r,e,rfl⟩);unfold dgL at this;omega
  unfold dgL;omega
theorem Oq (xs:aw):(xs.map λx:Nat=>(x:Int)).sum=((xs.sum:Nat):Int):=by
 induction xs with
 | nil=>rfl
 | cons x xs ih=>simp[ih]
theorem Gr {xs:aw}{x:Nat}(h:x∈xs):x<=xs.sum:=by
 induction xs with
 | nil=>simp at h
 | cons y xs ih=>
  rw[iM];rcases bj.mp h with z|z
  ·omega
  ·have:=ih z;omega
section
variable {w L b:Nat}{Wm:ax}{cs:aw}{p:Int}{q:ac}
theorem Os (W:∀v∈Wm++[q],v.length=w)(nml:∀v∈Wm++[q],∀f∈v,Nml f/\f.length<=L)(hk:Wm.length<=w)(Z:cs.length=Wm.length)(C:∀c∈cs,c<w){N:Int}(h:ui (Wm++[q]) cs N):0<=N/\N<=((Wm.length*(L-1):Nat):Int)/\∀i,i<=Wm.length->((mkP w Wm cs q (w+i)).length:Int)<=N+1:=by
 obtain⟨bv,bc,m,h1,h2,h3,h4,h5,h6,h7⟩:=h;have ev:bv=((Wm++[q]).map λv=>mx (cs.map λc=>(v.getD c []).length-1)).map λx:Nat=>(x:Int):=by
  refine ie #v[af,af,h1] λi j Q=>?_;have hi:i<(Wm++[q]).length:=by rw[h1]at j;exact j
  rw[cE,cE,Gq (h3 i bv[i] _ (ao j) (ao hi))];unfold iy;rw[jg];rfl
 have ec:bc=(cs.map λc=>mx ((Wm++[q]).map λv=>(v.getD c []).length-1)).map λx:Nat=>(x:Int):=by
  refine ie #v[af,af,h2] λi j Q=>?_;have hi:i<cs.length:=by rw[h2]at j;exact j
  rw[cE,cE,Gq (h4 i bc[i] _ (ao j) (ao hi))];unfold iz;rw[jg];rfl
 have J:=congrArg List.sum ev;have M:=congrArg List.sum ec;rw[Oq]at J M;generalize O:(Wm++[q]).map (λv=>mx (cs.map λc=>(v.getD c []).length-1))=b at ev J;generalize hC:cs.map (λc=>mx ((Wm++[q]).map λv=>(v.getD c []).length-1))=H at ec M;have mm:∃I:Nat,m=(I:Int)/\I∈b/\∀x∈b,I<=x:=by
  rw[ev]at h5 h6;obtain⟨I,R,rfl⟩:=aZ.mp h5;exact⟨I,rfl,R,λx hx=>by have:=h6 _ (aZ.mpr ⟨x,hx,rfl⟩);omega⟩
 obtain⟨I,rfl,S,T⟩:=mm;have x0:=Gr S;have lL:∀v∈Wm++[q],∀c,(v.getD c []).length-1<=L-1:=λv U c=>by
  by_cases z:c<v.length
  ·have:=(nml v U _ (mem_getD (d:=([]:aa)) z)).2;omega
  ·rw[aq,ic ()];simp
 have y0:H.sum<=Wm.length*(L-1):=by
  have:∀xs:aw,(∀x∈xs,x<=L-1)->xs.sum<=xs.length*(L-1):=λxs=>by
   induction xs with
   | nil=>intro _;simp
   | cons x xs ih=>
    intro hx;have j:=hx x dr;have Q:=ih λy hy=>hx y (cX _ hy);rw[iM,cC,gP,eI];omega
  have a:=this H λx hx=>by
   rw[<-hC]at hx;obtain⟨c,_,rfl⟩:=aZ.mp hx;exact Gp λy hy=>by
    obtain⟨v,U,rfl⟩:=aZ.mp hy;exact lL v U c
  rw[show H.length=Wm.length by rw[<-hC,af,Z]]at a;exact a
 have N0:0<=N/\N<=(H.sum:Int):=by rw[h7,M,J];split <;> omega
 refine⟨N0.1,(),λi hi=>?_⟩;have X:∀c∈cr cs Wm.length,c∈cs:=λc g=>by
  unfold cr at g;exact ik (mF.mp g)
 have row:∀r∈bN w (Wm++[q]),∃t,∃_:t<(Wm++[q]).length,r=ck w ((Wm++[q]).getD t []) t:=λr P=>by
  unfold bN at P;obtain⟨t,k,rfl⟩:=aZ.mp P;exact⟨t,cU.mp k,rfl⟩
 have F:∀t c,c<w->ck w ((Wm++[q]).getD t []) t c=((Wm++[q]).getD t []).getD c []:=λt c g=>by unfold ck;rw[if_pos g]
 have nm:∀t,t<(Wm++[q]).length->∀c,Nml (ck w ((Wm++[q]).getD t []) t c):=λt k c=>by
  unfold ck
  split
  ·rename_i z;exact (nml _ (mem_getD k) _ (mem_getD #v[W _ (mem_getD k),z])).1
  ·split
   ·exact fj ()
   ·exact b_
 have z0:(mkP w Wm cs q (w+i)).length<=H.sum+1:=by
  have:=uk (λc=>if c<w then mx ((Wm++[q]).map λv=>(v.getD c []).length-1) else 0) ((w+i) :: cr cs Wm.length) (bN w (Wm++[q])) λr P c g=>by
   obtain⟨t,k,rfl⟩:=row r P;refine⟨nm t k c,?_⟩;by_cases z:c<w
   ·rw[if_pos z,F t c z];have:=AK (xs:=(Wm++[q]).map λv=>(v.getD c []).length-1) (aZ.mpr ⟨_,mem_getD (d:=([]:ac)) k,rfl⟩);omega
   ·rw[if_neg z];unfold ck;rw[if_neg z]
    split <;> simp
  unfold mkP;refine aM this ?_;have e1:(oV (λc=>if c<w then mx ((Wm++[q]).map λv=>(v.getD c []).length-1) else 0) ((w+i) :: cr cs Wm.length)).sum=H.sum:=by
   rw[dY,iM,if_neg (),BC,<-hC];unfold cr;rw[List.map_reverse,List.sum_reverse,<-Z,e_];congr 1;exact eK λc g=>by rw[if_pos (C c g)]
  omega
 have n:i<(Wm++[q]).length:=by simp;omega
 have u0:(mkP w Wm cs q (w+i)).length+b.getD i 0<=b.sum+1:=by
  obtain⟨p,G⟩:∃p:Rp->Nat,∀r,p r=mx (cs.map λc=>(r c).length-1):=⟨_,λ_=>rfl⟩
  have Y:gj p (bN w (Wm++[q]))=b.sum:=by
   unfold gj bN;rw[jg,<-O];have:(Wm++[q]).map (λv=>mx (cs.map λc=>(v.getD c []).length-1))=(aJ (Wm++[q]).length).map λt=>mx (cs.map λc=>(((Wm++[q]).getD t []).getD c []).length-1):=by
    refine ie (by simp) λt j Q=>?_;rw[cE,cE,jR,aq,ao (⇑j)];rfl
   rw[this];congr 1;refine eK λt k=>?_;show p _=_;rw[G];congr 1;exact eK λc g=>by
    show (ck w ((Wm++[q]).getD t []) t c).length-1=_;rw[F t c (C c g)]
  have ri:p (ck w ((Wm++[q]).getD i []) i)=b.getD i 0:=by
   have e:b.getD i 0=mx (cs.map λc=>(((Wm++[q]).getD i []).getD c []).length-1):=by
    have eg:(Wm++[q]).getD i []=(Wm++[q])[i]:=by rw[aq,ao n];rfl
    rw[eg,<-O,aq,aG,ao n];rfl
   rw[G,e];congr 1;exact eK λc g=>by rw[F i c (C c g)]
  have le:b.getD i 0<=b.sum:=by
   refine Gr ?_;rw[aq,ao #v[<-O,af,n]];exact bY _
  have:=ma (c:=w+i) (D:=b.sum-b.getD i 0) (bN w (Wm++[q])) [] (dtp (cr cs Wm.length)) (ia _) λpre r B e=>by
   obtain⟨t,k,rfl⟩:=row r (by rw[e];simp);refine⟨nm t k _,λo=>?_⟩;have et:t=i:=by
    unfold ck at o;rw[if_neg ()]at o;by_cases z:w+i=w+t
    ·omega
    ·rw[if_neg z]at o;exact absurd rfl o
   subst et;have l1:(ck w ((Wm++[q]).getD t []) t (w+t)).length=1:=by unfold ck;rw[if_neg (),if_pos rfl];rfl
   have l2:=ul p (cr cs Wm.length) (pre++B) λx hx c g=>by
    obtain⟨s,hs,rfl⟩:=row x (by
     rw[e];rcases a8.mp hx with z|z
     ·simp[z]
     ·simp[z])
    refine⟨nm s hs c,?_⟩;rw[G];have:=AK (xs:=cs.map λc=>(ck w ((Wm++[q]).getD s []) s c).length-1) (aZ.mpr ⟨c,X c g,rfl⟩);omega
   have l3:gj p (pre++B)+p (ck w ((Wm++[q]).getD t []) t)=b.sum:=by
    rw[<-Y,e];unfold gj;simp only[aT,gx,dY,iM];omega
   rw[ri]at l3;rw[gk,l1];omega
  have e2:(mkP w Wm cs q (w+i))=iop (w+i) (bN w (Wm++[q])) (λu=>dtp (cr cs Wm.length) ([]++u)):=rfl;rw[e2];omega
 have j0:=T (b.getD i 0) (by
  rw[aq,ao #v[<-O,af,n]];exact bY _)
 rw[h7,M,J]
 split <;> omega
end
section
variable {w L b:Nat}{Wm:ax}{cs:aw}{p:Int}{q:ac}
theorem Gs (W:∀v∈Wm,v.length=w):∀n,n<=Wm.length->n<=cs.length->(∀i,i<=n->mi (bW w Wm p) cs i≠0)->Piv w Wm cs p n
 | 0,_,_,_=>λi hi=>by omega
 | n+1,hk,hc,h=>by
  have b:=Gs W n () () λi hi=>h i ();have tb:=kD W n () () b;have c:n<(bW w Wm p).length:=by rw[jb];omega
  have a:n<cs.length:=by omega
  have d:cs.getD n 0=cs[n]:=by rw[aq,ao a];rfl
  intro i hi;by_cases z:i<n
  ·exact b i z
  ·have e:i=n:=by omega
   subst e;have f:(cn w (Wm.getD i []) i p).length=w+(w+1):=lU (W _ (mem_getD ()));have g:=(me W () () tb f i (aA _)).2.2 cs[i];rw[d];have j:co (fx w Wm cs p i) cs[i]=mi (bW w Wm p) cs (i+1):=by rw[lF c a,jI c];exact g
   rw[j];exact h (i+1) (aA _)
def mnP (w:Nat)(Wm:ax)(cs:aw)(i:Nat):aa:=dtp (cr cs i) ((bN w Wm).take i)
theorem Gt (W:∀v∈Wm,v.length=w)(hk:Wm.length<=w+1)(n:Int)(i:Nat):val n (mnP w Wm cs i)=mi (bW w Wm n) cs i:=by
 unfold mnP mi;rw[uj,IT,Gm W hk]
def prP (w:Nat)(Wm:ax)(cs:aw):Nat->aa
 | 0=>[1]
 | i+1=>pdL (prP w Wm cs i) (mnP w Wm cs (i+1))
theorem places (W:∀v∈Wm,v.length=w)(nml:∀v∈Wm,∀f∈v,Nml f/\f.length<=L)(hk:Wm.length<=w)(B:cs.length=Wm.length)(k:∀c∈cs,c<w)(pv:Piv w Wm cs p Wm.length):∃d:aa,Nml d/\d≠[]/\d.length<=1+Wm.length*(Wm.length*(L-1))/\∀n:Int,val n d≠0->Piv w Wm cs n Wm.length:=by
 have tb:=kD W _ (aA _) () pv;have G:(bN w Wm).length=Wm.length:=by unfold bN;rw[af,gw]
 have H:∀i,i<=Wm.length->(mnP w Wm cs i).length<=Wm.length*(L-1)+1:=λi hi=>by
  have:=uk (λ_=>L-1) (cr cs i) ((bN w Wm).take i) λr I c C=>by
   have a:=ik I;unfold bN at a;obtain⟨t,J,rfl⟩:=aZ.mp a;have m:=cU.mp J;have b:c<w:=by
    unfold cr at C;exact k c (ik (mF.mp C))
   unfold ck;rw[if_pos b];have D:=mem_getD (d:=([]:ac)) m;have:=nml _ D _ (mem_getD (d:=([]:aa)) (show c<(Wm.getD t []).length by rw[W _ D];exact b));exact⟨this.1,()⟩
  have e:(oV (λ_:Nat=>L-1) (cr cs i)).sum<=Wm.length*(L-1):=by
   have:∀g:aw,(g.map λ_=>L-1).sum=g.length*(L-1):=λg=>by
    induction g with
    | nil=>simp
    | cons x g ih=>rw[dY,iM,ih,cC,gP,eI];omega
   rw[this];refine dA _ ?_;unfold cr;rw[oZ,bX];omega
  unfold mnP;omega
 have o:∀i,i<=Wm.length->mnP w Wm cs i≠[]:=λi hi z=>tb.1 i hi (by rw[<-Gt W (),z];rfl);have q:∀i,i<=Wm.length->Nml (prP w Wm cs i)/\prP w Wm cs i≠[]/\(prP w Wm cs i).length<=1+i*(Wm.length*(L-1))/\∀n:Int,val n (prP w Wm cs i)≠0->∀l,l<=i->mi (bW w Wm n) cs l≠0:=λi=>by
  induction i with
  | zero=>intro _;exact⟨fj (),by simp[prP],by simp[prP],λn _ l B=>by rw[show l=0 by omega,zW];decide⟩
  | succ i ih=>
   intro hi;obtain⟨j,s,F,u⟩:=ih ();have nm:=ia (cr cs (i+1)) ((bN w Wm).take (i+1));refine⟨cI _ _,gG j nm s (o _ hi),?_,λn h l B=>?_⟩
   ·have:=ug j nm;have:=H (i+1) hi;unfold mnP at this;show (pdL (prP w Wm cs i) (mnP w Wm cs (i+1))).length<=_;unfold mnP;rw[gP,eI];omega
   ·have e:val n (prP w Wm cs (i+1))=val n (prP w Wm cs i)*val n (mnP w Wm cs (i+1)):=a7 _ _ _;rw[e]at h;by_cases z:l<=i
    ·exact u n (λy=>h (by rw[y];simp)) l z
    ·rw[show l=i+1 by omega,<-Gt W ()];exact λy=>h (by rw[y];simp)
 obtain⟨j,s,F,u⟩:=q Wm.length (aA _);exact⟨_,j,s,F,λn h=>Gs W _ (aA _) () (u n h)⟩
theorem Gu (W:∀v∈Wm,v.length=w)(hk:Wm.length<=w+1)(B:cs.length=Wm.length)(pv:Piv w Wm cs p Wm.length){ms:aa}(C:ms.length=Wm.length)(f:∀c∈cs,dot ms (bW w Wm p) c=0):∀m∈ms,m=0:=by
 have tb:=kD W _ (aA _) () pv;have lr:=jb (w:=w) (Wm:=Wm) (p:=p);have k:(bW w Wm p).take Wm.length=bW w Wm p:=gl #v[lr,aA _];have all:=zX (rs:=bW w Wm p) (cs:=cs) Wm.length () () tb.1 ms (by rw[k];omega) λl h _=>by rw[k];exact f _ (bY h)
 rw[k]at all;have u:∀(ms:aa)(s:Nat)(R:List Rw),ms.length=R.length->(∀i (h:i<R.length) a,a<=w->R[i] (w+a)=if a=s+i then 1 else 0)->s+ms.length<=w+1->(∀j,dot ms R j=0)->∀m∈ms,m=0:=λms=>by
  induction ms with
  | nil=>intro _ _ _ _ _ _ m x;simp at x
  | cons m ms ih=>
   intro s R e q hs f y n
   cases R with
   | nil=>simp at e
   | cons r R=>
    simp only[cC]at hs e;have b:∀i (h:i<R.length) a,a<=w->R[i] (w+a)=if a=s+1+i then 1 else 0:=λi h a d=>by
     have:=q (i+1) (by simp;omega) a d;simp only[Jm]at this;rw[this,show s+(i+1)=s+1+i by omega]
    have m0:m=0:=by
     have t:=f (w+s);have g:=q 0 (by simp) s ();simp only[Jl,Nat.add_zero]at g;rw[dot,g,md _ _ λr g=>by
      obtain⟨l,o,rfl⟩:=cm.mp g;rw[b l o s (),if_neg ()]]at t
     simpa using t
    rcases bj.mp n with z|z
    ·rw[z];exact m0
    ·refine ih (s+1) R () b () (λj=>?_) y z;have:=f j;rw[dot,m0]at this;omega
 refine u ms 0 (bW w Wm p) () (λi h a d=>?_) () all;rw[jI h,BC];exact ky (W _ (mem_getD (by rw[lr]at h;exact h))) d
end
def ds:aa->aa->Int
 | a :: as,b :: bs=>a*b+ds as bs
 | _,_=>0
theorem Gv:∀(a:aa)(R:List Rw)(j:Nat),dot a R j=ds a (R.map λr=>r j)
 | [],R,_=>by cases R <;> rfl
 | m :: a,[],_=>rfl
 | m :: a,r :: R,j=>by rw[dot,dY,ds,Gv a R j]
def cf:aw->aa->Nat->Int
 | i :: S,m :: ms,x=>(if x=i then m else 0)+cf S ms x
 | _,_,_=>0
theorem um:∀(S:aw)(a:aa)(x:Nat),x∉S->cf S a x=0
 | [],_,_,_=>by simp[cf]
 | i :: S,[],_,_=>by simp[cf]
 | i :: S,m :: a,x,h=>by
  rw[cf,if_neg (λz=>h #v[z,dr]),um S a x λz=>h (cX _ z)];rfl
theorem Gw:∀(S:aw)(a:aa),S.Nodup->S.length=a.length->∀t (h:t<S.length) (b:t<a.length),cf S a S[t]=a[t]
 | [],_,_,_,t,h,_=>by simp at h
 | i :: S,[],_,hl,_,_,_=>by simp at hl
 | i :: S,m :: a,nd,hl,t,h,b=>by
  rw[kH]at nd
  cases t with
  | zero=>
   simp only[Jl];rw[cf,if_pos rfl,um S a i nd.1];simp
  | succ t=>
   simp only[Jm];have c:t<S.length:=by simpa using h
   have:S[t]≠i:=λz=>nd.1 #v[<-z,bY _];rw[cf,if_neg this,Gw S a nd.2 (⇑hl) t (⇑h) (⇑b)];simp
theorem Gx {k i:Nat}(h:i<k)(f:aH):au k (λx=>if x=i then f x else 0)=f i:=by
 rw[lC h λj b a=>by rw[if_neg a],if_pos rfl]
theorem Gy {k:Nat}(F:aH):∀(S:aw)(a:aa),S.length=a.length->(∀i∈S,i<k)->ds a (S.map F)=au k λx=>cf S a x*F x
 | [],[],_,_=>by
  show (0:Int)=_;rw[fF λj _=>by simp[cf]]
 | [],_ :: _,h,_=>by simp at h
 | _ :: _,[],h,_=>by simp at h
 | i :: S,m :: a,h,hS=>by
  have b:=Gy F S a (⇑h) λx hx=>hS x (cX _ hx);have e:au k (λx=>cf (i :: S) (m :: a) x*F x)=au k (λx=>if x=i then m*F x else 0)+au k λx=>cf S a x*F x:=by
   rw[<-jy];exact cB λx _=>by rw[cf];split <;> grind
  rw[dY,ds,b,e,Gx (hS i dr)]
theorem Ot {p q g U W:aa}{m:Int}{G:Nat}(a:Nml p)(f:Nml q)(ng:Nml g)(b:p≠[])(h:q≠[])(g0:g≠[])(i:(pdL p g).length<=40)(j:(pdL q g).length<=40)(lg:g.length<=40)(c:∀z∈pdL p g,Bd 5000 z)(d:∀z∈pdL q g,Bd 5000 z)(k:m≠0)(o:∀n,val n U*val n p+val n W*val n q=m)(r:∀z∈g,m.natAbs*z.natAbs<=G)(bG:Bd 4480 (G:Int)):fQ (pdL p g) (pdL q g) (di (pdL [((ah (p++q):Nat):Int)] g)):=by
 obtain⟨s,t,u,y,B,C⟩:=NK a f ng (cI p g) (cI q g) b h g0 i j lg c d r k bG o (λn=>a7 n p g) (λn=>a7 n q g);refine .inr (.inr ⟨u,y,s,t,c,d,_,_,B,?_⟩);rw[C];have D:((ah (p++q):Nat):Int)≠0:=by
  have H:=gu a b;have e:ah (p++q)∣ah p:=iA _ _ λx hx=>gh _ x (by simp[hx]);intro z;have F:ah (p++q)=0:=by omega
  rw[F]at e;have:=Bo e;omega
 congr 1;exact cO (cI _ _) (jH D ng) λn=>by rw[a7,bL];simp[val]
theorem Gz {B k b:Nat}(h:B<=2 ^ b):B ^ k<=2 ^ (b*k):=#v[mN,mL h k]
theorem GA (a:ax)(ws:ac)(c:Nat):∀n,Nml (dV a ws c n)
 | 0=>b_
 | n+1=>Am _ _
theorem ox (a:ax)(ws:ac)(c:Nat)(n:Int):∀k,val n (dV a ws c k)=au k λt=>val n ((a.getD t []).getD c [])*val n (ws.getD t [])
 | 0=>rfl
 | k+1=>by
  rw[dV,Al,Fu,ox a ws c n k];rfl
theorem GB (F G:aH):∀m,ds ((aJ m).map F) ((aJ m).map G)=au m λt=>F t*G t:=λm=>by
 have f:∀(as bs c d:aa),as.length=bs.length->ds (as++c) (bs++d)=ds as bs+ds c d:=λas=>by
  induction as with
  | nil=>intro bs c d e;cases bs with
   | nil=>simp[ds]
   | cons=>simp at e
  | cons a as ih=>intro bs c d e;cases bs with
   | nil=>simp at e
   | cons b bs=>simp only[kK,ds];rw[ih bs c d (⇑e)];omega
 induction m with
 | zero=>rfl
 | succ m ih=>
  rw[fL,aT,aT,f _ _ _ _ (by simp),ih];simp[ds,au]
theorem GC {n:Nat}{few:aw}{ws:ac}(c:few.Pairwise (· < ·))(d:∀i∈few,i<n):∀m,m<=few.length->(∀l (h:l<few.length),l<m->(spw n few ws m)[few[l]]?=some (ws.getD l []))/\(∀i,i<n->i∉few.take m->(spw n few ws m)[i]?=some [])/\(spw n few ws m)[n]?=some (ws.getD few.length [])
 | 0,_=>by
  refine⟨λl h e=>by omega,λi hi _=>?_,?_⟩
  ·rw[spw,cA (⇑hi),jc,if_pos hi]
  ·rw[spw,cQ (by simp),mr,fB];rfl
 | m+1,hm=>by
  obtain⟨f,g,j⟩:=GC (ws:=ws) c d m ();have a:m<few.length:=by omega
  have k:few.getD m 0=few[m]:=by rw[aq,ao a];rfl
  have o:=d _ (bY a);have ll:=h_ n few ws m;rw[spw,k];refine⟨λl h e=>?_,λi hi b=>?_,?_⟩
  ·by_cases z:l=m
   ·subst z;rw[uI ()]
   ·have:few[l]<few[m]:=oY.mp c l m h a ();rw[oE ()];exact f l h ()
  ·rw[cY,ao a]at b;simp only[Option.toList_some,a8,aW,not_or]at b;rw[oE (λz=>b.2 z.symm)];exact g i hi b.1
  ·rw[oE ()];exact j
def syn (x:Int):aa->aa
 | []=>[]
 | _ :: e=>b7 e ((syn x e).map λz=>x*z)
theorem AL:∀(a b:aa),b.length<=a.length->(b7 a b).length=a.length
 | [],[],_=>rfl
 | [],_ :: _,h=>by simp at h
 | x :: a,[],_=>by simp[b7]
 | x :: a,y :: b,h=>by simp only[b7,cC];rw[AL a b (⇑h)]
theorem GE (x:Int):∀e:aa,(syn x e).length<=e.length
 | []=>aA _
 | a :: e=>by
  rw[syn,AL _ _ #v[af,GE x e],cC];omega
theorem Ou (x a:Int)(e:aa):(syn x (a :: e)).length=e.length:=by
 rw[syn,AL _ _ #v[af,GE x e]]
theorem GF (x n:Int):∀e:aa,val n e=val x e+(n-x)*val n (syn x e)
 | []=>by simp[val,syn]
 | a :: e=>by
  have b:=GF x n e;rw[syn,eG,bL];simp only[val];grind
theorem GG (x:Int):∀(e:aa)(a:Int)(j:Nat),co (syn x (a :: e)) (j+1)=co (syn x e) j
 | [],a,j=>by simp[syn,b7,co]
 | b :: e,a,j=>by
  have c:=GG x e b j;rw[syn,fH,dN,c,syn,fH,dN];rfl
theorem GH (x:Int):∀(e:aa)(a:Int),co (syn x (a :: e)) 0=val x e
 | [],a=>by simp[syn,b7,co,val]
 | b :: e,a=>by
  have c:=GH x e b;rw[syn,fH,dN,c];rfl
theorem GI (X:Nat):∀(d:Nat)(e b:aa)(M:Nat),e.length<=d+1->b.length=d+1->b.Nodup->(∀x∈b,x.natAbs<=X)->(∀x∈b,(val x e).natAbs<=M)->∀j,(co e j).natAbs<=M*(2*X+3) ^ d
 | d,[],b,M,_,_,_,_,_,j=>by rw[aD (by simp)];simp
 | 0,a :: e,b,M,he,hl,_,_,hm,j=>by
  have p:e=[]:=bC (⇑he);subst p;obtain⟨x,rfl⟩:=BA.mp hl;have:=hm x (by simp);simp[val]at this
  cases j with
  | zero=>simpa [co] using this
  | succ j=>rw[aD (by simp)];simp
 | d+1,a :: e,b,M,he,hl,nd,hx,hm,j=>by
  cases b with
  | nil=>simp at hl
  | cons x b=>
   rw[kH]at nd;have n:=hx x dr;have f:=hm x dr;have g:=GI X d (syn x (a :: e)) b (2*M) (by rw[Ou];simpa using he) (⇑hl) nd.2 (λy hy=>hx y (cX _ hy)) λy hy=>by
    have k:=GF x y (a :: e);have h:=hm y (cX _ hy);have q:y-x≠0:=λz=>nd.1 (by rw[show x=y by omega];exact hy);have m:((y-x)*val y (syn x (a :: e))).natAbs<=2*M:=by
     rw[show (y-x)*val y (syn x (a :: e))=val y (a :: e)-val x (a :: e) by omega,Nat.two_mul];exact aM (my _ _) (kJ h f)
    rw[b6]at m;exact aM (gm _ ()) m
   generalize hT:2*M*(2*X+3) ^ d=T at g;have i:T+X*T+M<=M*(2*X+3) ^ (d+1):=by
    have s:M<=M*(2*X+3) ^ d:=iJ _ (Nat.pow_pos ());rw[iF,<-gQ,<-hT];have o:2*M*(2*X+3) ^ d=2*(M*(2*X+3) ^ d):=by rw[gQ]
    rw[o];clear o hT g;generalize M*(2*X+3) ^ d=Y at *;grind
   have c:∀z:Int,z.natAbs<=T->(x*z).natAbs<=X*T:=λz r=>by rw[b6];exact dJ n r
   cases j with
   | zero=>
    have k:co (a :: e) 0=val x (a :: e)-x*co (syn x (a :: e)) 0:=by rw[GH];simp[co,val]
    have h:=c _ (g 0);rw[k];refine aM (aM (my _ _) (kJ f h)) (aM ?_ i);rw[mv];exact BB (Nat.le_add_left _ _) _
   | succ j=>
    have k:co (a :: e) (j+1)=co (syn x (a :: e)) j-x*co (syn x (a :: e)) (j+1):=by
     rw[GG,syn,fH,dN];have:co (a :: e) (j+1)=co e j:=rfl;omega
    have h:=c _ (g (j+1));have m:=g j;rw[k];exact aM (aM (my _ _) (kJ m h)) (aM (Nat.le_add_right _ _) i)
theorem Ov {f:aa}(d:Nml f)(e:f≠[]){D:Nat}(g:f.length<=D+1):∃b:aa,b.length=D+1/\b.Nodup/\(∀x∈b,x.natAbs<=2*D)/\∀x∈b,val x f≠0:=by
 obtain⟨R,c⟩:∃R,R=(aJ (2*D+1)).map λn:Nat=>(n:Int):=⟨_,rfl⟩
 have a:R.Nodup:=by
  rw[c];refine List.pairwise_map.mpr (List.nodup_range.imp λh z=>h ())
 have i:∀x∈R,x.natAbs<=2*D:=λx hx=>by
  rw[c]at hx;obtain⟨n,j,rfl⟩:=aZ.mp hx;have:=cU.mp j;omega
 have lb:(R.filter λx=>val x f == 0).length<=D:=by
  refine oN λh=>e (AA d (a.filter _) (aM g h) λp k=>?_);exact beq_iff_eq.mp (kF.mp k).2
 have lt:(R.filter λx=>val x f == 0).length+(R.filter λx=>!(val x f == 0)).length=R.length:=by
  rw[<-QI,<-QI];have:=List.length_eq_countP_add_countP (λx=>val x f == 0) (l:=R);rw[this];congr 1;exact List.countP_congr λx _=>by simp
 have m:R.length=2*D+1:=by rw[c];simp
 refine⟨(R.filter λx=>!(val x f == 0)).take (D+1),by rw[bX];omega,(a.filter _).sublist (IQ _ _),λx hx=>i x (kF.mp (ik hx)).1,λx hx=>?_⟩;have:=(kF.mp (ik hx)).2
 simpa using this
theorem uo {e t f:aa}(ne:Nml e)(o:Nml f)(p:f≠[]){D b:Nat}(G:D<=15)(c:f.length<=D+1)(le:e.length<=D+1)(q:∀z∈f,Bd b z)(h:∀n,val n f=val n e*val n t):∀z∈e,Bd (b+12*D+7) z:=by
 obtain⟨r,s,u,d,y⟩:=Ov o p c;have a:=GI (2*D) D e r (2 ^ (b+6*(D+1))) le s u d λx hx=>by
  have B:=jE (k:=b) (l:=5) (n:=x) (Bd.of_lt (m:=31) (by have:=d x hx;omega) ()) f q;have C:Bd (b+6*(D+1)) (val x f):=B.mono (QH (dZ _ c) _);have g:(val x f).natAbs<2 ^ (b+6*(D+1)):=C;have i:=h x;have H:val x t≠0:=λz=>y x hx (by rw[i,z];simp);rw[i,b6]at g;exact dm (ca (iJ _ ()) g)
 refine cu λj=>?_;show (co e j).natAbs<2 ^ (b+12*D+7);refine ca (a j) ?_;have F:(2*(2*D)+3) ^ D<=2 ^ (6*D):=by rw[mN];exact mL () _
 refine ca (dZ _ F) ?_;rw[<-du];exact mH () ()
theorem AM {a:aa}{c:Nat}(g:0<c)(na:Nml a)(h:∀x∈a,(c:Int)∣x):∃b:aa,Nml b/\(∀n,val n a=(c:Int)*val n b)/\∀j,co a j=(c:Int)*co b j:=by
 have e:(a.map λx=>x / (c:Int)).map (λz=>(c:Int)*z)=a:=by
  rw[jg]
  conv=>rhs;rw[<-Jc a]
  exact eK λx hx=>uU (h x hx)
 refine⟨a.map λx=>x / (c:Int),d_.mpr λz d f=>?_,λn=>?_,λj=>?_⟩
 ·rw[u_]at d;obtain⟨y,hy,rfl⟩:=cZ.mp d;refine d_.mp na y hy ?_;have:=uU (h y (il hy));rw[f]at this;omega
 ·conv=>lhs;rw[<-e]
  rw[bL]
 ·conv=>lhs;rw[<-e]
  rw[dN]
theorem Ow {h v:aa}(c:Nml h){k:Int}(a:k≠0)(e:∀n,k=val n h*val n v):h.length<=1:=by
 have d:pdL h (aL v)=[k]:=cO (cI _ _) (fj a) λn=>by
  rw[a7,fS,<-e];simp[val]
 have f:h≠[]:=λz=>a (by rw[e 0,z];simp[val]);have v0:aL v≠[]:=λz=>a (by rw[e 0,<-fS 0 v,z];simp[val]);have b:=(eH c (cM v) f v0).1;rw[d]at b;have g:(aL v).length≠0:=λz=>v0 (bC z);rw[mu]at b;omega
def NF (us:ac):Prop:=∀h:aa,Nml h->2<=h.length->∀M:Int,M≠0->(∀u∈us,∃v,∀n,M*val n u=val n h*val n v)->False
theorem Ox {p q:aa}{D bp bq:Nat}(np:Nml p)(nq:Nml q)(M:p≠[])(q0:q≠[])(lp:p.length<=D+1)(lq:q.length<=D+1)(hD:D<=15)(bP:∀z∈p,Bd bp z)(bQ:∀z∈q,Bd bq z)(big:5*(2*D+1)+bp*D+bq*D+bp+bq+1<=4480):
  ∃R a b:aa,fQ p q R/\Nml R/\R≠[]/\0<co R (R.length-1)/\Nml a/\Nml b/\(∀n,val n p=val n R*val n a)/\(∀n,val n q=val n R*val n b)/\(∃U W m,m≠0/\∀n,val n U*val n a+val n W*val n b=m)/\∀s:Nat,Prm s->(∀j,(s:Int)∣co a j)->(∀j,(s:Int)∣co b j)->False:=by
 obtain⟨g,a,b,U,W,m,G⟩:=AD _ p q (aA _) np nq (.inl M);have a0:a≠[]:=λz=>M (by rw[G.pa,z,iB]);have b0:b≠[]:=λz=>q0 (by rw[G.qb,z,iB]);have la:=(eH G.na G.ng a0 G.g0).1;have lb:=(eH G.nb G.ng b0 G.g0).1;rw[<-G.pa]at la;rw[<-G.qb]at lb;have z0:g.length≠0:=λz=>G.g0 (bC z);have u0:a.length≠0:=λz=>a0 (bC z);have j0:b.length≠0:=λz=>b0 (bC z);obtain⟨r,t,u,m0,bz,gb⟩:=Of G M q0 (Bp:=2 ^ bp) (Bq:=2 ^ bq) (N:=D+D) (k1:=D) (n1:=D) (λz d=>dm (bP z d)) (λz d=>dm (bQ z d)) (dG _) (dG _) () () rfl;have vp:∀n,val n p=val n a*val n g:=λn=>by rw[G.pa,a7]
 have vq:∀n,val n q=val n b*val n g:=λn=>by rw[G.qb,a7]
 have C:∀n,val n r*val n a+val n t*val n b=u:=by
  obtain⟨F,hF⟩:∃F,F=gi (gi (pdL r a) (pdL t b)) [-u]:=⟨_,rfl⟩
  have vF:∀n,val n F=val n r*val n a+val n t*val n b-u:=λn=>by rw[hF,kC,kC,a7,a7];simp[val];omega
  have F0:F=[]:=by
   by_cases z:F=[]
   ·exact z
   ·refine absurd (cO (cI _ _) b_ λn=>?_) (gG #v[hF,ou _ _] G.ng z G.g0);rw[a7,vF n];show _=0;have o:=bz n;rw[vp,vq]at o;grind
  intro n;have:=vF n;rw[F0]at this;have e:val n []=0:=rfl;omega
 obtain⟨K,hK⟩:∃K,K=5*(2*D+1)+bp*D+bq*D+bp+bq:=⟨_,rfl⟩
 have gK:∀z∈g,u.natAbs*z.natAbs<=2 ^ K:=λz d=>by
  refine aM (gb z d) ?_;have O:(D+D+1) ^ (D+D+1)<=2 ^ (5*(2*D+1)):=by
   rw[mN,show D+D+1=2*D+1 by omega];exact mL () _
  have P:=Gz (B:=2 ^ bp) (k:=D) (aA _);have e3:=Gz (B:=2 ^ bq) (k:=D) (aA _);have e4:2 ^ bp*2 ^ bq=2 ^ (bp+bq):=(du _ _ _).symm;rw[e4];refine aM (dJ O (dJ P (dJ e3 (aA _)))) (kG ?_);rw[<-du,<-du,<-du,hK];congr 1;omega
 have f:bp<=5000/\bq<=5000:=by omega
 have Q:=Ot (G:=2 ^ K) G.na G.nb G.ng a0 b0 G.g0 (by rw[<-G.pa];omega) (by rw[<-G.qb];omega) () (λz d=>(bP z #v[G.pa,d]).mono f.1) (λz d=>(bQ z #v[G.qb,d]).mono f.2) m0 C gK (by
  show (((2 ^ K:Nat):Int)).natAbs<2 ^ 4480;rw[dy];exact mH () ())
 rw[<-G.pa,<-G.qb]at Q;have cp:0<ah (a++b):=by
  have o:=gu G.na a0;have S:ah (a++b)∣ah a:=iA _ _ λx hx=>gh _ x (by simp[hx]);exact Nat.pos_of_dvd_of_pos S o
 generalize T:ah (a++b)=c at Q cp;have X:∀x∈a,(c:Int)∣x:=λx hx=>by rw[<-T];exact gh _ x (by simp[hx])
 have dvb:∀x∈b,(c:Int)∣x:=λx hx=>by rw[<-T];exact gh _ x (by simp[hx])
 obtain⟨L,Y,H,Z⟩:=AM cp G.na X;obtain⟨b1,x0,vb1,y0⟩:=AM cp G.nb dvb;have nc:Nml [(c:Int)]:=fj ();have c0:[(c:Int)]≠[]:=by simp
 obtain⟨ε,I,hv⟩:=F3 (pdL [(c:Int)] g);have J:ε≠0:=by rcases I with rfl|rfl <;> decide
 have i:ε * ε=1:=by rcases I with rfl|rfl <;> rfl
 have gR:=gG nc G.ng c0 G.g0;refine⟨_,L.map λz=>ε * z,b1.map λz=>ε * z,Q,Ay (cI _ _),F4 gR,lP (cI _ _) gR,jH J Y,jH J x0,λn=>?_,λn=>?_,⟨r.map λz=>(c * ε)*z,t.map λz=>(c * ε)*z,u,m0,λn=>?_⟩,λs hs o S=>?_⟩
 ·rw[hv,a7,bL,vp,H];have:val n [(c:Int)]=c:=by simp[val]
  rw[this];grind
 ·rw[hv,a7,bL,vq,vb1];have:val n [(c:Int)]=c:=by simp[val]
  rw[this];grind
 ·rw[bL,bL,bL,bL,<-C n,H,vb1];generalize val n L=x;generalize val n b1=y;generalize val n r=p;generalize val n t=q;have O:c * ε * p*(ε * x)=(ε * ε)*(p*(c*x)):=by grind
  have P:c * ε * q*(ε * y)=(ε * ε)*(q*(c*y)):=by grind
  rw[O,P,i,dS,dS]
 ·have un:∀{z:Int},(s:Int)∣ε * z->(s:Int)∣z:=λ{z} h=>by
   obtain⟨y,hy⟩:=h;have o:z=ε * (ε * z):=by rw[<-cD,i,dS]
   exact⟨ε * y,by rw[o,hy];grind⟩
  have h3:s*c∣ah (a++b):=iA _ _ λx hx=>by
   have:∃j,(s:Int)∣co L j/\x=(c:Int)*co L j\/(s:Int)∣co b1 j/\x=(c:Int)*co b1 j:=by
    rcases a8.mp hx with z|z
    ·obtain⟨j,hj,rfl⟩:=cm.mp z;exact⟨j,.inl ⟨un #v[<-dN,o j],by rw[<-Z,aI hj]⟩⟩
    ·obtain⟨j,hj,rfl⟩:=cm.mp z;exact⟨j,.inr ⟨un #v[<-dN,S j],by rw[<-y0,aI hj]⟩⟩
   obtain⟨j,⟨⟨y,hy⟩,e⟩|⟨⟨y,hy⟩,e⟩⟩:=this
   ·exact⟨y,by rw[e,hy,fm];grind⟩
   ·exact⟨y,by rw[e,hy,fm];grind⟩
  rw[T]at h3;have h4:=jd cp h3;have:=hs.1;have:=dA c (show 2<=s by omega);omega
theorem AN {B:ac}{D b:Nat}(hD:D<=15)(hg:∀g∈B,Nml g/\g.length<=D+1/\∀z∈g,Bd b z)(big:5*(2*D+1)+(b+12*D+7)*D+b*D+(b+12*D+7)+b+1<=4480):∀m,m<=B.length->
  ∃f:Nat->aa,f 0=[]/\(∀i,(f i).length<=D+1)/\(∀i r,i<m->B[i]?=some r->fQ (f i) r (f (i+1)))/\Nml (f m)/\(f m=[]->∀i r,i<m->B[i]?=some r->r=[])/\
  (f m≠[]->0<co (f m) ((f m).length-1)/\(∀z∈f m,Bd (b+12*D+7) z)/\∃o:ac,o.length=m/\(∀u∈o,Nml u)/\(∀(i:Nat)(r u:aa),B[i]?=some r->o[i]?=some u->∀n,val n r=val n (f m)*val n u)/\(∀s:Nat,Prm s->(∀u∈o,∀j,(s:Int)∣co u j)->False)/\NF o)
 | 0,_=>⟨λ_=>[],rfl,λ_=>aR _,λi r h=>by omega,b_,λ_ i r h=>by omega,λh=>absurd rfl h⟩
 | m+1,hm=>by
  obtain⟨f,f0,fl,fs,nf,fz,fn⟩:=AN hD hg big m ();have I:B[m]?=some B[m]:=ao ();generalize B[m]=r at I;obtain⟨O,lr,br⟩:=hg r (bT I);have ext:∀R:aa,R.length<=D+1->fQ (f m) r R->Nml R->(R=[]->f m=[]/\r=[])->(R≠[]->0<co R (R.length-1)/\(∀z∈R,Bd (b+12*D+7) z)/\∃o:ac,o.length=m+1/\(∀u∈o,Nml u)/\(∀(i:Nat)(r u:aa),B[i]?=some r->o[i]?=some u->∀n,val n r=val n R*val n u)/\(∀s:Nat,Prm s->(∀u∈o,∀j,(s:Int)∣co u j)->False)/\NF o)->∃f:Nat->aa,f 0=[]/\(∀i,(f i).length<=D+1)/\(∀i r,i<m+1->B[i]?=some r->fQ (f i) r (f (i+1)))/\Nml (f (m+1))/\(f (m+1)=[]->∀i r,i<m+1->B[i]?=some r->r=[])/\
    (f (m+1)≠[]->0<co (f (m+1)) ((f (m+1)).length-1)/\(∀z∈f (m+1),Bd (b+12*D+7) z)/\∃o:ac,o.length=m+1/\(∀u∈o,Nml u)/\(∀(i:Nat)(r u:aa),B[i]?=some r->o[i]?=some u->∀n,val n r=val n (f (m+1))*val n u)/\(∀s:Nat,Prm s->(∀u∈o,∀j,(s:Int)∣co u j)->False)/\NF o):=λR lR cR T zR hR=>by
   have Q:(λi=>if i<=m then f i else R) (m+1)=R:=if_neg ();refine⟨λi=>if i<=m then f i else R,by simp[f0],λi=>?_,λi C hi t=>?_,#v[Q,T],λhz i C hi t=>?_,λF=>?_⟩
   ·dsimp only;split
    ·exact fl i
    ·exact lR
   ·dsimp only;rw[if_pos ()];by_cases z:i<m
    ·rw[if_pos ()];exact fs i C z t
    ·have e:i=m:=by omega
     subst e;rw[I]at t;cases t;rw[if_neg ()];exact cR
   ·rw[Q]at hz;obtain⟨G,J⟩:=zR hz;by_cases z:i<m
    ·exact fz G i C z t
    ·have e:i=m:=by omega
     subst e;rw[I]at t;cases t;exact J
   ·rw[Q]at F ⊢;exact hR F
  by_cases G:f m=[]
  ·-- nothing so far
   obtain⟨ε,L,hv⟩:=F3 r;have X:ε≠0:=by rcases L with rfl|rfl <;> decide
   have j0:ε * ε=1:=by rcases L with rfl|rfl <;> rfl
   refine ext (di r) #v[lN,lr] (.inl ⟨G,rfl⟩) (Ay O) (λz=>⟨G,?_⟩) λF=>?_
   ·by_cases y:r=[]
    ·exact y
    ·exact absurd z (F4 y)
   ·have r0:r≠[]:=λy=>F (by rw[y];rfl);refine⟨lP O r0,λz hz=>?_,bI m []++[[ε]],by simp,λu d=>?_,λi C u t d n=>?_,λs hs h=>?_,λh Y H M Z S=>?_⟩
    ·obtain⟨k0,x0,hc⟩:=uf r;refine (cu (xs:=di r) (P:=λz=>Bd b z) (λj=>?_) z hz).mono ();rw[hc];have:=cN (P:=λz=>Bd b z) br (Bd.zero _) j;rcases x0 with rfl|rfl
     ·rw[dS];exact this
     ·rw[show (-1:Int)*co r j=- co r j by omega];exact this.neg
    ·rcases a8.mp d with y|y
     ·rw[QJ y];exact b_
     ·rw[aW.mp y];exact fj X
    ·by_cases y:i<m
     ·rw[cA (⇑y),jc,if_pos y]at d
      cases d
      rw[fz G i C y t];simp[val]
     ·have hi:=(aY.mp d).1;have e:i=m:=by simp at hi;omega
      subst e;rw[I]at t;cases t;rw[cQ (by simp)]at d;simp at d;subst d;rw[hv];have:val n [ε]=ε:=by simp[val]
      rw[this];grind
    ·have:=h [ε] (by simp) 0;have e:co [ε] 0=ε:=rfl;rw[e]at this;have H:(s:Int).natAbs∣ε.natAbs:=iH.mpr this;have h3:ε.natAbs=1:=by rcases L with rfl|rfl <;> rfl
     rw[h3,dy]at H;have:=Nat.dvd_one.mp H;have:=hs.1;omega
    ·obtain⟨v,y0⟩:=S [ε] (by simp);have:=Ow Y (fX Z X) (v:=v) λn=>by rw[<-y0 n];simp[val]
     omega
  ·obtain⟨g1,g2,o,u1,u2,u3,u4,u5⟩:=fn G;by_cases J:r=[]
   ·have eu:di (f m)=f m:=by unfold di;rw[if_neg λh=>by omega]
    refine ext (f m) (fl m) (.inr (.inl ⟨G,J,eu.symm⟩)) nf (λz=>absurd z G) λ_=>⟨g1,g2,o++[[]],by simp[u1],λu d=>?_,λi C u t d n=>?_,λs hs h=>u4 s hs λu d=>h u (iC _ d),λh Y H M Z S=>u5 h Y H M Z λu d=>S u (iC _ d)⟩
    ·rcases a8.mp d with y|y
     ·exact u2 u y
     ·rw[aW.mp y];exact b_
    ·by_cases y:i<m
     ·rw[cA ()]at d;exact u3 i C u t d n
     ·have hi:=(aY.mp d).1;have e:i=m:=by simp at hi;omega
      subst e;rw[I]at t;cases t;rw[cQ (),u1,fB]at d;simp at d;subst d;rw[J];simp[val]
   ·obtain⟨R,a,c,ci,T,R0,tR,na,nc,va,vc,⟨U,W,m',z0,bz⟩,hp⟩:=Ox nf O G J (fl m) lr hD g2 br big;have c0:c≠[]:=λz=>J (cO O b_ λn=>by rw[vc,z];simp[val]);have lR:R.length<=D+1:=by
     have h1:=(eH T nc R0 c0).1;have H:pdL R c=r:=cO (cI _ _) O λn=>by rw[a7,vc]
     rw[H]at h1;have:c.length≠0:=λz=>c0 (bC z);omega
    refine ext R lR ci T (λz=>absurd z R0) λ_=>⟨tR,uo T O J hD lr lR br vc,o.map (pdL a)++[c],by simp[u1],λu d=>?_,λi C u t d n=>?_,λs hs h=>?_,λh Y H M Z S=>?_⟩
    ·rcases a8.mp d with y|y
     ·obtain⟨v,_,rfl⟩:=aZ.mp y;exact cI _ _
     ·rw[aW.mp y];exact nc
    ·by_cases y:i<m
     ·rw[cA (by simp;omega),aG]at d;obtain⟨v,hv,rfl⟩:=cZ.mp d;rw[a7,u3 i C v t hv n,va];grind
     ·have hi:=(aY.mp d).1;have e:i=m:=by simp at hi;omega
      subst e;rw[I]at t;cases t;rw[cQ (by simp[u1])]at d;simp[u1]at d;subst d;exact vc n
    ·by_cases y:∀j,(s:Int)∣co a j
     ·exact hp s hs y (h c (by simp))
     ·refine u4 s hs λu d=>?_;rcases nQ hs (f:=co a) (g:=co u) λk=>by rw[<-lQ];exact h (pdL a u) (iC _ (aZ.mpr ⟨u,d,rfl⟩)) k with z|z
      ·exact absurd z y
      ·exact z
    ·refine u5 h Y H (m'*M) (fX z0 Z) λu d=>?_;obtain⟨v1,h1⟩:=S (pdL a u) (iC _ (aZ.mpr ⟨u,d,rfl⟩));obtain⟨v2,u0⟩:=S c (by simp);refine⟨b7 (be U v1) (be (be W u) v2),λn=>?_⟩;have Q:=h1 n;have e2:=u0 n;rw[a7]at Q;rw[eG,cy,cy,cy,<-bz n];generalize val n U=p at *;generalize val n W=q at *;generalize val n u=x at *;generalize val n a=y at *;generalize val n c=z at *;generalize val n h=k at *;generalize val n v1=a1 at *;generalize val n v2=a2 at *;have:(p*y+q*z)*M*x=p*(M*(y*x))+q*x*(M*z):=by grind
     rw[this,Q,e2];grind
structure PG (w L e b l B D β:Nat):Prop where
 w5:w<=5
 L1:1<=L
 Ll:L+e<=2 ^ l
 L40:L+e<=40
 b0:0<b
 b1:(b+10*(L+e)+3)*7+1<=4000
 b2:b<=1000
 b3:(w+2)*(2*B+2)<=900
 pl:97+B*(w+1)<512
 D15:D<=15
 dD:w*(L-1)+e<=D
 d60:w*(L+e-1)<60
 bb:(3+l+b)*w+3 < β
 big:5*(2*D+1)+(β+12*D+7)*D+β * D+(β+12*D+7)+β+1<=4480
 pls:w*(w*(L-1))+w*(L+e-1)<B
section
variable {w L e b l B D β:Nat}{Wm:ax}{cs:aw}{q:ac}
def StG (w B:Nat)(Wm:ax)(cs:aw)(pl:Int):Prop:=cs.length=Wm.length/\(∀c∈cs,c<w)/\cs.Nodup/\97<=pl/\pl<=97+(B:Int)*(Wm.length:Int)/\Piv w Wm cs pl Wm.length
def VqG (w L e b:Nat)(Wm:ax)(q:ac):Prop:=(∀v∈Wm,v.length=w/\∀f∈v,Nml f/\f.length<=L/\∀c∈f,Bd b c)/\q.length=w/\∀f∈q,Nml f/\f.length<=L+e/\∀c∈f,Bd b c
def RlG (w D g:Nat)(Wm:ax)(q ws:ac):Prop:=ws.length=Wm.length+1/\(∀r∈ws,Nml r/\r.length<=D+1/\∀c∈r,Bd g c)/\(∃p0 t0,ws.getD Wm.length []=p0++[t0]/\0<t0)/\(∀s:Nat,Prm s->(∀u∈ws,∀j,(s:Int)∣co u j)->False)/\
 ∀c,c<w->∀n,au (Wm.length+1) (λt=>val n (((Wm++[q]).getD t []).getD c [])*val n (ws.getD t []))=0
theorem StG.few {pl:Int}(h:StG w B Wm cs pl):Wm.length<=w:=by
 obtain⟨a,b,d,_⟩:=h;rw[<-a];exact ot w 0 cs d λc e=>⟨aR _,by have:=b c e;omega⟩
theorem VqG.vb (P:PG w L e b l B D β)(h:VqG w L e b Wm q)(hk:Wm.length<=5):VB w Wm L b:=⟨λv a=>(h.1 v a).1,λv a=>(h.1 v a).2,(),by have:=P.w5;omega,P.b0⟩
theorem VqG.vb1 (P:PG w L e b l B D β)(h:VqG w L e b Wm q)(hk:Wm.length<=5):VB w Wm (L+e) b:=⟨λv a=>(h.1 v a).1,λv a f c=>⟨((h.1 v a).2 f c).1,by have:=((h.1 v a).2 f c).2.1;omega,((h.1 v a).2 f c).2.2⟩,(),by have:=P.w5;omega,P.b0⟩
theorem VqG.vbq (P:PG w L e b l B D β)(h:VqG w L e b Wm q)(hk:Wm.length<=5):VB w (Wm++[q]) (L+e) b:=by
 have c:=h.vb1 P hk;refine⟨λv a=>?_,λv a=>?_,by simp;omega,by have:=P.w5;omega,P.b0⟩
 ·rcases a8.mp a with z|z
  ·exact c.wid v z
  ·rw[aW.mp z];exact h.2.1
 ·rcases a8.mp a with z|z
  ·exact c.nml v z
  ·rw[aW.mp z];exact h.2.2
theorem Oy (W:∀v∈Wm++[q],v.length=w)(kw:Wm.length<=w)(p:Int):val p (mkP w Wm cs q (w+Wm.length))=mi (bW w Wm p) cs Wm.length:=by
 rw[ow W kw];obtain⟨d,_,b⟩:=i0 (rs:=bW w Wm p) (cs:=cs) Wm.length (co (cn w q Wm.length p));have lr:=jb (w:=w) (Wm:=Wm) (p:=p);rw[b,ky (W q (by simp)) kw,if_pos rfl,md _ _ λr c=>by
  obtain⟨l,a,rfl⟩:=cm.mp (ik c);rw[jI a,ky (W _ (iC _ (mem_getD (by rw[lr]at a;exact a)))) kw,if_neg (by rw[lr]at a;omega)]]
 simp
theorem GJ (w:Nat)(Wm:ax)(q:ac):bN w (Wm++[q])=bN w Wm++[ck w q Wm.length]:=by
 unfold bN;rw[b4,show Wm.length+[q].length=Wm.length+1 from rfl,fL,aT];congr 1
 ·refine eK λi hi=>?_;have:=cU.mp hi;rw[aq,cA this,aq]
 ·simp
theorem mh (g:VB w (Wm++[q]) (L+e) b){r:Rp}(j:r∈bN w (Wm++[q]))(c:Nat):Nml (r c)/\(c<w->(r c).length<=L+e/\∀z∈r c,Bd b z)/\(w<=c->(r c).length<=1/\∀z∈r c,z.natAbs<=1):=by
 unfold bN at j;obtain⟨i,hi,rfl⟩:=aZ.mp j;have k:=mem_getD (d:=([]:ac)) (cU.mp hi);unfold ck
 split
 ·rename_i a;obtain⟨m,n,o⟩:=g.nml _ k _ (mem_getD (d:=([]:aa)) (show c<((Wm++[q]).getD i []).length by rw[g.wid _ k];exact a));exact⟨m,λ_=>⟨n,o⟩,λh=>by omega⟩
 ·rename_i a
  split
  ·exact⟨fj (),λh=>absurd h a,λ_=>⟨by simp,λz f=>by rw[aW.mp f];decide⟩⟩
  ·exact⟨b_,λh=>absurd h a,λ_=>⟨by simp,λz f=>by simp at f⟩⟩
theorem oy {k:Nat}{c:Nat}(a:c∈cr cs k):c∈cs:=by
 unfold cr at a;exact ik (mF.mp a)
theorem AO (k:Nat):(cr cs k).length<=k:=by unfold cr;rw[oZ,bX];omega
theorem GK (P:PG w L e b l B D β)(V:VqG w L e b Wm q)(kw:Wm.length<=w)(n:∀c∈cs,c<w)(t:Nat):(mkP w Wm cs q (w+t)).length<=D+1:=by
 have w5:=P.w5;have o:=V.vbq P ();obtain⟨a,j⟩:∃a:Rp->Nat,∀r,a r=if r (w+Wm.length)=[] then L-1 else L-1+e:=⟨_,λ_=>rfl⟩
 have y:∀i,i<Wm.length->a (ck w (Wm.getD i []) i)=L-1:=λi hi=>by
  rw[j,if_pos];unfold ck;rw[if_neg (),if_neg ()]
 have C:a (ck w q Wm.length)=L-1+e:=by
  rw[j,if_neg];unfold ck;rw[if_neg (),if_pos rfl];simp
 have p:gj a (bN w (Wm++[q]))=Wm.length*(L-1)+(L-1+e):=by
  rw[GJ];unfold gj;rw[aT,gx,jh,C];have:(bN w Wm).map a=bI Wm.length (L-1):=by
   unfold bN;rw[jg];refine QK.mpr ⟨by simp,λx hx=>?_⟩;obtain⟨i,hi,rfl⟩:=aZ.mp hx;exact y i (cU.mp hi)
  rw[this,Jn];simp
 have all:∀r∈bN w (Wm++[q]),L-1<=a r/\∀c,c<w->(r c).length<=a r+1:=λr h=>by
  rw[GJ]at h;rcases a8.mp h with z|z
  ·unfold bN at z;obtain⟨i,hi,rfl⟩:=aZ.mp z;have k:=cU.mp hi;rw[y i k];refine⟨aA _,λc g=>?_⟩;have F:=mem_getD (d:=([]:ac)) k;unfold ck;rw[if_pos g];have:=((V.1 _ F).2 _ (mem_getD (d:=([]:aa)) (show c<(Wm.getD i []).length by rw[(V.1 _ F).1];exact g))).2.1;omega
  ·rw[aW.mp z,C];refine⟨(),λc g=>?_⟩;unfold ck;rw[if_pos g];have:=(V.2.2 _ (mem_getD (d:=([]:aa)) (show c<q.length by rw[V.2.1];exact g))).2.1;have:=P.L1;omega
 have G:=ma (c:=w+t) (D:=Wm.length*(L-1)+e) (bN w (Wm++[q])) [] (dtp (cr cs Wm.length)) (ia _) λpre r f s=>by
  have h:r∈bN w (Wm++[q]):=by rw[s];simp
  refine⟨(mh o h _).1,λ_=>?_⟩;have I:=((mh o h (w+t)).2.2 ()).1;have J:=ul a (cr cs Wm.length) (pre++f) λx hx c g=>by
   have m:x∈bN w (Wm++[q]):=by
    rw[s];rcases a8.mp hx with z|z
    ·simp[z]
    ·simp[z]
   exact⟨(mh o m c).1,(all x m).2 c (n c (oy g))⟩
  have M:gj a (pre++f)+a r=Wm.length*(L-1)+(L-1+e):=by
   rw[<-p,s];unfold gj;simp only[aT,gx,dY,iM];omega
  have:=(all r h).1;rw[gk];omega
 have H:(mkP w Wm cs q (w+t))=iop (w+t) (bN w (Wm++[q])) (λu=>dtp (cr cs Wm.length) ([]++u)):=rfl;rw[H];have O:=dA (L-1) kw;have:=P.dD;omega
theorem GL (P:PG w L e b l B D β)(V:VqG w L e b Wm q)(kw:Wm.length<=w)(a:∀c∈cs,c<w)(t:Nat):∀z∈mkP w Wm cs q (w+t),Bd β z:=λz d=>by
 have w5:=P.w5;have h:=V.vbq P ();have lr:(bN w (Wm++[q])).length=Wm.length+1:=by unfold bN;simp
 have f:=AH (c:=w+t) (M:=1) (L:=1) (Fb:=(2 ^ 3*(2 ^ l*2 ^ b)) ^ Wm.length) (bN w (Wm++[q])) (dtp (cr cs Wm.length)) (λu m i y hy=>by
  have:=Gj (N:=2 ^ 3) (M:=2 ^ b) (L:=2 ^ l) (cr cs Wm.length) u () (λr g c j=>by
   have:=(mh h (i r g) c).2.1 (a c (oy j));exact⟨aM this.1 P.Ll,λz d=>dm (this.2 z d)⟩) y hy
  refine aM this (e9 (gM () (gM (dG _) (dG _))) (AO _))) (λr g=>by
  exact (mh h g (w+t)).2.2 ()) z d
 show z.natAbs<2 ^ β;refine ca f ?_;rw[lr,eI,eI,<-du,<-du,<-mN];have k:(3+(l+b))*Wm.length<=(3+l+b)*w:=by rw[Nat.add_assoc];exact dZ _ kw
 refine ca (dJ (show Wm.length+1<=2 ^ 3 by omega) (e9 () k)) ?_;rw[<-du];exact mH () (by have:=P.bb;omega)
theorem AQ (W:∀v∈Wm,v.length=w){p:Int}{j:Nat}(a:j<w)(F:aH):dot ((aJ Wm.length).map F) (bW w Wm p) j=au Wm.length λx=>F x*val p ((Wm.getD x []).getD j []):=by
 rw[Gv];have:(bW w Wm p).map (λr=>r j)=(aJ Wm.length).map λx=>val p ((Wm.getD x []).getD j []):=by
  unfold bW;rw[jg];refine eK λx hx=>?_;have b:=mem_getD (d:=([]:ac)) (cU.mp hx);show co (cn w (Wm.getD x []) x p) j=_;rw[AC #v[W _ b,a]]
 rw[this,GB]
theorem Oz (W:∀v∈Wm++[q],v.length=w)(kw:Wm.length<=w){c:Nat}(a:c<w)(n:Int):au (Wm.length+1) (λt=>val n (((Wm++[q]).getD t []).getD c [])*val n (mkP w Wm cs q (w+t)))=val n (mkP w Wm cs q c):=by
 rw[Op W kw n c,AQ (λv b=>W v (iC _ b)) a,AC (by rw[W q (by simp)];exact a),lE];congr 1
 ·refine cB λx hx=>?_;rw[cw,aq (l:=Wm++[q]),cA hx,<-aq]
 ·rw[aq (l:=Wm++[q]),cQ (aA _),fB,cw];rfl
end
section
variable {w L e b l B D β:Nat}{Wm:ax}{cs:aw}{q:ac}{pl:Int}
theorem PG.at (P:PG w L e b l B D β)(S:StG w B Wm cs pl)(hk:Wm.length<=w){t:Nat}(c:t<=B):Bd 9 (pl+(t:Int)):=by
 obtain⟨_,_,_,d,f,_⟩:=S;have a:=P.pl;have g:(B:Int)*(Wm.length:Int)<=(B:Int)*(w:Int):=mE () ();rw[Ji,kP]at a;have h:((B*w:Nat):Int)=(B:Int)*(w:Int):=fm _ _;exact Bd.of_lt (m:=512) () ()
theorem OA (P:PG w L e b l B D β)(S:StG w B Wm cs pl)(V:VqG w L e b Wm q){c:Nat}(C:c<w)(F:c∉cs)(i:mkP w Wm cs q c≠[]):∃N,N<=B/\(∀t:Nat,t<=N->TBd w (Wm++[q]) (cs++[c]) (pl+(t:Int)))/\Piv w (Wm++[q]) (cs++[c]) (pl+(N:Int)) (Wm.length+1):=by
 have kw:=S.few;have w5:=P.w5;obtain⟨k,a,nd,G,H,pv⟩:=S;have m:=V.vb P ();have n:=V.vbq P ();have I:Wm.length+1<=w:=by
  have:=ot w 0 (c :: cs) (kH.mpr ⟨F,nd⟩) λx hx=>⟨aR _,by
   rcases bj.mp hx with z|z
   ·omega
   ·have:=a x z;omega⟩
  rw[cC]at this;omega
 obtain⟨d,p,s,X,J⟩:=places (L:=L) m.wid (λv h f u=>⟨(m.nml v h f u).1,(m.nml v h f u).2.1⟩) kw k a pv;have lc:(mkP w Wm cs q c).length<=(Wm.length+1)*(L+e-1)+1:=by
  have:=uk (λ_=>L+e-1) (c :: cr cs Wm.length) (bN w (Wm++[q])) λr M j g=>by
   have o:=mh n M j;have:j<w:=by
    rcases bj.mp g with z|z
    ·omega
    ·exact a j (oy z)
   exact⟨o.1,by have:=(o.2.1 this).1;omega⟩
  have Y:(oV (λ_:Nat=>L+e-1) (c :: cr cs Wm.length)).sum<=(Wm.length+1)*(L+e-1):=by
   rw[List.map_const',Jn,cC];exact dA _ (by have:=AO (cs:=cs) Wm.length;omega)
  unfold mkP;omega
 have y:Nml (mkP w Wm cs q c):=ia _ _;have O:=gG p y s i;have Q:(pdL d (mkP w Wm cs q c)).length<=B+1:=by
  have o:=(eH p y s i).1;have Z:Wm.length*(Wm.length*(L-1))<=w*(w*(L-1)):=dJ kw (dA _ kw);have h3:(Wm.length+1)*(L+e-1)<=w*(L+e-1):=dA _ I;have:=P.pls;omega
 obtain⟨N,R,h⟩:=AB (cI d (mkP w Wm cs q c)) O pl Q;rw[a7]at h;have T:val (pl+(N:Int)) d≠0:=λz=>h (by rw[z];simp);have U:val (pl+(N:Int)) (mkP w Wm cs q c)≠0:=λz=>h (by rw[z];simp);have pn:=J _ T;refine⟨N,R,λt ht=>n.tbd (P.at ⟨k,a,nd,G,H,pv⟩ kw ()) P.b1 (by have:=P.L40;omega) P.b2 (λj g=>?_) (by simp[k]),F9 k pn ?_⟩
 ·rcases a8.mp g with z|z
  ·exact a j z
  ·rw[aW.mp z];exact C
 ·rw[AJ n.wid kw () pn];exact U
end
section
variable {w L e b l B D β:Nat}{Wm:ax}{cs:aw}{q:ac}{pl:Int}
theorem GM {few:aw}(a:∀v∈Wm,v.length=w/\∀f∈v,Nml f/\f.length<=L/\∀c∈f,Bd b c)(d:∀i∈few,i<Wm.length):∀v∈few.map (λi=>Wm.getD i []),v.length=w/\∀f∈v,Nml f/\f.length<=L/\∀c∈f,Bd b c:=λv h=>by
 obtain⟨i,hi,rfl⟩:=aZ.mp h;exact a _ (mem_getD (d i hi))
theorem AR {few:aw}{t:Nat}(a:t<few.length):(few.map λi=>Wm.getD i []).getD t []=Wm.getD few[t] []:=by
 rw[aq,aG,ao a];rfl
theorem GN {few:aw}(nd:few.Nodup)(a:∀i∈few,i<Wm.length)(ws:ac)(c:Nat)(n:Int):au few.length (λt=>val n ((Wm.getD (few.getD t 0) []).getD c [])*val n (ws.getD t []))=au Wm.length λx=>cf few ((aJ few.length).map λt=>val n (ws.getD t [])) x*val n ((Wm.getD x []).getD c []):=by
 rw[<-Gy (k:=Wm.length) (λx=>val n ((Wm.getD x []).getD c [])) few _ (by simp) a];have:few.map (λx=>val n ((Wm.getD x []).getD c []))=(aJ few.length).map λt=>val n ((Wm.getD (few.getD t 0) []).getD c []):=by
  refine ie (by simp) λt b d=>?_;rw[cE,cE,jR,aq (l:=few),ao (⇑b)];rfl
 rw[this,GB];exact cB λt _=>cw _ _
theorem GO {q:ac}{few:aw}{ws:ac}(c:Nat)(n:Int):au ((few.map λi=>Wm.getD i []).length+1) (λt=>val n (((few.map (λi=>Wm.getD i [])++[q]).getD t []).getD c [])*val n (ws.getD t []))=au few.length (λt=>val n ((Wm.getD (few.getD t 0) []).getD c [])*val n (ws.getD t []))+val n (q.getD c [])*val n (ws.getD few.length []):=by
 rw[af,lE];congr 1
 ·refine cB λt a=>?_;rw[aq (l:=_++[q]),cA (⇑a),<-aq,AR a,aq (l:=few),ao a];rfl
 ·rw[aq (l:=_++[q]),cQ (by simp)];simp
theorem OB (P:PG w L e b l B D β)(S:StG w B Wm cs pl)(k:∀v∈Wm,v.length=w/\∀f∈v,Nml f/\f.length<=L/\∀c∈f,Bd b c){few:aw}{j:Nat}(nd:few.Nodup)(H:∀i∈few,i<Wm.length)(q:j<Wm.length)(m:j∉few){ws:ac}{u:aa}(I:Nml u)(u0:u≠[])(h:∀c,c<w->∀n,au few.length (λt=>val n ((Wm.getD (few.getD t 0) []).getD c [])*val n (ws.getD t []))+val n ((Wm.getD j []).getD c [])*val n u=0):False:=by
 have kw:=S.few;have w5:=P.w5;obtain⟨r,g,_,T,U,pv⟩:=S;have W:∀v∈Wm,v.length=w:=λv a=>(k v a).1;obtain⟨d,J,M,X,O⟩:=places (L:=L) W (λv a f s=>⟨((k v a).2 f s).1,((k v a).2 f s).2.1⟩) kw r g pv;obtain⟨N,_,o⟩:=AB (cI d u) (gG J I M u0) 0 (uJ _);rw[a7]at o;have Q:val (0+(N:Int)) d≠0:=λz=>o (by rw[z];simp);have Y:val (0+(N:Int)) u≠0:=λz=>o (by rw[z];simp);generalize (0+(N:Int))=p at *;obtain⟨G,y⟩:∃G:aH,∀x,G x=cf few ((aJ few.length).map λt=>val p (ws.getD t [])) x+if x=j then val p u else 0:=⟨_,λ_=>rfl⟩
 have all:=Gu W () r (O _ Q) (ms:=(aJ Wm.length).map G) (by simp) (λc C=>by
  rw[AQ W (g c C)];have F:=h c (g c C) p;rw[GN nd H]at F;have R:au Wm.length (λx=>G x*val p ((Wm.getD x []).getD c []))=au Wm.length (λx=>cf few ((aJ few.length).map λt=>val p (ws.getD t [])) x*val p ((Wm.getD x []).getD c []))+au Wm.length (λx=>if x=j then val p ((Wm.getD x []).getD c [])*val p u else 0):=by
   rw[<-jy];exact cB λx _=>by rw[y];split <;> grind
  rw[R,Gx q];exact F) (G j) (aZ.mpr ⟨j,cU.mpr q,rfl⟩)
 rw[y,um _ _ _ m,if_pos rfl]at all;omega
end
section
variable {w:Nat}{Wm:ax}{cs:aw}{q:ac}
def dgS (ds:Nat->Nat)(m t:Nat):Nat:=((aJ m).map λs=>if s=t then 0 else ds s).sum
theorem AS (ds:Nat->Nat)(m t:Nat)(h:t<m):dgS ds m t+ds t=((aJ m).map ds).sum:=by
 unfold dgS
 induction m with
 | zero=>omega
 | succ m ih=>
  rw[fL,aT,aT,gx,gx,jh,jh,mO,mO];by_cases z:m=t
  ·subst z;rw[if_pos rfl];have:(aJ m).map (λs=>if s=m then 0 else ds s)=(aJ m).map ds:=eK λs hs=>by
    have:=cU.mp hs;rw[if_neg ()]
   rw[this];omega
  ·rw[if_neg z];have:=ih ();omega
theorem uq {v:ac}{s t:Nat}:ck w v s (w+t)=if t=s then [1] else []:=by
 unfold ck;rw[if_neg ()];by_cases z:t=s
 ·rw[if_pos z,if_pos ()]
 ·rw[if_neg z,if_neg ()]
theorem OC {ds:Nat->Nat}(V:∀s v,(Wm++[q])[s]?=some v->v.length=w/\∀f∈v,Nml f/\f.length<=ds s+1)(p:∀c∈cs,c<w){t:Nat}(I:t<Wm.length+1):(mkP w Wm cs q (w+t)).length<=dgS ds (Wm.length+1) t+1:=by
 have ln:(Wm++[q]).length=Wm.length+1:=by simp
 obtain⟨g,u⟩:∃g:Rp->Nat,∀r,g r=((aJ (Wm.length+1)).map λs=>if r (w+s)=[] then 0 else ds s).sum:=⟨_,λ_=>rfl⟩
 have y:∀s v,s<Wm.length+1->g (ck w v s)=ds s:=λs v hs=>by
  rw[u];have e:(aJ (Wm.length+1)).map (λb=>if ck w v s (w+b)=[] then 0 else ds b)=(aJ (Wm.length+1)).map (λb=>if b=s then ds s else 0):=eK λb _=>by
   rw[uq];by_cases z:b=s
   ·rw[if_pos z,if_neg (by simp),if_pos z,z]
   ·rw[if_neg z,if_pos rfl,if_neg z]
  rw[e];clear e;have:∀m,s<m->((aJ m).map λb=>if b=s then ds s else 0).sum=ds s:=λm=>by
   induction m with
   | zero=>intro h;omega
   | succ m ih=>
    intro h;rw[fL,aT,gx,jh,mO];by_cases z:m=s
    ·subst z;rw[if_pos rfl];have:(aJ m).map (λb=>if b=m then ds m else 0)=bI m 0:=QK.mpr ⟨by simp,λx hx=>by
      obtain⟨b,a,rfl⟩:=aZ.mp hx;have:=cU.mp a;rw[if_neg ()]⟩
     rw[this,Jn];omega
    ·rw[if_neg z,ih ()];omega
  exact this _ hs
 have rows:bN w (Wm++[q])=(aJ (Wm.length+1)).map λi=>ck w ((Wm++[q]).getD i []) i:=by unfold bN;rw[ln]
 have B:gj g (bN w (Wm++[q]))=((aJ (Wm.length+1)).map ds).sum:=by
  rw[rows];unfold gj;rw[jg];congr 1;exact eK λs hs=>y s _ (cU.mp hs)
 have all:∀r∈bN w (Wm++[q]),∃s,s<Wm.length+1/\g r=ds s/\(∀t,r (w+t)=if t=s then [1] else [])/\∀c,c<w->Nml (r c)/\(r c).length<=g r+1:=λr n=>by
  rw[rows]at n;obtain⟨s,hs,rfl⟩:=aZ.mp n;have a:=cU.mp hs;refine⟨s,a,y s _ a,λt=>uq,λc o=>?_⟩;rw[y s _ a];have J:(Wm++[q])[s]?=some ((Wm++[q]).getD s []):=by
   rw[aq,ao #v[ln,a]];rfl
  obtain⟨L,M⟩:=V s _ J;unfold ck;rw[if_pos o];exact M _ (mem_getD (d:=([]:aa)) #v[L,o])
 have C:=ma (c:=w+t) (D:=dgS ds (Wm.length+1) t) (bN w (Wm++[q])) [] (dtp (cr cs Wm.length)) (ia _) λpre r j F=>by
  have n:r∈bN w (Wm++[q]):=by rw[F];simp
  obtain⟨s,P,Q,G,R⟩:=all r n;refine⟨?_,λk=>?_⟩
  ·rw[G];split
   ·exact fj ()
   ·exact b_
  have st:t=s:=by
   rw[G]at k;by_cases z:t=s
   ·exact z
   ·rw[if_neg z]at k;exact absurd rfl k
  subst st;have S:(r (w+t)).length=1:=by rw[G,if_pos rfl];rfl
  have T:=ul g (cr cs Wm.length) (pre++j) λx hx c o=>by
   have H:x∈bN w (Wm++[q]):=by
    rw[F];rcases a8.mp hx with z|z
    ·simp[z]
    ·simp[z]
   obtain⟨_,_,_,_,O⟩:=all x H;exact O c (p c (oy o))
  have U:gj g (pre++j)+g r=((aJ (Wm.length+1)).map ds).sum:=by
   rw[<-B,F];unfold gj;simp only[aT,gx,dY,iM];omega
  have X:=AS ds (Wm.length+1) t I;rw[gk];omega
 exact C
end
def prR (M:Rp->Nat)(l:List Rp):Nat:=l.foldr (λr a=>M r*a) 1
theorem ur (M:Rp->Nat)(r:Rp)(a:List Rp):∀pre:List Rp,prR M (pre++r :: a)=M r*prR M (pre++a)
 | []=>rfl
 | x :: pre=>by
  show M x*prR M (pre++r :: a)=M r*(M x*prR M (pre++a));rw[ur M r a pre];grind
theorem AT {c X:Nat}:∀(w b:List Rp)(F:List Rp->aa),(∀pre r a,w=pre++r :: a->∀j,(co (pdL (r c) (F (b++pre++a))) j).natAbs<=X)->∀j,(co (iop c w λu=>F (b++u)) j).natAbs<=w.length*X
 | [],_,_,_,j=>by simp[iop,co]
 | r :: w,b,F,h,j=>by
  have f:=AT w (b++[r]) F (λpre g a e j=>by
   have:=h (r :: pre) g a (by rw[e];rfl) j
   rwa [show b++(r :: pre)++a=b++[r]++pre++a by simp]at this) j
  have d:=h [] r w rfl j;rw[mo]at d;have i:co (pdL [(-1) ^ w.length] (pdL (r c) (F (b++w)))) j=(-1) ^ w.length*co (pdL (r c) (F (b++w))) j:=by
   rw[<-dN];exact fh (λn=>by rw[a7,bL];simp[val]) j
  rw[iop,cC,gP,eI];unfold gi;rw[cL,fH,i];have k:((-1:Int) ^ w.length*co (pdL (r c) (F (b++w))) j).natAbs<=X:=by
   rw[b6,Bs]
   simpa using d
  have m:(λu=>F (b++r :: u))=λu=>F (b++[r]++u):=by funext u;simp
  have o:(co (iop c w λu=>F (b++r :: u)) j).natAbs<=w.length*X:=by rw[m];exact f
  have:=ib ((-1:Int) ^ w.length*co (pdL (r c) (F (b++w))) j) (co (iop c w λu=>F (b++r :: u)) j);exact aM this #v[mv (w.length*X),kJ k o]
theorem GP {N L:Nat}(M:Rp->Nat):∀(d:aw)(l:List Rp),l.length<=N->(∀r∈l,∀c∈d,(r c).length<=L/\∀z∈r c,z.natAbs<=M r)->∀j,(co (dtp d l) j).natAbs<=N ^ d.length*prR (λr=>L*M r) l
 | [],[],_,_,j=>by
  have:(co (dtp [] []) j).natAbs<=1:=cN (P:=λz=>z.natAbs<=1) (xs:=dtp [] []) (by simp[dtp]) (by simp) j
  simpa [prR] using this
 | [],r :: l,_,h,j=>by
  have:(co (dtp [] (r :: l)) j).natAbs=0:=by simp[dtp,co]
  rw[this];exact aR _
 | c :: d,l,hl,hb,j=>by
  have f:=AT (c:=c) (X:=N ^ d.length*prR (λr=>L*M r) l) l [] (dtp d) (λpre r a e j=>by
   have k:r∈l:=by rw[e];simp
   have sub:∀x∈pre++a,x∈l:=λx hx=>by
    rw[e];rcases a8.mp hx with z|z
    ·simp[z]
    ·simp[z]
   have m:(pre++a).length<=N:=by
    have:l.length=pre.length+(a.length+1):=by rw[e];simp
    rw[b4];omega
   have i:=GP M d (pre++a) m λx hx n g=>hb x (sub x hx) n (cX _ g);obtain⟨o,p⟩:=hb r k c dr;rw[gk,e,ur];generalize prR (λr=>L*M r) (pre++a)=Z at i;have b:=cN (P:=λz=>z.natAbs<=(r c).length*(M r*(N ^ d.length*Z))) (Az p (cu i)) (by simp) j;refine aM b (aM (dA _ o) (kG ?_));grind) j
  show (co (iop c l λu=>dtp d ([]++u)) j).natAbs<=_;refine aM f (aM (dA _ hl) (kG ?_));rw[cC,iF];grind
section
variable {w:Nat}{Wm:ax}{cs:aw}{q:ac}
def pA (ms:Nat->Nat):Nat->Nat
 | 0=>1
 | m+1=>pA ms m*ms m
def pS (ms:Nat->Nat)(t:Nat):Nat->Nat
 | 0=>1
 | m+1=>pS ms t m*(if m=t then 1 else ms m)
theorem GQ {ms:Nat->Nat}{t:Nat}:∀m,m<=t->pS ms t m=pA ms m
 | 0,_=>rfl
 | m+1,h=>by
  show pS ms t m*_=pA ms m*ms m;rw[GQ m (),if_neg ()]
theorem GR {ms:Nat->Nat}{t:Nat}:∀m,t<m->pS ms t m*ms t=pA ms m
 | 0,h=>by omega
 | m+1,h=>by
  show pS ms t m*_*ms t=pA ms m*ms m;by_cases z:m=t
  ·subst z;rw[if_pos rfl,kP,GQ m (aA _)]
  ·rw[if_neg z,gQ,fW (ms m),<-gQ,GR m ()]
theorem GS (M:Rp->Nat)(g:Nat->Rp)(ms:Nat->Nat):∀m,(∀s,s<m->M (g s)=ms s)->prR M ((aJ m).map g)=pA ms m
 | 0,_=>rfl
 | m+1,h=>by
  rw[fL,aT,jh,ur,mo,GS M g ms m λs hs=>h s (),h m ()];exact fW _ _
theorem OD {ms:Nat->Nat}{L:Nat}(L1:1<=L)(H:∀s,1<=ms s)(V:∀s v,(Wm++[q])[s]?=some v->v.length=w/\∀f∈v,f.length<=L/\∀z∈f,z.natAbs<=ms s)(B:∀c∈cs,c<w){t:Nat}(I:t<Wm.length+1):∀j,(co (mkP w Wm cs q (w+t)) j).natAbs<=(Wm.length+1)*((Wm.length+1) ^ Wm.length*pS (λs=>L*ms s) t (Wm.length+1)):=λj=>by
 have ln:(Wm++[q]).length=Wm.length+1:=by simp
 obtain⟨M,J⟩:∃M:Rp->Nat,∀r,M r=pA (λs=>if r (w+s)=[] then 1 else ms s) (Wm.length+1):=⟨_,λ_=>rfl⟩
 have C:∀s v,s<Wm.length+1->M (ck w v s)=ms s:=λs v hs=>by
  rw[J];have:∀m,(s<m->pA (λk=>if ck w v s (w+k)=[] then 1 else ms k) m=ms s)/\(m<=s->pA (λk=>if ck w v s (w+k)=[] then 1 else ms k) m=1):=λm=>by
   induction m with
   | zero=>exact⟨λh=>by omega,λ_=>rfl⟩
   | succ m ih=>
    have e:(if ck w v s (w+m)=[] then 1 else ms m)=if m=s then ms m else 1:=by
     rw[uq];by_cases z:m=s
     ·rw[if_pos z,if_neg (by simp),if_pos z]
     ·rw[if_neg z,if_pos rfl,if_neg z]
    refine⟨λh=>?_,λh=>?_⟩
    ·show pA _ m*(if ck w v s (w+m)=[] then 1 else ms m)=_;rw[e];by_cases z:m=s
     ·rw[if_pos z,ih.2 (),z,eI]
     ·rw[if_neg z,ih.1 (),kP]
    ·show pA _ m*(if ck w v s (w+m)=[] then 1 else ms m)=_;rw[e,if_neg (),ih.2 ()]
  exact (this _).1 hs
 have rows:bN w (Wm++[q])=(aJ (Wm.length+1)).map λi=>ck w ((Wm++[q]).getD i []) i:=by unfold bN;rw[ln]
 have D:prR (λr=>L*M r) (bN w (Wm++[q]))=pA (λs=>L*ms s) (Wm.length+1):=by
  rw[rows];exact GS _ _ _ _ λs hs=>by rw[C s _ hs]
 have lr:(bN w (Wm++[q])).length=Wm.length+1:=by rw[rows];simp
 have all:∀r∈bN w (Wm++[q]),∃s,s<Wm.length+1/\M r=ms s/\(∀t,r (w+t)=if t=s then [1] else [])/\∀c,c<w->(r c).length<=L/\∀z∈r c,z.natAbs<=M r:=λr p=>by
  rw[rows]at p;obtain⟨s,hs,rfl⟩:=aZ.mp p;have g:=cU.mp hs;refine⟨s,g,C s _ g,λt=>uq,λc u=>?_⟩;rw[C s _ g];have O:(Wm++[q])[s]?=some ((Wm++[q]).getD s []):=by
   rw[aq,ao #v[ln,g]];rfl
  obtain⟨Q,R⟩:=V s _ O;unfold ck;rw[if_pos u];exact R _ (mem_getD (d:=([]:aa)) #v[Q,u])
 have o:=AT (c:=w+t) (X:=(Wm.length+1) ^ Wm.length*pS (λs=>L*ms s) t (Wm.length+1)) (bN w (Wm++[q])) [] (dtp (cr cs Wm.length)) (λpre r a y j=>by
  have p:r∈bN w (Wm++[q]):=by rw[y];simp
  obtain⟨s,s1,S,F,s4⟩:=all r p;rw[gk];by_cases st:t=s
  ·subst st;have sub:∀x∈pre++a,x∈bN w (Wm++[q]):=λx hx=>by
    rw[y];rcases a8.mp hx with z|z
    ·simp[z]
    ·simp[z]
   have T:(pre++a).length<=Wm.length+1:=by
    rw[y]at lr;simp at lr;rw[b4];omega
   have b:=GP (N:=Wm.length+1) (L:=L) M (cr cs Wm.length) (pre++a) T λx hx c u=>by
    obtain⟨_,_,_,_,U⟩:=all x (sub x hx);exact U c (B c (oy u))
   have Y:prR (λr=>L*M r) (pre++a)=pS (λs=>L*ms s) t (Wm.length+1):=by
    have G:=GR (ms:=λs=>L*ms s) (t:=t) (Wm.length+1) I;rw[<-D,y,ur,S,fW (pS _ _ _)]at G;exact (Bk (gM () (by have:=H t;omega)) G).symm
   rw[Y]at b;rw[F,if_pos rfl];have b1:=cN (P:=λz=>z.natAbs<=[(1:Int)].length*(1*((Wm.length+1) ^ (cr cs Wm.length).length*pS (λs=>L*ms s) t (Wm.length+1)))) (Az (M:=1) (λz Z=>by rw[aW.mp Z];decide) (cu b)) (by simp) j;refine aM b1 ?_;rw[mu,eI,eI];exact dA _ (e9 () (AO _))
  ·rw[F,if_neg st];have:(co (pdL ([]:aa) (dtp (cr cs Wm.length) (pre++a))) j).natAbs=0:=by
    have:∀n,val n (pdL ([]:aa) (dtp (cr cs Wm.length) (pre++a)))=val n []:=λn=>by rw[a7];simp[val]
    rw[fh this j];simp[co]
   rw[this];exact aR _) j
 rw[lr]at o;exact o
end
theorem uu (h:Nat->Nat):∀(k:Nat)(few:aw),few.Nodup->(∀i∈few,i<k)->(few.map h).sum<=((aJ k).map h).sum
 | 0,few,_,hf=>by
  have:few=[]:=List.eq_nil_iff_forall_not_mem.mpr λi hi=>by have:=hf i hi;omega
  rw[this];simp
 | k+1,few,nd,hf=>by
  rw[fL,aT,gx,jh,mO];by_cases z:k∈few
  ·have e:=((List.perm_cons_erase z).map h).sum_nat;rw[dY,iM]at e;have a:=uu h k (few.erase k) (nd.erase k) λi hi=>by
    have b:=hf i (List.mem_of_mem_erase hi);have c:=(List.Nodup.mem_erase_iff nd).mp hi;have:=c.1;omega
   omega
  ·have a:=uu h k few nd λi hi=>by
    have b:=hf i hi;have:i≠k:=λy=>z (y ▸ hi);omega
   omega
theorem OE {h:Nat->Nat}{k t:Nat}{few:aw}(nd:few.Nodup)(a:∀i∈few,i<k)(d:t<few.length):dgS (λs=>h (few.getD s 0)) few.length t<=dgS h k few[t]:=by
 have e:dgS (λs=>h (few.getD s 0)) few.length t=(few.map λs=>if s=few[t] then 0 else h s).sum:=by
  unfold dgS;congr 1;refine ie (by simp) λs b f=>?_;have hs:s<few.length:=by simpa using b
  rw[cE,cE,jR];have c:few.getD s 0=few[s]:=by rw[aq,ao hs];rfl
  show (if s=t then 0 else h (few.getD s 0))=_;rw[c];by_cases z:s=t
  ·subst z;rw[if_pos rfl,if_pos rfl]
  ·rw[if_neg z,if_neg λy=>z ((List.getElem_inj nd).mp y)]
 rw[e];exact uu _ k few nd a
theorem OF (h:Nat->Nat)(k:Nat):dgS h (k+1) k=((aJ k).map h).sum:=by
 have:=AS h (k+1) k ();rw[fL,aT,gx,jh,mO]at this;omega
theorem OG (h:Nat->Nat){k t:Nat}(a:t<k):dgS h (k+1) t=dgS h k t+h k:=by
 unfold dgS;rw[fL,aT,gx,jh,mO,if_neg ()]
def sS (g:ac->Nat)(Wm:ax)(q:ac)(t:Nat):Nat:=dgS (λs=>g ((Wm++[q]).getD s [])) (Wm.length+1) t
theorem GT {g:ac->Nat}{Wm:ax}{q:ac}{t:Nat}(a:t<Wm.length):sS g Wm q t=dgS (λs=>g (Wm.getD s [])) Wm.length t+g q:=by
 unfold sS;rw[OG _ a];congr 1
 ·unfold dgS;congr 1;refine eK λs hs=>?_;have:=cU.mp hs;show (if s=t then 0 else g ((Wm++[q]).getD s []))=if s=t then 0 else g (Wm.getD s [])
  rw[aq (l:=Wm++[q]),cA this,<-aq]
 ·rw[aq,cQ (aA _),fB];rfl
theorem GU {g:ac->Nat}{Wm:ax}{q:ac}:sS g Wm q Wm.length=((aJ Wm.length).map λs=>g (Wm.getD s [])).sum:=by
 unfold sS;rw[OF];congr 1;refine eK λs hs=>?_;have:=cU.mp hs;rw[aq,cA this,<-aq]
theorem GV {g:ac->Nat}{Wm:ax}{q:ac}{few:aw}(nd:few.Nodup)(c:∀i∈few,i<Wm.length){t:Nat}(b:t<few.length):sS g (few.map λi=>Wm.getD i []) q t<=sS g Wm q few[t]:=by
 rw[GT (⇑b),GT (c _ (bY b)),af];refine BB ?_ _;have e:dgS (λs=>g ((few.map λi=>Wm.getD i []).getD s [])) few.length t=dgS (λs=>g (Wm.getD (few.getD s 0) [])) few.length t:=by
  unfold dgS;congr 1;refine eK λs hs=>?_;have a:=cU.mp hs;show (if s=t then 0 else g ((few.map λi=>Wm.getD i []).getD s []))=if s=t then 0 else g (Wm.getD (few.getD s 0) [])
  rw[AR a,aq (l:=few),ao a];rfl
 rw[e];exact OE (h:=λs=>g (Wm.getD s [])) nd c b
theorem GW {g:ac->Nat}{Wm:ax}{q:ac}{few:aw}(nd:few.Nodup)(b:∀i∈few,i<Wm.length):sS g (few.map λi=>Wm.getD i []) q few.length<=sS g Wm q Wm.length:=by
 have a:=GU (g:=g) (Wm:=few.map λi=>Wm.getD i []) (q:=q);rw[af]at a;rw[a,GU];have e:((aJ few.length).map λs=>g ((few.map λi=>Wm.getD i []).getD s []))=few.map λi=>g (Wm.getD i []):=by
  refine ie (by simp) λs c d=>?_;have hs:s<few.length:=by simpa using c
  rw[cE,cE,jR,AR hs]
 rw[e];exact uu (λi=>g (Wm.getD i [])) _ few nd b
def mxl (xs:aw):Nat:=xs.foldr max 0
theorem AU {xs:aw}{x:Nat}(h:x∈xs):x<=mxl xs:=by
 induction xs with
 | nil=>simp at h
 | cons y ys ih=>
  show x<=max y (mxl ys);rcases bj.mp h with rfl|h
  ·exact Nat.le_max_left _ _
  ·exact aM (ih h) (Nat.le_max_right _ _)
def dv (v:ac):Nat:=mxl (v.map jM)-1
def bv (v:ac):Nat:=Nat.log2 (mxl (v.map λf=>mxl (f.map mQ)))+1
theorem GX {v:ac}{f:aa}(h:f∈v):f.length<=dv v+1:=by
 have:=AU (aZ.mpr ⟨f,h,rfl⟩:f.length∈v.map jM);unfold dv;omega
theorem GY {v:ac}{f:aa}(h:f∈v){z:Int}(a:z∈f):z.natAbs<=2 ^ bv v:=by
 have b:=AU (aZ.mpr ⟨z,a,rfl⟩:z.natAbs∈f.map mQ);have c:=AU (aZ.mpr ⟨f,h,rfl⟩:mxl (f.map mQ)∈v.map λf=>mxl (f.map mQ));have d:mxl (v.map λf=>mxl (f.map mQ))<2 ^ bv v:=Nat.lt_log2_self;omega
theorem GZ (b:Nat->Nat)(l t:Nat):∀m,pS (λs=>2 ^ l*2 ^ b s) t m=2 ^ dgS (λs=>l+b s) m t
 | 0=>rfl
 | m+1=>by
  show pS _ t m*(if m=t then 1 else 2 ^ l*2 ^ b m)=_;have e:dgS (λs=>l+b s) (m+1) t=dgS (λs=>l+b s) m t+if m=t then 0 else l+b m:=by
   unfold dgS;rw[fL,aT,gx,jh,mO]
  rw[e,GZ b l t m,du];congr 1;by_cases z:m=t
  ·rw[if_pos z,if_pos z]
  ·rw[if_neg z,if_neg z,du]
section
variable {w L e b l B D β:Nat}{Wm:ax}{cs:aw}{q:ac}
theorem OH (W:∀v∈Wm++[q],v.length=w/\∀f∈v,Nml f/\f.length<=2 ^ l)(p:Wm.length<=5)(a:∀c∈cs,c<w){t:Nat}(r:t<=Wm.length):(mkP w Wm cs q (w+t)).length<=sS dv Wm q t+1/\∀z∈mkP w Wm cs q (w+t),Bd (sS (λv=>l+bv v) Wm q t+3*Wm.length+4) z:=by
 have g:∀s v,(Wm++[q])[s]?=some v->(Wm++[q]).getD s []=v/\v∈Wm++[q]:=λs v h=>⟨by rw[aq,h];rfl,bT h⟩
 refine⟨OC (ds:=λs=>dv ((Wm++[q]).getD s [])) (λs v h=>?_) a (),cu λj=>?_⟩
 ·obtain⟨i,b⟩:=g s v h;refine⟨(W v b).1,λf d=>⟨((W v b).2 f d).1,?_⟩⟩;show f.length<=dv ((Wm++[q]).getD s [])+1;rw[i];exact GX d
 ·have e:=OD (ms:=λs=>2 ^ bv ((Wm++[q]).getD s [])) (L:=2 ^ l) (t:=t) (Wm:=Wm) (q:=q) (w:=w) (cs:=cs) (dG l) (λs=>dG _) (λs v h=>by
   obtain⟨i,b⟩:=g s v h;refine⟨(W v b).1,λf d=>⟨((W v b).2 f d).2,λz m=>?_⟩⟩;show z.natAbs<=2 ^ bv ((Wm++[q]).getD s []);rw[i];exact GY d m) a () j
  rw[GZ]at e;show (co (mkP w Wm cs q (w+t)) j).natAbs<2 ^ (sS (λv=>l+bv v) Wm q t+3*Wm.length+4);refine ca e ?_;have k:Wm.length+1<=2 ^ 3:=by omega
  have n:(Wm.length+1) ^ Wm.length<=2 ^ (3*Wm.length):=by rw[mN];exact mL k _
  refine ca (dJ k (dA _ n)) ?_;rw[<-du,<-du];have o:sS (λv=>l+bv v) Wm q t=dgS (λs=>l+bv ((Wm++[q]).getD s [])) (Wm.length+1) t:=rfl;rw[o];exact mH () ()
end
def PlB (D l:Nat)(Wm:ax)(q ws:ac):Prop:=∀t,t<=Wm.length->(ws.getD t []).length<=sS dv Wm q t+1/\∀c∈ws.getD t [],Bd (sS (λv=>l+bv v) Wm q t+3*Wm.length+4+12*D+7) c
def RlV (w D g l:Nat)(Wm:ax)(q ws:ac):Prop:=RlG w D g Wm q ws/\PlB D l Wm q ws/\NF ws
section
variable {w L e b l B D β:Nat}{Wm:ax}{cs:aw}{q:ac}{pl:Int}
theorem OI (P:PG w L e b l B D β)(S:StG w B Wm cs pl)(V:VqG w L e b Wm q):∃(o:ac)(Pn:Nat)(f:Nat->aa)(G:ac)(p0:aa)(T:Int),OcOk w Wm cs q o Pn/\Pn<=B/\(∀N,ui (Wm++[q]) cs N->0<=N/\N<60/\(∀g∈o,(g.length:Int)<=N+1)/\N<((plc w Wm cs Pn).length:Int))/\
  ((∀p∈o,p.length<=64/\Nml p/\∀c∈p,Bd 5000 c)/\(∀i,(f i).length<=64)/\f 0=[]/\(∀i r,o[i]?=some r->fQ (f i) r (f (i+1)))/\o.getLast?=some (p0++[T])/\f o.length≠[]/\Nml (f o.length)/\(∀c∈f o.length,Bd 8000 c)/\G.length=o.length/\(∀(i:Nat)(p q:aa),o[i]?=some p->G[i]?=some q->Nml q/\Div p (fT (decide (T<0)) (f o.length)) q))/\
  FcOk w (Wm++[q]) G/\((∀c,c<w->c∉cs->dV (Wm++[q]) G c (Wm.length+1)=[])->RlV w D (β+12*D+7) l Wm q G)/\
  ∀c,c<w->c∉cs->dV (Wm++[q]) G c (Wm.length+1)≠[]->∃N,N<=B/\(∀t:Nat,t<=N->TBd w (Wm++[q]) (cs++[c]) (pl+(t:Int)))/\Piv w (Wm++[q]) (cs++[c]) (pl+(N:Int)) (Wm.length+1):=by
 have kw:=S.few;have w5:=P.w5;have S0:=S;obtain⟨hl,H,nd,p1,p2,pv⟩:=S;have B0:=V.vb P ();have B1:=V.vb1 P ();have Bq:=V.vbq P ();have W:=Bq.wid;have D15:=P.D15;have big:=P.big;have bB:∀n:Nat,n<B->Bd 9 (n:Int):=λn U=>Bd.of_lt (m:=512) (by have:=P.pl;have:B<=B*(w+1):=iJ _ ();omega) ();obtain⟨d,d1,d2,d3,d4⟩:=places (L:=L) B0.wid (λv Q f I=>⟨(B0.nml v Q f I).1,(B0.nml v Q f I).2.1⟩) kw hl H pv;have pm:=N5 (w:=w) (Wm:=Wm) (cs:=cs) d1 d2 (Pn:=B) λn _ U=>d4 n U;have z2:Wm.length*(Wm.length*(L-1))<=w*(w*(L-1)):=dJ kw (dA _ kw);have pls:=P.pls;have v2:Wm.length*(L+e-1)<=w*(L+e-1):=dA _ kw;obtain⟨o,x1⟩:∃o,o=(aJ (Wm.length+1)).map λt=>mkP w Wm cs q (w+t):=⟨_,rfl⟩
 have x0:o.length=Wm.length+1:=by rw[x1,af,gw]
 have x:∀t,t<=Wm.length->o[t]?=some (mkP w Wm cs q (w+t)):=λt J=>by rw[x1,aG,ij ()];rfl
 have y1:∀g∈o,∃t,t<=Wm.length/\g=mkP w Wm cs q (w+t):=λg O=>by
  rw[x1]at O;obtain⟨t,J,rfl⟩:=aZ.mp O;exact⟨t,by have:=cU.mp J;omega,rfl⟩
 have sz:∀g∈o,Nml g/\g.length<=D+1/\∀z∈g,Bd β z:=λg O=>by
  obtain⟨t,_,rfl⟩:=y1 g O;exact⟨ia _ _,GK P V kw H t,GL P V kw H t⟩
 obtain⟨f,f0,fl,fs,nf,fz,fn⟩:=AN D15 sz big o.length (aA _);have tb:=kD B0.wid _ (aA _) () pv;have X:mkP w Wm cs q (w+Wm.length)≠[]:=λz=>tb.1 Wm.length (aA _) (by rw[<-Oy W kw,z];rfl);have Y:f o.length≠[]:=λz=>X (fz z Wm.length _ () (x _ (aA _)));obtain⟨tF,bF,us,u1,u2,u3,u4,u5⟩:=fn Y;obtain⟨F,hF⟩:∃F,F=f o.length:=⟨_,rfl⟩
 rw[<-hF]at nf Y tF bF u3;obtain⟨p0,T,ev⟩:∃p0 T,mkP w Wm cs q (w+Wm.length)=p0++[T]:=by
  cases z:(mkP w Wm cs q (w+Wm.length)).getLast? with
  | none=>rw[uW]at z;exact absurd z X
  | some a=>exact⟨_,a,(oW.mp z).choose_spec⟩
 obtain⟨σ,z1⟩:∃σ:Int,σ=if decide (T<0)=true then -1 else 1:=⟨_,rfl⟩
 have z0:σ=1\/σ=-1:=by rw[z1];split <;> simp
 have v1:σ≠0:=by rcases z0 with z|z <;> rw[z] <;> decide
 have k1:σ * σ=1:=by rcases z0 with z|z <;> rw[z] <;> rfl
 obtain⟨G,j0⟩:∃G,G=us.map λu=>u.map λz=>σ * z:=⟨_,rfl⟩
 have j1:G.length=o.length:=by rw[j0,af,u1]
 have Z:∀t,t<=Wm.length->∃u,us[t]?=some u/\Nml u/\G[t]?=some (u.map λz=>σ * z)/\G.getD t []=(u.map λz=>σ * z)/\∀n,val n (mkP w Wm cs q (w+t))=val n F*val n u:=λt J=>by
  have h1:t<us.length:=by omega
  have h2:G[t]?=some ((us[t]).map λz=>σ * z):=by rw[j0,aG,ao h1];rfl
  exact⟨us[t],ao h1,u2 _ (bY h1),h2,by rw[aq,h2];rfl,u3 t _ _ (x t J) (ao h1)⟩
 have m1:∀r∈G,Nml r/\r.length<=D+1/\∀c∈r,Bd (β+12*D+7) c:=λr hr=>by
  obtain⟨t,J,rfl⟩:=cm.mp hr;obtain⟨u,_,R,h3,_,h5⟩:=Z t ();rw[ao J]at h3;rw[Option.some.inj h3];have bu:u.length<=D+1/\∀z∈u,Bd (β+12*D+7) z:=by
   by_cases z:u=[]
   ·rw[z];exact⟨by simp,λz hz=>by simp at hz⟩
   ·have g0:=sz _ (bT (x t ()));have eg:pdL F u=mkP w Wm cs q (w+t):=cO (cI _ _) g0.1 λn=>by rw[a7,h5]
    have g1:mkP w Wm cs q (w+t)≠[]:=by rw[<-eg];exact gG nf R Y z
    have h6:=(eH nf R Y z).1;rw[eg]at h6;have:F.length≠0:=λy=>Y (bC y);have lu:u.length<=D+1:=by have:=g0.2.1;omega
    exact⟨lu,uo (t:=F) R g0.1 g1 D15 g0.2.1 lu g0.2.2 λn=>by rw[h5,cw]⟩
  refine⟨jH v1 R,#v[af,bu.1],λc C=>?_⟩;obtain⟨y,hy,rfl⟩:=aZ.mp C;rcases z0 with z|z
  ·rw[z,dS];exact bu.2 y hy
  ·rw[z,show (-1:Int)*y=-y by omega];exact (bu.2 y hy).neg
 have x2:PlB D l Wm q G:=λt J=>by
  obtain⟨u,_,R,_,h4,h5⟩:=Z t J;have own:=OH (l:=l) (w:=w) (Wm:=Wm) (q:=q) (cs:=cs) (λv Q=>⟨Bq.wid v Q,λf I=>⟨(Bq.nml v Q f I).1,aM (Bq.nml v Q f I).2.1 P.Ll⟩⟩) () H J;rw[h4,af];have bu:u.length<=sS dv Wm q t+1/\∀z∈u,Bd (sS (λv=>l+bv v) Wm q t+3*Wm.length+4+12*D+7) z:=by
   by_cases z:u=[]
   ·rw[z];exact⟨by simp,λz hz=>by simp at hz⟩
   ·have g0:=sz _ (bT (x t J));have eg:pdL F u=mkP w Wm cs q (w+t):=cO (cI _ _) g0.1 λn=>by rw[a7,h5]
    have g1:mkP w Wm cs q (w+t)≠[]:=by rw[<-eg];exact gG nf R Y z
    have h6:=(eH nf R Y z).1;rw[eg]at h6;have:F.length≠0:=λy=>Y (bC y);have lu:u.length<=D+1:=by have:=g0.2.1;omega
    exact⟨by have:=own.1;omega,uo (t:=F) R g0.1 g1 D15 g0.2.1 lu own.2 λn=>by rw[h5,cw]⟩
  refine⟨bu.1,λc C=>?_⟩;obtain⟨y,hy,rfl⟩:=aZ.mp C;rcases z0 with z|z
  ·rw[z,dS];exact bu.2 y hy
  ·rw[z,show (-1:Int)*y=-y by omega];exact (bu.2 y hy).neg
 have j2:β+12*D+7<=4480:=by omega
 have col:∀c,c<w->∀n,val n F*au (Wm.length+1) (λt=>val n (((Wm++[q]).getD t []).getD c [])*val n (G.getD t []))=σ * val n (mkP w Wm cs q c):=λc C n=>by
  rw[<-Oz W kw C n,<-e7,<-e7];refine cB λt J=>?_;obtain⟨u,_,_,_,h4,h5⟩:=Z t ();rw[h4,bL,h5];grind
 have k0:∀c,c<w->mkP w Wm cs q c=[]->∀n,au (Wm.length+1) (λt=>val n (((Wm++[q]).getD t []).getD c [])*val n (G.getD t []))=0:=λc C hz n=>by
  have h1:dV (Wm++[q]) G c (Wm.length+1)=[]:=by
   by_cases z:dV (Wm++[q]) G c (Wm.length+1)=[]
   ·exact z
   ·refine absurd (cO (cI F (dV (Wm++[q]) G c (Wm.length+1))) b_ λn=>?_) (gG nf (GA _ _ _ _) Y z);rw[a7,ox,col c C n,hz];simp[val]
  rw[<-ox,h1];rfl
 refine⟨o,B,f,G,p0,T,⟨(),kw,W,H,(),x0,by have:=P.pl;have:B<=B*(w+1):=iJ _ ();omega,λn U=>B1.tbd (bB n U) P.b1 (by have:=P.L40;omega) P.b2 H (),λn U pn=>B1.low (bB n U) P.b1 H (aA _) () pn V.2.1 λf I=>(V.2.2 f I).2,⟨by rw[V.2.1];omega,λf I=>⟨by have:=(V.2.2 f I).2.1;have:=P.L40;omega,λc C=>((V.2.2 f I).2.2 c C).mono P.b2⟩⟩,λn U pn i g O=>?_,λg O=>?_⟩,aA _,λN hN=>?_,⟨λg O=>?_,λi=>by have:=fl i;omega,f0,λi r hr=>fs i r (aY.mp hr).1 hr,?_,#v[<-hF,Y],#v[<-hF,nf],λc C=>(bF c #v[hF,C]).mono (),j1,λi a r ha hr=>?_⟩,⟨by rw[j1,x0];simp,by simp;omega,(),W,λv Q f I=>?_,λr hr=>?_⟩,λhz=>?_,λc C U y2=>?_⟩
 ·have hi:i<=Wm.length:=by have:=(aY.mp O).1;omega
  rw[x i hi]at O;rw[<-Option.some.inj O];exact AJ W kw () pn (w+i)
 ·obtain⟨t,J,rfl⟩:=y1 g O;refine⟨ia _ _,λn U=>?_⟩;refine (jE (k:=β) (l:=9) (bB n U) _ (GL P V kw H t)).mono ?_;have:=dZ (9+1) (GK (cs:=cs) P V kw H t);omega
 ·obtain⟨n0,n1,n2⟩:=Os (L:=L+e) W (λv Q f I=>⟨(Bq.nml v Q f I).1,(Bq.nml v Q f I).2.1⟩) kw hl H hN;have:=P.d60;refine⟨n0,(),λg O=>?_,()⟩;obtain⟨t,J,rfl⟩:=y1 g O;exact n2 t J
 ·have:=sz g O;exact⟨(),this.1,λc C=>(this.2.2 c C).mono ()⟩
 ·rw[fK,x0,mG,x _ (aA _),ev]
 ·have hi:i<=Wm.length:=by have:=(aY.mp ha).1;omega
  rw[x i hi]at ha;rw[<-Option.some.inj ha];obtain⟨u,_,R,h3,_,h5⟩:=Z i hi;rw[h3]at hr;rw[<-Option.some.inj hr];refine⟨jH v1 R,ir.mpr λn=>?_⟩;rw[<-hF,N_,<-z1,bL,h5];grind
 ·obtain⟨_,a2,a3⟩:=Bq.nml v Q f I;exact⟨by have:=P.L40;omega,λc C=>(a3 c C).mono P.b2⟩
 ·obtain⟨_,a2,a3⟩:=m1 r hr;exact⟨(),λc C=>(a3 c C).mono ()⟩
 ·refine⟨⟨by rw[j1,x0],m1,?_,λs hs h=>u4 s hs λu hu j=>?_,λc C n=>?_⟩,x2,λh nh h2 M M0 hh=>u5 h nh h2 (M * σ) (fX M0 v1) λu hu=>?_⟩
  ·obtain⟨u,_,R,_,h4,h5⟩:=Z Wm.length (aA _);rw[h4];have eg:pdL F u=p0++[T]:=cO (cI _ _) #v[<-ev,ia _ _] λn=>by rw[a7,<-h5,ev]
   have u0:u≠[]:=λz=>by rw[z]at eg;have:=congrArg jM eg;rw[show pdL F []=[] from cO (cI _ _) b_ λn=>by rw[a7];simp[val]]at this;simp at this
   have tt:=(eH nf R Y u0).2;rw[eg]at tt;have e1:co (p0++[T]) ((p0++[T]).length-1)=T:=by unfold co;simp
   rw[e1]at tt;obtain⟨v,y,rfl⟩:∃v y,u=v++[y]:=by
    cases z:u.getLast? with
    | none=>rw[uW]at z;exact absurd z u0
    | some a=>exact⟨_,a,(oW.mp z).choose_spec⟩
   have e2:co (v++[y]) ((v++[y]).length-1)=y:=by unfold co;simp
   rw[e2]at tt;have y0:y≠0:=d_.mp R y (by simp);refine⟨v.map λz=>σ * z,σ * y,by simp,?_⟩;rw[z1];generalize co F (F.length-1)=lf at tF tt;by_cases z:T<0
   ·have:y<0:=by
     refine Bz λh=>?_;have:=Bl (oR tF) h;omega
    simp[z];omega
   ·have:0<y:=by
     refine Bz λh=>?_;have:=uT tF (show 0 < -y by omega);rw[uQ]at this;omega
    simp[z];omega
  ·have:=h (u.map λz=>σ * z) #v[j0,aZ.mpr ⟨u,hu,rfl⟩] j;rw[dN]at this;obtain⟨y,hy⟩:=this;have h1:co u j=σ * (σ * co u j):=by rw[<-cD,k1,dS]
   exact⟨σ * y,by rw[h1,hy];grind⟩
  ·by_cases z:c∈cs
   ·exact k0 c C (Go z hl) n
   ·have:=hz c C z;rw[<-ox,this];rfl
  ·obtain⟨v,Q⟩:=hh (u.map λz=>σ * z) #v[j0,aZ.mpr ⟨u,hu,rfl⟩];exact⟨v,λn=>by rw[<-Q n,bL,cD]⟩
 ·refine OA P S0 V C U λz=>y2 ?_;refine cO (GA _ _ _ _) b_ λn=>?_;rw[ox,k0 c C z n];rfl
end
section
variable {w L e b l B D β:Nat}
theorem OJ (P:PG w L e b l B D β):SpTh w B w (StG w B) (VqG w L e b) (RlV w D (β+12*D+7) l) where
 b3:=P.b3
 k18:=by have:=P.w5;omega
 st0:=⟨rfl,by simp,kO,(),by simp,λi hi=>by simp at hi⟩
 stS:=λWm S pl q c t p _ o hn k pv=>by
  obtain⟨Y,C,nd,p1,p2,_⟩:=p;refine⟨by simp[Y],λc' O=>?_,?_,(),?_,#v[b4,pv]⟩
  ·rcases a8.mp O with z|z
   ·exact C c' z
   ·rw[aW.mp z];exact o
  ·exact jQ.mpr ⟨nd,by simp,λa ha b' z0 z=>hn (by rw[aW.mp z0]at z;rw[<-z];exact ha)⟩
  ·have I:((Wm++[q]).length:Int)=(Wm.length:Int)+1:=by simp
   rw[I,ig];omega
 bd:=λWm S pl q p m=>⟨p.few,m.2.1,λf T=>⟨by have:=(m.2.2 f T).2.1;have:=P.L40;omega,λc o=>((m.2.2 f T).2.2 c o).mono P.b2⟩⟩
 tb:=λWm S pl q p m=>by
  have kw:=p.few;have w5:=P.w5;have B1:=m.vb1 P ();have U:=P.at p kw (aR B);have J:pl+((0:Nat):Int)=pl:=by omega
  rw[J]at U;obtain⟨Y,C,nd,p1,p2,pv⟩:=p;exact⟨B1.tbd U P.b1 (by have:=P.L40;omega) P.b2 C (),pv,B1.low U P.b1 C (aA _) () pv m.2.1 λf T=>(m.2.2 f T).2⟩
 hit:=λWm S pl q c p m o h0=>by
  have kw:=p.few;have w5:=P.w5;have Bq:=m.vbq P ();have U:=P.at p kw (aR B);have J:pl+((0:Nat):Int)=pl:=by omega
  rw[J]at U;obtain⟨Y,C,nd,p1,p2,pv⟩:=p;refine⟨λhm=>h0 ?_,Bq.tbd U P.b1 (by have:=P.L40;omega) P.b2 (λc' O=>?_) (by simp[Y])⟩
  ·rw[AJ Bq.wid kw () pv,Go hm Y];rfl
  ·rcases a8.mp O with z|z
   ·exact C c' z
   ·rw[aW.mp z];exact o
 oc:=λWm S pl q p m _=>OI P p m
 sub:=λWm S pl q few p m Z G fl=>by
  have nd:few.Nodup:=Z.imp λh=>by omega
  refine⟨⟨GM m.1 G,m.2⟩,λi j Q=>?_⟩;have u0:=bT Q;have hj:=G j u0;have hi:=(aY.mp Q).1;have x0:∀x∈few.take i,x<Wm.length:=λx hx=>G x (ik hx);have hm:=mem_getD (d:=([]:ac)) hj;refine⟨⟨GM m.1 x0,(m.1 _ hm).1,λf T=>?_⟩,λws hR=>?_⟩
  ·obtain⟨a1,a2,a3⟩:=(m.1 _ hm).2 f T;exact⟨a1,(),a3⟩
  ·obtain⟨⟨h1,X,⟨p0,t0,h3,y0⟩,h4,h5⟩,_⟩:=hR;rw[af]at h1 h3;refine OB P p m.1 (few:=few.take i) (j:=j) (nd.sublist (IQ _ _)) x0 hj (λhx=>?_) (ws:=ws) (u:=ws.getD (few.take i).length []) (X _ (mem_getD ())).1 (by rw[h3];simp) λc o n=>?_
   ·obtain⟨t,k,et⟩:=cm.mp hx;rw[List.getElem_take]at et;have j0:t<i:=by rw[bX]at k;omega
    have:=oY.mp Z t i () hi j0;have e2:=(aY.mp Q).2;omega
   ·rw[<-GO];exact h5 c o n
 len:=λWm q ws hR=>hR.1.1
 up:=λWm S pl q few ws p m Z G fl hR=>by
  have nd:few.Nodup:=Z.imp λh=>by omega
  obtain⟨⟨h1,X,⟨p0,t0,h3,y0⟩,h4,h5⟩,hB,hN⟩:=hR;rw[af]at h1 h3;obtain⟨g1,g2,g3⟩:=GC (ws:=ws) Z G few.length (aA _);rw[e_]at g2;have H:∀t,t<few.length->(spw Wm.length few ws few.length).getD (few.getD t 0) []=ws.getD t []:=λt k=>by
   have I:few.getD t 0=few[t]:=by rw[aq,ao k];rfl
   rw[I,aq,g1 t k k];rfl
  have R:∀i,i<Wm.length->i∉few->(spw Wm.length few ws few.length).getD i []=[]:=λi hi hn=>by rw[aq,g2 i hi hn];rfl
  have F:(spw Wm.length few ws few.length).getD Wm.length []=ws.getD few.length []:=by rw[aq,g3];rfl
  have k0:PlB D l Wm q (spw Wm.length few ws few.length):=λi hi=>by
   have lf:few.length<=Wm.length:=by omega
   by_cases z:i=Wm.length
   ·rw[z,F];obtain⟨y1,y2⟩:=hB few.length #v[af,aA _];have s1:=GW (g:=dv) (q:=q) nd G;have s2:=GW (g:=λv=>l+bv v) (q:=q) nd G;rw[af]at y2;exact⟨(),λc o=>(y2 c o).mono ()⟩
   ·by_cases y:i∈few
    ·obtain⟨t,k,rfl⟩:=cm.mp y;have I:few.getD t 0=few[t]:=by rw[aq,ao k];rfl
     rw[<-I,H t k,I];obtain⟨y1,y2⟩:=hB t (by rw[af];omega);have s1:=GV (g:=dv) (q:=q) nd G k;have s2:=GV (g:=λv=>l+bv v) (q:=q) nd G k;rw[af]at y2;exact⟨(),λc o=>(y2 c o).mono ()⟩
    ·rw[R i () y];exact⟨by simp,λc o=>by simp at o⟩
  refine⟨⟨h_ _ _ _ _,λr hr=>?_,⟨p0,t0,by rw[F,h3],y0⟩,λs hs h=>h4 s hs λu hu=>?_,λc o n=>?_⟩,k0,λh nh X M M0 hh=>hN h nh X M M0 λu hu=>?_⟩
  ·obtain⟨i,hi,rfl⟩:=cm.mp hr;rw[h_]at hi;have J:(spw Wm.length few ws few.length)[i]'(#v[h_,hi])=(spw Wm.length few ws few.length).getD i []:=by rw[aq,ao #v[h_,hi]];rfl
   rw[J];by_cases z:i=Wm.length
   ·rw[z,F];exact X _ (mem_getD ())
   ·by_cases y:i∈few
    ·obtain⟨t,k,rfl⟩:=cm.mp y;have I:few.getD t 0=few[t]:=by rw[aq,ao k];rfl
     rw[<-I,H t k];exact X _ (mem_getD ())
    ·rw[R i () y];exact⟨b_,by simp,λc o=>by simp at o⟩
  ·obtain⟨t,k,rfl⟩:=cm.mp hu;have J:ws[t]=ws.getD t []:=by rw[aq,ao k];rfl
   rw[J];by_cases z:t<few.length
   ·rw[<-H t z];exact h _ (mem_getD (by rw[h_];have:=G (few.getD t 0) (mem_getD z);omega))
   ·rw[show t=few.length by omega,<-F];exact h _ (mem_getD (by rw[h_];omega))
  ·have h6:=h5 c o n;rw[GO,GN nd G]at h6;rw[lE,<-h6];congr 1
   ·refine cB λx hx=>?_;rw[aq (l:=Wm++[q]),cA hx,<-aq,cw];congr 1;by_cases y:x∈few
    ·obtain⟨t,k,rfl⟩:=cm.mp y;have I:few.getD t 0=few[t]:=by rw[aq,ao k];rfl
     rw[Gw few _ nd (by simp) t k (⇑k),cE,jR,<-H t k,I]
    ·rw[R x hx y,um _ _ _ y];rfl
   ·rw[F,aq (l:=Wm++[q]),cQ (aA _),fB];rfl
  ·obtain⟨t,k,rfl⟩:=cm.mp hu;have J:ws[t]=ws.getD t []:=by rw[aq,ao k];rfl
   rw[J];by_cases z:t<few.length
   ·rw[<-H t z];exact hh _ (mem_getD (by rw[h_];have:=G (few.getD t 0) (mem_getD z);omega))
   ·rw[show t=few.length by omega,<-F];exact hh _ (mem_getD (by rw[h_];omega))
end
def OK {K:ap}(w B KM:Nat)(St:ax->aw->Int->Prop)(Vq:ax->ac->Prop)(Rl:ax->ac->ac->Prop):Sp:=λvs H Q _=>∃(A:Addr)(us:am)(qs:ax),vs=[.ref A]/\SqL K H A (us.map Z')/\VL K H us qs/\(∀q,qs[0]?=some q->q.length=w)/\qs≠[]/\(∀(i:Nat)(q:ac)(cs:aw)(pl:Int),qs[i]?=some q->St (qs.take i) cs pl->Vq (qs.take i) q)/\
 (∀(H':Hp)(i:Nat)(q:ac)(D:Addr)(bs:am)(ws:ac)(cs:aw)(pl:Int),qs[i]?=some q->St (qs.take i) cs pl->Rl (qs.take i) q ws->Same H H'->H D=none->H' D=some (.lst (bs.map Z'))->LH H' bs ws->(∀b∈bs,H b=none)->D∉bs->Q (.ref D) H')/\
 (∀(H':Hp)(cs:aw)(pl:Int),St qs cs pl->Same H H'->Q .non H')
theorem OL {P:Program}{wd:World}{K:ap}{mg:bh}{base:Heap}(T:Tx K mg){w B r:Nat}{St:ax->aw->Int->Prop}{Vq:ax->ac->Prop}{Rl:ax->ac->ac->Prop}(Z:SpTh w B r St Vq Rl):FnOk P wd K mg base CX0 (2*(r+2)+10) T.SU T.SV ["vectors"] (OK (K:=K) w B r St Vq Rl):=by
 have F:=Gb (P:=P) (wd:=wd) (base:=base) T Z (r+2);refine T.Ux.ok tI (λq H Q E h=>?_) (λz0 A outer s H q Q E hr h=>?_)
 ·obtain⟨A,J,d,rfl,_⟩:=h;rfl
 obtain⟨A,J,d,rfl,L,U,hw,ne,X,q1,q2⟩:=h;refine⟨_,s!"˵ɪʃ˶ɿħȟŬŭ1ŮȴůŰɌȲ#ɞȮʌ˼ȹ-ħȟɒħȟnȪoĤ1́ĥʻ.ɈÙȫ˟ȫɹ]",?_⟩
 have lu:=U.len;have b3:=Z.b3;have l0:0<d.length:=de.mpr ne
 w_up
 refine⟨_,.inl L,?_⟩;rw[if_neg (by rw[af];omega)]
 w_up
 have t:J[0]?=some J[0]:=ao ();have C:d[0]?=some d[0]:=ao l0;obtain⟨Y,a1,a2⟩:=U.get 0 _ _ t C;have ew:(Y.map Z').length=w:=by rw[af,a2.len,hw _ C]
 refine⟨_,L,_,fE (j:=0) (by rw[aG,t];rfl),_,rfl,_,.inl a1,?_⟩;rw[ew];refine Ga λx dx Kp Cl Tb M H1 s1 m1 S1=>?_
 w_up
 obtain⟨O,f⟩:∃O:Nat->L2.St->Hp->Prop,∀i σ G,O i σ G↔∃(q:am)(g:List (Key×V))(M:am)(m:aw)(pl:Int)(r2 r3:Option V),σ=[some (Z' A),some (Z' x),r2,r3]/\Spn T G x dx Kp Cl Tb q g M w (d.take i) m pl/\St (d.take i) m pl/\(∀a∈M,H a=none)/\g.length<=i*(2*B+2)/\Same H G:=⟨_,λ_ _ _=>Iff.rfl⟩
 refine⟨⟨_,s1.seq L⟩,iV (xs:=J.map Z') O ((f _ _ _).mpr ⟨[],[],M,[],97,none,none,rfl,S1,Z.st0,m1,aR _,s1⟩) (λi σ G _ z=>by obtain⟨_,_,_,_,_,_,_,_,_,_,_,_,z⟩:=(f i σ G).mp z;exact z.seq L) ?_ ?_⟩
 ·intro i v σ H2 hv hp;obtain⟨q,g,M,m,pl,r2,r3,rfl,S2,p,R,l2,k⟩:=(f _ _ _).mp hp;rw[aG]at hv;obtain⟨u,hu,rfl⟩:=cZ.mp hv;have hi:i<d.length:=by have:=(aY.mp hu).1;omega
  have S:d[i]?=some d[i]:=ao hi;obtain⟨as,w1,w2⟩:=U.get i u _ hu S;have vq:=X i _ m pl S p;have iK:=(Z.bd _ _ _ _ p vq).1;rw[bX]at iK;have et:d.take (i+1)=d.take i++[d[i]]:=by rw[cY,S];rfl
  have lb:i*(2*B+2)+(2*B+2)<=900:=by
   have:(i+1)*(2*B+2)<=(r+2)*(2*B+2):=dA _ ();rw[gP,eI]at this;omega
  w_left;k_units
  refine⟨dx,_,S2.hx,rfl,x,dx,Kp,Cl,Tb,u,q,g,M,_,m,pl,as,d[i],rfl,S2,k.seq w1,w2.same k,p,vq,by rw[bX];omega,(),λI x0 n M3 c y0 S3 t3 kx ms mf l3=>?_,λI n M3 D bs ws S3 hR kx ms mf l3 u0 nD eD lD nb Db=>?_⟩
  ·show if ¬V.non=V.non then _ else O (i+1) _ I
   rw[if_neg (λz=>z rfl)];have s3:Same H I:=λy o e=>kx y o (λz=>by rw[R y z]at e;cases e) (k y o e);refine (f _ _ _).mpr ⟨x0,n,M3,_,y0,_,_,rfl,#v[et,S3],#v[et,t3],λa ha=>?_,by rw[gP,eI];omega,s3⟩;rcases mf a ha with h|h
   ·exact R a h
   ·exact k.free h
  ·show if ¬Z' D=V.non then Q (Z' D) I else _
   rw[if_pos (λz=>nomatch z)];exact q1 I i _ D bs ws m pl S p hR (λy o e=>kx y o (λz=>by rw[R y z]at e;cases e) (k y o e)) (k.free nD) eD lD (λb hb=>k.free (nb b hb).2) Db
 intro σ H2 hp;obtain⟨q,g,M,m,pl,r2,r3,rfl,S2,p,R,l2,k⟩:=(f _ _ _).mp hp;rw[af,gl ()]at p
 w_left;k_units
 exact q2 H2 m pl p k
def OM (K:ap):Sp:=λvs H Q _=>∃(a:Addr)(xs:aa)(b:Int)(k l:Nat),vs=[.ref a,.int b]/\SqL K H a (xs.map V')/\xs.length<=64/\(∀x∈xs,Bd k x)/\Bd l b/\k+l*5000<=60000000/\dU H Q ((aL (dH b xs)).map V')
theorem uv:FnOk P w K mg base CX0 2 T.RQ T.RS ["poly","by"] (OM K):=by
 refine T.Ra.ok tu (λvs H Q E h=>?_) (λy0 A outer s H vs Q E hr h=>?_)
 ·obtain⟨a,f,b,k,l,rfl,_⟩:=h;rfl
 obtain⟨a,f,b,k,l,rfl,hS,hl,hk,X,hf,q⟩:=h;refine⟨_,s!"ɉĨȟˑɟʬȻʢʒ/ĨʣɀéɦȻʢɠȻȫ˔ʒ6ĨʣÞȰȺßȾȪʤɃʽà¥ʺáȴâãäʻ",?_⟩
 w_up
 refine⟨_,.inl hS,λL hL=>?_⟩
 w_up
 refine⟨_,.inl (SqL.of ak),by rw[af];omega,by rw[af];omega,?_⟩;have Y:(((f.map V').length:Nat):Int)-1=(f.length:Int)-1:=by rw[af]
 have Z:((f.length:Int)-1).toNat=f.length-1:=by omega
 rw[Y,Z];clear Y Z;obtain⟨M,n⟩:∃M:Nat->L2.St->Hp->Prop,∀i σ g,M i σ g↔∃O G pre d,σ=[some (Z' a),some (V' b),some (Z' L),O,G]/\g=upd H L (.lst ((pre++d).map V'))/\pre.length=i/\pre.length+d.length=f.length/\
  dH b f=pre++gC b d.length d/\∀y∈pre++d,Bd (k+(l+1)*(i*64)) y:=⟨_,λ_ _ _=>Iff.rfl⟩
 refine gY M ((n _ _ _).mpr ⟨none,none,[],f,rfl,rfl,rfl,by simp,rfl,λy hy=>(hk y hy).mono ()⟩) ?_ ?_
 ·intro low σ g x0 B;obtain⟨O,G,pre,d,rfl,rfl,u,x,o,C⟩:=(n _ _ _).mp B;have el:(0:Int)+(low:Int)=(low:Int):=ii _
  w_left;simp![el]
  clear el;obtain⟨m,I⟩:∃m,d.length=m+1:=⟨d.length-1,()⟩
  have hy:((pre++d).map V').length=f.length:=by rw[af,b4];exact x
  refine⟨_,.inl (SqL.of ak),(),(),?_⟩;rw[hy];clear hy;refine⟨rV () () () (),m,rW (),?_⟩;obtain⟨R,p⟩:∃R:Nat->L2.St->Hp->Prop,∀t σ g,R t σ g↔∃r,σ=[some (Z' a),some (V' b),some (Z' L),some (V' (low:Int)),r]/\g=upd H L (.lst ((pre++eV b d (m-t)).map V'))/\
   ∀y∈pre++eV b d (m-t),Bd (k+(l+1)*(low*64+t)) y:=⟨_,λ_ _ _=>Iff.rfl⟩
  have hz:d≠[]:=by intro z;rw[z]at I;simp at I
  refine nn R ((p _ _ _).mpr ⟨G,rfl,?_,?_⟩) ?_ ?_
  ·rw[show m-0=d.length-1 by omega,EN b d hz]
  ·rw[show m-0=d.length-1 by omega,EN b d hz];exact C
  ·intro t σ g ht B;obtain⟨r,rfl,rfl,e⟩:=(p _ _ _).mp B;obtain⟨j,hj⟩:∃j,m-t=j+1:=⟨m-t-1,()⟩
   have ej:m-(t+1)=j:=by omega
   have ep:(f.length:Int)-2+(t:Int) * -1=((low+j:Nat):Int):=by omega
   have D:(f.length:Int)-2+(t:Int) * -1+1=((low+j+1:Nat):Int):=by omega
   rw[hj]at e ⊢;have F:j<d.length:=by omega
   have g0:(pre++eV b d (j+1))[low+j]?=some d[j]:=by
    rw[cQ (),show low+j-pre.length=j by omega];exact L5 b d j F
   have g1:(pre++eV b d (j+1))[low+j+1]?=some (hd (b8 b (d.drop (j+1)))):=by
    rw[cQ (),show low+j+1-pre.length=j+1 by omega];exact L6 b d j ()
   have gs:(pre++eV b d (j+1)).set (low+j) (d[j]+b*hd (b8 b (d.drop (j+1))))=pre++eV b d j:=by
    rw[Qr _ _ (),show low+j-pre.length=j by omega,L7 b d j F]
   have b0:=e _ (bT g0);have b1:=e _ (bT g1)
   w_left;simp![ep,D]
   clear ep D;have z0:(l+1)*(low*64+t)<=l*4097+4097:=by have:=dZ (l+1) (by omega:low*64+t<=4097);omega
   refine⟨_,SqL.of ak,_,nv g0,_,SqL.of ak,_,nv g1,_,rfl,X.fits b1 (),_,rfl,_,ak,low+j,jw (by rw[af,b4,L3];omega),(p _ _ _).mpr ⟨_,rfl,?_,?_⟩⟩
   ·rw[JZ,map_set,gs,ej]
   ·rw[ej,<-gs];intro y hy;have S:(l+1)*(low*64+(t+1))=(l+1)*(low*64+t)+(l+1):=by rw[<-Nat.add_assoc,mJ]
    rcases QG hy with z|z
    ·exact (e y z).mono ()
    ·rw[z];exact ((b0.mono (by omega:k+(l+1)*(low*64+t)<=l+(k+(l+1)*(low*64+t)))).add (X.mul b1)).mono ()
  ·intro σ g B;obtain⟨r,rfl,rfl,e⟩:=(p _ _ _).mp B;rw[fB,L4]at e ⊢;obtain⟨J,s2,s3⟩:=L8 b m d I;rw[I,J]at o;refine (n _ _ _).mpr ⟨_,_,pre++[hd (b8 b d)],(b8 b d).tail,rfl,?_,by rw[b4,u];rfl,by rw[b4,s3,mu];omega,by rw[o,s3,oM];rfl,?_⟩
   ·rw[oM,QL,<-s2]
   ·rw[oM,QL,<-s2];have S:(l+1)*((low+1)*64)=(l+1)*(low*64+64):=by congr 1;omega
    have:=dZ (l+1) (by omega:low*64+m<=low*64+64);exact λy hy=>(e y hy).mono ()
 ·intro σ g B;obtain⟨O,G,pre,d,rfl,rfl,u,x,o,C⟩:=(n _ _ _).mp B;have U:pre++d=dH b f:=by
   rw[o];by_cases h0:f.length=0
   ·have:d.length=0:=by omega
    rw[bC this];rfl
   ·have h1:d.length=1:=by omega
    obtain⟨c,rfl⟩:=BA.mp h1;rw[show [c].length=1 from rfl,L9]
  rw[U]
  w_left;k_units
  refine⟨_,_,rfl,SqL.of ak,by rw[sO];omega,λr g hs hn he=>?_⟩;have J:=az hL (.lst ((dH b f).map V'));exact q r g (J.trans hs) (J.free hn) he
theorem G5 {b:Int}{k l:Nat}(f:Bd l b):∀a:aa,(∀x∈a,Bd k x)->∀y∈b8 b a,Bd (k+(l+1)*a.length) y
 | [],_,_,h=>nomatch h
 | c :: r,hx,y,hy=>by
  have g:=G5 f r λx d=>hx x (cX _ d);have i:Bd k c:=hx c dr;have e:(l+1)*(c :: r).length=(l+1)*r.length+(l+1):=by rw[cC,mJ]
  have j:Bd (k+(l+1)*r.length) (hd (b8 b r)):=by
   cases q:b8 b r with
   | nil=>exact Bd.zero _
   | cons x s=>exact g x #v[q,dr]
  rcases bj.mp hy with rfl|hy
  ·exact ((i.mono (by omega:k<=l+(k+(l+1)*r.length))).add (f.mul j)).mono ()
  ·exact (g y hy).mono ()
theorem G6 {b:Int}{l:Nat}(d:Bd l b):∀(n:Nat)(k:Nat)(a:aa),a.length<=64->(∀x∈a,Bd k x)->∀y∈gC b n a,Bd (k+(l+1)*(64*n)) y
 | 0,_,_,_,_,_,h=>nomatch h
 | n+1,k,a,hl,hx,y,hy=>by
  have g:=G5 d a hx;have j:=dZ (l+1) hl;have f:∀x∈b8 b a,Bd (k+(l+1)*64) x:=λx c=>(g x c).mono ();have e:(l+1)*(64*(n+1))=(l+1)*(64*n)+(l+1)*64:=by rw[mJ,Ji]
  rcases bj.mp hy with rfl|hy
  ·have i:Bd (k+(l+1)*64) (hd (b8 b a)):=by
    cases q:b8 b a with
    | nil=>exact Bd.zero _
    | cons x s=>exact f x #v[q,dr]
   exact i.mono ()
  ·exact (G6 d n (k+(l+1)*64) (b8 b a).tail (by rw[IY,kg];omega) (λx c=>f x (List.mem_of_mem_tail c)) y hy).mono ()
theorem AV {b:Int}{k l:Nat}{xs:aa}(a:Bd l b)(c:xs.length<=64)(hx:∀x∈xs,Bd k x):∀y∈dH b xs,Bd (k+(l+1)*(64*xs.length)) y:=G6 a xs.length k xs c hx
def uw (ps:ac):Prop:=ps≠[]/\(∀p,ps.getLast?=some p->p≠[])/\∀p∈ps,Nml p
def ON (K:ap):Sp:=λvs H Q _=>∃(R:Addr)(as:am)(ps:ac),vs=[.ref R]/\SqL K H R (as.map Z')/\LL K H as ps/\ps.length<=1000/\
 ((uw ps/\Q (.int ((ps.length:Int)-1)) H)\/(¬uw ps/\False))
theorem G7:FnOk P w K mg base CX0 1 T.Sx T.Sy ["rule"] (ON K):=by
 refine T.Sz.ok Fm (λL H Q E h=>?_) (λM A outer s H L Q E Y h=>?_)
 ·obtain⟨R,as,t,rfl,_⟩:=h;rfl
 obtain⟨R,as,t,rfl,j,g,Z,q⟩:=h;refine⟨_,s!"˓ɷɪȵ¹ɷȲ#ʚ$ȵñI˼ȹ,ǖʣʂˎɼˏɷˡ˾ñɹȻɪ&",?_⟩
 k_units
 refine⟨_,.inl j,?_⟩;rw[af];have B:¬uw t->False:=λh=>(q.resolve_left λz=>h z.1).2;refine bO (λh=>?_) (λh=>?_)
 ·exact (B λz=>z.1 (bC (by rw[<-g.len];omega))).elim
 have k:t≠[]:=by intro z;have:=g.len;rw[z]at this;simp at this;rw[this]at h;simp at h
 obtain⟨a,p,O,e2,I,S⟩:=g.lastAt k;refine⟨_,j,_,O,?_⟩
 k_units
 refine⟨_,.inl S,?_⟩;rw[af];refine bO (λC=>(B λz=>z.2.1 p I (bC ())).elim) (λC=>⟨⟨_,j⟩,?_⟩);have D:p≠[]:=by intro z;rw[z]at C;simp at C
 obtain⟨u,b⟩:∃u:Nat->L2.St->Hp->Prop,∀i σ d,u i σ d↔∃r:Option V,σ=[some (Z' R),r]/\d=H/\∀x∈t.take i,Nml x:=⟨_,λ_ _ _=>Iff.rfl⟩
 refine iV (xs:=as.map Z') u ((b _ _ _).mpr ⟨_,rfl,rfl,by simp⟩) (λi σ d _ z=>by obtain⟨_,_,rfl,_⟩:=(b i σ d).mp z;exact j) ?_ ?_
 ·intro i v σ d U f;obtain⟨r,rfl,rfl,y⟩:=(b _ _ _).mp f;obtain⟨X,m,rfl,ha,n,J⟩:=g.nth U;have o:Nml m->u (i+1) [some (Z' R),some (Z' X)] d:=λh=>(b _ _ _).mpr ⟨_,rfl,rfl,λx hx=>by
   rw[cY,n]at hx;rcases a8.mp hx with z|z
   ·exact y x z
   ·rw[show x=m by simpa using z];exact h⟩
  k_units
  refine⟨_,.inl J,?_⟩;rw[af];refine bO (λF=>?_) (λF=>o (by rw[bC (show m.length=0 by omega)];exact b_));have c:m≠[]:=by intro z;rw[z]at F;simp at F
  refine⟨_,J,_,jx c,?_⟩
  k_units
  refine bO (λG=>(B λz=>d_.mp (z.2.2 m (bT n)) _ (oP c) G).elim) (λG=>o (d_.mpr λx hx=>?_));rw[oP c]at hx;rw[<-Option.some.inj hx];exact G
 ·intro σ d f;obtain⟨r,rfl,rfl,y⟩:=(b _ _ _).mp f;rw[af,g.len,e_]at y
  k_units
  refine⟨_,.inl j,?_⟩;rw[af,g.len];exact (q.resolve_right λz=>z.1 ⟨k,λp2 e=>by rw[I]at e;cases e;exact D,y⟩).2
theorem jJ (n:Int)(xs ys:aa):val n (aQ xs ys)=val n xs*val n ys:=by
 rw[<-cy];refine fu (λk=>?_) n;unfold aQ;rw[cL,iq,ga,Ak]
 split
 ·rfl
 ·rw[sM xs ys k ()]
theorem gH (xs ys:aa):Nml (aQ xs ys):=cM _
theorem G8 (xs ys:aa):Nml (iY xs ys):=cM _
theorem AW (xs ys:aa)(k:Nat):co (iY xs ys) k=co xs k-co ys k:=by
 unfold iY;rw[cL,iq]
 split
 ·rfl
 ·rw[aD (xs:=xs) (),aD (xs:=ys) ()];rfl
theorem fJ (xs ys:aa)(k:Nat):co (aQ xs ys) k=pm (co xs) (co ys) k:=by
 rw[<-ga];exact fh (λn=>by rw[jJ,cy]) k
theorem G9 (n:Int)(ys:aa):val n (ys.map λy=>-1*y)=- val n ys:=by rw[bL];omega
theorem OO (n:Int)(xs ys:aa):val n (iY xs ys)=val n xs-val n ys:=by
 have e:val n (iY xs ys)=val n (b7 xs (ys.map λy=>-1*y)):=fu (λk=>by
  rw[AW,fH];have:co (ys.map λy=>-1*y) k=-1*co ys k:=by
   by_cases h:k<ys.length
   ·rw[aI #v[af,h],aI h,cE]
   ·rw[aD (by rw[af];omega),aD (xs:=ys) ()];simp
  rw[this];omega) n
 rw[e,eG,G9];omega
def pvL (ps:ac)(i:Nat)(n:Int):Int:=val n (ps.getD i [])
def oz (ps:ac):Prop:=uw ps/\ps.length<=3/\∀p∈ps,p.length<=3/\∀x∈p,Bd 60 x
def mj (us:ac)(m:Nat):Prop:=∀u∈us,Nml u/\u.length<=2*m+1/\∀x∈u,Bd (2400*m+1) x
theorem LH.cons {H:Hp}{as:am}{ps:ac}{a:Addr}{p:aa}(h:LH H as ps)(e:H a=some (.lst (p.map V'))):LH H (a :: as) (p :: ps):=by
 refine⟨by simp[h.len],λi b r c d=>?_⟩
 cases i with
 | zero=>simp at c d;rw[<-c,<-d];exact e
 | succ i=>exact h.get i b r (⇑c) (⇑d)
theorem LH.init {H:Hp}{as:am}{ps:ac}(h:LH H as ps):LH H as.dropLast ps.dropLast:=by
 refine⟨by simp[h.len],λi b r a c=>?_⟩;rw[QM]at a c
 split at a
 ·rw[if_pos (by rw[<-h.len];assumption)]at c;exact h.get i b r a c
 ·cases a
theorem OP {us:ac}(g:aa->aa){i:Nat}(h:i<us.length):(us.map g).getD i []=g (us.getD i []):=by
 rw[aq,aq,aG,ao h];rfl
theorem getD_mem {us:ac}{i:Nat}(h:i<us.length):us.getD i []∈us:=by
 rw[aq,ao h];exact bY h
theorem getD_some {us:ac}{i:Nat}{p:aa}(h:us[i]?=some p):us.getD i []=p:=by rw[aq,h];rfl
def mvL (us:ac):ac:=us.map λu=>aL (dH 1 u)
def ahL (us:ac):ac:=[] :: (mvL us).dropLast
def fuL (ps us:ac)(i:Nat):aa:=iY (aQ (ps.getD us.length []) ((ahL us).getD i [])) (aQ ((mvL us).getD (us.length-1) []) (ps.getD i []))
theorem oA (n:Int)(xs:aa):val n (aL xs)=val n xs:=fu (λk=>cL xs k) n
theorem G_ {us:ac}{i:Nat}(h:i<us.length)(n:Int):val n ((mvL us).getD i [])=pvL us i (n+1):=by
 unfold mvL pvL;rw[OP _ h,oA,li]
theorem OQ {us:ac}{i:Nat}(h:i<us.length)(n:Int):val n ((ahL us).getD i [])=if i=0 then 0 else pvL us (i-1) (n+1):=by
 unfold ahL
 cases i with
 | zero=>simp[val]
 | succ i=>
  rw[if_neg ()];have e:(([]:aa) :: (mvL us).dropLast).getD (i+1) []=(mvL us).getD i []:=by
   rw[List.getD_cons_succ,aq,QM,if_pos (by unfold mvL;rw[af];omega),<-aq]
  rw[e,G_ ()];rfl
theorem OR {ps us:ac}{i:Nat}(h:i<us.length)(n:Int):val n (fuL ps us i)=gd us.length (pvL ps) (pvL us) i n:=by
 unfold fuL gd;rw[OO,jJ,jJ,OQ h,G_ ()];rfl
theorem AX {us:ac}{m:Nat}(h:mj us m)(d:m<=4):∀u∈mvL us,Nml u/\u.length<=2*m+1/\∀x∈u,Bd (2400*m+1+2200) x:=λu a=>by
 obtain⟨y,hy,rfl⟩:=aZ.mp a;obtain⟨e,b,c⟩:=h y hy;refine⟨cM _,aM (k_ _) #v[sO,b],cu λk=>?_⟩;rw[cL];refine cN (P:=λx=>Bd (2400*m+1+2200) x) (λx hx=>(AV (l:=1) (Bd.one ()) () c x hx).mono ?_) (Bd.zero _) k;have:64*y.length<=1024:=by omega
 omega
theorem Ha {us:ac}{m:Nat}(h:mj us m)(b:m<=4):∀u∈ahL us,Nml u/\u.length<=2*m+1/\∀x∈u,Bd (2400*m+1+2200) x:=λu a=>by
 rcases bj.mp a with rfl|a
 ·exact⟨b_,by simp,by simp⟩
 ·exact AX h b u (List.dropLast_subset _ a)
theorem OS {ps us:ac}{m i:Nat}(a:oz ps)(s:us.length+1=ps.length)(h:mj us m)(b:m<=4)(hi:i<us.length):Nml (fuL ps us i)/\(fuL ps us i).length<=2*m+3/\∀x∈fuL ps us i,Bd (2400*(m+1)+1) x:=by
 obtain⟨f,t,g⟩:=Ha h b ((ahL us).getD i []) (getD_mem (by unfold ahL mvL;simp;omega));obtain⟨b1,b2,b3⟩:=AX h b ((mvL us).getD (us.length-1) []) (getD_mem (by unfold mvL;rw[af];omega));have d:=getD_mem (us:=ps) (i:=us.length) ();have e:=getD_mem (us:=ps) (i:=i) ();have j:=a.2.2 _ d;have n:=a.2.2 _ e;have o:=a.1.2.2 _ d;have p:=a.1.2.2 _ e;have u:=i8 o f (gH _ _) (fJ (ps.getD us.length []) ((ahL us).getD i []));have y:=i8 b1 p (gH _ _) (fJ ((mvL us).getD (us.length-1) []) (ps.getD i []));refine⟨G8 _ _,g_ (G8 _ _) λk hk=>?_,cu λk=>?_⟩
 ·rw[AW,aD (xs:=aQ (ps.getD us.length []) _) (),aD (xs:=aQ _ (ps.getD i [])) ()];rfl
 ·unfold fuL;rw[AW,fJ,fJ];have q:=hI (c:=2) j.2 g () k;have r:=hI (c:=4) b3 n.2 () k;exact ((q.mono (l:=2400*m+1+2200+64) ()).sub (r.mono ())).mono ()
theorem OT (xs:am)(h:0<xs.length):eQ (xs.map Z') none (some (-1))=xs.dropLast.map Z':=by
 unfold eQ;have e:HT.sIx (xs.map Z').length (xs.map Z').length (some (-1))=xs.length-1:=by
  show (if (-1:Int)<0 then ((-1:Int)+((xs.map Z').length:Int)).toNat else min (-1:Int).toNat (xs.map Z').length)=_;rw[if_pos (),af];omega
 rw[e,HT.sIx_none,mD,Jb,List.dropLast_eq_take,IT]
def OU (K:ap):Sp:=λvs H Q _=>∃(R Ta:Addr)(as ts:am)(ps us:ac)(m:Nat),vs=[.ref R,.ref Ta]/\SqL K H R (as.map Z')/\LL K H as ps/\SqL K H Ta (ts.map Z')/\LL K H ts us/\oz ps/\us.length+1=ps.length/\us≠[]/\mj us m/\m<=4/\
 ∀(D:Addr)(ds:am) H',Same H H'->H D=none->H' D=some (.lst (ds.map Z'))->LH H' ds ((aJ us.length).map (fuL ps us))->D∉ds->Q (.ref D) H'
theorem OV:FnOk P w K mg base CX0 4 T.SB T.SC ["rule","tops"] (OU K):=by
 refine T.Uo.ok tH (λvs H Q E h=>?_) (λx4 A outer s H vs Q E hr h=>?_)
 ·obtain⟨R,Ta,as,ts,S,d,m,rfl,_⟩:=h;rfl
 obtain⟨R,Ta,as,ts,S,d,m,rfl,hR,hL,hT,hU,U,hl,u0,tk,m7,q⟩:=h;have l3:=U.2.1;refine⟨_,s!"˄-Ɋɽɾȥüȴýþÿɚ˘ĩɄɒĩ˒ɗə$˥ȰÛÄȽ&ɯĩɨʤɝȨŴ ìɓɢÐ)ǗɕÐ6ǘɕíˁɮɟʪǙȴǚǛǜ˪ʿɌ˱Ȱɝɟʐʿ˺ɏ$",?_⟩
 w_up
 refine⟨⟨_,hT⟩,λM hM=>?_⟩;obtain⟨Pc,g⟩:∃Pc:cx,∀j f,Pc j f↔∃b:am,f M=some (.lst (b.map Z'))/\LH f b (mvL (d.take j))/\M∉b/\Same H f:=⟨_,λ_ _=>Iff.rfl⟩
 refine eE (xs:=ts.map Z') Pc ((g _ _).mpr ⟨[],ak,LH.nil _,by simp,az hM _⟩) (λi f _ z=>by obtain⟨_,_,_,_,z4⟩:=(g i f).mp z;exact z4.seq hT) ?_ ?_
 ·intro j v f hv u;obtain⟨b,B,r,k3,X⟩:=(g _ _).mp u;obtain⟨a',p',rfl,ha,C,hA⟩:=hU.nth hv;have hj:j<d.length:=(aY.mp C).1;have lk:=r.len;unfold mvL at lk;rw[af,bX]at lk;obtain⟨t1,t2,t3⟩:=tk p' (bT C)
  w_left;simp![bst]
  refine⟨a',p',1,2400*m+1,1,rfl,X.seq hA,(),t3,Bd.one (),(),λl Hy F nl el=>?_⟩;have n0:l≠M:=λz=>by rw[z,B]at nl;cases nl
  have m1:M∉b++[l]:=λz=>by
   rcases a8.mp z with z|z
   ·exact k3 z
   ·exact n0 (aW.mp z).symm
  refine⟨_,F _ _ B,#v[af,bD ()],(g _ _).mpr ⟨b++[l],by rw[ak];simp,?_,m1,(X.trans F).more hM⟩⟩;have e:mvL (d.take (j+1))=mvL (d.take j)++[aL (dH 1 p')]:=by unfold mvL;rw[cY,C];simp
  rw[e];exact ((r.same F).snoc el).upd m1
 intro G1 u;obtain⟨b,eM,lm,y4,s1⟩:=(g _ _).mp u;rw[af,hU.len,e_]at lm;have x1:b.length=d.length:=by rw[lm.len];unfold mvL;rw[af]
 have lu:0<d.length:=de.mpr u0
 w_up
 refine⟨aR _,λz nz=>⟨(),λp1 n1=>?_⟩⟩;have w1:=az nz (.lst []);have w2:=az n1 (.lst [Z' z]);have ez:=w2 _ _ (ak (H:=G1) (a:=z) (o:=.lst []));have t:eQ (b.map Z') none (some (-1))=b.dropLast.map Z':=OT _ #v[x1,lu];refine⟨_,SqL.of (w2 _ _ (w1 _ _ eM)),λp2 n2=>?_⟩;rw[t];have w3:=az n2 (.lst (b.dropLast.map Z'));refine⟨_,w3 _ _ ak,_,ak,dm (bD (by simp;omega)),λAa n3=>?_⟩;have ea:[Z' z]++b.dropLast.map Z'=(z :: b.dropLast).map Z':=rfl;rw[ea];have w4:=az n3 (.lst ((z :: b.dropLast).map Z'));have wA:=w1.trans (w2.trans (w3.trans w4));have gA:upd (upd (upd (upd G1 z (.lst [])) p1 (.lst [Z' z])) p2 (.lst (b.dropLast.map Z'))) Aa (.lst ((z :: b.dropLast).map Z')) Aa=_:=ak;have gz:=w4 _ _ (w3 _ _ ez);generalize upd (upd (upd (upd G1 z (.lst [])) p1 (.lst [Z' z])) p2 (.lst (b.dropLast.map Z'))) Aa (.lst ((z :: b.dropLast).map Z'))=G2 at wA gA gz ⊢;have x0:=lm.same wA;have y1:=wA _ _ eM;have G:=s1.trans wA;have z1:LH G2 (z :: b.dropLast) (ahL d):=x0.init.cons (p:=[]) gz;have j1:mvL d≠[]:=λe=>by have:=congrArg jM e;unfold mvL at this;rw[af]at this;simp at this;exact u0 this
 obtain⟨W,Y,g1,_,gW,hW⟩:=(x0.ll (K:=K)).lastAt j1;have x2:Y=(mvL d).getD (d.length-1) []:=by
  have e:(mvL d).length=d.length:=by unfold mvL;rw[af]
  rw[fK,e]at gW;exact (getD_some gW).symm
 obtain⟨La,lst,y2,_,gL,z2⟩:=hL.lastAt U.1.1;have j2:lst=S.getD d.length []:=by
  rw[fK,show S.length-1=d.length by omega]at gL;exact (getD_some gL).symm
 clear w1 w2 w3 w4 ez t ea nz n1 n2 n3
 w_up
 refine⟨_,SqL.of y1,_,g1,?_⟩
 w_left;k_units
 refine⟨_,SqL.of gA,_,G.seq hR,λD nD=>?_⟩;have I:=AX tk m7 Y (il gW);have y0:=U.2.2 lst (il gL);obtain⟨Pz,n⟩:∃Pz:cx,∀j f,Pz j f↔∃ds:am,f D=some (.lst (ds.map Z'))/\LH f ds ((aJ j).map (fuL S d))/\D∉ds/\Same G2 f:=⟨_,λ_ _=>Iff.rfl⟩
 refine zB (xs:=(z :: b.dropLast).map Z') (ys:=as.map Z') Pz ((n _ _).mpr ⟨[],ak,LH.nil _,by simp,az nD _⟩) (λi f _ _ y=>by obtain⟨_,_,_,_,z4⟩:=(n i f).mp y;exact⟨SqL.of (z4 _ _ gA),(G.trans z4).seq hR⟩) ?_ ?_
 ·intro j v1 v2 pt f g2 m2 hc x3;obtain⟨ds,B,r,k3,X⟩:=(n _ _).mp hc;obtain⟨b1,q1,rfl,v4,J,y3⟩:=(z1.ll (K:=K)).nth g2;obtain⟨b2,Z,rfl,j4,L,z3⟩:=hL.nth m2;have lk:=r.len;rw[af,gw]at lk;have hj:j<d.length:=by
   have:=(aY.mp J).1;unfold ahL mvL at this;simp at this;omega
  have u1:=az x3 (.tup [Z' b1,Z' b2]);have u2:=X.trans u1;have O:=Ha tk m7 q1 (bT J);have z0:=U.2.2 Z (bT L)
  w_left;simp![fg,eL]
  refine⟨_,(G.trans u2).seq hR,_,y2,?_⟩;refine⟨La,b1,lst,q1,rfl,(G.trans u2).seq z2,u2.seq y3,(),(),λx hx=>(y0.2 x hx).mono (),λx hx=>(O.2.2 x hx).mono (),λX1 g4 F m4 v3=>?_⟩;have u3:=u2.trans F;refine⟨W,b2,Y,Z,rfl,u3.seq hW,(G.trans u3).seq z3,(),(),λx hx=>(I.2.2 x hx).mono (),λx hx=>(z0.2 x hx).mono (),λX2 n4 s6 x5 j3=>?_⟩;have l1:(aQ lst q1).length<=100:=aM (i8 (U.1.2.2 lst (il gL)) O.1 (gH _ _) (fJ _ _)) ();have l2:(aQ Y Z).length<=100:=aM (i8 I.1 (U.1.2.2 Z (bT L)) (gH _ _) (fJ _ _)) ();have c1:∀x∈aQ lst q1,Bd 60000 x:=cu λk=>by rw[fJ];exact (hI (c:=2) y0.2 O.2.2 () k).mono ()
  have c2:∀x∈aQ Y Z,Bd 60000 x:=cu λk=>by rw[fJ];exact (hI (c:=4) I.2.2 z0.2 () k).mono ()
  refine⟨X1,X2,_,_,rfl,SqL.of (s6 _ _ v3),SqL.of j3,l1,l2,c1,c2,λX3 y5 s7 j0 g3=>?_⟩;have u4:=u3.trans (s6.trans s7);have m3:X3≠D:=λy=>by rw[y,s6 _ _ (F _ _ (u1 _ _ B))]at j0;cases j0
  have m1:D∉ds++[X3]:=λy=>by
   rcases a8.mp y with y|y
   ·exact k3 y
   ·exact m3 (aW.mp y).symm
  have k0:=u1.trans (F.trans (s6.trans s7));refine⟨_,k0 _ _ B,#v[af,bD ()],(n _ _).mpr ⟨ds++[X3],by rw[ak];simp,?_,m1,u4.more nD⟩⟩;have e:(aJ (j+1)).map (fuL S d)=(aJ j).map (fuL S d)++[iY (aQ lst q1) (aQ Y Z)]:=by
   rw[fL,aT,j2,x2,<-getD_some J,<-getD_some L];rfl
  rw[e];exact ((r.same k0).snoc g3).upd m1
 ·intro f hc;obtain⟨ds,B,r,k3,X⟩:=(n _ _).mp hc;have em:min ((z :: b.dropLast).map Z').length (as.map Z').length=d.length:=by
   rw[af,af,hL.len,cC,IR];omega
  rw[em]at r;exact q D ds _ (G.trans X) (G.free nD) B r k3
def gI (f:Int->Int)(n:Int):aH
 | 0=>1
 | m+1=>gI f n m*f (n+m)
def Crd (ps:ac)(far:Nat)(us:ac)(bot:aa):Prop:=
 (far<us.length/\us=(aJ us.length).map (λi=>if i=far then [1] else [])/\bot=[1])\/
 (us.length<=far/\(∀i n,i<us.length->val n (us.getD i [])=uIt us.length (pvL ps) (far+1-us.length) i n)/\∀n,val n bot=gI (pvL ps us.length) n (far+1-us.length))
def OW (K:ap):Sp:=λvs H Q _=>∃(R:Addr)(as:am)(ps:ac)(far:Nat),vs=[.ref R,.int far]/\SqL K H R (as.map Z')/\LL K H as ps/\oz ps/\far<=3/\
 ∀(us:ac)(bot:aa),us.length+1=ps.length->(∀u∈us,Nml u/\u.length<=2*(far+1-us.length)+1/\∀x∈u,Bd 20000 x)->Nml bot->bot.length<=9->(∀x∈bot,Bd 20000 x)->Crd ps far us bot->
  ∀(tp D B:Addr)(ts:am) H',Same H H'->H' tp=some (.tup [.ref D,.ref B])->H' D=some (.lst (ts.map Z'))->LH H' ts us->H' B=some (.lst (bot.map V'))->H D=none->H B=none->D∉ts->Q (.ref tp) H'
def unL (st:Int)(r:Nat):ac:=(aJ r).map λi:Nat=>if (i:Int)=st then [1] else []
theorem OX {st:Int}{r j:Nat}(h:j<r):(unL st r).getD j []=if (j:Int)=st then [1] else []:=by
 unfold unL;rw[aq,aG,ij h];rfl
theorem OY:FnOk P w K mg base CX0 5 T.SD T.SE ["rule","far"] (OW K):=by
 refine T.Up.ok jA (λvs H Q E h=>?_) (λu2 A outer s H vs Q E hr h=>?_)
 ·obtain⟨R,as,f,a,rfl,_⟩:=h;rfl
 obtain⟨R,as,f,a,rfl,hR,hL,U,f6,q⟩:=h;have l3:=U.2.1;have v2:0<f.length:=de.mpr U.1.1;obtain⟨r,j2⟩:∃r:Nat,f.length=r+1:=⟨f.length-1,()⟩
 refine⟨_,s!"ɉÂɋŵȴŶŷŸʛɒÂɨ:ē˳ȝ,˜Ȱȼ˄6Ɋɩ/ǝ˅jɜɡKîɷ˃ȩʊəÂɄʋÂȟʊʬɃȻȪȰʒCÂȟˌhȰȵɑ6ÂɋǞȴǟǠǡɚ˙Iɑ?Âɋʿȧ?ʐüȴýþÿɌʚȝCʌȨ½ʓʜ",?_⟩
 w_up
 refine⟨R,as,f,rfl,hR,hL,(),.inl ⟨U.1,?_⟩⟩;have er:(f.length:Int)-1=(r:Int):=by omega
 rw[er]
 w_up
 w_up
 refine⟨(),(),λX0 F=>?_⟩;rw[iD];obtain⟨st,G⟩:∃st:Int,(if (r:Int)-1<(a:Int) then (r:Int)-1 else (a:Int))=st:=⟨_,rfl⟩
 rw[G];obtain⟨Pc,I⟩:∃Pc:cx,∀j o,Pc j o↔∃d:am,o X0=some (.lst (d.map Z'))/\LH o d (unL st j)/\X0∉d/\Same H o:=⟨_,λ_ _=>Iff.rfl⟩
 refine rL Pc ((I _ _).mpr ⟨[],ak,LH.nil _,by simp,az F _⟩) ?_ ?_
 ·intro j o hj y0;obtain⟨d,k1,k2,k3,k4⟩:=(I _ _).mp y0;have lk:=k2.len;unfold unL at lk;rw[af,gw]at lk;have e0:(0:Int)+(j:Int)=(j:Int):=ii _;have u0:∀(zs:aa)(C:Addr),(if (j:Int)=st then [1] else [])=zs->o C=none->∃ys,upd o C (.lst (zs.map V')) X0=some (.lst ys)/\ys.length<sizeLine/\Pc (j+1) (upd (upd o C (.lst (zs.map V'))) X0 (.lst (ys++[Z' C]))):=λzs C hz p=>by
   have Y:=az p (.lst (zs.map V'));have k0:C≠X0:=λy=>by rw[y,k1]at p;cases p
   have m1:X0∉d++[C]:=λy=>by
    rcases a8.mp y with y|y
    ·exact k3 y
    ·exact k0 (aW.mp y).symm
   refine⟨_,Y _ _ k1,#v[af,bD ()],(I _ _).mpr ⟨d++[C],by rw[ak];simp,?_,m1,(k4.trans Y).more F⟩⟩;have e:unL st (j+1)=unL st j++[zs]:=by unfold unL;rw[fL,aT,<-hz];rfl
   rw[e];exact ((k2.same Y).snoc ak).upd m1
  w_left;simp![bst,eL,e0]
  exact bO (λh=>⟨(),λC p=>u0 [1] C (if_pos h) p⟩) (λh=>⟨aR _,λC p=>u0 [] C (if_neg h) p⟩)
 intro G1 y0;obtain⟨d,Z,lt,t,s1⟩:=(I _ _).mp y0
 w_up
 refine⟨(),λB0 nB=>?_⟩
 w_up
 refine⟨(),(),?_⟩;have w1:=az nB (.lst [V' 1]);obtain⟨N,hN⟩:∃N:Nat,((a:Int)-(r:Int)+1).toNat=N:=⟨_,rfl⟩
 have n0:N=a+1-r:=by omega
 rw[hN];obtain⟨La,lst,x1,_,gL,y1⟩:=hL.lastAt U.1.1;have z1:lst=f.getD r []:=by
  rw[fK,show f.length-1=r by omega]at gL;exact (getD_some gL).symm
 have z0:=U.2.2 lst (il gL);have g2:=U.1.2.2 lst (il gL);obtain⟨Pv,J⟩:∃Pv:Nat->L2.St->Hp->Prop,∀i σ o,Pv i σ o↔∃(X B:Addr)(d:am)(b:ac)(g:aa)(r6:Option V),σ=[some (Z' R),some (V' a),some (V' r),some (V' st),some (Z' X),some (Z' B),r6]/\o X=some (.lst (d.map Z'))/\LH o d b/\X∉d/\H X=none/\b.length=r/\mj b i/\(a<r->b=unL st r)/\
  (r<=a->∀j n,j<r->val n (b.getD j [])=uIt r (pvL f) i j n)/\o B=some (.lst (g.map V'))/\H B=none/\Nml g/\g.length<=1+2*i/\(∀x∈g,Bd (1000*i+1) x)/\(∀n,val n g=gI (pvL f r) n i)/\Same H o:=⟨_,λ_ _ _=>Iff.rfl⟩
 refine gY Pv ((J _ _ _).mpr ⟨X0,B0,d,unL st r,[1],none,rfl,w1 _ _ Z,lt.same w1,t,F,by unfold unL;simp,λu L=>?_,λ_=>rfl,λhf j n hj=>?_,ak,s1.free nB,jD [],by simp,by simp[Bd.one],λn=>by simp[val,gI],s1.trans w1⟩) ?_ ?_
 ·obtain⟨i,_,rfl⟩:=aZ.mp L
  split
  ·exact⟨jD [],by simp,by simp[Bd.one]⟩
  ·exact⟨b_,by simp,by simp⟩
 ·rw[OX hj];have x0:st=(r:Int)-1:=by rw[<-G,if_pos ()]
  show _=if j+1=r then (1:Int) else 0
  by_cases z:j+1=r
  ·rw[if_pos (),if_pos z];simp[val]
  ·rw[if_neg (),if_neg z];simp[val]
 ·intro i σ o hi hp;obtain⟨X,B,d,b,g,r6,rfl,Z,lt,t,F,O,tk,un,vl,eB,nB,nb,lb,bb,vb,sP⟩:=(J _ _ _).mp hp;have j0:r<=a:=by omega
  clear G hN er un;obtain⟨M,hM⟩:∃M:L2.St->Hp->Prop,∀σ Hy,M σ Hy↔∃(X:Addr)(d:am)(b:ac),σ=[some (Z' R),some (V' a),some (V' r),some (V' st),some (Z' X),some (Z' B),some (V' (0+(i:Int)))]/\Hy X=some (.lst (d.map Z'))/\LH Hy d b/\X∉d/\H X=none/\b.length=r/\mj b (i+1)/\
   (∀j n,j<r->val n (b.getD j [])=uIt r (pvL f) (i+1) j n)/\Same o Hy:=⟨_,λ_ _=>Iff.rfl⟩
  w_left;refine fP M ?_ ?_
  ·w_left;k_units
   refine bO (λh=>?_) (λh=>?_)
   ·refine⟨R,X,as,d,f,b,i,rfl,sP.seq hR,hL.same sP,SqL.of Z,lt.ll,U,(),λz=>by rw[z]at O;simp at O;omega,tk,(),λD ds Hy sy nD eD lD j1=>(hM _ _).mpr ⟨D,ds,_,rfl,eD,lD,j1,sP.free nD,by simp[O],λu L=>?_,λj n hj=>?_,sy⟩⟩
    ·obtain⟨j,hj,rfl⟩:=aZ.mp L;exact OS U () tk () (cU.mp hj)
    ·have e:((aJ b.length).map (fuL f b)).getD j []=fuL f b j:=by
      rw[aq,aG,ij ()];rfl
     rw[e,OR (),O];show gd r (pvL f) (pvL b) j n=gd r (pvL f) (uIt r (pvL f) i) j n;unfold gd;have v1:pvL b (r-1) (n+1)=uIt r (pvL f) i (r-1) (n+1):=vl j0 (r-1) (n+1) ();rw[v1];by_cases z:j=0
     ·rw[if_pos z,if_pos z]
     ·rw[if_neg z,if_neg z,show pvL b (j-1) (n+1)=uIt r (pvL f) i (j-1) (n+1) from vl j0 (j-1) (n+1) ()]
   ·have r0:r=0:=by omega
    have g1:b=[]:=bC ();exact (hM _ _).mpr ⟨X,d,b,rfl,Z,lt,t,F,O,by rw[g1];intro u L;simp at L,λj n hj=>by omega,Same.refl _⟩
  intro σ Hy hm;obtain⟨X,d,b,rfl,Z,lt,t,F,O,tk,vl,sy⟩:=(hM _ _).mp hm;have s2:=sP.trans sy;have e0:(0:Int)+(i:Int)=(i:Int):=ii _
  w_left;simp![e0]
  refine⟨_,s2.seq hR,_,x1,?_⟩;refine⟨La,lst,(i:Int),60,3,rfl,s2.seq y1,(),z0.2,Bd.of_lt (m:=8) () (),(),λS Hz sz nS eS=>?_⟩;have bs:∀x∈aL (dH (i:Int) lst),Bd 900 x:=cu λk=>by
   rw[cL];exact cN (P:=λx=>Bd 900 x) (λx hx=>(AV (l:=3) (Bd.of_lt (m:=8) () ()) () z0.2 x hx).mono ()) (Bd.zero _) k
  have ls:(aL (dH (i:Int) lst)).length<=3:=aM (k_ _) #v[sO,z0.1];refine⟨B,S,g,_,rfl,SqL.of (sz _ _ (sy _ _ eB)),SqL.of eS,(),(),λx hx=>(bb x hx).mono (),λx hx=>(bs x hx).mono (),λB2 Hw sw n1 x2=>?_⟩;have s3:=sz.trans sw;have l1:=i8 nb (cM (dH (i:Int) lst)) (gH _ _) (fJ _ _);refine (J _ _ _).mpr ⟨X,B2,d,b,_,_,rfl,s3 _ _ Z,lt.same s3,t,F,O,tk,λz=>by omega,λ_=>vl,x2,(s2.trans sz).free n1,gH _ _,(),cu λk=>?_,λn=>?_,s2.trans s3⟩
  ·rw[fJ];exact (hI (c:=4) bb bs () k).mono ()
  ·rw[jJ,oA,li,vb n,z1];rfl
 ·intro σ o hp;obtain⟨X,B,d,b,g,r6,rfl,Z,lt,t,F,O,tk,un,vl,eB,nB,nb,lb,bb,vb,sP⟩:=(J _ _ _).mp hp;clear hN er
  w_left;k_units
  refine⟨(),λtp y2=>?_⟩;have Y:=az y2 (.tup [Z' X,Z' B]);refine q b g () (λu L=>?_) nb () (λx hx=>(bb x hx).mono ()) ?_ tp X B d _ (sP.trans Y) ak (Y _ _ Z) (lt.same Y) (Y _ _ eB) F nB t
  ·obtain⟨t1,t2,t3⟩:=tk u L;have N7:b≠[]:=λz=>by rw[z]at L;simp at L
   have:0<b.length:=de.mpr N7;exact⟨t1,(),λx hx=>(t3 x hx).mono ()⟩
  ·by_cases z:a<r
   ·refine .inl ?_;refine⟨(),?_,?_⟩
    ·have z2:(unL st r).length=r:=by unfold unL;simp
     rw[un z,z2];have x0:st=(a:Int):=by rw[<-G,if_neg ()]
     unfold unL;rw[x0];refine eK λi _=>?_;by_cases y:i=a
     ·rw[if_pos (),if_pos y]
     ·rw[if_neg (),if_neg y]
    ·have N0:N=0:=by omega
     refine ip nb (jD []) λk=>fh (λn=>?_) k;rw[vb n,N0];simp[gI,val]
   ·refine .inr ?_;rw[O,<-n0];exact⟨(),λi n hi=>vl () i n hi,vb⟩
def clr (m:Int)(xs:aa):Bool:=decide (hd (dH m xs)≠0/\∀y∈dH m xs,0<=y*hd (dH m xs))
theorem AY (m:Int)(xs:aa):clr m xs=true↔nN (dH m xs):=by unfold clr nN;exact decide_eq_true_iff
theorem Hd (ys:aa):hd ys=co ys 0:=by cases ys <;> rfl
theorem He {ys:aa}{y:Int}(h:y∈ys):y∈aL ys\/y=0:=by
 obtain⟨k,hk,rfl⟩:=cm.mp h;rw[<-aI hk,<-cL];by_cases z:k<(aL ys).length
 ·rw[aI z];exact .inl (bY z)
 ·exact .inr (aD ())
theorem Hf {ys:aa}{y:Int}(h:y∈aL ys):y∈ys:=by
 unfold aL at h;exact mF.mp ((List.dropWhile_sublist _).subset (mF.mp h))
theorem OZ {m:Int}{xs:aa}(a:co (aL (dH m xs)) 0≠0):clr m xs=true↔(∀y∈aL (dH m xs),0<=y)\/(∀y∈aL (dH m xs),y<=0):=by
 rw[cL,<-Hd]at a;rw[AY,Mq a];constructor
 ·rintro (h|h)
  ·exact .inl λy hy=>h y (Hf hy)
  ·exact .inr λy hy=>h y (Hf hy)
 ·rintro (h|h)
  ·refine .inl λy hy=>(He hy).elim (h y) λz=>by omega
  ·refine .inr λy hy=>(He hy).elim (h y) λz=>by omega
theorem Hg {m:Int}{xs:aa}(h:co (dH m xs) 0=0):clr m xs=false:=by
 rw[<-Hd]at h;refine Bool.eq_false_iff.mpr λz=>((AY m xs).mp z).1 h
def O0 (K:ap):Sp:=λvs H Q _=>∃(a:Addr)(xs:aa)(m:Int)(k l:Nat),vs=[.ref a,.int m]/\SqL K H a (xs.map V')/\xs.length<=64/\(∀x∈xs,Bd k x)/\Bd l m/\k+l*5000<=60000000/\∀H',Same H H'->Q (.bl (clr m xs)) H'
theorem O8:FnOk P w K mg base CX0 3 T.a_clear T.Sw ["poly","m"] (O0 K):=by
 refine T.Uk.ok Fl (λx H Q E h=>?_) (λB A outer s H x Q E C h=>?_)
 ·obtain⟨a,xs,m,k,l,rfl,_⟩:=h;rfl
 obtain⟨a,xs,m,k,l,rfl,D,F,hk,G,I,q⟩:=h;refine⟨_,s!"ɉǢɋüȤǣ ýþÿʎ˓ɷʢȵ¹ɷʤȮʃ±ɹǤËð:ň˳ɡȵĪËǥ:Ĝˮɡȵ",?_⟩
 k_units
 refine⟨a,xs,m,k,l,rfl,D,F,hk,G,I,λR O J S f=>?_⟩;refine⟨R,rfl,_,.inl (SqL.of f),?_⟩;have q:=q _ J;obtain⟨d,b⟩:∃d,aL (dH m xs)=d:=⟨_,rfl⟩
 rw[b]at f ⊢;rw[af];refine bO (λh=>?_) (λh=>?_)
 ·have L:d=[]:=bC ();have z:clr m xs=false:=Hg (by rw[<-cL,b,L];rfl);rw[z]at q;exact q
 have c:0<d.length:=by omega
 have g:d≠[]:=de.mp c;refine⟨R,rfl,_,SqL.of f,_,(show atI (d.map V') 0=some (V' d[0]) from gZ c),?_⟩
 k_units
 refine bO (λn=>?_) (λn=>?_)
 ·have z:clr m xs=false:=Hg #v[<-cL,b,aI c,n];rw[z]at q;exact q
 have ct:=OZ (m:=m) (xs:=xs) #v[b,aI c,n];rw[b]at ct;refine⟨_,SqL.of f,g,λM o p=>bO (λr=>?_) (λr=>⟨_,SqL.of f,g,λM2 t u=>?_⟩)⟩
 ·rw[ct.mpr (.inl λy hy=>Int.le_trans r (p y hy))]at q;exact q
 ·have e:decide (M2<=0)=clr m xs:=by
   rw[Bool.eq_iff_iff,ct,decide_eq_true_iff];constructor
   ·intro j;exact .inr λy hy=>Int.le_trans (u y hy) j
   ·rintro (j|j)
    ·exact absurd (j M o) r
    ·exact j M2 t
  rw[e];exact q
theorem O9 {K:ap}{a:Addr}{as:am}{ns:aa}{m:List (Nat×Str)}{n:TE}{Q:VK}{σ:L2.St}{d:Hp}{D:Addr}(g:d D=none)(u:SqL K d a (as.map Z'))(hd:ns.length=as.length)(y:ns.length<=900)(hs:∀(i:Nat)(q:Addr)(v:Int)(b:Hp)(R:VK),as[i]?=some q->ns[i]?=some v->Same d b->(∀o,Same b o->R (.int v) o)->n (bst m σ (some (Z' q))) b R)(x:dU d Q (ns.map V')):jv (Itl K a) m n Q σ d D:=by
 obtain⟨h,c⟩:∃h:cx,∀j b,h j b↔b D=some (.lst ((ns.take j).map V'))/\Same d b:=⟨_,λ_ _=>Iff.rfl⟩
 refine eE (xs:=as.map Z') h ((c _ _).mpr ⟨ak,az g _⟩) (λi b _ z=>by obtain⟨_,z⟩:=(c i b).mp z;exact z.seq u) ?_ ?_
 ·intro j v b p k;obtain⟨e,f⟩:=(c _ _).mp k;rw[aG]at p;obtain⟨q,r,rfl⟩:=cZ.mp p;have s:j<ns.length:=by have:=(aY.mp r).1;omega
  refine hs j q _ b _ r (ao s) f λB t=>?_;refine⟨_,t _ _ e,#v[af,bX,bD ()],(c _ _).mpr ⟨?_,(f.trans t).more g⟩⟩;rw[ak,<-List.take_append_getElem s,aT];rfl
 intro b k;obtain⟨e,f⟩:=(c _ _).mp k;rw[af,<-hd,e_]at e;exact x D b f g e
def O_ (K:ap):Sp:=λvs H Q _=>∃(R:Addr)(as:am)(ps:ac)(m:Nat),vs=[.int (m:Int),.ref R]/\SqL K H R (as.map Z')/\LL K H as ps/\ps≠[]/\ps.length<=900/\(∀p∈ps,p.length<=1000)/\m<=5/\(∀p∈ps,m*m*p.length<=32)/\∀H',Same H H'->Q .non H'
theorem Pa:FnOk P w K mg base CX0 2 T.SW T.SX ["width","polys"] (O_ K):=by
 refine T.Uy.ok MT (λt H Q E h=>?_) (λu A outer s H t Q E S h=>?_)
 ·obtain⟨R,as,f,m,rfl,_⟩:=h;rfl
 obtain⟨R,as,f,m,rfl,g,j,x,y,z,U,B,q⟩:=h;refine⟨_,s!".ɈhȾȾȢȢ:Ĝˮ#ʠɾ:ľʅȭɟ$˭Ǧ ǧɇȩñI",?_⟩
 w_up
 have a:Bd 3 (m:Int):=Bd.of_lt (m:=8) () ();refine⟨a.fits a (),⟨_,g⟩,λD C=>?_⟩;refine O9 (as:=as) (ns:=f.map λp=>(p.length:Int)) C g (by rw[af,j.len]) #v[af,y] (λi r v X Y c n G d=>?_) (λF Z I nF J=>?_)
 ·rw[aG]at n;obtain⟨p,b,rfl⟩:=cZ.mp n
  w_left;simp![bst]
  refine⟨_,.inl (G.seq (j.get i r p c b)),?_⟩;rw[af];exact d _ (Same.refl _)
 refine⟨F,rfl,_,SqL.of J,by simp[x],λM L o=>?_⟩;obtain⟨p,b,rfl⟩:=aZ.mp L;have O:=B p b;have e:(m:Int)*(m:Int)*(p.length:Int)<=32:=by
  have:((m*m*p.length:Nat):Int)<=32:=by omega
  rw[fm,fm]at this;exact this
 refine⟨(a.mul a).fits (Bd.of_lt (k:=10) (m:=1001) (by have:=z p b;omega) ()) (),?_⟩;rw[if_neg ()];exact q _ I
theorem Pb {K:ap}{a:Addr}{xs:aa}{g:Int->Int}{o:List (Nat×Str)}{p:TE}{Q:VK}{σ:L2.St}{d:Hp}{D:Addr}(j:d D=none)(q:SqL K d a (xs.map V'))(t:xs.length<=900)(hs:∀x∈xs,∀c R,Same d c->R (.int (g x)) c->p (bst o σ (some (V' x))) c R)(r:dU d Q ((xs.map g).map V')):jv (Itl K a) o p Q σ d D:=by
 obtain⟨k,b⟩:∃k:cx,∀i e,k i e↔e D=some (.lst (((xs.take i).map g).map V'))/\Same d e:=⟨_,λ_ _=>Iff.rfl⟩
 refine eE (xs:=xs.map V') k ((b _ _).mpr ⟨by rw[ak];rfl,az j _⟩) (λi c _ z=>((b i c).mp z).2.seq q) ?_ ?_
 ·intro i v c m n;obtain⟨f,h⟩:=(b _ _).mp n;have hi:i<xs.length:=by have:=(aY.mp m).1;rw[af]at this;exact this
  rw[aG,ao hi]at m;obtain rfl:V' xs[i]=v:=Option.some.inj m;have s:xs.take (i+1)=xs.take i++[xs[i]]:=by rw[cY,ao hi];rfl
  refine hs _ (bY hi) c _ h ⟨_,f,bD (by simp;omega),(b _ _).mpr ⟨?_,h.more j⟩⟩;rw[ak,s,aT,aT];rfl
 intro e n;obtain⟨f,h⟩:=(b _ _).mp n;rw[af,e_]at f;exact r D e h j f
def fU (R l:aa):aa:=
 let s:=if clr 0 R=true then R else [((ah R:Nat):Int)]
 if l≠[]/\co l (l.length-1)<0 then s.map (λx=>-x) else s
def Pd (K:ap):Sp:=λvs H Q _=>∃(a:Addr)(as:am)(rows ds:ac)(l R:aa)(f:Nat->aa),vs=[.ref a]/\SqL K H a (as.map Z')/\LL K H as rows/\rows.getLast?=some l/\rows.length<=60/\(∀r∈rows,Nml r/\r.length<=12/\∀x∈r,Bd 5000 x)/\
 f 0=[]/\(∀i r,rows[i]?=some r->fQ (f i) r (f (i+1)))/\(∀i,(f i).length<=1000)/\f rows.length=R/\R≠[]/\Nml R/\R.length<=12/\(∀x∈R,Bd 5000 x)/\
 ds.length=rows.length/\(∀(i:Nat) r d,rows[i]?=some r->ds[i]?=some d->Nml d/\Div r (fU R l) d)/\ja H Q ds
theorem Pe:FnOk P w K mg base CX0 7 T.SY T.S_ ["polys"] (Pd K):=by
 refine T.Uz.ok tJ (λvs H Q E h=>?_) (λk0 A outer s H vs Q E hr h=>?_)
 ·obtain⟨a,as,rows,ds,l,R,f,rfl,_⟩:=h;rfl
 obtain⟨a,as,rows,ds,l,R,f,rfl,u,hL,hl,lr,br,f0,fs,fl,fR,R0,nR,lR,bR,ld,hd,q⟩:=h;refine⟨_,s!"ɿīɨȥŤȴŦŧŨʛmHˣȥǨȴǩǪǫʫ˘ɑ,īɨɗȥôȴõö÷˽$ImʂˎȲ#ʚ$ˏ=¬ȳʚ˾ɑ,īɨʠɾȽȢɹʩ,ĢʔȢʪøȴùúûʎ",?_⟩
 w_up
 refine⟨a,as,rows,f,rfl,u,hL,(),λr x0=>by have:=(br r x0).2.1;omega,fl,f0,fs,λX H1 s1 nX eX=>?_⟩;rw[fR]at eX;have cb:Bd 5000 ((ah R:Nat):Int):=by show ((ah R:Nat):Int).natAbs<2 ^ 5000;rw[dy];exact ub (dG 5000) R bR
 have cp:=gu nR R0;obtain⟨j,c⟩:∃j,j=if clr 0 R=true then R else [((ah R:Nat):Int)]:=⟨_,rfl⟩
 have n:j≠[]:=by rw[c];split;exact R0;simp
 have B:Nml j:=by rw[c];split;exact nR;exact fj ()
 have C:j.length<=12:=by rw[c];split;exact lR;simp
 have G:∀x∈j,Bd 5000 x:=by
  rw[c];split
  ·exact bR
  ·intro x hx;rw[aW.mp hx];exact cb
 obtain⟨M,k⟩:∃M:L2.St->Hp->Prop,∀σ m,M σ m↔∃Y:Addr,σ=[some (Z' a),some (Z' Y)]/\m Y=some (.lst (j.map V'))/\Same H m:=⟨_,λ_ _=>Iff.rfl⟩
 w_left;refine fP M ?_ ?_
 ·w_left;k_units
  refine⟨X,R,0,5000,1,rfl,SqL.of eX,(),bR,Bd.zero _,(),λH2 s2=>?_⟩;refine⟨_,rfl,bO (λh=>?_) (λh=>?_)⟩
  ·refine⟨X,R,rfl,SqL.of (s2 _ _ eX),λx hx=>cP (bR x hx) (e9 () ()),λHc sc=>⟨(),λp np=>(k _ _).mpr ⟨p,rfl,?_,s1.trans (s2.trans (sc.trans (az np _)))⟩⟩⟩;rw[ak,c,if_neg (by rw[h];decide)];rfl
  ·have hc:clr 0 R=true:=by simpa using h
   exact (k _ _).mpr ⟨X,rfl,#v[c,if_pos hc,s2 _ _ eX],s1.trans s2⟩
 intro σ H3 I;obtain⟨Y,rfl,eY,J⟩:=(k _ _).mp I;clear I k M;have y0:rows≠[]:=λz=>by rw[z]at hl;simp at hl
 obtain⟨S,hS⟩:∃S,fU R l=S:=⟨_,rfl⟩
 have e:S=if l≠[]/\co l (l.length-1)<0 then j.map (λx=>-x) else j:=by rw[<-hS,c];rfl
 have en:j.map (λx:Int=>-x)=j.map λx=>(-1)*x:=by congr 1;funext x;omega
 have lS:S.length<=12:=by rw[e];split;rw[af];exact C;exact C
 have S1:S≠[]:=by rw[e];split;simpa using n;exact n
 have nS:Nml S:=by
  rw[e];split
  ·rw[en];exact og (.inr #v[af,dN,fX () (dw B n)])
  ·exact B
 have bS:∀x∈S,Bd 5000 x:=by
  rw[e];split
  ·intro x hx;obtain⟨y,hy,rfl⟩:=aZ.mp hx;exact (G y hy).neg
  ·exact G
 rw[hS]at hd;obtain⟨M,k⟩:∃M:L2.St->Hp->Prop,∀σ m,M σ m↔∃Y:Addr,σ=[some (Z' a),some (Z' Y)]/\m Y=some (.lst (S.map V'))/\Same H m:=⟨_,λ_ _=>Iff.rfl⟩
 w_left;refine fP M ?_ ?_
 ·w_left;k_units
  obtain⟨b,p,L,_,O,U⟩:=(hL.same J).lastAt y0;obtain rfl:p=l:=by rw[hl]at O;exact (Option.some.inj O).symm
  have no:¬(p≠[]/\co p (p.length-1)<0)->M [some (Z' a),some (Z' Y)] H3:=λh=>(k _ _).mpr ⟨Y,rfl,#v[e,if_neg h,eY],J⟩;refine⟨_,J.seq u,_,L,b,rfl,_,.inl U,?_⟩;rw[af];refine bO (λh=>?_) (λh=>no λz=>by have:=de.mpr z.1;omega);have o:p≠[]:=by intro z;rw[z]at h;simp at h
  have ec:co p (p.length-1)=p.getLast o:=by rw[aI (),Bv]
  refine⟨_,J.seq u,_,L,b,rfl,_,U,_,jx o,_,rfl,bO (λh0=>⟨⟨_,SqL.of eY⟩,λD nD=>?_⟩) (λh0=>no λz=>h0 #v[<-ec,z.2])⟩;refine Pb (g:=λx=>-x) nD (SqL.of eY) () (λx hx m R' sx hR=>?_) λF H5 s5 nF eF=>(k _ _).mpr ⟨F,rfl,?_,J.trans s5⟩
  ·w_left;simp![bst,eL];exact hR
  ·rw[eF,e,if_pos ⟨o,#v[ec,h0]⟩]
 intro σ H4 I;obtain⟨Z,rfl,eZ,t⟩:=(k _ _).mp I;clear I k M
 w_left;k_units
 refine⟨⟨_,t.seq u⟩,λD nD=>oq nD (t.seq u) (hL.same t) ld () (λi b p d m R' hp z0 sx hB hR=>?_) λD' bs H' s' u0 eD lh fr j0 nd=>q D' bs H' (t.trans s') (t.free u0) eD lh (λx hx=>t.free (fr x hx)) j0 nd⟩
 w_left;simp![bst,eL]
 obtain⟨d1,d2⟩:=hd i p d hp z0;have bp:=br p (bT hp);exact⟨b,Z,p,S,5000,5000,rfl,hB,SqL.of (sx _ _ eZ),(),(),bp.1,nS,bp.2.2,bS,(),(),.inr ⟨S1,.inl ⟨d,d1,d2,hR⟩⟩⟩
theorem Hh {K:ap}{a b:Addr}{as bs:am}{ps rs ds:ac}{S:List (Nat×Str)}{T:TE}{Q:VK}{σ:L2.St}{h:Hp}{D:Addr}(s:h D=none)(hA:SqL K h a (as.map Z'))(U:LL K h as ps)(hB:SqL K h b (bs.map Z'))(X:LL K h bs rs)(hd:ds.length=ps.length)(hr:ps.length<=rs.length)(hl:ps.length<=900)(hs:∀(i:Nat)(x y:Addr)(p r d:aa)(c:Hp)(R:VK),ps[i]?=some p->rs[i]?=some r->ds[i]?=some d->Same h c->SqL K c x (p.map V')->SqL K c y (r.map V')->dU c R (d.map V')->T (fg S σ (some (Z' x)) (some (Z' y))) c R)(he:ja h Q ds):rZ K (Itz K a b) S T Q σ h D:=by
 obtain⟨t,f⟩:∃t:cx,∀j c,t j c↔∃g:am,c D=some (.lst (g.map Z'))/\LH c g (ds.take j)/\D∉g/\g.Nodup/\(∀b∈g,h b=none)/\Same h c:=⟨_,λ_ _=>Iff.rfl⟩
 refine zB (xs:=as.map Z') (ys:=bs.map Z') t ((f _ _).mpr ⟨[],ak,LH.nil _,by simp,kO,by simp,az s _⟩) (λi c _ _ z=>by obtain⟨_,_,_,_,_,_,z⟩:=(f i c).mp z;exact⟨z.seq hA,z.seq hB⟩) ?_ ?_
 ·intro j v1 v2 pt c h1 h2 B C;obtain⟨g,q,m,G,H,I,n⟩:=(f _ _).mp B;obtain⟨x,p,rfl,_,Y,hX⟩:=U.nth h1;obtain⟨y,r,rfl,_,J,hY⟩:=X.nth h2;have hj:j<ps.length:=(aY.mp Y).1;have o:ds[j]?=some ds[j]:=ao ();have u:=az C (.tup [Z' x,Z' y]);have L:=n.trans u;refine hs j x y p r _ _ _ Y J o L (L.seq hX) (L.seq hY) λF H2 s2 nF eF=>?_;have M:=u.trans s2;have lk:=m.len;rw[bX]at lk;have k:=u.free nF;have O:F≠D:=λz=>by rw[z,q]at k;cases k
  have P:F∉g:=m.notin k;have Z:D∉g++[F]:=λz=>by
   rcases a8.mp z with z|z
   ·exact G z
   ·exact O (aW.mp z).symm
  refine⟨_,M _ _ q,#v[af,bD ()],(f _ _).mpr ⟨g++[F],by rw[ak];simp,?_,Z,?_,?_,(n.trans M).more s⟩⟩
  ·have e:ds.take (j+1)=ds.take j++[ds[j]]:=by rw[cY,o];rfl
   rw[e];exact ((m.same M).snoc eF).upd Z
  ·exact jQ.mpr ⟨H,by simp,λx hx y hy z=>P (by rw[aW.mp hy]at z;rw[<-z];exact hx)⟩
  ·intro x hx;rcases a8.mp hx with z|z
   ·exact I x z
   ·rw[aW.mp z];exact n.free k
 ·intro H' B;obtain⟨g,q,m,G,H,I,n⟩:=(f _ _).mp B;have e1:=U.len;have e2:=X.len;rw[af,af,gl ()]at m;exact he D g H' n s q m I G H
def Pf {K:ap}(w B KM:Nat)(St:ax->aw->Int->Prop)(Vq:ax->ac->Prop)(Rl:ax->ac->ac->Prop):Sp:=λvs H Q _=>∃(A Wa:Addr)(us wa:am)(qs:ax)(wts:ac),vs=[.ref A,.ref Wa]/\SqL K H A (us.map Z')/\VL K H us qs/\(∀q,qs[0]?=some q->q.length=w)/\qs≠[]/\(∀(i:Nat)(q:ac)(cs:aw)(pl:Int),qs[i]?=some q->St (qs.take i) cs pl->Vq (qs.take i) q)/\
 SqL K H Wa (wa.map Z')/\LL K H wa wts/\wts.length=qs.length/\qs.length<=6/\(∀p∈wts,p.length<=9/\Nml p/\∀x∈p,Bd 3000 x)/\(∀cs pl,¬St qs cs pl)/\
 ∀(i:Nat)(q:ac)(ws:ac)(cs:aw)(pl:Int),qs[i]?=some q->St (qs.take i) cs pl->Rl (qs.take i) q ws->ws.length=i+1/\(∀p∈ws,p.length<=20/\Nml p/\∀x∈p,Bd 4480 x)/\∃(ds:ac)(l R:aa)(f:Nat->aa),(cV aQ ws wts).getLast?=some l/\(∀r∈cV aQ ws wts,Nml r/\r.length<=12/\∀x∈r,Bd 5000 x)/\
  f 0=[]/\(∀i r,(cV aQ ws wts)[i]?=some r->fQ (f i) r (f (i+1)))/\(∀i,(f i).length<=1000)/\f (cV aQ ws wts).length=R/\R≠[]/\Nml R/\R.length<=12/\(∀x∈R,Bd 5000 x)/\ds.length=(cV aQ ws wts).length/\(∀(i:Nat) r d,(cV aQ ws wts)[i]?=some r->ds[i]?=some d->Nml d/\Div r (fU R l) d)/\ja H Q ds
theorem Pg {P:Program}{wd:World}{K:ap}{mg:bh}{base:Heap}(T:Tx K mg){w B n:Nat}{St:ax->aw->Int->Prop}{Vq:ax->ac->Prop}{Rl:ax->ac->ac->Prop}(Z:SpTh w B n St Vq Rl):FnOk P wd K mg base CX0 (2*(n+2)+12) T.Tc T.Td ["vectors","weights"] (Pf (K:=K) w B n St Vq Rl):=by
 have F:=OL (P:=P) (wd:=wd) (base:=base) T Z;refine T.UA.ok Fn (λvs H Q E h=>?_) (λn0 A outer s H vs Q E o h=>?_)
 ·obtain⟨A,Wa,us,wa,qs,a,rfl,_⟩:=h;rfl
 obtain⟨A,Wa,us,wa,qs,a,rfl,hA,hL,hw,ne,t,hW,lW,lw,l6,bw,c,q⟩:=h;refine⟨_,s!"ɉǬɋˢĬ ǭǮǯʛʺǰȤĬ ǱǲǳɌŴ ìɂí˫-ɏʪ§ȤĬ ʦʎ$",?_⟩
 w_up
 refine⟨A,us,qs,rfl,hA,hL,hw,ne,t,λH1 i qv D bs g u pl hq C hR m nD eD lD nb Db=>?_,λH1 u pl C _=>absurd C (c u pl)⟩;obtain⟨x1,G,ds,l,R,f,t1,t2,t3,t4,t5,t6,t7,t8,t9,I,J,L,M⟩:=q i qv g u pl hq C hR;have hi:=(aY.mp hq).1;refine⟨D,rfl,_,SqL.of eD,_,m.seq hW,λD2 O=>?_⟩;have lz:(cV aQ g a).length=g.length:=by rw[mI];omega
 refine Hh (ps:=g) (rs:=a) (ds:=cV aQ g a) O (SqL.of eD) lD.ll (m.seq hW) (lW.same m) lz () () (λj x y p r d Hx R' hp k hd sx hX hY hN=>?_) (λD3 S H3 s3 y1 U X f3 n3 z1=>?_)
 ·w_left;simp![fg]
  have pb:=G p (bT hp);have rb:=bw r (bT k);rw[uX,hp,k]at hd
  cases hd
  exact⟨x,y,p,r,rfl,hX,hY,(),(),λz Y=>(pb.2.2 z Y).mono (),λz Y=>(rb.2.2 z Y).mono (),hN⟩
 have e:=m.trans s3;refine⟨D3,S,_,ds,l,R,f,rfl,SqL.of U,X.ll,t1,(),t2,t3,t4,t5,t6,t7,t8,t9,I,J,L,λD4 x0 H4 s4 y0 z0 u0 j0 n4 k0=>M D4 x0 H4 (e.trans s4) (e.free y0) z0 u0 (λb hb=>e.free (j0 b hb)) n4 k0⟩
def ml (r:Nat)(p:Nat->Int->Int)(A:aH)(N:Nat):Prop:=∀n:Nat,n<N->au (r+1) (λi=>p i (n:Int)*A (n+i))=0
theorem Hi {r:Nat}{p:Nat->Int->Int}{A:aH}{N:Nat}(k:ml r p A N)(n:Nat):∀(m:Nat),n+m<=N->∀i,i<r->jz r p (n:Int) (λi=>A (n+i)) m i=gI (p r) (n:Int) m*A (n+m+i)
 | 0,_,i,_=>by
  show A (n+i)=1*A (n+0+i);rw[dS];rfl
 | m+1,hm,i,hi=>by
  have a:=Hi k n m ();have b:=k (n+m) ();rw[lE]at b;show gE r p ((n:Int)+(m:Int)) _ i=gI (p r) (n:Int) m*p r ((n:Int)+(m:Int))*A (n+(m+1)+i);have c:((n:Int)+(m:Int))=((n+m:Nat):Int):=by omega
  rw[c];unfold gE;by_cases z:i+1<r
  ·rw[if_pos z,a (i+1) z,show n+m+(i+1)=n+(m+1)+i by omega];grind
  ·rw[if_neg z,if_pos ()];have e:au r (λj=>p j ((n+m:Nat):Int)*jz r p (n:Int) (λi=>A (n+i)) m j)=gI (p r) (n:Int) m*au r (λj=>p j ((n+m:Nat):Int)*A (n+m+j)):=by
    rw[<-e7];refine cB λj d=>?_;rw[a j d];grind
   rw[e,show n+(m+1)+i=n+m+r by omega];have f:au r (λj=>p j ((n+m:Nat):Int)*A (n+m+j))=- (p r ((n+m:Nat):Int)*A (n+m+r)):=by omega
   rw[f];grind
theorem Ph {ps us:ac}{b:aa}{a:Nat}{A:aH}{N:Nat}(m:0<us.length)(c:Crd ps a us b)(k:ml us.length (pvL ps) A N)(n:Nat)(o:us.length<=a->n+a+1<=N+us.length):val (n:Int) b*A (n+a)=au us.length λi=>val (n:Int) (us.getD i [])*A (n+i):=by
 rcases c with ⟨d,f,g⟩|⟨d,f,g⟩
 ·have e:∀i,i<us.length->us.getD i []=if i=a then [1] else []:=λi hi=>by
   rw[f,aq,aG,ij (⇑hi)];rfl
  rw[lC (i:=a) d (λj p h=>by rw[e j p,if_neg h];show (0:Int)*_=0;rw[gJ]),e a d,if_pos rfl,g]
 ·have hk:=Hi k n (a+1-us.length) (by have:=o d;omega) (us.length-1) ();rw[<-Fk m]at hk;rw[g,show n+a=n+(a+1-us.length)+(us.length-1) by omega,<-hk];exact (cB λi hi=>by rw[f i n hi]).symm
theorem Hj (f:Nat->Nat->Int)(m:Nat):∀r:Nat,au m (λt=>au r λj=>f t j)=au r λj=>au m λt=>f t j
 | 0=>fF λ_ _=>rfl
 | r+1=>by
  show au m (λt=>au r (λj=>f t j)+f t r)=au r (λj=>au m λt=>f t j)+au m (λt=>f t r);rw[jy,Hj f m r]
theorem Pj {w m:Nat}{c W S b:aH}{V:Nat->Nat->Int}(h:∀t,t<m->W t*S t=au w λj=>V t j*b j)(z:∀j,j<w->au m (λt=>V t j*c t)=0):au m (λt=>c t*W t*S t)=0:=by
 have e:au m (λt=>c t*W t*S t)=au m λt=>au w λj=>b j*(V t j*c t):=cB λt a=>by
  rw[cD,h t a,<-e7];exact cB λj _=>by grind
 rw[e,Hj];refine fF λj d=>?_;rw[e7,z j d,dq]
theorem Pk {r:Nat}{c a b St d f v0:Int}{v u A:aH}(h:c*St=v0*f+au r λi=>v i*A i)(g:b=c*a)(j:b*d=au r λi=>u i*A i):b*(St+d)=v0*a*f+au r λi=>(v i*a+u i)*A i:=by
 have e:au r (λi=>(v i*a+u i)*A i)=a*au r (λi=>v i*A i)+au r λi=>u i*A i:=by
  rw[<-e7,<-jy];exact cB λi _=>by grind
 rw[e,ig,j,g];have:c*a*St=a*(c*St):=by grind
 rw[this,h];grind
theorem Pl {m:Nat}{s:Int}{x d S:aH}(hs:s≠0)(e:∀t,t<m->x t=s*d t)(h:au m (λt=>x t*S t)=0):au m (λt=>d t*S t)=0:=by
 have a:au m (λt=>x t*S t)=s*au m λt=>d t*S t:=by
  rw[<-e7];exact cB λt b=>by rw[e t b,cD]
 rw[a]at h;exact (iI.mp h).resolve_left hs
def bV (x:aH)(fs:Nat->Int×Int):Nat->Int×Int
 | 0=>(0,1)
 | j+1=>((bV x fs j).1*(fs j).2+x j*(fs j).1*(bV x fs j).2,(bV x fs j).2*(fs j).2)
theorem uz {x A:aH}{fs:Nat->Int×Int}{M:Int}:∀(j:Nat),(∀i,i<j->M*(fs i).1=A i*(fs i).2)->(bV x fs j).1*M=(bV x fs j).2*au j λi=>x i*A i
 | 0,_=>by show (0:Int)*M=1*0;rw[gJ];rfl
 | j+1,h=>by
  have a:=uz (x:=x) j λi hi=>h i ();have e:=h j ();show ((bV x fs j).1*(fs j).2+x j*(fs j).1*(bV x fs j).2)*M=(bV x fs j).2*(fs j).2*(au j (λi=>x i*A i)+x j*A j);grind
theorem uA {x:aH}{fs:Nat->Int×Int}:∀(j:Nat),(∀i,i<j->1<=(fs i).2)->1<=(bV x fs j).2
 | 0,_=>Int.le_refl 1
 | j+1,h=>by
  have a:=uA (x:=x) j λi hi=>h i ();have b:=h j ();have:=uT (show 0<(bV x fs j).2 by omega) (show 0<(fs j).2 by omega);show 1<=(bV x fs j).2*(fs j).2;omega
theorem Pm {x A:aH}{fs:Nat->Int×Int}{M:Int}{j:Nat}(m0:M≠0)(h:∀i,i<j->M*(fs i).1=A i*(fs i).2)(z:au j (λi=>x i*A i)=0):(bV x fs j).1=0:=by
 have e:=uz (x:=x) j h;rw[z,dq]at e;exact (iI.mp e).resolve_right m0
theorem Po {x A:aH}{fs:Nat->Int×Int}{M c a p q:Int}{j:Nat}(h:∀i,i<j->M*(fs i).1=A i*(fs i).2)(d:∀i,i<j->1<=(fs i).2)(n:1<=q)(e:p*((bV x fs j).2*c)=- (bV x fs j).1*q)(f:M*p=a*q):au j (λi=>x i*A i)+c*a=0:=by
 have b:=uz (x:=x) j h;have b1:=uA (x:=x) j d;generalize bV x fs j=T at *;generalize au j (λi=>x i*A i)=Y at *;have g:q≠0:=by omega
 have k:T.2≠0:=by omega
 have m:(Y+c*a)*(T.2*q)=0:=by
  have:M*(p*(T.2*c))=M*(- T.1*q):=by rw[e]
  have o:a*q*(T.2*c)=- (T.2*Y)*q:=by
   rw[<-f,<-b];grind
  grind
 exact (iI.mp m).resolve_right (fX k g)
def fV (ps:ac)(r t:Nat)(n:Int):Int:=if r<=t+1 then pvL ps r (n+((t+1-r:Nat):Int)) else 1
structure SumV (ps:ac)(r:Nat)(qs:ax)(wts:ac):Prop where
 lq:qs.length=r+2
 lw:wts.length=r+2
 v0:∀c n,val n ((qs.getD 0 []).getD c [])=if c=0 then 1 else 0
 w0:∀n,val n (wts.getD 0 [])=1
 st:∀t,t<r+1->∃us bot,us.length=r/\Crd ps (t+1) us bot/\∀n c,c<r+1->val n ((qs.getD (t+1) []).getD c [])=val n ((qs.getD t []).getD c [])*fV ps r t n+(if c=0 then 0 else val n (us.getD (c-1) []))
 sw:∀t,t<r+1->∀n,val n (wts.getD (t+1) [])=val n (wts.getD t [])*fV ps r t n
theorem AZ {ps:ac}{r:Nat}{b:ax}{a:ac}(V:SumV ps r b a)(n:Int):∀t,t<=r+1->val n (a.getD t [])=if r<=t then (if r=0 then gI (λm=>pvL ps r (m+1)) n t else gI (pvL ps r) n (t+1-r)) else 1
 | 0,_=>by
  rw[V.w0];by_cases z:r=0
  ·rw[if_pos (),if_pos z];rfl
  ·rw[if_neg ()]
 | t+1,h=>by
  rw[V.sw t (),AZ V n t ()];unfold fV;by_cases z0:r=0
  ·rw[if_pos (),if_pos z0,if_pos (),if_pos (),if_pos z0];show _=gI (λm=>pvL ps r (m+1)) n t*pvL ps r (n+(t:Int)+1);congr 2;omega
  by_cases z:r<=t
  ·rw[if_pos z,if_neg z0,if_pos (),if_pos (),if_neg z0,show t+1+1-r=(t+1-r)+1 by omega];rfl
  ·by_cases y:r=t+1
   ·rw[if_neg z,if_pos (),if_pos (),if_neg z0,show t+1+1-r=0+1 by omega,show t+1-r=0 by omega];rfl
   ·rw[if_neg z,if_neg (),if_neg (),dS]
theorem Hk {ps:ac}{r:Nat}{a:ax}{b:ac}{A S:aH}{N:Nat}(V:SumV ps r a b)(hk:ml r (pvL ps) A N)(p:∀k,S (k+1)=S k+A (k+1))(n:Nat):∀t,t<=r+1->(r<=t->n+t+1<=N+r)->val (n:Int) (b.getD t [])*S (n+t)=au (r+1) λc=>val (n:Int) ((a.getD t []).getD c [])*(if c=0 then S n else A (n+(c-1)))
 | 0,_,_=>by
  rw[V.w0,iZ,V.v0,if_pos rfl,if_pos rfl,fF λj _=>by rw[V.v0,if_neg (),gJ]];rw[iG];rfl
 | t+1,ht,hn=>by
  have q:=Hk V hk p n t () λh=>by have:=hn ();omega
  obtain⟨y,e,f,s,u⟩:=V.st t ();have g:∀d,au (r+1) (λc=>val (n:Int) ((a.getD d []).getD c [])*(if c=0 then S n else A (n+(c-1))))=val (n:Int) ((a.getD d []).getD 0 [])*S n+au r λi=>val (n:Int) ((a.getD d []).getD (i+1) [])*A (n+i):=λd=>by
   rw[iZ,if_pos rfl];congr 1
  rw[g]at q ⊢;have z:val (n:Int) ((a.getD (t+1) []).getD 0 [])=val (n:Int) ((a.getD t []).getD 0 [])*fV ps r t n:=by rw[u _ 0 (),if_pos rfl,iG]
  have B:au r (λi=>val (n:Int) ((a.getD (t+1) []).getD (i+1) [])*A (n+i))=au r λi=>(val (n:Int) ((a.getD t []).getD (i+1) [])*fV ps r t n+val (n:Int) (y.getD i []))*A (n+i):=cB λi hi=>by
   rw[u _ (i+1) (),if_neg ()];rfl
  have C:S (n+(t+1))=S (n+t)+A (n+(t+1)):=p (n+t);rw[z,B,C];refine Pk q (V.sw t () n) ?_;by_cases r0:r=0
  ·subst r0;show _=(0:Int)
   have D:t=0:=by omega
   subst D;have kk:=hk (n+1) (by have:=hn ();omega);rw[AZ V n 1 (),if_pos (),if_pos rfl];have:gI (λm=>pvL ps 0 (m+1)) (n:Int) 1=pvL ps 0 ((n+1:Nat):Int):=by
    show 1*pvL ps 0 ((n:Int)+((0:Nat):Int)+1)=_;rw[dS];congr 1
   rw[this];have x:0+pvL ps 0 ((n+1:Nat):Int)*A (n+1+0)=0:=kk;rw[ii]at x;exact x
  ·have F:val (n:Int) (b.getD (t+1) [])=val (n:Int) e:=by
    rw[AZ V n (t+1) ()];rcases s with ⟨G,_,o⟩|⟨G,_,o⟩
    ·rw[if_neg (),o];simp[val]
    ·rw[if_pos (),if_neg r0,o,f]
   rw[F];have:=Ph (A:=A) (N:=N) () s #v[f,hk] n λh=>by have:=hn ();omega
   rw[f]at this;exact this
theorem Pp {ps:ac}{r i:Nat}{d:ax}{a ws ds:ac}{A S:aH}{N n:Nat}{s:Int}(V:SumV ps r d a)(hk:ml r (pvL ps) A N)(f:∀k,S (k+1)=S k+A (k+1))(hi:i<=r+1)(g:r<=i->n+i+1<=N+r)(h:∀c,c<r+1->au (i+1) (λt=>val (n:Int) ((d.getD t []).getD c [])*val (n:Int) (ws.getD t []))=0)(hs:s≠0)(hd:∀t,t<i+1->val (n:Int) (ws.getD t [])*val (n:Int) (a.getD t [])=s*val (n:Int) (ds.getD t [])):au (i+1) (λt=>val (n:Int) (ds.getD t [])*S (n+t))=0:=by
 have e:=Pj (w:=r+1) (m:=i+1) (c:=λt=>val (n:Int) (ws.getD t [])) (W:=λt=>val (n:Int) (a.getD t [])) (S:=λt=>S (n+t)) (b:=λc=>if c=0 then S n else A (n+(c-1))) (V:=λt c=>val (n:Int) ((d.getD t []).getD c [])) (λt j=>Hk V hk f n t () λy=>by have:=g ();omega) h;exact Pl (x:=λt=>val (n:Int) (ws.getD t [])*val (n:Int) (a.getD t [])) hs hd e
theorem Pq {n:Nat}{ds:ac}{H:List (Nat×Str)}{I:TE}{Q:VK}{σ:L2.St}{f:Hp}{D:Addr}(p:f D=none)(hd:ds.length=n)(S:n<=900)(hs:∀(i:Nat)(d:aa)(a:Hp)(R:VK),i<n->ds[i]?=some d->Same f a->dU a R (d.map V')->I (bst H σ (some (V' (0+(i:Int))))) a R)(L:ja f Q ds):jv (Itr 0 n) H I Q σ f D:=by
 obtain⟨q,c⟩:∃q:cx,∀j a,q j a↔∃bs:am,a D=some (.lst (bs.map Z'))/\LH a bs (ds.take j)/\D∉bs/\bs.Nodup/\(∀b∈bs,f b=none)/\Same f a:=⟨_,λ_ _=>Iff.rfl⟩
 refine rL q ((c _ _).mpr ⟨[],ak,LH.nil _,by simp,kO,by simp,az p _⟩) ?_ ?_
 ·intro j a M r;obtain⟨bs,m,g,s,t,u,h⟩:=(c _ _).mp r;have k:ds[j]?=some ds[j]:=ao ();refine hs j _ a _ M k h λF T B o O=>?_;have lk:=g.len;rw[bX]at lk;have C:F≠D:=λz=>by rw[z,m]at o;cases o
  have G:F∉bs:=g.notin o;have J:D∉bs++[F]:=λz=>by
   rcases a8.mp z with z|z
   ·exact s z
   ·exact C (aW.mp z).symm
  refine⟨_,B _ _ m,#v[af,bD ()],(c _ _).mpr ⟨bs++[F],by rw[ak];simp,?_,J,?_,?_,(h.trans B).more p⟩⟩
  ·have e:ds.take (j+1)=ds.take j++[ds[j]]:=by rw[cY,k];rfl
   rw[e];exact ((g.same B).snoc O).upd J
  ·exact jQ.mpr ⟨t,by simp,λx hx y hy z=>G (by rw[aW.mp hy]at z;rw[<-z];exact hx)⟩
  ·intro x hx;rcases a8.mp hx with z|z
   ·exact u x z
   ·rw[aW.mp z];exact h.free o
 ·intro P r;obtain⟨bs,m,g,s,t,u,h⟩:=(c _ _).mp r;rw[<-hd,e_]at g;exact L D bs P h p m g u s t
structure VH (H:Hp)(us:am)(qs:ax):Prop where
 len:us.length=qs.length
 get:∀(i:Nat)(u:Addr)(q:ac),us[i]?=some u->qs[i]?=some q->∃as,H u=some (.lst (as.map Z'))/\LH H as q
theorem VH.same {H a:Hp}{us:am}{b:ax}(h:VH H us b)(s:Same H a):VH a us b:=⟨h.len,λi u q c d=>by
 obtain⟨as,e,f⟩:=h.get i u q c d;exact⟨as,s _ _ e,f.same s⟩⟩
theorem VH.nil (H:Hp):VH H [] []:=⟨rfl,λi u q e=>by simp at e⟩
theorem VH.snoc {H:Hp}{us:am}{c:ax}{u:Addr}{q:ac}{as:am}(h:VH H us c)(e:H u=some (.lst (as.map Z')))(l:LH H as q):VH H (us++[u]) (c++[q]):=by
 refine⟨by simp[h.len],λi v r a b=>?_⟩;by_cases z:i<us.length
 ·rw[cA z]at a;rw[cA #v[<-h.len,z]]at b;exact h.get i v r a b
 ·rw[cQ ()]at a;rw[cQ (by rw[<-h.len];omega),<-h.len]at b;have d:i-us.length=0:=by
   rcases Je (i-us.length) with y|y
   ·exact y
   ·rw[ic (by simp;omega)]at a;cases a
  rw[d]at a b;simp at a b;rw[<-a,<-b];exact⟨as,e,l⟩
theorem VH.vl {K:ap}{H:Hp}{us:am}{a:ax}(h:VH H us a):VL K H us a:=⟨h.len,λi u q b c=>by
 obtain⟨as,d,e⟩:=h.get i u q b c;exact⟨as,SqL.of d,e.ll⟩⟩
structure SumP (ps:ac)(r j:Nat)(qs:ax)(wts:ac):Prop where
 lq:qs.length=j+1
 lw:wts.length=j+1
 v0:∀c n,val n ((qs.getD 0 []).getD c [])=if c=0 then 1 else 0
 w0:∀n,val n (wts.getD 0 [])=1
 st:∀t,t<j->∃us bot,us.length=r/\Crd ps (t+1) us bot/\∀n c,c<r+1->val n ((qs.getD (t+1) []).getD c [])=val n ((qs.getD t []).getD c [])*fV ps r t n+(if c=0 then 0 else val n (us.getD (c-1) []))
 sw:∀t,t<j->∀n,val n (wts.getD (t+1) [])=val n (wts.getD t [])*fV ps r t n
theorem SumP.full {ps:ac}{r:Nat}{b:ax}{a:ac}(h:SumP ps r (r+1) b a):SumV ps r b a:=⟨h.lq,h.lw,h.v0,h.w0,h.st,h.sw⟩
theorem SumP.snoc {ps:ac}{r j:Nat}{b:ax}{a:ac}(h:SumP ps r j b a){q us:ac}{w d:aa}(i:us.length=r)(k:Crd ps (j+1) us d)(m:∀n c,c<r+1->val n (q.getD c [])=val n ((b.getD j []).getD c [])*fV ps r j n+(if c=0 then 0 else val n (us.getD (c-1) [])))(o:∀n,val n w=val n (a.getD j [])*fV ps r j n):SumP ps r (j+1) (b++[q]) (a++[w]):=by
 have e:∀t,t<=j->(b++[q]).getD t []=b.getD t []:=λt g=>by rw[aq,cA (by rw[h.lq];omega),<-aq]
 have p:(b++[q]).getD (j+1) []=q:=by rw[aq,cQ (by rw[h.lq];omega),h.lq,fB];rfl
 have f:∀t,t<=j->(a++[w]).getD t []=a.getD t []:=λt g=>by rw[aq,cA (by rw[h.lw];omega),<-aq]
 have s:(a++[w]).getD (j+1) []=w:=by rw[aq,cQ (by rw[h.lw];omega),h.lw,fB];rfl
 refine⟨by rw[b4,h.lq];rfl,by rw[b4,h.lw];rfl,λc n=>#v[e 0 (),h.v0 c n],λn=>#v[f 0 (),h.w0 n],λt g=>?_,λt g n=>?_⟩
 ·by_cases z:t=j
  ·subst z;rw[p,e t (aA _)];exact⟨us,d,i,k,m⟩
  ·rw[e (t+1) (),e t ()];exact h.st t ()
 ·by_cases z:t=j
  ·subst z;rw[s,f t (aA _)];exact o n
  ·rw[f (t+1) (),f t ()];exact h.sw t () n
def kk (r t:Nat):Nat:=if r=0 then t else t+1-r
structure SumZ (r:Nat)(qs:ax)(wts:ac):Prop where
 v:∀t v,qs[t]?=some v->v.length=r+1/\∀f∈v,Nml f/\f.length<=2*kk r t+1/\∀x∈f,Bd (20000+2000*t) x
 w:∀t p,wts[t]?=some p->p.length<=2*kk r t+1/\Nml p/\∀x∈p,Bd (910*t+1) x
theorem Hl {α:Type}{xs:List α}{x y:α}{j t:Nat}(l:xs.length=j)(h:(xs++[x])[t]?=some y):xs[t]?=some y\/(t=j/\y=x):=by
 by_cases z:t<xs.length
 ·rw[cA z]at h;exact .inl h
 ·rw[cQ ()]at h;have a:=(aY.mp h).1;have e:t-xs.length=0:=by simp at a;omega
  rw[e]at h;exact .inr ⟨(),by simpa using h.symm⟩
theorem SumZ.snoc {r j:Nat}{b:ax}{a:ac}(h:SumZ r b a)(lq:b.length=j)(lw:a.length=j){q:ac}{w:aa}(c:q.length=r+1/\∀f∈q,Nml f/\f.length<=2*kk r j+1/\∀x∈f,Bd (20000+2000*j) x)(d:w.length<=2*kk r j+1/\Nml w/\∀x∈w,Bd (910*j+1) x):SumZ r (b++[q]) (a++[w]):=by
 refine⟨λt v e=>?_,λt p g=>?_⟩
 ·rcases Hl lq e with z|⟨rfl,rfl⟩
  ·exact h.v t v z
  ·exact c
 ·rcases Hl lw g with z|⟨rfl,rfl⟩
  ·exact h.w t p z
  ·exact d
def Hm (w:Nat)(St:ax->aw->Int->Prop)(Vq:ax->ac->Prop)(Rl:ax->ac->ac->Prop)(qs:ax)(wts:ac)(G:ac->Prop):Prop:=
 (∀q,qs[0]?=some q->q.length=w)/\(∀(i:Nat)(q:ac)(cs:aw)(pl:Int),qs[i]?=some q->St (qs.take i) cs pl->Vq (qs.take i) q)/\(∀cs pl,¬St qs cs pl)/\
 ∀(i:Nat)(q:ac)(ws:ac)(cs:aw)(pl:Int),qs[i]?=some q->St (qs.take i) cs pl->Rl (qs.take i) q ws->ws.length=i+1/\(∀p∈ws,p.length<=20/\Nml p/\∀x∈p,Bd 4480 x)/\∃(ds:ac)(l R:aa)(f:Nat->aa),(cV aQ ws wts).getLast?=some l/\(∀r∈cV aQ ws wts,Nml r/\r.length<=12/\∀x∈r,Bd 5000 x)/\
  f 0=[]/\(∀i r,(cV aQ ws wts)[i]?=some r->fQ (f i) r (f (i+1)))/\(∀i,(f i).length<=1000)/\f (cV aQ ws wts).length=R/\R≠[]/\Nml R/\R.length<=12/\(∀x∈R,Bd 5000 x)/\ds.length=(cV aQ ws wts).length/\(∀(i:Nat) r d,(cV aQ ws wts)[i]?=some r->ds[i]?=some d->Nml d/\Div r (fU R l) d)/\G ds
def Pr {K:ap}(w:Nat)(St:ax->aw->Int->Prop)(Vq:ax->ac->Prop)(Rl:ax->ac->ac->Prop):Sp:=λvs H Q _=>∃(R:Addr)(as:am)(ps:ac)(r:Nat),vs=[.ref R]/\SqL K H R (as.map Z')/\LL K H as ps/\oz ps/\ps.length=r+1/\(∀p∈ps,(r+1)*(r+1)*p.length<=32)/\
 ∀qs wts,SumV ps r qs wts->SumZ r qs wts->Hm w St Vq Rl qs wts λds=>ja H Q ds
theorem Ps {P:Program}{wd:World}{K:ap}{mg:bh}{base:Heap}(T:Tx K mg){w B KM:Nat}{St:ax->aw->Int->Prop}{Vq:ax->ac->Prop}{Rl:ax->ac->ac->Prop}(Z:SpTh w B KM St Vq Rl):FnOk P wd K mg base CX0 (2*(KM+2)+14) T.Rx T.Ry ["one"] (Pr (K:=K) w St Vq Rl):=by
 have F:=Pg (P:=P) (wd:=wd) (base:=base) T Z;refine T.Te.ok gF (λvs H Q E h=>?_) (λcdv A outer s H vs Q E hr h=>?_)
 ·obtain⟨R,as,ps,r,rfl,_⟩:=h;rfl
 obtain⟨R,as,ps,r,rfl,hR,hL,rk,lp,hw,q⟩:=h;refine⟨_,s!"ɿxɋŵȴŶŷŸʛ'^ȥǴȴǵǶǷɌɃȪ&ɟɉx˒ɗʊ$ɥɂSjɜɏKəɒxȟʊɯxȟEɡʋxȟEʱɅĸɦɠɃȪʒCxȟmȠTxɨî=ðɐȪȩȥüȴýþÿɌʚ˜ɐȪ$ʊ˄_ɊɩTĺʔȰʪʿʎxɄȡ¢x˒ɗə$ɖȥǸȴǹǺǻɚȝC$Ȯ'Ĺ(- ìɂí˫_ȝ¢$ʪåȴæçèʎxɄɒxɋʿ˺ȝT$ʭȺɡ˞ɛʱʺ́ ǼǽǾȧ6ʜ",?_⟩
 w_up
 have r3:r<=2:=by have:=rk.2.1;omega
 refine⟨R,as,ps,rfl,hR,hL,(),.inl ⟨rk.1,?_⟩⟩;rw[show (ps.length:Int)-1=(r:Int) by omega];have m8:ps≠[]:=λz=>by rw[z]at lp;simp at lp
 w_up
 rw[show (r:Int)+1=((r+1:Nat):Int) by omega];refine⟨R,as,ps,r+1,rfl,hR,hL,m8,(),λp I=>by have:=(rk.2.2 p I).1;omega,(),hw,λH1 s1=>?_⟩
 w_up
 refine⟨(),λY n8=>⟨(),λo2 x9=>⟨(),(),λD0 z5=>?_⟩⟩⟩;rw[iD];have u1:=az n8 (.lst [V' 1]);have u2:=az x9 (.lst [Z' Y]);have v3:=u2 _ _ (ak (H:=H1) (a:=Y) (o:=.lst [V' 1]));have k3:=ak (H:=L2.upd H1 Y (.lst [V' 1])) (a:=o2) (o:=.lst [Z' Y]);have s2:=s1.trans (u1.trans u2);generalize L2.upd (L2.upd H1 Y (.lst [V' 1])) o2 (.lst [Z' Y])=H2 at v3 k3 s2 z5 ⊢;refine Pq (ds:=bI r []) z5 (by simp) () (λi d Hx R' hi hd sx y9=>?_) (λX bs H3 s3 nX eX lX nb u5 nd=>?_)
 ·rw[jc,if_pos hi]at hd
  cases hd
  w_left;simp![bst]
  exact⟨(),λp np=>y9 p _ (az np _) np ak⟩
 refine⟨X,rfl,_,s3 _ _ k3,_,eX,?_,λVc v5=>?_⟩
 ·rw[af,lX.len,mr];exact dm (bD (by simp;omega))
 rw[show [Z' Y]++bs.map Z'=(Y :: bs).map Z' by rfl];have u4:=az v5 (.lst ((Y :: bs).map Z'));have O:=ak (H:=H3) (a:=Vc) (o:=.lst ((Y :: bs).map Z'));have lV:LH (L2.upd H3 Vc (.lst ((Y :: bs).map Z'))) (Y :: bs) ([1] :: bI r []):=(lX.same u4).cons (u4 _ _ (s3 _ _ v3));have s4:=s2.trans (s3.trans u4);generalize L2.upd H3 Vc (.lst ((Y :: bs).map Z'))=H4 at O lV s4 ⊢;clear v3 k3 u4 s3 lX eX nX nb u5 nd v5 u1 u2
 w_up
 refine⟨(),λW0 j5=>?_⟩;have w1:=az j5 (.lst [V' 1]);have j0:=ak (H:=H4) (a:=W0) (o:=.lst [V' 1])
 w_up
 refine⟨(),λS k0=>?_⟩;have w2:=az k0 (.lst [Z' Vc]);have U:=ak (H:=L2.upd H4 W0 (.lst [V' 1])) (a:=S) (o:=.lst [Z' Vc])
 w_up
 refine⟨(),λWs n0=>?_⟩;have k5:Ws≠S:=λz=>by rw[z,ak]at n0;cases n0
 have w3:=az n0 (.lst [Z' W0]);have s5:=s4.trans w1;have y0:=w2.free n0;have J:=ak (H:=L2.upd (L2.upd H4 W0 (.lst [V' 1])) S (.lst [Z' Vc])) (a:=Ws) (o:=.lst [Z' W0]);have z0:=w3 _ _ U;have x1:=w2.trans w3;have y1:=lV.same w1;have x0:=w1 _ _ O;generalize L2.upd (L2.upd (L2.upd H4 W0 (.lst [V' 1])) S (.lst [Z' Vc])) Ws (.lst [Z' W0])=H5 at J z0 x1 ⊢;generalize L2.upd H4 W0 (.lst [V' 1])=G0 at s5 j0 x1 k0 y0 y1 x0;clear lV O w1 s4 U w2 w3;obtain⟨Pv,z1⟩:∃Pv:Nat->L2.St->Hp->Prop,∀i σ Hx,Pv i σ Hx↔∃(G:Hp)(vc wc:Addr)(us L v1:am)(qs:ax)(g v:ac)(x:aa)(r6 r7 r8 r9:Option V),σ=[some (Z' R),some (V' r),some (Z' vc),some (Z' wc),some (Z' S),some (Z' Ws),r6,r7,r8,r9]/\Same H G/\G S=none/\G Ws=none/\Same G Hx/\Hx S=some (.lst (us.map Z'))/\Hx Ws=some (.lst (L.map Z'))/\VH G us qs/\LH G L g/\G vc=some (.lst (v1.map Z'))/\LH G v1 v/\G wc=some (.lst (x.map V'))/\qs.getD i []=v/\g.getD i []=x/\SumP ps r i qs g/\SumZ r qs g:=⟨_,λ_ _ _=>Iff.rfl⟩
 have P0:Pv 0 [some (Z' R),some (V' r),some (Z' Vc),some (Z' W0),some (Z' S),some (Z' Ws),none,none,none,none] H5:=by
  refine (z1 _ _ _).mpr ⟨G0,Vc,W0,[Vc],[W0],Y :: bs,[[1] :: bI r []],[[1]],[1] :: bI r [],[1],none,none,none,none,rfl,s5,k0,y0,x1,z0,J,(VH.nil G0).snoc x0 y1,(LH.nil G0).snoc j0,x0,y1,j0,rfl,rfl,⟨rfl,rfl,λc n=>?_,λn=>by simp[val],λt ht=>by omega,λt ht=>by omega⟩,⟨λt v hv=>?_,λt p I=>?_⟩⟩
  ·cases c with
   | zero=>simp[val]
   | succ c=>
    rw[if_neg ()];show val n ((bI r ([]:aa)).getD c [])=0;rw[aq,jc]
    split <;> rfl
  ·have t0:t=0:=by have:=(aY.mp hv).1;simp at this;omega
   subst t0;simp at hv;subst hv;refine⟨by simp,λf hf=>?_⟩;rcases bj.mp hf with rfl|hf
   ·exact⟨jD [],by simp,by simp[Bd.one]⟩
   ·rw[QJ hf];exact⟨b_,by simp,by simp⟩
  ·have t0:t=0:=by have:=(aY.mp I).1;simp at this;omega
   subst t0;simp at I;subst I;exact⟨by simp,jD [],by simp[Bd.one]⟩
 generalize H5=H5' at P0 ⊢;clear y1 x0 j0 j5 s5 k0 y0 J z0 x1
 w_up
 refine⟨(),(),(),(),?_⟩;rw[show ((r:Int)+2-1).toNat=r+1 by omega];obtain⟨La,lst,z9,_,gL,u9⟩:=hL.lastAt rk.1.1;have v9:lst=ps.getD r []:=by
  rw[fK,show ps.length-1=r by omega]at gL;exact (getD_some gL).symm
 have m3:=rk.2.2 lst (il gL);refine gY Pv P0 ?_ ?_
 ·intro i σ Hx hi I;obtain⟨G,vc,wc,us,L,v1,qs,g,v,x,r6,r7,r8,r9,rfl,sG,m5,y0,sX,U,J,m1,n1,O,lV,n5,qi,wi,SP,SZ⟩:=(z1 _ _ _).mp I;have sH:=sG.trans sX;obtain⟨M,hM⟩:∃M:L2.St->Hp->Prop,∀σ Hy,M σ Hy↔∃(F:Addr)(C:aa),σ=[some (Z' R),some (V' r),some (Z' vc),some (Z' wc),some (Z' S),some (Z' Ws),some (V' (1+(i:Int))),some (Z' F),r8,r9]/\Hy F=some (.lst (C.map V'))/\Same Hx Hy/\Nml C/\(r<=i+1->C.length<=3)/\(¬r<=i+1->C.length<=1)/\(∀y∈C,Bd 900 y)/\∀n,val n C=fV ps r i n:=⟨_,λ_ _=>Iff.rfl⟩
  w_up
  w_left;refine fP M ?_ ?_
  ·w_left;k_units
   refine bO (λh=>?_) (λh=>?_)
   ·have bb:Bd 3 (1+(i:Int)-(r:Int)):=Bd.of_lt (m:=8) () ();refine⟨_,sH.seq hR,_,z9,La,lst,1+(i:Int)-(r:Int),60,3,rfl,sH.seq u9,(),m3.2,bb,(),λF Hy sy nF eF=>(hM _ _).mpr ⟨F,_,rfl,eF,sy,cM _,λ_=>aM (k_ _) #v[sO,m3.1],λz=>absurd () z,cu λk=>?_,λn=>?_⟩⟩
    ·rw[cL];exact cN (P:=λy=>Bd 900 y) (λy hy=>(AV bb () m3.2 y hy).mono ()) (Bd.zero _) k
    ·rw[oA,li];unfold fV;rw[if_pos (),v9];show _=val (n+((i+1-r:Nat):Int)) (ps.getD r []);congr 1;omega
   ·refine⟨(),λp np=>(hM _ _).mpr ⟨p,[1],rfl,ak,az np _,jD [],λz=>absurd z (),λ_=>aA _,by simp[Bd.one],λn=>?_⟩⟩;unfold fV;rw[if_neg ()];simp[val]
  ·intro σ' Hy hm;obtain⟨F,C,rfl,eF,sy,x6,x4,y4,x2,y6⟩:=(hM _ _).mp hm
   w_up
   have u0:=sX.trans sy;have j9:qs[i]?=some v:=by
    have h1:i<qs.length:=by rw[SP.lq];omega
    rw[<-qi,aq,ao h1];rfl
   have k9:g[i]?=some x:=by
    have h1:i<g.length:=by rw[SP.lw];omega
    rw[<-wi,aq,ao h1];rfl
   obtain⟨lv,z6⟩:=SZ.v i v j9;obtain⟨lx,nx,bx⟩:=SZ.w i x k9;have k1:kk r i<=1:=by unfold kk;split <;> omega
   have hk:(r<=i+1->kk r (i+1)=kk r i+1)/\(¬r<=i+1->kk r (i+1)=kk r i):=by unfold kk;split <;> omega
   have lfl3:C.length<=3:=by
    by_cases z:r<=i+1
    ·exact x4 z
    ·exact aM (y4 z) ()
   refine⟨⟨_,SqL.of (u0 _ _ O)⟩,λD nD=>oq (ps:=v) (ds:=v.map λp=>aQ p C) nD (SqL.of (u0 _ _ O)) (lV.same u0).ll (by simp) () (λj b p d Hz R' I hd sz hB hN=>?_) (λX bs' Hz sz nX eX lX nb u5 nd=>?_)⟩
   ·w_left;simp![bst]
    rw[aG,I]at hd
    cases hd
    obtain⟨b1,b2,b3⟩:=z6 p (bT I);exact⟨_,rfl,b,F,p,C,rfl,hB,SqL.of (sz _ _ eF),(),(),λz hz=>(b3 z hz).mono (),λz hz=>(x2 z hz).mono (),hN⟩
   w_up
   rw[show (1:Int)+(i:Int)=((i+1:Nat):Int) by omega];refine⟨(),λp1 u6=>⟨(),λp2 v6=>?_⟩⟩;have u1:=az u6 (.lst []);have u2:=az v6 (.lst [Z' p1]);have e1:=u2 _ _ (ak (H:=Hz) (a:=p1) (o:=.lst []));have e2:=ak (H:=L2.upd Hz p1 (.lst [])) (a:=p2) (o:=.lst [Z' p1]);have y2:=u1.trans u2;generalize L2.upd (L2.upd Hz p1 (.lst [])) p2 (.lst [Z' p1])=Hw at e1 e2 y2 ⊢;have tW:=sy.trans (sz.trans y2);have sW:=sH.trans tW;refine⟨R,as,ps,i+1,rfl,sW.seq hR,hL.same sW,rk,(),λu bot lt tb nbot lb bb' m9 tp Dt Bt ts H6 s6 j6 k6 z4 n9 nDt nBt m6=>?_⟩;refine⟨tp,rfl,_,SqT.of j6,_,rfl,Dt,rfl,_,s6 _ _ e2,_,k6,?_,λp3 n6=>?_⟩
   ·rw[af,z4.len];exact dm (bD (by simp;omega))
   rw[show [Z' p1]++ts.map Z'=(p1 :: ts).map Z' by rfl];have u7:=az n6 (.lst ((p1 :: ts).map Z'));have e3:=ak (H:=H6) (a:=p3) (o:=.lst ((p1 :: ts).map Z'));have lT:LH (L2.upd H6 p3 (.lst ((p1 :: ts).map Z'))) (p1 :: ts) ([] :: u):=(z4.same u7).cons (u7 _ _ (s6 _ _ e1));have t7:=y2.trans (s6.trans u7);have v4:=t7 _ _ eX;have x7:=lX.same t7;have z2:=sz.trans t7;generalize L2.upd H6 p3 (.lst ((p1 :: ts).map Z'))=H7 at e3 lT t7 v4 x7 z2 ⊢;clear e1 e2 y2 u1 u2 s6 j6 k6 z4 n9 nDt nBt m6 u7 n6 v6 u6
   w_up
   have bg:∀p∈v,Nml (aQ p C)/\(aQ p C).length<=2*kk r (i+1)+1/\∀z∈aQ p C,Bd (20000+2000*i+902) z:=λp I=>by
    obtain⟨b1,b2,b3⟩:=z6 p I;have l1:=i8 b1 x6 (gH _ _) (fJ _ _);refine⟨gH _ _,?_,cu λk=>?_⟩
    ·by_cases z:r<=i+1
     ·have:=x4 z;have:=hk.1 z;omega
     ·have:=y4 z;have:=hk.2 z;omega
    ·rw[fJ];exact hI (c:=2) b3 x2 () k
   have bt:∀q∈([]:aa) :: u,Nml q/\q.length<=2*kk r (i+1)+1/\∀z∈q,Bd 20000 z:=λq hq=>by
    rcases bj.mp hq with rfl|hq
    ·exact⟨b_,by simp,by simp⟩
    ·obtain⟨c1,c2,c3⟩:=tb q hq;refine⟨c1,?_,c3⟩;have:0<u.length:=List.length_pos_of_mem hq;unfold kk;rw[if_neg ()];omega
   have lr:u.length=r:=by omega
   refine⟨_,SqL.of v4,_,SqL.of e3,λD2 nD2=>Hh (ps:=v.map λp=>aQ p C) (rs:=[] :: u) (ds:=cV fq (v.map λp=>aQ p C) ([] :: u)) nD2 (SqL.of v4) x7.ll (SqL.of e3) lT.ll (by simp;omega) (by simp;omega) (by simp;omega) (λj y z p q d Hv R' I hq hd sv hY hZ hN=>?_) (λv2 y7 H8 s8 z7 v7 j7 nb2 nvb2 nd2=>?_)⟩
   ·w_left;simp![fg]
    rw[uX,I,hq]at hd
    cases hd
    obtain⟨p',hp',rfl⟩:=aZ.mp (bT I);obtain⟨b1,b2,b3⟩:=bg p' hp';obtain⟨c1,c2,c3⟩:=bt q (bT hq);have k2:kk r (i+1)<=2:=by unfold kk;split <;> omega
    exact⟨y,z,_,q,rfl,hY,hZ,(),(),λz hz=>(b3 z hz).mono (),λz hz=>(c3 z hz).mono (),hN⟩
   have k4:=z2.trans s8
   w_up
   refine⟨wc,F,x,C,rfl,SqL.of (k4 _ _ (u0 _ _ n5)),SqL.of (k4 _ _ eF),(),(),λz hz=>(bx z hz).mono (),λz hz=>(x2 z hz).mono (),λW2 H9 s9 m2 eW2=>?_⟩;have m4:=k4.trans s9;have sG9:=u0.trans m4;have e9v:=s9 _ _ v7;have k7:=j7.same s9;have y3:=m4 _ _ (sy _ _ U);have m7:=m4 _ _ (sy _ _ J);have z3:=z2 _ _ (sy _ _ U);have u3:=z2 _ _ (sy _ _ J);have n7:=s8 _ _ z3;have x8:=s8 _ _ u3;have y8:∀a,H7 a=none->a≠S/\a≠Ws:=λa ha=>⟨λz=>(by rw[z,z3]at ha;cases ha),λz=>by rw[z,u3]at ha;cases ha⟩
   have z8:W2≠S/\W2≠Ws:=⟨λz=>(by rw[z,n7]at m2;cases m2),λz=>by rw[z,x8]at m2;cases m2⟩
   obtain⟨G2,n2⟩:∃G2:Hp,∀a,G2 a=if a=S\/a=Ws then none else H9 a:=⟨_,λ_=>rfl⟩
   have x3:∀a o,H9 a=some o->a≠S/\a≠Ws->G2 a=some o:=λa o h z=>by rw[n2,if_neg λy=>y.elim z.1 z.2];exact h
   have n4:Same G G2:=λa o h=>x3 a o (sG9 a o h) ⟨λz=>(by rw[z,m5]at h;cases h),λz=>by rw[z,y0]at h;cases h⟩;have x5:LH G2 y7 (cV fq (v.map λp=>aQ p C) ([] :: u)):=⟨k7.len,λj b q h1 h2=>x3 _ _ (k7.get j b q h1 h2) (y8 b (nb2 b (bT h1)))⟩
   have u8:=x3 _ _ e9v (y8 v2 z7);have v8:=x3 _ _ eW2 z8;obtain⟨q2,y5⟩:∃q2,cV fq (v.map λp=>aQ p C) ([] :: u)=q2:=⟨_,rfl⟩
   rw[y5]at x5;have lq2:q2.length=r+1:=by rw[<-y5];simp;omega
   have j8:∀c,c<r+1->q2[c]?=some (fq (aQ (v.getD c []) C) (([] :: u).getD c [])):=λc hc=>by
    rw[<-y5,uX,aG,ao (show c<v.length by omega),ao (show c<(([]:aa) :: u).length by simp;omega),aq,ao (show c<v.length by omega),aq,ao (show c<(([]:aa) :: u).length by simp;omega)];rfl
   have SP2:SumP ps r (i+1) (qs++[q2]) (g++[aQ x C]):=SP.snoc lr m9 (λn c hc=>by
    rw[qi,aq,j8 c hc];show val n (fq _ _)=_;rw[Al,jJ,y6]
    cases c with
    | zero=>simp[val]
    | succ c=>rw[if_neg ()];rfl) λn=>by rw[wi,jJ,y6]
   have SZ2:SumZ r (qs++[q2]) (g++[aQ x C]):=SZ.snoc SP.lq SP.lw ⟨lq2,λf hf=>by
    obtain⟨c,hc,rfl⟩:=cm.mp hf;have e:=j8 c ();rw[ao hc]at e;rw[Option.some.inj e];obtain⟨b1,b2,b3⟩:=bg _ (mem_getD (d:=[]) (show c<v.length by omega));obtain⟨c1,c2,c3⟩:=bt _ (mem_getD (d:=[]) (show c<(([]:aa) :: u).length by simp;omega));refine⟨Am _ _,aM (Ao _ _) (Nat.max_le.mpr ⟨b2,c2⟩),cu λk=>?_⟩;rw[tT];have h1:=cN (P:=λy=>Bd (20000+2000*i+902) y) b3 (Bd.zero _) k;have h2:=cN (P:=λy=>Bd (20000+2000*i+902) y) (λy hy=>(c3 y hy).mono ()) (Bd.zero _) k;exact (h1.add h2).mono ()⟩ (by
    have l1:=i8 nx x6 (gH _ _) (fJ _ _);refine⟨?_,gH _ _,cu λk=>?_⟩
    ·by_cases z:r<=i+1
     ·have:=x4 z;have:=hk.1 z;omega
     ·have:=y4 z;have:=hk.2 z;omega
    ·rw[fJ];exact (hI (c:=2) bx x2 () k).mono ())
   w_left;k_units
   have k8:L2.upd H9 S (.lst (us.map Z'++[Z' v2])) Ws=some (.lst (L.map Z')):=by rw[aC k5];exact m7
   have lus:us.length=i+1:=by rw[m1.len,SP.lq]
   have lws:L.length=i+1:=by rw[n1.len,SP.lw]
   refine⟨fO (SqL.of y3),_,y3,#v[af,bD ()],fO (SqL.of k8),_,k8,#v[af,bD ()],(z1 _ _ _).mpr ⟨G2,v2,W2,us++[v2],L++[W2],y7,qs++[q2],g++[aQ x C],q2,aQ x C,_,_,_,_,rfl,sG.trans n4,by rw[n2,if_pos (.inl rfl)],by rw[n2,if_pos (.inr rfl)],λa o h=>?_,?_,by rw[ak,aT];rfl,(m1.same n4).snoc u8 x5,(n1.same n4).snoc v8,u8,x5,v8,?_,?_,SP2,SZ2⟩⟩
   ·rw[n2]at h
    split at h
    ·cases h
    ·rename_i z;rw[aC λy=>z (.inr y),aC λy=>z (.inl y)];exact h
   ·rw[aC k5.symm,ak,aT];rfl
   ·rw[aq,cQ (by rw[SP.lq];omega),SP.lq,fB];rfl
   ·rw[aq,cQ (by rw[SP.lw];omega),SP.lw,fB];rfl
 ·intro σ Hx I;obtain⟨G,vc,wc,us,L,v1,qs,g,v,x,r6,r7,r8,r9,rfl,sG,m5,y0,sX,U,J,m1,n1,O,lV,n5,qi,wi,SP,SZ⟩:=(z1 _ _ _).mp I
  w_left;k_units
  obtain⟨j1,j2,j3,j4⟩:=q qs g SP.full SZ;have lq:qs.length=r+2:=SP.lq;refine⟨S,Ws,us,L,qs,g,rfl,SqL.of U,(m1.same sX).vl,j1,λz=>by rw[z]at lq;simp at lq,j2,SqL.of J,(n1.same sX).ll,by rw[SP.lw,SP.lq],(),λp I=>?_,j3,λi' q' ws cs pl h1 h2 h3=>?_⟩
  ·obtain⟨t,ht,rfl⟩:=cm.mp I;obtain⟨w1,w2,w3⟩:=SZ.w t _ (ao ht);rw[SP.lw]at ht;have:kk r t<=2:=by unfold kk;split <;> omega
   exact⟨(),w2,λx hx=>(w3 x hx).mono ()⟩
  ·obtain⟨g1,g2,ds,l,R',f,g3,g4,g5,g6,g7,g8,g9,g10,g11,g12,g13,g14,g15⟩:=j4 i' q' ws cs pl h1 h2 h3;have sF:=sG.trans sX;exact⟨g1,g2,ds,l,R',f,g3,g4,g5,g6,g7,g8,g9,g10,g11,g12,g13,g14,λD3 cs3 H3 s3 nD3 eD3 lD3 f3 n3 nd3=>g15 D3 cs3 H3 (sF.trans s3) (sF.free nD3) eD3 lD3 (λb hb=>sF.free (f3 b hb)) n3 nd3⟩
def FB (A:Nat)(f:Int->Int):Prop:=∃xs:aa,(∀x∈xs,x.natAbs<=A)/\∀n,f n=val n xs
def FL (A d:Nat)(f:Int->Int):Prop:=∃xs:aa,xs.length<=d/\(∀x∈xs,x.natAbs<=A)/\∀n,f n=val n xs
theorem FL.fb {A d:Nat}{f:Int->Int}(h:FL A d f):FB A f:=by obtain⟨a,_,b,c⟩:=h;exact⟨a,b,c⟩
theorem FB.mono {A B:Nat}{f:Int->Int}(h:FB A f)(l:A<=B):FB B f:=by obtain⟨a,b,c⟩:=h;exact⟨a,λx hx=>aM (b x hx) l,c⟩
theorem FB.congr {A:Nat}{f g:Int->Int}(h:FB A f)(e:∀n,g n=f n):FB A g:=by obtain⟨a,b,c⟩:=h;exact⟨a,b,λn=>by rw[e,c]⟩
theorem FL.congr {A d:Nat}{f g:Int->Int}(h:FL A d f)(e:∀n,g n=f n):FL A d g:=by obtain⟨a,b,c,i⟩:=h;exact⟨a,b,c,λn=>by rw[e,i]⟩
theorem FL.zero {A d:Nat}:FL A d λ_=>0:=⟨[],by simp,by simp,λn=>rfl⟩
theorem FL.one:FL 1 1 λ_=>1:=⟨[1],by simp,by simp,λn=>by simp[val]⟩
theorem Pt {A:Nat}{f:Int->Int}{ys:aa}(h:FB A f)(e:∀n,val n ys=f n):∀y∈ys,y.natAbs<=A:=by
 obtain⟨a,b,c⟩:=h;refine cu (P:=λy=>y.natAbs<=A) λj=>?_;rw[fh (ys:=a) (λn=>by rw[e,c]) j];exact cN (P:=λy=>y.natAbs<=A) b (aR _) j
theorem FB.add {A B:Nat}{f g:Int->Int}(a:FB A f)(b:FB B g):FB (A+B) λn=>f n+g n:=by
 obtain⟨c,d,e⟩:=a;obtain⟨h,i,k⟩:=b;refine⟨b7 c h,cu (P:=λy=>y.natAbs<=A+B) λj=>?_,λn=>by dsimp only;rw[eG,e,k]⟩;rw[fH];have m:=cN (P:=λy=>y.natAbs<=A) d (aR _) j;have o:=cN (P:=λy=>y.natAbs<=B) i (aR _) j;exact aM (ib _ _) (kJ m o)
theorem FL.neg {A d:Nat}{f:Int->Int}(h:FL A d f):FL A d λn=>- f n:=by
 obtain⟨a,b,c,e⟩:=h;refine⟨a.map λx=>-1*x,by simpa using b,λy hy=>?_,λn=>by dsimp only;rw[G9,e]⟩;obtain⟨x,hx,rfl⟩:=aZ.mp hy;rw[b6];have:=c x hx
 simpa using this
theorem FB.mul {A B d:Nat}{f g:Int->Int}(b:FL A d f)(c:FB B g):FB (d*(A*B)) λn=>f n*g n:=by
 obtain⟨a,e,h,i⟩:=b;obtain⟨k,m,o⟩:=c;refine⟨be a k,cu (P:=λy=>y.natAbs<=_) λj=>?_,λn=>by dsimp only;rw[cy,i,o]⟩;exact aM (tS m a h j) (dA _ e)
theorem FL.next {A:Nat}{f:Int->Int}(h:FL A 3 f):FL (3*A) 3 λn=>f (n+1):=by
 obtain⟨d,C,m,o⟩:=h;have i:∀a b c:Int,a.natAbs<=A->b.natAbs<=A->c.natAbs<=A->(a+b+c).natAbs<=3*A:=λa b c p j g=>by
  have m:=ib (a+b) c;have o:=ib a b;generalize (a+b).natAbs=u at *;generalize (a+b+c).natAbs=v at *;generalize a.natAbs=x at *;generalize b.natAbs=y at *;generalize c.natAbs=z at *;omega
 have q:∀a b c:Int,a.natAbs<=A->b.natAbs<=A->c.natAbs<=A->(∀n,val n d=a+b*n+c*n*n)->FL (3*A) 3 λn=>f (n+1):=λa b c p j g e=>by
  have r:=i a b c p j g;have s:=i b c c j g g;have t:c.natAbs<=3*A:=aM g (gm _ ());refine⟨[a+b+c,b+c+c,c],by simp,λx hx=>?_,λn=>?_⟩
  ·simp only[bj,mw,or_false]at hx;rcases hx with rfl|rfl|rfl
   ·exact r
   ·exact s
   ·exact t
  ·dsimp only;rw[o,e];simp only[val];grind
 have B:∀k,3<=k->co d k=0:=λk hk=>aD ();have g:∀k,(co d k).natAbs<=A:=λk=>cN (P:=λy=>y.natAbs<=A) m (aR _) k;refine q (co d 0) (co d 1) (co d 2) (g 0) (g 1) (g 2) λn=>?_;have e:val n d=val n [co d 0,co d 1,co d 2]:=fu (λk=>by
  rw[fG,fG,fG];by_cases k0:k=0
  ·rw[if_pos k0,k0]
  ·by_cases k1:k=1
   ·rw[if_neg k0,if_pos (),k1]
   ·by_cases k2:k=2
    ·rw[if_neg k0,if_neg (),if_pos (),k2]
    ·rw[if_neg k0,if_neg (),if_neg (),f_,B k ()]) n
 rw[e];simp only[val];grind
def bK (M k:Nat):Nat:=if k=0 then 1 else if k=1 then 3*M else 45*M*M
theorem uB {r j:Nat}{p:Nat->Int->Int}(c:j<r)(n:Int):uIt r p 1 j n=- p j n:=by
 show gd r p (uIt r p 0) j n=_;unfold gd;have a:uIt r p 0 (r-1) (n+1)=1:=by show (if r-1+1=r then (1:Int) else 0)=1;rw[if_pos ()]
 rw[a];by_cases z:j=0
 ·rw[if_pos z];grind
 ·rw[if_neg z];have b:uIt r p 0 (j-1) (n+1)=0:=by show (if j-1+1=r then (1:Int) else 0)=0;rw[if_neg ()]
  rw[b];grind
theorem Hn {ps:ac}{r M j:Nat}(a:∀i,FL M 3 (pvL ps i))(b:j<r):FB M (λn=>uIt r (pvL ps) 1 j n)/\FB (18*M*M) (λn=>uIt r (pvL ps) 2 j n):=by
 refine⟨((a j).neg).fb.congr λn=>uB b n,?_⟩;have e:∀n,uIt r (pvL ps) 2 j n=pvL ps r n*(if j=0 then 0 else-pvL ps (j-1) (n+1))+pvL ps (r-1) (n+1)*pvL ps j n:=λn=>by
  show gd r (pvL ps) (uIt r (pvL ps) 1) j n=_;unfold gd;by_cases z:j=0
  ·rw[if_pos z,if_pos z,uB ()];grind
  ·rw[if_neg z,if_neg z,uB (),uB ()];grind
 have c:FB (3*(M*(3*M))) λn=>pvL ps r n*(if j=0 then 0 else-pvL ps (j-1) (n+1)):=by
  by_cases z:j=0
  ·exact (FB.mul (a r) (FL.zero (A:=3*M) (d:=3)).fb).congr λn=>by rw[if_pos z]
  ·exact (FB.mul (a r) ((a (j-1)).next.neg).fb).congr λn=>by rw[if_neg z]
 have f:FB (3*((3*M)*M)) λn=>pvL ps (r-1) (n+1)*pvL ps j n:=FB.mul (a (r-1)).next (a j).fb
 refine ((c.add f).congr e).mono (kG ?_);grind
theorem Ho {ps:ac}{r M:Nat}{b:ax}{p:ac}(V:SumV ps r b p)(J:r<=2)(k:∀i,FL M 3 (pvL ps i))(M1:1<=M):∀t,t<=r+1->∀c,c<r+1->FB (bK M (kk r t)) (λn=>val n ((b.getD t []).getD c []))/\(kk r t=0->FL 1 1 λn=>val n ((b.getD t []).getD c []))
 | 0,_,c,hc=>by
  have h:FL 1 1 λn=>val n ((b.getD 0 []).getD c []):=by
   by_cases z:c=0
   ·exact FL.one.congr λn=>by rw[V.v0,if_pos z]
   ·exact FL.zero.congr λn=>by rw[V.v0,if_neg z]
  have e:kk r 0=0\/kk r 0=0:=by unfold kk;split <;> omega
  rw[show kk r 0=0 by omega];exact⟨h.fb,λ_=>h⟩
 | t+1,ht,c,hc=>by
  obtain⟨D,m⟩:=Ho V J k M1 t () c hc;obtain⟨q,L,F,o,O⟩:=V.st t ();have a:=λn=>O n c hc;by_cases z1:t+1<r
  ·-- r=2,t=0
   have s:t=0:=by omega
   have u:r=2:=by omega
   subst s;subst u;have h:FL 1 1 λn=>val n ((b.getD 1 []).getD c []):=by
    by_cases z:c=0
    ·refine FL.one.congr λn=>?_;rw[a,V.v0,if_pos z,if_pos z];rfl
    ·have G:∀n,val n ((b.getD 1 []).getD c [])=val n (q.getD (c-1) []):=λn=>by rw[a,V.v0,if_neg z,if_neg z,gJ,ii]
     rcases o with ⟨_,f,_⟩|⟨j,_,_⟩
     ·have H:q.getD (c-1) []=if c-1=0+1 then [1] else []:=by
       rw[f,F,aq,aG,ij ()];rfl
      by_cases y:c-1=0+1
      ·exact FL.one.congr λn=>by rw[G,H,if_pos y];simp[val]
      ·exact FL.zero.congr λn=>by rw[G,H,if_neg y];rfl
     ·omega
   exact⟨h.fb,λ_=>h⟩
  ·have x:∀n,fV ps r t n=pvL ps r (n+((t+1-r:Nat):Int)):=λn=>by unfold fV;rw[if_pos ()]
   by_cases r0:r=0
   ·subst r0;have s:t=0:=by omega
    subst s;have P:c=0:=by omega
    subst P;refine⟨?_,λh=>by simp[kk]at h⟩;have j:=(FB.mul (m rfl) (k 0).next.fb).congr (g:=λn=>val n ((b.getD 1 []).getD 0 [])) λn=>by
     show _=val n ((b.getD 0 []).getD 0 [])*pvL ps 0 (n+1);rw[a,if_pos rfl,x,iG];rfl
    exact j.mono (by simp[bK,kk])
   ·have hk:kk r (t+1)=t+2-r:=by unfold kk;rw[if_neg r0]
    have C:kk r t=t+1-r:=by unfold kk;rw[if_neg r0]
    have I:∀B,(∀i,i<r->FB B λn=>uIt r (pvL ps) (t+2-r) i n)->FB B λn=>(if c=0 then 0 else val n (q.getD (c-1) [])):=λB Q=>by
     by_cases z:c=0
     ·exact (FL.zero (A:=B) (d:=1)).fb.congr λn=>by rw[if_pos z]
     ·rcases o with ⟨j,_,_⟩|⟨_,f,_⟩
      ·omega
      ·exact (Q (c-1) ()).congr λn=>by rw[if_neg z,f (c-1) n (),F]
    by_cases z2:t+1=r
    ·rw[hk,show t+2-r=1 by omega];refine⟨?_,λh=>by omega⟩;have j:FB (1*(1*M)) λn=>val n ((b.getD t []).getD c [])*pvL ps r n:=FB.mul (m ()) (k r).fb;have f:=I M λi hi=>by rw[show t+2-r=1 by omega];exact (Hn k hi).1
     refine ((j.add f).congr λn=>?_).mono (by simp[bK];omega);rw[a,x,show t+1-r=0 by omega];simp
    ·have R:t=r:=by omega
     subst R;rw[hk,show t+2-t=2 by omega];refine⟨?_,λh=>by omega⟩;rw[C,show t+1-t=1 by omega]at D;have j:FB (3*((3*M)*(3*M))) λn=>pvL ps t (n+1)*val n ((b.getD t []).getD c []):=FB.mul (k t).next D
     have f:=I (18*M*M) λi hi=>by rw[show t+2-t=2 by omega];exact (Hn k hi).2
     refine ((j.add f).congr λn=>?_).mono (kG (by show _=45*M*M;grind));rw[a,x,show t+1-t=1 by omega,cw];rfl
theorem Px {xs:aa}(h:xs≠[]):∃a,xs=a++[co xs (xs.length-1)]:=by
 have e:=QN h;have b:xs.length≠0:=λz=>h (bC z);refine⟨xs.dropLast,?_⟩;rw[aI (),<-Bv h];exact e.symm
theorem uC {S d:aa}(a:Nml S)(nd:Nml d)(b:S≠[])(h:∀n,0=val n S*val n d):d=[]:=by
 by_cases z:d=[]
 ·exact z
 ·refine absurd (cO (cI _ _) b_ λn=>?_) (gG a nd b z);rw[a7,<-h];rfl
def uD (gs:ac)(l:aa)(ds:ac)(R:aa)(f:Nat->aa):Prop:=f 0=[]/\(∀i r,gs[i]?=some r->fQ (f i) r (f (i+1)))/\(∀i,(f i).length<=1000)/\f gs.length=R/\R≠[]/\Nml R/\R.length<=12/\(∀x∈R,Bd 5000 x)/\ds.length=gs.length/\
  (∀(i:Nat) r d,gs[i]?=some r->ds[i]?=some d->Nml d/\Div r (fU R l) d/\(∀n,val n r=val n (fU R l)*val n d)/\d.length<=7/\∀x∈d,Bd 300 x)/\(∃p0 t0,ds.getLast?=some (p0++[t0])/\0<t0)/\(∀s:Nat,Prm s->(∀u∈ds,∀j,(s:Int)∣co u j)->False)/\∀n:Nat,val (n:Int) (fU R l)≠0
theorem Py {m:ac}{l:aa}(S:∀g∈m,Nml g/\g.length<=7/\∀z∈g,Bd 220 z)(O:m.getLast?=some l)(l0:l≠[]):
  ∃(ds:ac)(R:aa)(f:Nat->aa),uD m l ds R f:=by
 unfold uD;obtain⟨f,f0,fl,fs,B,fz,fn⟩:=AN (D:=6) (b:=220) () S () m.length (aA _);have g0:m≠[]:=λz=>by rw[z]at O;simp at O
 have lg:0<m.length:=de.mpr g0;have er:m[m.length-1]?=some l:=by rw[<-fK];exact O
 have G:f m.length≠[]:=λz=>l0 (fz z _ l () er);obtain⟨tF,bF,us,u1,u2,u3,u4,_⟩:=fn G;have lR:=fl m.length;obtain⟨R,hR⟩:∃R,f m.length=R:=⟨_,rfl⟩
 rw[hR]at B G tF bF u3 lR;have cp:=gu B G;obtain⟨R1,T,H,U⟩:=AM cp B λx hx=>gh R x hx;have c0:((ah R:Nat):Int)≠0:=by omega
 have X:R1≠[]:=λz=>G (cO B b_ λn=>by rw[H,z];simp[val]);have vc:∀(c n:Int),val n [c]=c:=λc n=>by simp[val]
 obtain⟨p,o⟩:∃p,p=if clr 0 R=true then R else [((ah R:Nat):Int)]:=⟨_,rfl⟩
 obtain⟨C,y0,nC,C0,Y,z0⟩:∃C,(∀n,val n R=val n p*val n C)/\Nml C/\C≠[]/\0<co C (C.length-1)/\∀s:Nat,Prm s->(∀j,(s:Int)∣co C j)->False:=by
  by_cases z:clr 0 R=true
  ·refine⟨[1],λn=>by rw[o,if_pos z,vc,oG],fj (),by simp,(),λs hs h=>?_⟩;have q:(s:Int)∣1:=h 0;have P:s∣1:=by have:=iH.mpr q;simpa using this
   have:=Nat.dvd_one.mp P;have:=hs.1;omega
  ·have j0:R1.length=R.length:=by
    have h:=(eH (fj c0) T (by simp) X).1;have e:pdL [((ah R:Nat):Int)] R1=R:=cO (cI _ _) B λn=>by rw[a7,vc,H]
    rw[e]at h;simp at h;omega
   refine⟨R1,λn=>by rw[o,if_neg z,vc,H],T,X,?_,λs hs h=>?_⟩
   ·have q:=U (R.length-1);rw[q]at tF;rw[j0];exact By tF ()
   ·have h3:s*ah R∣ah R:=iA _ _ λx hx=>by
     obtain⟨j,hj,rfl⟩:=cm.mp hx;obtain⟨y,hy⟩:=h j;rw[<-aI hj,U,hy,fm];exact⟨y,by grind⟩
    have h4:=jd cp h3;have:=hs.1;have:=dA (ah R) (show 2<=s by omega);omega
 have k0:p≠[]:=by rw[o];split;exact G;simp
 have n0:Nml p:=by rw[o];split;exact B;exact fj c0
 obtain⟨σ,Z,I,sg⟩:∃σ:Int,(σ=1\/σ=-1)/\fU R l=p.map (λz=>σ * z)/\0 < σ * co l (l.length-1):=by
  have nl:=(S l (il O)).1;have x1:=dw nl l0;have eT:fU R l=if l≠[]/\co l (l.length-1)<0 then p.map (λx=>-x) else p:=by rw[o];rfl
  rw[eT];by_cases z:co l (l.length-1)<0
  ·refine⟨-1,.inr rfl,?_,()⟩;rw[if_pos ⟨l0,z⟩];exact eK λx _=>by omega
  ·refine⟨1,.inl rfl,?_,()⟩;rw[if_neg λh=>z h.2]
   conv=>lhs;rw[<-Jc p]
   exact eK λx _=>by show x=1*x;omega
 have J:σ≠0:=by rcases Z with rfl|rfl <;> decide
 have F:σ * σ=1:=by rcases Z with rfl|rfl <;> rfl
 have nT:Nml (fU R l):=by rw[I];exact jH J n0
 have T0:fU R l≠[]:=by rw[I];intro z;exact k0 (oQ.mp z)
 have vT:∀n,val n (fU R l)=σ * val n p:=λn=>by rw[I,bL]
 obtain⟨ds,L⟩:∃ds,ds=us.map λu=>(pdL C u).map λz=>σ * z:=⟨_,rfl⟩
 have x0:ds.length=m.length:=by rw[L,af,u1]
 have at':∀(i:Nat) r d,m[i]?=some r->ds[i]?=some d->∃u,us[i]?=some u/\d=(pdL C u).map (λz=>σ * z)/\Nml u/\Nml d/\∀n,val n r=val n (fU R l)*val n d:=λi r d M hd=>by
  rw[L,aG]at hd;obtain⟨u,t,rfl⟩:=cZ.mp hd;refine⟨u,t,rfl,u2 u (bT t),jH J (cI _ _),λn=>?_⟩;rw[vT,bL,a7,u3 i r u M t n,y0];generalize val n p=a;generalize val n C=b;generalize val n u=c;have:σ * a*(σ * (b*c))=(σ * σ)*(a*b*c):=by grind
  rw[this,F,dS]
 refine⟨ds,R,f,f0,λi r M=>fs i r (aY.mp M).1 M,λi=>by have:=fl i;omega,hR,G,B,(),λx hx=>(bF x hx).mono (),x0,λi r d M hd=>?_,?_,λs hs h=>?_,λn=>?_⟩
 ·obtain⟨u,t,ed,nu,nd,Q⟩:=at' i r d M hd;obtain⟨nr,lr,br⟩:=S r (bT M);refine⟨nd,λk=>?_,Q,?_⟩
  ·rw[<-lQ];exact fh (λn=>by rw[a7,Q]) k
  ·by_cases z:r=[]
   ·rw[uC nT nd T0 λn=>by rw[<-Q,z];rfl];simp
   ·by_cases d0:d=[]
    ·rw[d0];simp
    have e:pdL (fU R l) d=r:=cO (cI _ _) nr λn=>by rw[a7,Q]
    have q:=(eH nT nd T0 d0).1;rw[e]at q;have t0:(fU R l).length≠0:=λz=>T0 (bC z);have ld:d.length<=6+1:=by omega
    exact⟨ld,λx hx=>(uo nd nr z (D:=6) () lr ld br (λn=>(Q n).trans (cw _ _)) x hx).mono ()⟩
 ·have hd:ds[m.length-1]?=some (ds[m.length-1]'()):=ao _;generalize ds[m.length-1]'()=d at hd;obtain⟨u,t,ed,nu,nd,Q⟩:=at' _ l d er hd;have u0:u≠[]:=λz=>l0 (cO (S l (il O)).1 b_ λn=>by rw[u3 _ l u er t n,z];simp[val]);have p0:pdL C u≠[]:=gG nC nu C0 u0;have d0:d≠[]:=by rw[ed];intro z;exact p0 (oQ.mp z)
  obtain⟨q0,hq⟩:=Px d0;refine⟨q0,_,by rw[fK,x0,hd,<-hq],?_⟩;have e1:co d (d.length-1)=σ * (co C (C.length-1)*co u (u.length-1)):=by
   rw[ed,dN,af,(eH nC nu C0 u0).2]
  have e2:co l (l.length-1)=co R (R.length-1)*co u (u.length-1):=by
   have e:pdL R u=l:=cO (cI _ _) (S l (il O)).1 λn=>by rw[a7,u3 _ l u er t n]
   rw[<-(eH B nu G u0).2,e]
  rw[e2]at sg;rw[e1];have q:σ * (co R (R.length-1)*co u (u.length-1))=co R (R.length-1)*(σ * co u (u.length-1)):=by grind
  rw[q]at sg;have P:=By sg tF;have h3:σ * (co C (C.length-1)*co u (u.length-1))=co C (C.length-1)*(σ * co u (u.length-1)):=by grind
  rw[h3];exact uT Y P
 ·refine u4 s hs λu t=>?_;have q:∀k,(s:Int)∣pm (co C) (co u) k:=λk=>by
   have P:=h _ #v[L,aZ.mpr ⟨u,t,rfl⟩] k;rw[dN,lQ]at P;obtain⟨y,hy⟩:=P;refine⟨σ * y,?_⟩;have:pm (co C) (co u) k=σ * (σ * pm (co C) (co u) k):=by rw[<-cD,F,dS]
   rw[this,hy];grind
  rcases nQ hs q with z|z
  ·exact (z0 s hs z).elim
  ·exact z
 ·rw[vT];refine fX J ?_;rw[o];by_cases z:clr 0 R=true
  ·rw[if_pos z];exact Mp () ((AY _ _).mp z)
  ·rw[if_neg z,vc];exact c0
section
variable {w L e b l B D β:Nat}{Wm:ax}{cs:aw}{q:ac}{pl:Int}
theorem Hq (P:PG w L e b l B D β)(S:StG w B Wm cs pl)(i:∀v∈Wm,v.length=w/\∀f∈v,Nml f/\f.length<=L/\∀c∈f,Bd b c){zs:Nat->aa}(s:∀x,x<Wm.length->Nml (zs x))(h:∀c,c<w->∀n,au Wm.length (λx=>val n (zs x)*val n ((Wm.getD x []).getD c []))=0)(j:Nat)(m:j<Wm.length):zs j=[]:=by
 refine Classical.byContradiction λt=>?_;have kw:=S.few;have w5:=P.w5;obtain⟨o,g,_,H,I,pv⟩:=S;have W:∀v∈Wm,v.length=w:=λv a=>(i v a).1;obtain⟨d,u,y,J,C⟩:=places (L:=L) W (λv a f q=>⟨((i v a).2 f q).1,((i v a).2 f q).2.1⟩) kw o g pv;obtain⟨N,_,k⟩:=AB (cI d (zs j)) (gG u (s j m) y t) 0 (uJ _);rw[a7]at k;have F:val (0+(N:Int)) d≠0:=λz=>k (by rw[z];simp);have G:val (0+(N:Int)) (zs j)≠0:=λz=>k (by rw[z];simp);generalize (0+(N:Int))=p at *;have all:=Gu W () o (C _ F) (ms:=(aJ Wm.length).map λx=>val p (zs x)) (by simp) (λc r=>by
  rw[AQ W (g c r)];exact h c (g c r) p) (val p (zs j)) (aZ.mpr ⟨j,cU.mpr m,rfl⟩)
 exact G all
theorem PF {g X Y:aa}(ng:Nml g)(g0:g≠[])(h:∀n,val n g*val n X=val n g*val n Y)(n:Int):val n X=val n Y:=by
 have e:=uC ng (ou X (Y.map λz=>-1*z)) g0 λn=>by rw[kC,bL,ig];have:=h n;grind
 have a:val n (gi X (Y.map λz=>-1*z))=0:=by rw[e];rfl
 rw[kC,bL]at a;omega
theorem Hr {x:aa}(nx:Nml x)(a:x≠[])(h:x.length<=1):∃c:Int,c≠0/\x=[c]:=by
 match x,nx,a,h with
 | [],_,a,_=>exact absurd rfl a
 | [c],nx,_,_=>exact⟨c,d_.mp nx c rfl,rfl⟩
 | _ :: _ :: _,_,_,h=>simp at h
theorem PH {ws a:ac}{k:Nat}(l1:ws.length=k+1)(l2:a.length=k+1)(n1:∀r∈ws,Nml r)(n2:∀r∈a,Nml r)(P:∃Q D,ws.getD k []=Q++[D]/\0<D)(R:∃Q D,a.getD k []=Q++[D]/\0<D)(q1:∀s:Nat,Prm s->(∀u∈ws,∀j,(s:Int)∣co u j)->False)(q2:∀s:Nat,Prm s->(∀u∈a,∀j,(s:Int)∣co u j)->False)(f1:NF ws)(f2:NF a)(h:∀t,t<=k->∀n,val n (a.getD k [])*val n (ws.getD t [])=val n (ws.getD k [])*val n (a.getD t [])):ws=a:=by
 obtain⟨p1,a1,H,u0⟩:=P;obtain⟨p2,a2,I,j0⟩:=R;have m1:ws.getD k []∈ws:=mem_getD ();have m2:a.getD k []∈a:=mem_getD ();have na:=n1 _ m1;have nb:=n2 _ m2;have a0:ws.getD k []≠[]:=by rw[H];simp
 have b0:a.getD k []≠[]:=by rw[I];simp
 generalize hA:ws.getD k []=A at *;generalize hB:a.getD k []=C at *;obtain⟨g,x,y,U,Wp,m,G⟩:=AD _ A C (aA _) na nb (.inl a0);have x0:x≠[]:=λz=>a0 (by rw[G.pa,z,iB]);have y0:y≠[]:=λz=>b0 (by rw[G.qb,z,iB]);have vA:∀n,val n A=val n x*val n g:=λn=>by rw[G.pa,a7]
 have vC:∀n,val n C=val n y*val n g:=λn=>by rw[G.qb,a7]
 have yx:∀t,t<=k->∀n,val n y*val n (ws.getD t [])=val n x*val n (a.getD t []):=λt f n=>by
  have:=PF (X:=be y (ws.getD t [])) (Y:=be x (a.getD t [])) G.ng G.g0 (λn=>by
   have b:=h t f n;rw[vA,vC]at b;rw[cy,cy];grind) n
  rwa [cy,cy]at this
 have xl:x.length<=1:=Classical.byContradiction λz=>f1 x G.na () m G.m0 λu p=>by
  obtain⟨t,f,rfl⟩:=cm.mp p;have S:ws[t]=ws.getD t []:=by rw[aq,ao f];rfl
  rw[S];refine⟨b7 (be U (ws.getD t [])) (be Wp (a.getD t [])),λn=>?_⟩;have b:=yx t () n;rw[<-G.bz n,eG,cy,cy];grind
 have yl:y.length<=1:=Classical.byContradiction λz=>f2 y G.nb () m G.m0 λu p=>by
  obtain⟨t,f,rfl⟩:=cm.mp p;have S:a[t]=a.getD t []:=by rw[aq,ao f];rfl
  rw[S];refine⟨b7 (be U (ws.getD t [])) (be Wp (a.getD t [])),λn=>?_⟩;have b:=yx t () n;rw[<-G.bz n,eG,cy,cy];grind
 obtain⟨J,k0,rfl⟩:=Hr G.na x0 xl;obtain⟨L,n0,rfl⟩:=Hr G.nb y0 yl;have M:∀(c n:Int),val n [c]=c:=λc n=>by simp[val]
 have cc:∀t,t<=k->∀j,L*co (ws.getD t []) j=J*co (a.getD t []) j:=λt f j=>by
  rw[<-dN,<-dN];exact fh (λn=>by rw[bL,bL];have:=yx t f n;rwa [M,M]at this) j
 obtain⟨d,hd⟩:∃d:Nat,d=bJ J.natAbs L.natAbs:=⟨_,rfl⟩
 have d0:0<d:=by rw[hd];exact Jj _ ()
 obtain⟨o,ex⟩:(d:Int)∣J:=gS.mpr #v[hd,je _ _];obtain⟨i,ey⟩:(d:Int)∣L:=gS.mpr #v[hd,jN _ _];have F:∀s:Nat,Prm s->(s:Int)∣o->(s:Int)∣i->False:=λs hs b O=>by
  have h3:s*d∣d:=by
   conv=>rhs;rw[hd]
   refine oX ?_ ?_
   ·have:((s*d:Nat):Int)∣J:=by rw[ex,fm,cw];exact Jo (mC _) b
    exact gS.mp this
   ·have:((s*d:Nat):Int)∣L:=by rw[ey,fm,cw];exact Jo (mC _) O
    exact gS.mp this
  have h4:=jd d0 h3;have:=hs.1;have:=dA d (show 2<=s by omega);omega
 have q:∀t,t<=k->∀j,i*co (ws.getD t []) j=o*co (a.getD t []) j:=λt f j=>by
  have b:=cc t f j;rw[ex,ey,cD,cD]at b;exact jP (show (d:Int)≠0 by omega) b
 have T:∀u∈ws,∃t,t<=k/\u=ws.getD t []:=λu p=>by
  obtain⟨t,f,rfl⟩:=cm.mp p;exact⟨t,(),by rw[aq,ao f];rfl⟩
 have Z:∀u∈a,∃t,t<=k/\u=a.getD t []:=λu p=>by
  obtain⟨t,f,rfl⟩:=cm.mp p;exact⟨t,(),by rw[aq,ao f];rfl⟩
 have ux:o.natAbs=1:=Classical.byContradiction λz=>by
  obtain⟨s,s1,B⟩:∃s,s∣o.natAbs/\Prm s:=by
   by_cases y:o.natAbs=0
   ·exact⟨2,#v[y,Bw _],sU⟩
   ·exact nP _ ()
  have sx:=gS.mpr s1;refine q1 s B λu p j=>?_;obtain⟨t,f,rfl⟩:=T u p;rcases zN B (x:=i) (y:=co (ws.getD t []) j) #v[q t f j,eJ sx (iL _ _)] with b|b
  ·exact (F s B sx b).elim
  ·exact b
 have uy:i.natAbs=1:=Classical.byContradiction λz=>by
  obtain⟨s,s1,B⟩:∃s,s∣i.natAbs/\Prm s:=by
   by_cases y:i.natAbs=0
   ·exact⟨2,#v[y,Bw _],sU⟩
   ·exact nP _ ()
  have sy:=gS.mpr s1;refine q2 s B λu p j=>?_;obtain⟨t,f,rfl⟩:=Z u p;rcases zN B (x:=o) (y:=co (a.getD t []) j) #v[<-q t f j,eJ sy (iL _ _)] with b|b
  ·exact (F s B b sy).elim
  ·exact b
 have sg:o=i:=by
  have lt:=eH (fj (show i≠0 by omega)) na (by simp) a0;have z0:=eH (fj (show o≠0 by omega)) nb (by simp) b0;have e:pdL [i] A=pdL [o] C:=cO (cI _ _) (cI _ _) λn=>by
   rw[a7,a7,M,M,<-bL,<-bL];exact fu (λj=>#v[dN,dN,<-hA,<-hB,q k (aA _) j]) n
  have b:=lt.2;rw[e,z0.2]at b;have P:co A (A.length-1)=a1:=by rw[H];unfold co;simp
  have R:co C (C.length-1)=a2:=by rw[I];unfold co;simp
  rw[P,R]at b;have O:o*a2=i*a1:=b;rcases (show o=1\/o=-1 by omega) with rfl|rfl <;> rcases (show i=1\/i=-1 by omega) with rfl|rfl
  ·rfl
  ·omega
  ·omega
  ·rfl
 refine ie () λt b O=>?_;have H:ws[t]=ws.getD t []:=by rw[aq,ao b];rfl
 have I:a[t]=a.getD t []:=by rw[aq,ao O];rfl
 rw[H,I];refine ip (n1 _ (mem_getD ())) (n2 _ (mem_getD ())) λj=>?_;have:=q t () j;rw[sg]at this;exact jP (show i≠0 by omega) this
theorem PJ (P:PG w L e b l B D β)(S:StG w B Wm cs pl)(m:∀v∈Wm,v.length=w/\∀f∈v,Nml f/\f.length<=L/\∀c∈f,Bd b c){g g':Nat}{ws a:ac}(R:RlG w D g Wm q ws)(N:NF ws)(o:RlG w D g' Wm q a)(p:NF a):ws=a:=by
 obtain⟨s,u,C,F,G⟩:=R;obtain⟨H,I,J,M,O⟩:=o;refine PH s H (λr d=>(u r d).1) (λr d=>(I r d).1) C J F M N p λt T n=>?_;have z:=Hq P S m (zs:=λx=>gi (pdL (a.getD Wm.length []) (ws.getD x [])) (pdL [-1] (pdL (ws.getD Wm.length []) (a.getD x [])))) (λx _=>ou _ _) λc j n=>?_
 ·by_cases y:t<Wm.length
  ·have k:val n (gi (pdL (a.getD Wm.length []) (ws.getD t [])) (pdL [-1] (pdL (ws.getD Wm.length []) (a.getD t []))))=0:=by rw[z t y];rfl
   rw[kC,a7,a7,a7]at k;have:val n [-1]=-1:=by simp[val]
   rw[this]at k;omega
  ·rw[show t=Wm.length by omega,cw]
 ·have h:=G c j n;have i:=O c j n;rw[lE]at h i;have e:∀x,x<Wm.length->(Wm++[q]).getD x []=Wm.getD x []:=λx hx=>by rw[aq,cA hx,<-aq]
  have Q:au Wm.length (λx=>val n (gi (pdL (a.getD Wm.length []) (ws.getD x [])) (pdL [-1] (pdL (ws.getD Wm.length []) (a.getD x []))))*val n ((Wm.getD x []).getD c []))=val n (a.getD Wm.length [])*au Wm.length (λx=>val n (((Wm++[q]).getD x []).getD c [])*val n (ws.getD x []))-val n (ws.getD Wm.length [])*au Wm.length (λx=>val n (((Wm++[q]).getD x []).getD c [])*val n (a.getD x [])):=by
   rw[<-e7,<-e7,<-Fj];refine cB λx hx=>?_;rw[kC,a7,a7,a7,e x hx];have:val n [-1]=-1:=by simp[val]
   rw[this];grind
  rw[Q];generalize au Wm.length (λx=>val n (((Wm++[q]).getD x []).getD c [])*val n (ws.getD x []))=X at h;generalize au Wm.length (λx=>val n (((Wm++[q]).getD x []).getD c [])*val n (a.getD x []))=Y at i;generalize val n (((Wm++[q]).getD Wm.length []).getD c [])=v at h i;grind
end
theorem A2 {xs:aw}{m:Nat}(h:∀x∈xs,x<=m):mxl xs<=m:=by
 induction xs with
 | nil=>exact aR _
 | cons y ys ih=>
  show max y (mxl ys)<=m;exact Nat.max_le.mpr ⟨h y (by simp),ih λx hx=>h x (by simp[hx])⟩
def dvb (k:Nat):Nat:=2*k
def bvb (k:Nat):Nat:=if k=0 then 1 else if k=1 then 27 else 56
theorem Hs {f g:Nat->Nat}:∀m,(∀s,s<m->f s<=g s)->((aJ m).map f).sum<=((aJ m).map g).sum
 | 0,_=>by simp
 | m+1,h=>by
  rw[fL,aT,aT,gx,gx];have a:=Hs m λs hs=>h s ();have b:=h m ();simp only[List.sum_nil,uM,iM,dY];omega
structure OutOk (ps:ac)(r:Nat)(ds:ac):Prop where
 l:0<ds.length/\ds.length<=r+2
 nm:∀d∈ds,Nml d/\d.length<=7/\∀x∈d,Bd 300 x
 top:∃p0 t0,ds.getLast?=some (p0++[t0])/\0<t0
 prm:∀s:Nat,Prm s->(∀u∈ds,∀j,(s:Int)∣co u j)->False
 kp:∀(A S:aH)(N n:Nat),ml r (pvL ps) A N->(∀k,S (k+1)=S k+A (k+1))->(r+1<=ds.length->n+ds.length<=N+r)->au ds.length (λt=>val (n:Int) (ds.getD t [])*S (n+t))=0
section
variable {ps:ac}{r:Nat}{qs:ax}{wts:ac}
theorem A3 (a:r<=2){t:Nat}(b:t<=r+1):kk r t<=2/\(t<=r->kk r t<=1):=by unfold kk;split <;> omega
theorem Ht (V:SumV ps r qs wts)(Z:SumZ r qs wts)(d:r<=2)(e:∀i,FL 30000010 3 (pvL ps i)){t:Nat}{v:ac}(h:qs[t]?=some v):v.length=r+1/\(∀f∈v,Nml f/\f.length<=2*kk r t+1/\∀x∈f,Bd (bvb (kk r t)) x)/\dv v<=dvb (kk r t)/\bv v<=bvb (kk r t):=by
 have s:t<r+2:=by rw[<-V.lq];exact (aY.mp h).1
 obtain⟨g,b⟩:=Z.v t v h;have u:=(A3 d (show t<=r+1 by omega)).1;have j:bK 30000010 (kk r t)<2 ^ bvb (kk r t):=by
  unfold bK bvb;rcases (show kk r t=0\/kk r t=1\/kk r t=2 by omega) with z|z|z <;> rw[z] <;> decide
 have b1:0<bvb (kk r t):=by unfold bvb;split;decide;split <;> decide
 have big:∀f∈v,∀x∈f,x.natAbs<=bK 30000010 (kk r t):=λf a=>by
  obtain⟨c,k,rfl⟩:=cm.mp a;refine Pt (Ho V d e () t () c ()).1 λn=>?_;rw[show qs.getD t []=v by rw[aq,h];rfl,aq,ao k];rfl
 refine⟨g,λf a=>⟨(b f a).1,(b f a).2.1,λx hx=>ca (big f a x hx) j⟩,?_,?_⟩
 ·unfold dv dvb;have:=A2 (xs:=v.map jM) (m:=2*kk r t+1) λx hx=>by
   obtain⟨f,a,rfl⟩:=aZ.mp hx;exact (b f a).2.1
  omega
 ·unfold bv;have o:=A2 (xs:=v.map λf=>mxl (f.map mQ)) (m:=bK 30000010 (kk r t)) λx hx=>by
   obtain⟨f,a,rfl⟩:=aZ.mp hx;exact A2 λy hy=>by
    obtain⟨z,p,rfl⟩:=aZ.mp hy;exact big f a z p
  generalize mxl (v.map λf=>mxl (f.map mQ))=m at o;by_cases z:m=0
  ·rw[z];have q:Nat.log2 0=0:=by decide
   rw[q];exact b1
  ·exact (IS z).mpr ()
theorem Hu (V:SumV ps r qs wts)(n:Int):∀t,t<=r+1->val n (wts.getD t [])=val n ((qs.getD t []).getD 0 [])
 | 0,_=>by rw[V.w0,V.v0,if_pos rfl]
 | t+1,h=>by
  obtain⟨c,a,_,_,b⟩:=V.st t ();rw[V.sw t (),b n 0 (),if_pos rfl,iG,Hu V n t ()]
theorem HD (V:SumV ps r qs wts)(Z:SumZ r qs wts)(b:Nml (ps.getD r []))(l0:ps.getD r []≠[]):∀t,t<=r+1->wts.getD t []≠[]
 | 0,_=>λz=>by have:=V.w0 0;rw[z]at this;simp[val]at this
 | t+1,h=>λz=>by
  have c:=HD V Z b l0 t ();have d:Nml (wts.getD t []):=by
   have:t<wts.length:=by rw[V.lw];omega
   exact (Z.w t _ (by rw[ao this,aq,ao this];rfl)).2.1
  have sw:=V.sw t ();rw[z]at sw;by_cases y:r<=t+1
  ·have ns:=cM (dH ((t+1-r:Nat):Int) (ps.getD r []));have f:aL (dH ((t+1-r:Nat):Int) (ps.getD r []))≠[]:=λe=>l0 (cO b b_ λn=>by
    have a:=oA (n-((t+1-r:Nat):Int)) (dH ((t+1-r:Nat):Int) (ps.getD r []));rw[e,li,Int.sub_add_cancel]at a;exact a.symm)
   refine f (uC d ns c λn=>?_);have a:=sw n;unfold fV at a;rw[if_pos y]at a;rw[oA,li];exact a
  ·refine c (cO d b_ λn=>?_);have a:=sw n;unfold fV at a;rw[if_neg y,oG]at a;exact a.symm
theorem A4 (a:r<=2):PG (r+1) 3 2 56 3 31 8 190:=by
 rcases (show r=0\/r=1\/r=2 by omega) with rfl|rfl|rfl <;> constructor <;> decide
theorem A6 (V:SumV ps r qs wts)(Z:SumZ r qs wts)(e:r<=2)(m:∀i,FL 30000010 3 (pvL ps i)){i:Nat}{q:ac}(g:qs[i]?=some q):VqG (r+1) 3 2 56 (qs.take i) q:=by
 have b:∀k,bvb k<=56:=λk=>by unfold bvb;split;decide;split <;> decide
 have vb:=λt v h=>Ht V Z e m (t:=t) (v:=v) h;have hi:=(aY.mp g).1;rw[V.lq]at hi;refine⟨λv n=>?_,(vb i q g).1,λf d=>?_⟩
 ·obtain⟨t,o,rfl⟩:=cm.mp n;rw[bX]at o;rw[List.getElem_take];obtain⟨p,a,_⟩:=vb t _ (ao ());have:=(A3 e (show t<=r+1 by omega)).2 ();exact⟨p,λf d=>⟨(a f d).1,by have:=(a f d).2.1;omega,λc j=>((a f d).2.2 c j).mono (b _)⟩⟩
 ·have a:=(vb i q g).2.1 f d;have:=(A3 e (show i<=r+1 by omega)).1;exact⟨a.1,by have:=a.2.1;omega,λc j=>(a.2.2 c j).mono (b _)⟩
theorem PL {us a:ac}{d b:aa}{c i:Nat}(l:us.length=r)(f:a.length=r)(h:Crd ps c us d)(h':Crd ps c a b)(hi:i<r)(n:Int):val n (us.getD i [])=val n (a.getD i []):=by
 rcases h with ⟨g,e,_⟩|⟨g,e,_⟩ <;> rcases h' with ⟨b1,b2,_⟩|⟨b1,b2,_⟩
 ·rw[e,b2,l,f]
 ·omega
 ·omega
 ·rw[e i n (),b2 i n (),l,f]
theorem A7 {d:ax}{a:ac}(V:SumV ps r qs wts)(e:SumV ps r d a)(n:Int):∀t,t<=r+1->(∀c,c<r+1->val n ((qs.getD t []).getD c [])=val n ((d.getD t []).getD c []))/\val n (wts.getD t [])=val n (a.getD t [])
 | 0,_=>⟨λc _=>by rw[V.v0,e.v0],by rw[V.w0,e.w0]⟩
 | t+1,h=>by
  obtain⟨j,k⟩:=A7 V e n t ();obtain⟨u,m,l,o,p⟩:=V.st t ();obtain⟨q,i,s,f,g⟩:=e.st t ();refine⟨λc b=>?_,by rw[V.sw t (),e.sw t (),k]⟩;rw[p n c b,g n c b,j c b];by_cases z:c=0
  ·rw[if_pos z,if_pos z]
  ·rw[if_neg z,if_neg z,PL l s o f () n]
theorem atD {α:Type}{xs:List α}{d:α}{i:Nat}(h:i<xs.length):xs[i]?=some (xs.getD i d):=by rw[aq,ao h];rfl
theorem A8 {α:Type}{xs ys:List α}(d:α)(l:xs.length=ys.length)(h:∀i,i<xs.length->xs.getD i d=ys.getD i d):xs=ys:=by
 refine ie l λi a b=>?_;have:=h i a
 rwa [aq,aq,ao a,ao b]at this
theorem PM {b:ax}{a:ac}(V:SumV ps r qs wts)(Z:SumZ r qs wts)(e:SumV ps r b a)(g:SumZ r b a):qs=b/\wts=a:=by
 have lq:=V.lq;have h:=e.lq;have lw:=V.lw;have i:=e.lw;refine⟨A8 [] () λt f=>?_,A8 [] () λt f=>?_⟩
 ·obtain⟨o,j⟩:=Z.v t _ (atD (d:=[]) f);obtain⟨p,k⟩:=g.v t _ (atD (d:=[]) (show t<b.length by omega));exact A8 [] () λc m=>cO (j _ (mem_getD m)).1 (k _ (mem_getD ())).1 λn=>(A7 V e n t ()).1 c ()
 ·exact cO (Z.w t _ (atD f)).2.1 (g.w t _ (atD ())).2.1 λn=>(A7 V e n t ()).2
def oC (ps:ac)(r:Nat)(ws wts:ac):Prop:=∃(qs:ax)(i:Nat)(q:ac)(cs:aw)(pl:Int),SumV ps r qs wts/\SumZ r qs wts/\qs[i]?=some q/\StG (r+1) 31 (qs.take i) cs pl/\RlV (r+1) 8 293 3 (qs.take i) q ws
theorem HE (V:SumV ps r qs wts)(Z:SumZ r qs wts)(j:r<=2)(o:∀i,FL 30000010 3 (pvL ps i)){i b g:Nat}{q p ws:ac}{cs:aw}{pl:Int}(s:qs[i]?=some q)(d:qs[b]?=some p)(S:StG (r+1) 31 (qs.take b) cs pl)(R:RlG (r+1) 8 g (qs.take i) q ws)(h:i<b):False:=by
 have t:=(aY.mp d).1;have lk:(qs.take i).length=i:=by rw[bX];omega
 have f:(qs.take b).length=b:=by rw[bX];omega
 obtain⟨u,y,⟨I,J,e,_⟩,_,k⟩:=R;rw[lk]at u e k;have eq:qs.take i++[q]=qs.take (i+1):=by rw[cY,s];rfl
 have z:=Hq (A4 j) S (A6 V Z j o d).1 (zs:=λx=>if x<=i then ws.getD x [] else []) (λx _=>by
  split
  ·exact (y _ (mem_getD ())).1
  ·exact b_) (λc B n=>by
  have a:=k c B n;rw[f,<-a];have C:∀m,i+1+m<=b->au (i+1+m) (λx=>val n (if x<=i then ws.getD x [] else [])*val n (((qs.take b).getD x []).getD c []))=au (i+1) λx=>val n (((qs.take i++[q]).getD x []).getD c [])*val n (ws.getD x []):=λm=>by
   induction m with
   | zero=>
    intro _;refine cB λx hx=>?_;have D:(qs.take b).getD x []=(qs.take (i+1)).getD x []:=by rw[aq,mq (),aq,mq hx]
    rw[if_pos (),cw,eq,D]
   | succ m ih=>
    intro L;rw[<-ih ()];have G:∀F:aH,F (i+1+m)=0->au (i+1+(m+1)) F=au (i+1+m) F:=λF H=>by
     show au (i+1+m) F+F (i+1+m)=_;rw[H,iG]
    exact G _ (by rw[if_neg ()];simp[val])
  have:=C (b-(i+1)) ()
  rwa [show i+1+(b-(i+1))=b by omega]at this) i ()
 rw[if_pos (aA _),e]at z;simp at z
theorem PN (d:r<=2)(f:∀i,FL 30000010 3 (pvL ps i)){ws c b:ac}(h:oC ps r ws wts)(h':oC ps r c b):ws=c/\wts=b:=by
 obtain⟨qs,i,q,u,pl,V,Z,e,S,R⟩:=h;obtain⟨k,j,x,m,n,o,p,a,s,g⟩:=h';obtain⟨rfl,rfl⟩:=PM V Z o p;have t:i=j:=by
  rcases Nat.lt_trichotomy i j with z|z|z
  ·exact (HE V Z d f e a s R.1 z).elim
  ·exact z
  ·exact (HE V Z d f a e S g.1 z).elim
 subst t;rw[e]at a
 cases a
 exact⟨PJ (A4 d) S (A6 V Z d f e).1 R.1 R.2.2 g.1 g.2.2,rfl⟩
noncomputable def jK (ps:ac) (r:Nat):ac:=Classical.epsilon λds=>∃(ws wts:ac)(l R:aa)(f:Nat->aa),oC ps r ws wts/\(cV aQ ws wts).getLast?=some l/\uD (cV aQ ws wts) l ds R f
theorem PP (V:SumV ps r qs wts)(Z:SumZ r qs wts)(Y:r<=2)(hp:∀i,FL 30000010 3 (pvL ps i))(nl:Nml (ps.getD r []))(l0:ps.getD r []≠[]){G:ac->Prop}(hG:OutOk ps r (jK ps r)->G (jK ps r)):Hm (r+1) (StG (r+1) 31) (VqG (r+1) 3 2 56) (RlV (r+1) 8 293 3) qs wts G:=by
 have vb:=λt v h=>Ht V Z Y hp (t:=t) (v:=v) h;refine⟨λq F=>(vb 0 q F).1,λi q cs pl F J=>A6 V Z Y hp F,λcs pl J=>?_,λi q ws cs pl F J hR=>?_⟩
 ·have:=J.few;rw[V.lq]at this;omega
 have L:oC ps r ws wts:=⟨qs,i,q,cs,pl,V,Z,F,J,hR⟩
 obtain⟨⟨R1,R2,⟨p0,t0,R3,z1⟩,R4,R5⟩,PB,u1⟩:=hR;have hi:=(aY.mp F).1;rw[V.lq]at hi;have lk:(qs.take i).length=i:=by rw[bX,V.lq];omega
 rw[lk]at R1 R3 R5;have eq:qs.take i++[q]=qs.take (i+1):=by rw[cY,F];rfl
 have H:∀s,s<i+1->(qs.take i++[q]).getD s []=qs.getD s []:=λs hs=>by rw[eq,aq,mq hs,<-aq]
 have m:∀s,s<r+2->qs[s]?=some (qs.getD s []):=λs hs=>by
  have B:s<qs.length:=by rw[V.lq];exact hs
  rw[aq,ao B];rfl
 have C:∀s,s<r+2->wts[s]?=some (wts.getD s []):=λs hs=>by
  have B:s<wts.length:=by rw[V.lw];exact hs
  rw[aq,ao B];rfl
 have D:∀(g:ac->Nat)(h:Nat->Nat)(t:Nat),t<=i->(∀s,s<r+2->g (qs.getD s [])<=h (kk r s))->sS g (qs.take i) q t+g (qs.getD t [])<=((aJ (i+1)).map λs=>h (kk r s)).sum:=λg h t b hh=>by
  have B:=AS (λs=>g ((qs.take i++[q]).getD s [])) (i+1) t ();unfold sS;rw[lk];rw[<-H t (),B];exact Hs _ λs hs=>by rw[H s hs];exact hh s ()
 have n0:((aJ (i+1)).map λs=>dvb (kk r s)).sum<=6/\((aJ (i+1)).map λs=>3+bvb (kk r s)).sum<=97:=by
  have:∀r,r<3->∀i,i<4->i<r+2->((aJ (i+1)).map λs=>dvb (kk r s)).sum<=6/\((aJ (i+1)).map λs=>3+bvb (kk r s)).sum<=97:=by decide
  exact this r () i () hi
 have x0:∀t,t<=i->ws[t]?=some (ws.getD t []):=λt b=>by rw[aq,ao ()];rfl
 have lz:(cV aQ ws wts).length=i+1:=by rw[mI,R1,V.lw];omega
 have u:∀t,t<=i->(cV aQ ws wts)[t]?=some (aQ (ws.getD t []) (wts.getD t [])):=λt b=>by rw[uX,x0 t b,C t ()]
 have M:∀t,t<=i->Nml (ws.getD t []):=λt b=>(R2 _ (mem_getD ())).1;have I:∀t,t<=i->Nml (wts.getD t []):=λt b=>(Z.w t _ (C t ())).2.1;have y0:∀t,t<=i->wts.getD t []∈qs.getD t []:=λt b=>by
  have l1:=(vb t _ (m t ())).1;have U:=(vb t _ (m t ())).2.1;have hm:(qs.getD t []).getD 0 []∈qs.getD t []:=mem_getD ();rw[cO (I t b) (U _ hm).1 λn=>Hu V n t ()];exact hm
 have rows:∀g∈cV aQ ws wts,Nml g/\g.length<=7/\∀z∈g,Bd 220 z:=λg hg=>by
  obtain⟨t,b,rfl⟩:=cm.mp hg;have e:=ao b;rw[u t ()]at e;rw[<-Option.some.inj e];obtain⟨y1,y2⟩:=PB t ();have d1:=D dv dvb t () λs hs=>(vb s _ (m s hs)).2.2.1;have d2:=D (λv=>3+bv v) (λk=>3+bvb k) t () λs hs=>by have:=(vb s _ (m s hs)).2.2.2;omega
  have m1:=y0 t ();have m2:=GX m1;have lp:=i8 (M t ()) (I t ()) (gH _ _) (fJ (ws.getD t []) (wts.getD t []));refine⟨gH _ _,(),cu λk=>?_⟩;rw[fJ];refine (hI (c:=3) y2 (l:=bv (qs.getD t [])+1) (λy hy=>?_) () k).mono ?_
  ·have:=GY m1 hy;show y.natAbs<2 ^ (bv (qs.getD t [])+1);rw[iF];have:=dG (bv (qs.getD t []));omega
  ·rw[lk];omega
 have a:(cV aQ ws wts).getLast?=some (aQ (ws.getD i []) (wts.getD i [])):=by rw[fK,lz,show i+1-1=i by omega];exact u i (aA _)
 have l1:aQ (ws.getD i []) (wts.getD i [])≠[]:=λz=>by
  have w0:=HD V Z nl l0 i ();refine w0 (uC (M i (aA _)) (I i (aA _)) (by rw[R3];simp) λn=>?_);rw[<-jJ,z];rfl
 obtain⟨v1,x1,l',R,f,O,P,t1,t2,t3,t4,t5,t6,t7,t8,X,o,Q,T,z0⟩:=Classical.epsilon_spec (p:=λds=>∃(ws wts:ac)(l R:aa)(f:Nat->aa),oC ps r ws wts/\(cV aQ ws wts).getLast?=some l/\uD (cV aQ ws wts) l ds R f) (by
  obtain⟨ds,R,f,h⟩:=Py rows a l1;exact⟨ds,ws,wts,_,R,f,L,a,h⟩)
 obtain⟨rfl,rfl⟩:=PN Y hp L O;rw[a]at P
 cases P
 change OutOk ps r (jK ps r)->G (jK ps r) at hG;change _=_ at X;generalize u0:jK ps r=ds at hG;rw[show Classical.epsilon _=ds from u0]at X o Q T;have j0:∀t,t<=i->ds[t]?=some (ds.getD t []):=λt b=>by rw[aq,ao ()];rfl
 refine⟨R1,λp k0=>?_,ds,_,R,f,a,λg hg=>?_,t1,t2,t3,t4,t5,t6,t7,t8,X,λj g d B U=>⟨(o j g d B U).1,(o j g d B U).2.1⟩,hG ⟨(),λd hd=>?_,Q,T,λA S N n hk J hn=>?_⟩⟩
 ·have:=R2 p k0;exact⟨(),this.1,λx hx=>(this.2.2 x hx).mono ()⟩
 ·have:=rows g hg;exact⟨this.1,(),λx hx=>(this.2.2 x hx).mono ()⟩
 ·obtain⟨t,b,rfl⟩:=cm.mp hd;have:=o t _ _ (u t ()) (ao b);exact⟨this.1,this.2.2.2⟩
 ·rw[X,lz]at hn ⊢;refine Pp (ws:=ws) V hk J (i:=i) () (λh=>by have:=hn ();omega) (λc hc=>?_) (z0 n) λt b=>?_
  ·rw[<-R5 c hc n];exact cB λt b=>by rw[H t b]
  ·rw[<-jJ];exact (o t _ _ (u t ()) (j0 t ())).2.2.1 n
end
def Frc (f:Int×Int):Prop:=1<=f.2/\bJ f.1.natAbs f.2.natAbs=1
def gf (fs:List (Int×Int))(i:Nat):Int×Int:=fs.getD i (0,1)
theorem uE {fs:List (Int×Int)}{z:Int×Int}{i:Nat}(h:i<fs.length):gf (fs++[z]) i=gf fs i:=by
 unfold gf;rw[aq,cA h,<-aq]
theorem A9 {fs:List (Int×Int)}{z:Int×Int}{j:Nat}(h:fs.length=j):gf (fs++[z]) j=z:=by
 unfold gf;rw[aq,cQ (),h,fB];rfl
theorem PQ {fs:List (Int×Int)}{f:Int×Int}{i:Nat}(h:fs[i]?=some f):gf fs i=f:=by
 unfold gf;rw[aq,h];rfl
theorem HF {x:aH}{f g:Nat->Int×Int}:∀j,(∀i,i<j->f i=g i)->bV x f j=bV x g j
 | 0,_=>rfl
 | j+1,h=>by
  simp only[bV];rw[HF j λi hi=>h i (),h j ()]
theorem oD {t:Int×Int}{D S:Int}(c:Frc t)(i:D≠0)(h:D*t.1=S*t.2):t.2∣D/\t.2.natAbs<=D.natAbs/\t.1.natAbs<=S.natAbs:=by
 obtain⟨j,d⟩:=c;have e:t.2.natAbs∣D.natAbs*t.1.natAbs:=by
  rw[<-b6,h,b6];exact Nat.dvd_mul_left _ _
 have a:t.2.natAbs∣D.natAbs:=Nat.Coprime.dvd_of_dvd_mul_right (show Nat.Coprime t.2.natAbs t.1.natAbs by rw[Nat.Coprime,uY];exact d) e;have b:t.2.natAbs<=D.natAbs:=jd () a;refine⟨iH.mp a,b,?_⟩;have f:D.natAbs*t.1.natAbs=S.natAbs*t.2.natAbs:=by rw[<-b6,<-b6,h]
 have g:D.natAbs*t.1.natAbs<=D.natAbs*S.natAbs:=by rw[f,fW D.natAbs];exact dZ _ b
 exact Nat.le_of_mul_le_mul_left g ()
structure FVals (ps:ac)(r:Nat)(fs:List (Int×Int)):Prop where
 fr:∀i,i<fs.length->Frc (gf fs i)
 bd:∀i,i<fs.length->Bd (210*i+10) (gf fs i).1
 E:∃E:Int,1<=E/\Bd (10*fs.length+1) E/\∀i,i<fs.length->(gf fs i).2∣E
 kp:∀n:Nat,n+r<fs.length->pvL ps r n≠0->(gf fs (n+r)).1*((bV (λi=>pvL ps i n) (λi=>gf fs (n+i)) r).2*pvL ps r n)=-(bV (λi=>pvL ps i n) (λi=>gf fs (n+i)) r).1*(gf fs (n+r)).2
theorem FVals.nil {ps:ac}{r:Nat}:FVals ps r []:=⟨by simp,by simp,⟨1,(),Bd.one (by simp),by simp⟩,by simp⟩
theorem FVals.snoc {ps:ac}{r:Nat}{fs:List (Int×Int)}{z:Int×Int}{d:Int}(V:FVals ps r fs)(c:Frc z)(g:Bd (210*fs.length+10) z.1)(h:1<=d)(hd:Bd 10 d)(j:∀E:Int,E≠0->(∀i,i<fs.length->(gf fs i).2∣E)->z.2∣E*d)(hk:∀n:Nat,n+r=fs.length->pvL ps r n≠0->z.1*((bV (λi=>pvL ps i n) (λi=>gf fs (n+i)) r).2*pvL ps r n)=-(bV (λi=>pvL ps i n) (λi=>gf fs (n+i)) r).1*z.2):FVals ps r (fs++[z]):=by
 have le:(fs++[z]).length=fs.length+1:=by simp
 have at':∀{P:Nat->Int×Int->Prop},(∀i,i<fs.length->P i (gf fs i))->P fs.length z->∀i,i<(fs++[z]).length->P i (gf (fs++[z]) i):=λ{P} k m i hi=>by
  by_cases y:i<fs.length
  ·rw[uE y];exact k i y
  ·have e:fs.length=i:=by omega
   rw[A9 e,<-e];exact m
 obtain⟨E,o,p,a⟩:=V.E;refine⟨at' (P:=λ_ f=>Frc f) V.fr c,at' (P:=λi f=>Bd (210*i+10) f.1) V.bd g,⟨E*d,?_,?_,at' (P:=λ_ f=>f.2∣E*d) (λi hi=>eJ (a i hi) (iL _ _)) (j E () a)⟩,λn q b=>?_⟩
 ·have:=Int.mul_le_mul o h () ();omega
 ·rw[le];exact (p.mul hd).mono ()
 ·rw[le]at q;have s:bV (λi=>pvL ps i n) (λi=>gf (fs++[z]) (n+i)) r=bV (λi=>pvL ps i n) (λi=>gf fs (n+i)) r:=HF r λi hi=>uE ();rw[s];by_cases y:n+r<fs.length
  ·rw[uE y];exact V.kp n y b
  ·have e:fs.length=n+r:=by omega
   rw[A9 e];exact hk n e.symm b
theorem FVals.draw {ps:ac}{r:Nat}{fs:List (Int×Int)}{z:Int×Int}(V:FVals ps r fs)(a:Frc z)(hx:Bd 10 z.1)(hy:z.2.natAbs<=4)(b:∀n:Nat,n+r=fs.length->pvL ps r n=0):FVals ps r (fs++[z]):=
 V.snoc a (hx.mono ()) a.1 (Bd.of_lt (m:=5) () ()) (λE _ _=>oU _ _) λn c d=>absurd (b n c) d
def ovA (E:Int)(fs:List (Int×Int))(i:Nat):Int:=(gf fs i).1*(E / (gf fs i).2)
theorem HG {E:Int}{fs:List (Int×Int)}{i:Nat}(h:(gf fs i).2∣E):E*(gf fs i).1=ovA E fs i*(gf fs i).2:=by
 unfold ovA;have:=Int.ediv_mul_cancel h
 conv=>lhs;rw[<-this]
 grind
theorem HH {E:Int}{fs:List (Int×Int)}{i k l:Nat}(c:1<=(gf fs i).2)(a:Bd l E)(b:Bd k (gf fs i).1):Bd (k+l) (ovA E fs i):=by
 unfold ovA;refine b.mul (ca ?_ a);exact Int.natAbs_ediv_le_natAbs _ _
theorem uF {A:aH}{b:Nat}:∀k,(∀i,i<k->Bd b (A i))->Bd (b+k) (au k A)
 | 0,_=>Bd.zero _
 | k+1,h=>((uF k λi hi=>h i ()).add ((h k ()).mono ())).mono ()
theorem FVals.next {ps:ac}{r n:Nat}{fs:List (Int×Int)}{z:Int×Int}(V:FVals ps r fs)(t:n+r=fs.length)(u:r<=2)(y:fs.length<=16)(a:pvL ps r n≠0)(lb:Bd 10 (pvL ps r n))(h:∀i,i<r->Bd 43 (pvL ps i n))(c:Frc z)(e:z.1*((bV (λi=>pvL ps i n) (λi=>gf fs (n+i)) r).2*pvL ps r n)=-(bV (λi=>pvL ps i n) (λi=>gf fs (n+i)) r).1*z.2):FVals ps r (fs++[z]):=by
 have j:=uA (x:=λi=>pvL ps i n) (fs:=λi=>gf fs (n+i)) r λi hi=>(V.fr (n+i) ()).1;have b:∀E:Int,(∀i,i<fs.length->(gf fs i).2∣E)->pvL ps r n*E*z.1=-(au r λi=>pvL ps i n*ovA E fs (n+i))*z.2:=λE f=>by
  have g:=uz (x:=λi=>pvL ps i n) (fs:=λi=>gf fs (n+i)) (M:=E) (A:=λi=>ovA E fs (n+i)) r λi hi=>HG (f _ ());generalize bV (λi=>pvL ps i n) (λi=>gf fs (n+i)) r=W at e j g;generalize (au r λi=>pvL ps i n*ovA E fs (n+i))=S at g ⊢;generalize pvL ps r n=l at e ⊢;refine jP (show W.2≠0 by omega) ?_;have k:W.2*(l*E*z.1)=(z.1*(W.2*l))*E:=by grind
  have o:W.2*(-S*z.2)=- (W.2*S)*z.2:=by grind
  rw[k,o,e,<-g];grind
 refine V.snoc (d:=((pvL ps r n).natAbs:Int)) c ?_ () (by show ((pvL ps r n).natAbs:Int).natAbs<2 ^ 10;rw[dy];exact lb) (λE E0 f=>?_) λm B C=>?_
 ·obtain⟨E,D,p,q⟩:=V.E;have:=(oD c (fX a (show E≠0 by omega)) (b E q)).2.2;rw[Bg]at this;refine ca this ?_;have s:∀i,i<r->Bd (210*fs.length+8) (pvL ps i n*ovA E fs (n+i)):=λi hi=>((h i hi).mul (HH (V.fr (n+i) ()).1 p (V.bd (n+i) ()))).mono ();show Bd (210*fs.length+10) _;exact (uF r s).mono ()
 ·have:=(oD c (fX a E0) (b E f)).1;rw[cw]at this;refine eJ this ?_;exact Jo (mC _) (uZ.mpr (mC _))
 ·have:m=n:=by omega
  subst this;exact e
theorem FVals.keep {ps:ac}{r:Nat}{fs:List (Int×Int)}(V:FVals ps r fs)(dead:∀n:Nat,pvL ps r n=0->∀i,i<r->pvL ps i n=0):∃(E:Int)(A:aH),1<=E/\Bd (10*fs.length+1) E/\(∀i,i<fs.length->E*(gf fs i).1=A i*(gf fs i).2)/\(∀i,i<fs.length->Bd (220*fs.length+11) (A i))/\ml r (pvL ps) A (fs.length-r):=by
 obtain⟨E,c,b,d⟩:=V.E;have a:∀i,i<fs.length->E*(gf fs i).1=ovA E fs i*(gf fs i).2:=λi hi=>HG (d i hi);refine⟨E,ovA E fs,c,b,a,λi hi=>(HH (V.fr i hi).1 b (V.bd i hi)).mono (),λn e=>?_⟩;show au r (λi=>pvL ps i n*ovA E fs (n+i))+pvL ps r n*ovA E fs (n+r)=0;by_cases z:pvL ps r n=0
 ·rw[z,gJ,iG];exact fF λi hi=>by rw[dead n z i hi,gJ]
 ·exact Po (x:=λi=>pvL ps i n) (fs:=λi=>gf fs (n+i)) (M:=E) (A:=λi=>ovA E fs (n+i)) (λi hi=>a _ ()) (λi hi=>(V.fr _ ()).1) (V.fr (n+r) ()).1 (V.kp n () z) (a _ ())
theorem PR {E S A:Int}{s f t:Int×Int}(e:1<=s.2)(g:1<=f.2)(hs:E*s.1=S*s.2)(a:E*f.1=A*f.2)(b:t.1*(s.2*f.2)=(s.1*f.2+f.1*s.2)*t.2):E*t.1=(S+A)*t.2:=by
 refine jP (show s.2*f.2≠0 from fX () ()) ?_;have c:s.2*f.2*(E*t.1)=E*(t.1*(s.2*f.2)):=by grind
 have d:E*((s.1*f.2+f.1*s.2)*t.2)=(E*s.1)*f.2*t.2+(E*f.1)*s.2*t.2:=by grind
 rw[c,b,d,hs,a];grind
def cell (ns:aa)(k:Nat):Int:=ns.getD k 0
def PU (K:ap):Sp:=λvs H Q _=>∃(a:Addr)(ns:aa)(k:Nat),vs=[.ref a,.int (k:Int)]/\SqL K H a (ns.map V')/\Q (.int (cell ns k)) H
theorem A_:FnOk P w K mg base CX0 1 T.Tf T.Tg ["_law_script","_law_k"] (PU K):=by
 refine T.Rz.ok MU (λd H Q E h=>?_) (λe A outer s H d Q E f h=>?_)
 ·obtain⟨a,ns,k,rfl,_⟩:=h;rfl
 obtain⟨a,ns,k,rfl,b,q⟩:=h;refine⟨_,s!"ɫ¬ȪɪʏɞȪȦɹ&",?_⟩
 k_units
 refine⟨_,.inl b,?_⟩;rw[af];unfold cell at q;refine bO (λh=>?_) (λh=>?_)
 ·have c:k<ns.length:=by omega
  rw[aq,ao c]at q;exact⟨_,b,_,gZ c,q⟩
 ·rw[aq,ic ()]at q;exact q
def PV:Sp:=λvs H Q _=>∃a b:Int,vs=[.int a,.int b]/\Q (.int (bJ a.natAbs b.natAbs:Nat)) H
theorem HI:FnOk P w K mg base CX0 1 T.Tj T.Tk ["_law_one","_law_other"] PV:=by
 refine T.Tl.ok lH (λf H Q E h=>?_) (λg A outer s H f Q E k h=>?_)
 ·obtain⟨a,b,rfl,_⟩:=h;rfl
 obtain⟨a,b,rfl,q⟩:=h;refine⟨_,s!"ȡ)ÚȟˋɟɿÚȟˋɏ˝®ȢȵɉÚɤcȪȢɿÚȟȢɑ)ÚȟȰȨȪ",?_⟩
 w_left;simp![lK]
 refine gU (λm σ d=>∃(x y:Nat)(r:Option V),σ=[some (.int x),some (.int y),r]/\d=H/\m=x/\bJ x y=bJ a.natAbs b.natAbs) a.natAbs ⟨a.natAbs,b.natAbs,none,rfl,rfl,rfl,rfl⟩ ?_
 rintro m σ d ⟨x,y,r,rfl,rfl,rfl,hg⟩
 w_up
 refine bO (λh=>?_) (λh=>?_)
 ·skip
  w_up
  refine⟨λc e=>c=[some (V' ((y:Int) % (m:Int))),some (V' m),some (V' ((y:Int) % (m:Int)))]/\e=d,?_,(),rfl,rfl⟩
  rintro c e ⟨rfl,rfl⟩
  refine⟨y % m,mK _ (),y % m,m,_,by rw[<-Int.natCast_emod],rfl,rfl,?_⟩;rw[<-Jh];exact hg
 ·have j:m=0:=by omega
  subst j;rw[Nat.gcd_zero_left]at hg;rw[hg];exact q
theorem Ba:FnOk P w K mg base CX0 1 T.Ts T.Tt ["_law_poly","_law_n"] (FD K):=by
 refine T.RA.ok tK (λt H Q E h=>?_) (λu A outer s H t Q E y h=>?_)
 ·obtain⟨a,b,n,k,l,rfl,_⟩:=h;rfl
 obtain⟨a,b,n,k,l,rfl,o,B,hk,p,C,q⟩:=h;refine⟨_,s!"ɉĭʑɅĻ ļɟʼĭ˩-ĭȟʧȰȪȫ˚",?_⟩
 k_units
 refine⟨_,o,?_⟩;obtain⟨g,c⟩:∃g:Nat->L2.St->Hp->Prop,∀i σ d,g i σ d↔(∃r,σ=[some (Z' a),some (V' n),some (V' (val n (b.drop (b.length-i)))),r])/\Bd (k+(l+1)*i) (val n (b.drop (b.length-i)))/\d=H:=⟨_,λ_ _ _=>Iff.rfl⟩
 refine Er g ((c _ _ _).mpr ⟨⟨none,by simp[val]⟩,by simp[val,Bd.zero],rfl⟩) (λi σ d _ z=>#v[((c i σ d).mp z).2.2,o]) ?_ ?_
 ·intro i v σ d hi j m;obtain⟨⟨r,rfl⟩,f,rfl⟩:=(c _ _ _).mp m;rw[af]at hi j;rw[aG,ao ()]at j;obtain rfl:V' b[b.length-1-i]=v:=Option.some.inj j
  k_units
  have hx:Bd k b[b.length-1-i]:=hk _ (bY _);have e:b.length-(i+1)=b.length-1-i:=by omega
  have x:(l+1)*i<=l*64+64:=by have:=dZ (l+1) (by omega:i<=64);omega
  refine⟨f.fits p (),(c _ _ _).mpr ⟨⟨_,by rw[e,tX n b i hi]⟩,?_,rfl⟩⟩;rw[e,tX n b i hi];refine ((f.mul p).add (hx.mono (by omega:k<=k+(l+1)*i+l))).mono ?_;rw[mJ];omega
 ·intro σ d m;obtain⟨⟨r,rfl⟩,_,rfl⟩:=(c _ _ _).mp m
  k_units
  rw[af,fB,mD];exact q
theorem HJ (xs ys:aa):PyData.eqv (.list (xs.map PyData.int)) (.list (ys.map PyData.int))=decide (xs=ys):=by simp[PyData.eqv,zq]
theorem uG (xs:aa):PyData.canLay0 (.list (xs.map PyData.int))=true:=by simp[PyData.canLay0,zr]
theorem HK (xs:aa):PyData.depth (.list (xs.map PyData.int))<=64:=by simp[PyData.depth,zt]
def tmL (xs:aa)(m:Int):aa:=if xs=[] then [] else (aJ (xs.length+1)).map λk=>co (0 :: xs) k-m*co xs k
def PX (K:ap):Sp:=λvs H Q _=>∃(a:Addr)(xs:aa)(m:Int),vs=[.ref a,.int m]/\H a=some (.lst (xs.map V'))/\xs.length<=60/\(∀x∈xs,Bd 60 x)/\Bd 60 m/\dU H Q ((tmL xs m).map V')
theorem PY:FnOk P w K mg base CX0 1 T.Tn T.To ["_law_poly","_law_m"] (PX K):=by
 refine T.UF.ok Af (λJ H Q E h=>?_) (λL A outer s H J Q E M h=>?_)
 ·obtain⟨a,xs,m,rfl,_⟩:=h;rfl
 obtain⟨a,xs,m,rfl,g,O,R,S,q⟩:=h;refine⟨_,s!"ɫĀǿȢəʏə˧Ź˒ʊȢʬɪ$ʼŹʣêȻʤ˖ȾȪɞ˖ëȰȫ¥˚",?_⟩
 w_up
 refine⟨(),λp U=>?_⟩;have d:=az U (.lst []);refine⟨_,DV.ints (SqL.of (d _ _ g)),_,DV.ints (ns:=[]) (SqL.of ak),uG _,uG _,HK _,?_⟩;rw[HJ];refine bO (λz=>⟨(),λp1 x=>?_⟩) (λz=>?_)
 ·have X:xs=[]:=by simpa using z
  have e:tmL xs m=[]:=by unfold tmL;rw[if_pos X]
  rw[e]at q;exact q _ _ (d.trans (az x _)) (d.free x) ak
 have Y:xs≠[]:=by simpa using z
 have e:tmL xs m=(aJ (xs.length+1)).map λk=>co (0 :: xs) k-m*co xs k:=by unfold tmL;rw[if_neg Y]
 rw[e]at q;generalize L2.upd H p (.lst [])=B at d ⊢
 w_up
 refine⟨(),λC Z=>?_⟩;have j:=az Z (.lst [V' 0]);refine⟨_,ak,_,j _ _ (d _ _ g),?_,λD F=>?_⟩
 ·rw[af];exact dm (bD (by simp;omega))
 have e2:[V' 0]++xs.map V'=((aJ (xs.length+1)).map λk=>if k<0 then co (0 :: xs) k-m*co xs k else co (0 :: xs) k).map V':=by
  have:(aJ (xs.length+1)).map (λk=>if k<0 then co (0 :: xs) k-m*co xs k else co (0 :: xs) k)=0 :: xs:=by
   refine List.ext_getElem? λk=>?_;rw[aG];by_cases hk:k<xs.length+1
   ·rw[ij hk];show some (if k<0 then _ else co (0 :: xs) k)=_;rw[if_neg (),aI (⇑hk),ao (⇑hk)]
   ·rw[ic (by simp;omega),ic (by simp;omega)];rfl
  rw[this];rfl
 rw[e2];have n:=d.trans (j.trans (az F (.lst (((aJ (xs.length+1)).map λk=>if k<0 then co (0 :: xs) k-m*co xs k else co (0 :: xs) k).map V'))));have G:=ak (H:=L2.upd B C (.lst [V' 0])) (a:=D) (o:=.lst (((aJ (xs.length+1)).map λk=>if k<0 then co (0 :: xs) k-m*co xs k else co (0 :: xs) k).map V'));have I:H D=none:=(d.trans j).free F;generalize L2.upd (L2.upd B C (.lst [V' 0])) D (.lst (((aJ (xs.length+1)).map λk=>if k<0 then co (0 :: xs) k-m*co xs k else co (0 :: xs) k).map V'))=H2 at n G ⊢
 w_up
 refine⟨_,.inl (SqL.of (n _ _ g)),?_⟩;rw[af];refine⟨(),(),?_⟩;rw[iD];obtain⟨r,b⟩:∃r:Nat->L2.St->Hp->Prop,∀i σ f,r i σ f↔∃t:Option V,σ=[some (Z' a),some (V' m),some (Z' D),t]/\f D=some (.lst (((aJ (xs.length+1)).map λk=>if k<i then co (0 :: xs) k-m*co xs k else co (0 :: xs) k).map V'))/\Same H f:=⟨_,λ_ _ _=>Iff.rfl⟩
 refine gY r ((b _ _ _).mpr ⟨none,rfl,G,n⟩) ?_ ?_
 ·intro i σ f hi u;obtain⟨t,rfl,c,sS⟩:=(b _ _ _).mp u
  w_up
  rw[ii (i:Int)];have a1:atI (((aJ (xs.length+1)).map λk=>if k<i then co (0 :: xs) k-m*co xs k else co (0 :: xs) k).map V') (i:Int)=some (V' (co (0 :: xs) i)):=fE (by
   rw[aG,aG,ij ()];show some (V' (if i<i then _ else co (0 :: xs) i))=_;rw[if_neg ()])
  have a2:atI (xs.map V') (i:Int)=some (V' (co xs i)):=fE (by rw[aG,ao hi,aI hi];rfl);refine⟨_,SqL.of c,_,a1,_,SqL.of (sS _ _ g),_,a2,_,rfl,S.fits (cN (P:=λz=>Bd 60 z) R (Bd.zero _) i) (),_,rfl,_,c,i,?_,(b _ _ _).mpr ⟨_,rfl,?_,sS.more I⟩⟩
  ·rw[af,af,gw];exact jw ()
  ·rw[ak];congr 2;refine List.ext_getElem? λk=>?_;rw[List.getElem?_set];by_cases z:i=k
   ·subst z;rw[if_pos rfl,if_pos (by simp;omega),aG,aG,ij ()];show _=some (V' (if i<i+1 then co (0 :: xs) i-m*co xs i else co (0 :: xs) i));rw[if_pos ()]
   ·rw[if_neg z,aG,aG,aG,aG];by_cases hk:k<xs.length+1
    ·rw[ij hk];show some (V' (if k<i then _ else _))=some (V' (if k<i+1 then _ else _));by_cases y:k<i
     ·rw[if_pos y,if_pos ()]
     ·rw[if_neg y,if_neg ()]
    ·rw[ic (by simp;omega)];rfl
 intro σ f u;obtain⟨t,rfl,c,sS⟩:=(b _ _ _).mp u
 w_left;k_units
 refine q D f sS I ?_;rw[c];congr 3;refine eK λk hk=>?_;have:=cU.mp hk;by_cases z:k<xs.length
 ·rw[if_pos z]
 ·rw[if_neg z,aD (xs:=xs) ()];simp
theorem PZ {xs:aa}(h:xs≠[])(a:xs.getLast h=0):aL xs.dropLast=aL xs:=by
 have e:=QN h;rw[a]at e
 conv=>rhs;rw[<-e]
 rw[zF]
theorem Bb (xs:aa)(m:Int)(k:Nat):co (tmL xs m) k=co (0 :: xs) k-m*co xs k:=by
 unfold tmL;by_cases z:xs=[]
 ·rw[if_pos z,z]
  cases k with
  | zero=>rw[fG];simp[f_]
  | succ k=>rw[fG];simp[f_]
 ·rw[if_neg z];by_cases h:k<xs.length+1
  ·rw[aI (⇑h),cE,jR]
  ·rw[aD (by simp;omega),aD (xs:=0 :: xs) (by simp;omega),aD (xs:=xs) ()];simp
theorem P1 (xs:aa)(m n:Int):val n (tmL xs m)=(n-m)*val n xs:=by
 have e:val n (tmL xs m)=val n (b7 (0 :: xs) (xs.map λz=>-m*z)):=fu (λk=>by rw[Bb,fH,dN];grind) n;rw[e,eG,bL];simp only[val];grind
theorem HL (xs:aa)(m:Int):(tmL xs m).length<=xs.length+1/\(tmL xs m=[]->xs=[]):=by
 unfold tmL;by_cases z:xs=[]
 ·rw[if_pos z,z];simp
 ·rw[if_neg z];simp
theorem P3 {xs:aa}(h:Nml xs)(m:Int):Nml (tmL xs m):=by
 by_cases z:xs=[]
 ·rw[z];exact b_
 ·have c:xs.length≠0:=λy=>z (bC y);have lt:(tmL xs m).length=xs.length+1:=by unfold tmL;rw[if_neg z];simp
  refine d_.mpr λa b=>?_;rw[fK,lt,ao ()]at b;rw[<-Option.some.inj b,<-aI,Bb,aD (xs:=xs) (),fG,if_neg ()];have:=dw h z;rw[show xs.length+1-1-1=xs.length-1 by omega]
  simpa using this
theorem P4 {xs:aa}{A:Nat}{m:Int}(m0:0<=m)(d:m<=9)(h:∀x∈xs,x.natAbs<=A):∀x∈tmL xs m,x.natAbs<=10*A:=by
 refine cu (P:=λy=>y.natAbs<=10*A) λj=>?_;rw[Bb];have a:=cN (P:=λy=>y.natAbs<=A) (xs:=0 :: xs) (λy hy=>by rcases bj.mp hy with rfl|hy;exact aR _;exact h y hy) (aR _) j;have b:=cN (P:=λy=>y.natAbs<=A) h (aR _) j;have c:(m*co xs j).natAbs<=9*A:=by rw[b6];exact dJ () b
 generalize m*co xs j=y at c ⊢;generalize co (0 :: xs) j=x at a ⊢;omega
structure RuleL (ps:ac):Prop where
 ok:oz ps
 bd:∀p∈ps,∀x∈p,x.natAbs<=30000010
 dead:∀n:Nat,pvL ps (ps.length-1) n=0->∀i,i<ps.length-1->pvL ps i n=0
 lb:∀n:Nat,n<=16->Bd 10 (pvL ps (ps.length-1) n)
structure BaseL (zl:aa):Prop where
 ne:zl≠[]
 nm:Nml zl
 ln:zl.length<=2
 bd:∀x∈zl,x.natAbs<=5
 vl:∀n:Nat,1<=val n zl/\(n<=16->val n zl<=21)
theorem P5 {e:Int}(a:1<=e)(b:e<=3):BaseL [e]:=⟨by simp,fj (),by simp,by simp;omega,λn=>by simp[val];omega⟩
theorem P6 {e:Int}(a:1<=e)(b:e<=5):BaseL [e,1]:=⟨by simp,jD [e],by simp,by simp;omega,λn=>by simp only[val];omega⟩
theorem uH (b:ac)(a:aa)(n:Int):pvL (b++[a]) ((b++[a]).length-1) n=val n a:=by
 unfold pvL;rw[b4,mu,mG,aq,cQ (aA _),fB];rfl
theorem HM {c:ac}{d:aa}(e:∀p∈c,Nml p/\p.length<=2/\∀x∈p,x.natAbs<=3000001)(f:c.length<=2)(b:BaseL d):RuleL (c++[d]):=by
 have all:∀p∈c++[d],Nml p/\p.length<=2/\∀x∈p,x.natAbs<=3000001:=λp a=>by
  rcases a8.mp a with z|z
  ·exact e p z
  ·rw[aW.mp z];exact⟨b.nm,b.ln,λx hx=>by have:=b.bd x hx;omega⟩
 refine⟨⟨⟨by simp,λp a=>?_,λp a=>(all p a).1⟩,by simp;omega,λp a=>⟨by have:=(all p a).2.1;omega,λx hx=>Bd.of_lt (m:=3000002) (by have:=(all p a).2.2 x hx;omega) ()⟩⟩,λp a x hx=>by have:=(all p a).2.2 x hx;omega,λn h=>?_,λn g=>?_⟩
 ·rw[uR]at a;rw[<-Option.some.inj a];exact b.ne
 ·rw[uH]at h;have:=(b.vl n).1;omega
 ·rw[uH];have:=b.vl n;exact Bd.of_lt (m:=22) () ()
theorem Bc (ps:ac)(m n:Int)(i:Nat):pvL (ps.map λp=>tmL p m) i n=(n-m)*pvL ps i n:=by
 unfold pvL;rw[<-P1];congr 1;rw[aq,aG,aq]
 cases ps[i]? with
 | none=>rfl
 | some p=>rfl
theorem P8 {c:ac}{b:aa}{m:Int}(m0:0<=m)(f:m<=9)(g:∀p∈c,Nml p/\p.length<=2/\∀x∈p,x.natAbs<=3000001)(s:c.length<=2)(d:BaseL b):RuleL ((c++[b]).map λp=>tmL p m):=by
 have all:∀p∈c++[b],Nml p/\p.length<=2/\∀x∈p,x.natAbs<=3000001:=λp a=>by
  rcases a8.mp a with z|z
  ·exact g p z
  ·rw[aW.mp z];exact⟨d.nm,d.ln,λx hx=>by have:=d.bd x hx;omega⟩
 have bd:∀p∈(c++[b]).map λp=>tmL p m,Nml p/\p.length<=3/\∀x∈p,x.natAbs<=30000010:=λp a=>by
  obtain⟨y,hy,rfl⟩:=aZ.mp a;obtain⟨j,t,k⟩:=all y hy;exact⟨P3 j m,by have:=(HL y m).1;omega,P4 m0 f k⟩
 have e:((c++[b]).map λp=>tmL p m).length-1=(c++[b]).length-1:=by rw[af]
 refine⟨⟨⟨by simp,λp a=>?_,λp a=>(bd p a).1⟩,by simp;omega,λp a=>⟨(bd p a).2.1,λx hx=>Bd.of_lt (m:=30000011) (by have:=(bd p a).2.2 x hx;omega) ()⟩⟩,λp a=>(bd p a).2.2,λn h i hi=>?_,λn u=>?_⟩
 ·rw[u_,uR]at a;rw[<-Option.some.inj a];exact λz=>d.ne ((HL b m).2 z)
 ·rw[e,Bc,uH]at h;rw[Bc];have o:=(d.vl n).1;rcases iI.mp h with z|z
  ·rw[z,gJ]
  ·omega
 ·rw[e,Bc,uH];have o:=d.vl n;have q:((n:Int)-m).natAbs<=16:=by omega
  have r:(val (n:Int) b).natAbs<=21:=by omega
  refine Bd.of_lt (m:=16*21+1) ?_ ();rw[b6];have:=dJ q r;omega
theorem P9 {K:ap}{a:Addr}{as:am}{ps ds:ac}{I:List (Nat×Str)}{J:TE}{Q:VK}{σ:L2.St}{g:Hp}{D:Addr}(q:g D=none)(P:SqL K g a (as.map Z'))(L:LL K g as ps)(hd:ds.length=ps.length)(Z:ps.length<=900)(hs:∀(i:Nat)(b:Addr)(p d:aa)(c:Hp)(R:VK),ps[i]?=some p->ds[i]?=some d->Same g c->as[i]?=some b->dU c R (d.map V')->J (bst I σ (some (Z' b))) c R)(S:ja g Q ds):jv (Itl K a) I J Q σ g D:=by
 obtain⟨r,f⟩:∃r:cx,∀j c,r j c↔∃bs:am,c D=some (.lst (bs.map Z'))/\LH c bs (ds.take j)/\D∉bs/\bs.Nodup/\(∀b∈bs,g b=none)/\Same g c:=⟨_,λ_ _=>Iff.rfl⟩
 refine eE (xs:=as.map Z') r ((f _ _).mpr ⟨[],ak,LH.nil _,by simp,kO,by simp,az q _⟩) (λi c _ z=>by obtain⟨_,_,_,_,_,_,z⟩:=(f i c).mp z;exact z.seq P) ?_ ?_
 ·intro j v c T s;obtain⟨bs,n,h,t,u,B,k⟩:=(f _ _).mp s;obtain⟨b,p,rfl,U,M,hB⟩:=L.nth T;have hj:j<ps.length:=(aY.mp M).1;have m:ds[j]?=some ds[j]:=ao ();refine hs j b p _ c _ M m k U λF H2 C o X=>?_;have lk:=h.len;rw[bX]at lk;have G:F≠D:=λz=>by rw[z,n]at o;cases o
  have H:F∉bs:=h.notin o;have O:D∉bs++[F]:=λz=>by
   rcases a8.mp z with z|z
   ·exact t z
   ·exact G (aW.mp z).symm
  refine⟨_,C _ _ n,#v[af,bD ()],(f _ _).mpr ⟨bs++[F],by rw[ak];simp,?_,O,?_,?_,(k.trans C).more q⟩⟩
  ·have e:ds.take (j+1)=ds.take j++[ds[j]]:=by rw[cY,m];rfl
   rw[e];exact ((h.same C).snoc X).upd O
  ·exact jQ.mpr ⟨u,by simp,λx hx y hy z=>H (by rw[aW.mp hy]at z;rw[<-z];exact hx)⟩
  ·intro x hx;rcases a8.mp hx with z|z
   ·exact B x z
   ·rw[aW.mp z];exact k.free o
 ·intro Y s;obtain⟨bs,n,h,t,u,B,k⟩:=(f _ _).mp s;rw[af,L.len,<-hd,e_]at h;exact S D bs Y k q n h B t u
def P_ (K:ap):Sp:=λvs H Q _=>∃(a:Addr)(ns:aa),vs=[.ref a]/\SqL K H a (ns.map V')/\∀ps:ac,RuleL ps->ja H Q ps
theorem Qa:FnOk P w K mg base CX0 2 T.Tp T.Tq ["_law_script"] (P_ K):=by
 refine T.UG.ok i5 (λvs H Q E h=>?_) (λx4 A outer s H vs Q E hr h=>?_)
 ·obtain⟨a,ns,rfl,_⟩:=h;rfl
 obtain⟨a,ns,rfl,hS,q⟩:=h;refine⟨_,s!"ɿ³˗ʬɺȥĮȴįİıɚ˘ʒ-³ȟɒ³ɋĮȴįİıɚ#˿Ȱ$ɯ³ȟȳɗɠ*Ȁ&ȼˍȮʋ³ȟɗʧȻɺʵ&ȺˍɠȾȻˍ&&Ⱥ$mʀgˎȷɻˏɷȳɛ˾.^ĖeȁȂȃɛ˞Ȫʜɒ³ɋĮȴįİıɚ˘ʭȪ#ȳɗɗ˿ˍȼ#ɗ˿ˍ˯$ɺȫȮ$ˌZˍ&ȵʍ³ɨˍ&.ʨ,ɊɩCȄʔɾȥȅȴȆȇȈʎ³ɄɹȪ",?_⟩
 w_up
 refine⟨(),λD nD=>?_⟩
 w_up
 have u0:=az nD (.lst []);refine⟨a,ns,0,rfl,u0.seq hS,_,rfl,(),(),(),?_⟩;obtain⟨r,k1⟩:∃r:Nat,(cell ns 0 % 3).toNat=r:=⟨_,rfl⟩
 have r2:r<=2:=by omega
 rw[k1];clear k1;obtain⟨Pv,I⟩:∃Pv:Nat->L2.St->Hp->Prop,∀i σ G,Pv i σ G↔∃(bs:am)(J:ac)(r2 r3 r4 r5:Option V),σ=[some (Z' a),some (Z' D),r2,r3,r4,r5,none]/\G D=some (.lst (bs.map Z'))/\LH G bs J/\D∉bs/\bs.Nodup/\(∀b∈bs,H b=none)/\J.length=i/\(∀p∈J,Nml p/\p.length<=2/\∀x∈p,x.natAbs<=3000001)/\Same H G:=⟨_,λ_ _ _=>Iff.rfl⟩
 refine gY Pv ((I _ _ _).mpr ⟨[],[],none,none,none,none,rfl,ak,LH.nil _,by simp,kO,by simp,rfl,by simp,u0⟩) ?_ ?_
 ·intro i σ G hi L;obtain⟨bs,J,g1,r3,r4,r5,rfl,eD,lB,y0,nd,fb,lq,bq,sP⟩:=(I _ _ _).mp L
  w_up
  rw[show (1:Int)+(0+(i:Int))=((1+i:Nat):Int) by omega];refine⟨a,ns,1+i,rfl,sP.seq hS,?_⟩;generalize cell ns (1+i)=c
  w_up
  refine⟨⟨(),(),()⟩,(),λp0 y3=>⟨⟨(),()⟩,(),_,SqL.of ak,?_⟩⟩;obtain⟨B,n1,z0⟩:∃B:Int,atI [V' 1,V' (10 ^ Int.toNat 6)] (c / 49 % 2)=some (V' B)/\(B=1\/B=1000000):=by
   rcases (show c / 49 % 2=0\/c / 49 % 2=1 by omega) with e|e <;> rw[e]
   ·exact⟨1,rfl,.inl rfl⟩
   ·exact⟨1000000,rfl,.inr rfl⟩
  refine⟨_,n1,?_⟩;have u1:=az y3 (.lst [V' 1,V' (10 ^ Int.toNat 6)]);generalize L2.upd G p0 (.lst [V' 1,V' (10 ^ Int.toNat 6)])=H1 at u1 ⊢
  w_up
  have x2:Bd 20 B:=Bd.of_lt (m:=1000001) () ();refine⟨(),(Bd.of_lt (k:=3) (m:=8) () ()).fits x2 (),⟨(),()⟩,(),⟨(),()⟩,(),(Bd.of_lt (k:=3) (m:=8) () ()).fits x2 (),(),λn t=>?_⟩;obtain⟨C,y2,y4⟩:∃C:Int,(c % 7-3)*B+c / 98 % 2=C/\C.natAbs<=3000001:=⟨_,rfl,by rcases z0 with rfl|rfl <;> omega⟩
  obtain⟨F,z2,z4⟩:∃F:Int,(c / 7 % 7-3)*B=F/\F.natAbs<=3000001:=⟨_,rfl,by rcases z0 with rfl|rfl <;> omega⟩
  rw[y2,z2];clear y2 z2 n1 z0;have u2:=az t (.lst [V' C,V' F]);have j2:=ak (H:=H1) (a:=n) (o:=.lst [V' C,V' F]);have j0:n≠D:=λz=>by rw[z,u1 _ _ eD]at t;cases t
  have k0:n∉bs:=(lB.same u1).notin t;have z3:=(sP.trans u1).free t;generalize L2.upd H1 n (.lst [V' C,V' F])=H2 at u2 j2 ⊢;obtain⟨M,hM⟩:∃M:L2.St->Hp->Prop,∀σ f,M σ f↔σ=[some (Z' a),some (Z' D),some (V' (0+(i:Int))),some (V' c),some (V' B),some (Z' n),none]/\f n=some (.lst ((aL [C,F]).map V'))/\Same H1 f:=⟨_,λ_ _=>Iff.rfl⟩
  w_left;refine fP M ?_ ?_
  ·w_left;k_units
   obtain⟨Pu,n0⟩:∃Pu:Nat->L2.St->Hp->Prop,∀m' σ f,Pu m' σ f↔∃ys:aa,ys.length=m'/\σ=[some (Z' a),some (Z' D),some (V' (0+(i:Int))),some (V' c),some (V' B),some (Z' n),none]/\f n=some (.lst (ys.map V'))/\aL ys=aL [C,F]/\Same H1 f:=⟨_,λ_ _ _=>Iff.rfl⟩
   refine gU Pu 2 ((n0 _ _ _).mpr ⟨[C,F],rfl,rfl,j2,rfl,u2⟩) ?_;intro m' σ f hu;obtain⟨g,u4,rfl,hy,he,sy⟩:=(n0 _ _ _).mp hu
   w_left;k_units
   refine⟨_,.inl (SqL.of hy),?_⟩;rw[af];have k2:Nml g->M [some (Z' a),some (Z' D),some (V' (0+(i:Int))),some (V' c),some (V' B),some (Z' n),none] f:=λhn=>by
    have e:g=aL [C,F]:=by rw[<-he,LV hn]
    exact (hM _ _).mpr ⟨rfl,#v[<-e,hy],sy⟩
   refine bO (λh=>?_) (λh=>?_)
   ·have u:g≠[]:=by intro z;rw[z]at h;simp at h
    refine⟨_,SqL.of hy,_,jx u,?_⟩
    w_left;k_units
    refine bO (λh0=>?_) (λh0=>?_)
    ·refine⟨λg2 Hz=>g2=[some (Z' a),some (Z' D),some (V' (0+(i:Int))),some (V' c),some (V' B),some (Z' n),none]/\Hz=upd f n (.lst (g.dropLast.map V')),?_,fO (SqL.of hy),_,hy,V' (g.getLast u),?_,rfl,?_⟩
     ·rintro g2 Hz ⟨rfl,rfl⟩
      exact⟨g.length-1,by have:=de.mpr u;omega,(n0 _ _ _).mpr ⟨g.dropLast,IR,rfl,ak,#v[PZ u h0,he],sy.more t⟩⟩
     ·rw[aG,af,<-fK,oP u];rfl
     ·rw[<-List.map_dropLast]
    ·refine k2 (d_.mpr λx hx=>?_);rw[oP u]at hx;rw[<-Option.some.inj hx];exact h0
   ·have hn:g=[]:=bC ();exact k2 #v[hn,b_]
  ·intro σ f hm;obtain⟨rfl,eP,sy⟩:=(hM _ _).mp hm
   w_left;k_units
   have y1:=u1.trans sy;have m2:=y1 _ _ eD;have lb:=lB.len;have m1:D∉bs++[n]:=λz=>by
    rcases a8.mp z with z|z
    ·exact y0 z
    ·exact j0 (aW.mp z).symm
   refine⟨fO (SqL.of m2),_,m2,#v[af,bD ()],(I _ _ _).mpr ⟨bs++[n],J++[aL [C,F]],_,_,_,_,rfl,by rw[ak];simp,((lB.same y1).snoc eP).upd m1,m1,?_,λb hb=>?_,by simp[lq],λp L=>?_,(sP.trans y1).more nD⟩⟩
   ·exact jQ.mpr ⟨nd,by simp,λx hx y hy z=>k0 (by rw[aW.mp hy]at z;rw[<-z];exact hx)⟩
   ·rcases a8.mp hb with z|z
    ·exact fb b z
    ·rw[aW.mp z];exact z3
   ·rcases a8.mp L with z|z
    ·exact bq p z
    ·rw[aW.mp z];refine⟨cM _,k_ _,cu (P:=λy=>y.natAbs<=3000001) λk=>?_⟩;rw[cL];exact cN (P:=λy=>y.natAbs<=3000001) (by simp;omega) (aR _) k
 ·intro σ G L;obtain⟨bs,J,g1,r3,r4,r5,rfl,eD,lB,y0,nd,fb,lq,bq,sP⟩:=(I _ _ _).mp L
  w_up
  refine⟨a,ns,3,rfl,sP.seq hS,?_⟩;generalize cell ns 3=c
  w_up
  refine⟨fO (SqL.of eD),⟨(),()⟩,(),(),λY z1=>⟨⟨(),()⟩,(),(),λZ j1=>⟨(),λp3 n2=>⟨(),_,SqL.of ak,?_⟩⟩⟩⟩;obtain⟨pl,zl,u3,x3,O,hz⟩:∃(pl:Addr)(zl:aa),atI [Z' Y,Z' Z] (c % 2)=some (Z' pl)/\L2.upd (L2.upd (L2.upd G Y (.lst [V' (1+c / 2 % 3)])) Z (.lst [V' (1+c / 2 % 5),V' 1])) p3 (.lst [Z' Y,Z' Z]) pl=some (.lst (zl.map V'))/\G pl=none/\BaseL zl:=by
   have v1:=az z1 (.lst [V' (1+c / 2 % 3)]);have v2:=az j1 (.lst [V' (1+c / 2 % 5),V' 1]);have v3:=az n2 (.lst [Z' Y,Z' Z]);rcases (show c % 2=0\/c % 2=1 by omega) with e|e <;> rw[e]
   ·exact⟨Y,[1+c / 2 % 3],rfl,v3 _ _ (v2 _ _ ak),z1,P5 () ()⟩
   ·exact⟨Z,[1+c / 2 % 5,1],rfl,v3 _ _ ak,v1.free j1,P6 () ()⟩
  have v:=(az z1 (.lst [V' (1+c / 2 % 3)])).trans ((az j1 (.lst [V' (1+c / 2 % 5),V' 1])).trans (az n2 (.lst [Z' Y,Z' Z])));generalize L2.upd (L2.upd (L2.upd G Y (.lst [V' (1+c / 2 % 3)])) Z (.lst [V' (1+c / 2 % 5),V' 1])) p3 (.lst [Z' Y,Z' Z])=H1 at x3 v ⊢;have lb:=lB.len;have j0:pl≠D:=λz=>by rw[z,eD]at O;cases O
  have k0:pl∉bs:=lB.notin O;have m1:D∉bs++[pl]:=λz=>by
   rcases a8.mp z with z|z
   ·exact y0 z
   ·exact j0 (aW.mp z).symm
  refine⟨_,u3,_,v _ _ eD,#v[af,bD ()],?_⟩;rw[show bs.map Z'++[Z' pl]=(bs++[pl]).map Z' by simp];have R:=ak (H:=H1) (a:=D) (o:=.lst ((bs++[pl]).map Z'));have S:=(((lB.same v).snoc x3).upd m1 (o:=.lst ((bs++[pl]).map Z')))
  have j3:(bs++[pl]).Nodup:=jQ.mpr ⟨nd,by simp,λx hx y hy z=>k0 (by rw[aW.mp hy]at z;rw[<-z];exact hx)⟩;have k3:∀b∈bs++[pl],H b=none:=λb hb=>by
   rcases a8.mp hb with z|z
   ·exact fb b z
   ·rw[aW.mp z];exact sP.free O
  have s2:=(sP.trans v).more (o:=.lst ((bs++[pl]).map Z')) nD;generalize L2.upd H1 D (.lst ((bs++[pl]).map Z'))=H2 at R S s2 ⊢;obtain⟨M,hM⟩:∃M:L2.St->Hp->Prop,∀σ f,M σ f↔∃(D':Addr)(U:am)(ps:ac)(r6:Option V),σ=[some (Z' a),some (Z' D'),g1,some (V' c),r4,r5,r6]/\RuleL ps/\Same H f/\H D'=none/\f D'=some (.lst (U.map Z'))/\LH f U ps/\(∀b∈U,H b=none)/\D'∉U/\U.Nodup:=⟨_,λ_ _=>Iff.rfl⟩
  w_left;refine fP M ?_ ?_
  ·w_left;k_units
   refine⟨⟨(),()⟩,(),bO (λh=>?_) (λh=>(hM _ _).mpr ⟨D,bs++[pl],J++[zl],_,rfl,HM bq () hz,s2,nD,R,S,k3,m1,j3⟩)⟩;obtain⟨m,hm,m0,m9⟩:∃m:Int,c / 60 % 10=m/\0<=m/\m<=9:=⟨_,rfl,(),()⟩
   rw[hm];have RL:=P8 m0 m9 bq () hz;have RB:=HM bq () hz;refine⟨⟨(),()⟩,(),⟨_,SqL.of R⟩,λD3 g3=>P9 (K:=K) (ps:=J++[zl]) (ds:=(J++[zl]).map λp=>tmL p m) g3 (SqL.of R) S.ll (by simp) (by simp;omega) (λj b p d Hz R' L hd sz hb hN=>?_) (λX U Hz sz nX eX lX nb m3 n3=>(hM _ _).mpr ⟨X,U,_,_,rfl,RL,s2.trans sz,s2.free nX,eX,lX,λb hb=>s2.free (nb b hb),m3,n3⟩)⟩
   w_left;simp![bst]
   rw[aG,L]at hd
   cases hd
   have pb:=RB.ok.2.2 p (bT L);exact⟨_,rfl,b,p,m,rfl,sz _ _ (S.get j b p hb L),(),pb.2,Bd.of_lt (m:=10) () (),hN⟩
  ·intro σ f hm;obtain⟨D',U,ps,r6,rfl,h1,h2,h3,h4,h5,h6,h7,h8⟩:=(hM _ _).mp hm
   w_left;k_units
   exact q ps h1 D' U f h2 h3 h4 h5 h6 h7 h8
def mkT (H:Hp)(Q:VK)(x y:Int):Prop:=∀p,H p=none->Q (.ref p) (upd H p (.tup [.int x,.int y]))
structure TH (H:Hp)(as:am)(fs:List (Int×Int)):Prop where
 len:as.length=fs.length
 get:∀(i:Nat)(a:Addr)(f:Int×Int),as[i]?=some a->fs[i]?=some f->H a=some (.tup [.int f.1,.int f.2])
theorem TH.same {H b:Hp}{as:am}{fs:List (Int×Int)}(h:TH H as fs)(s:Same H b):TH b as fs:=⟨h.len,λi a f c d=>s _ _ (h.get i a f c d)⟩
theorem TH.nil (H:Hp):TH H [] []:=⟨rfl,λi a f b _=>by simp at b⟩
theorem TH.snoc {H:Hp}{as:am}{fs:List (Int×Int)}{a:Addr}{f:Int×Int}(h:TH H as fs)(e:H a=some (.tup [.int f.1,.int f.2])):TH H (as++[a]) (fs++[f]):=by
 refine⟨by simp[h.len],λi b r c d=>?_⟩;by_cases z:i<as.length
 ·rw[cA z]at c;rw[cA #v[<-h.len,z]]at d;exact h.get i b r c d
 ·rw[cQ ()]at c;rw[cQ (by rw[<-h.len];omega),<-h.len]at d;have g:i-as.length=0:=by
   rcases Je (i-as.length) with y|y
   ·exact y
   ·rw[ic (by simp;omega)]at c;cases c
  rw[g]at c d;simp at c d;rw[<-c,<-d];exact e
theorem TH.upd {H:Hp}{as:am}{fs:List (Int×Int)}{D:Addr}{ys zs:List V}(h:TH H as fs)(b:H D=some (.lst ys)):TH (L2.upd H D (.lst zs)) as fs:=by
 refine⟨h.len,λi a f c d=>?_⟩;have e:=h.get i a f c d;rw[aC (λz=>by rw[z,b]at e;cases e)];exact e
def Qb:Sp:=λvs H Q _=>∃t b:Int,vs=[.int t,.int b]/\b≠0/\Bd 8900 b/\∀x y:Int,1<=y->bJ x.natAbs y.natAbs=1->x*b=t*y->x.natAbs<=t.natAbs->y.natAbs<=b.natAbs->mkT H Q x y
theorem HN:FnOk P w K mg base CX0 2 T.Tw T.Tz ["_law_top","_law_bottom"] Qb:=by
 refine T.TB.ok Ag (λp H Q E h=>?_) (λr A outer s H p Q E u h=>?_)
 ·obtain⟨t,b,rfl,_⟩:=h;rfl
 obtain⟨t,b,rfl,z,B,q⟩:=h;refine⟨_,s!"ɉźɋŻȤȉ żŽžʎɫ¬Ȫȵɑ-źȟȽȰɹ˷˨ȢȰ#˨ȪȰ$",?_⟩
 k_units
 refine⟨t,b,rfl,?_⟩;have a:∀s:Int,s.natAbs=bJ t.natAbs b.natAbs->s.natAbs<2 ^ 9000:=λs e=>by
  rw[e];exact ca (Nat.gcd_le_right _ ()) (cP B (e9 () ()))
 have d:∀s:Int,(s=if b<0 then -((bJ t.natAbs b.natAbs:Nat):Int) else ((bJ t.natAbs b.natAbs:Nat):Int))->(s≠0/\s.natAbs<2 ^ 9000)/\(s≠0/\s.natAbs<2 ^ 9000)/\mkT H Q (t.fdiv s) (b.fdiv s):=λs e=>by
  obtain⟨j,n,o,k,C,D⟩:=L_ z e;refine⟨⟨j,a s n⟩,⟨j,a s n⟩,q _ _ C D ?_ (EO j o) (EO j k)⟩;rw[cw,k,cD,<-k];generalize b.fdiv s=y at *;generalize t.fdiv s=x at *;rw[o,cD,cw x y]
 refine bO (λc=>?_) (λc=>?_)
 ·obtain⟨f,g,m⟩:=d _ (by rw[if_pos c]);exact⟨_,rfl,f.1,f.2,g.1,g.2,(),m⟩
 ·obtain⟨f,g,m⟩:=d _ (by rw[if_neg c]);exact⟨_,rfl,f.1,f.2,_,rfl,g.1,g.2,(),m⟩
def Qc (K:ap):Sp:=λvs H Q _=>∃(a R:Addr)(ns:aa)(as:am)(ps:ac)(r:Nat),vs=[.ref a,.ref R]/\SqL K H a (ns.map V')/\SqL K H R (as.map Z')/\LL K H as ps/\RuleL ps/\ps.length=r+1/\∀fs,FVals ps r fs->fs.length<=16->∀(D:Addr)(bs:am)(H':Hp),Same H H'->H D=none->H' D=some (.lst (bs.map Z'))->TH H' bs fs->Q (.ref D) H'
theorem Qd:FnOk P w K mg base CX0 3 T.TC T.TD ["_law_script","_law_rule_here"] (Qc K):=by
 refine T.UJ.ok fI (λvs H Q E h=>?_) (λj2 A outer s H vs Q E hr h=>?_)
 ·obtain⟨a,R,ns,as,f,r,rfl,_⟩:=h;rfl
 obtain⟨a,R,ns,as,f,r,rfl,hS,hR,hL,S,lp,q⟩:=h;refine⟨_,s!"ɉɶȻɼ&ɒɶəʯ˥ȢÄ&Ä&̀ɶʋɶȻȷ/$Ȱʍɶ&ˌðɛȵɑCfɋĲȴĳĴĵɌˡɝʜI˂ɶȻɺȺ&&ȡ_ɶ˿ʴȺ&&ˌ®ɐȵ˂ɶ&ȡ_ɶ&Ʌjɜɡȹ¢ɶȡÇɶȳȫɃɛ!¢Ȧ˂ɶȻȾɵɖ!ÇȮȾȾȥĲȴĳĴĵɌˡ!¢Ȧʜɖ!ÇȮʮɑ_ɶ˸ɖ!ÇȮɑ_ɶ˸ɐI˞ȫʐſȴƀƁƂȧTȝ_ʌȨȫ",?_⟩
 w_up
 refine⟨_,.inl hR,?_⟩;rw[af,hL.len,show (f.length:Int)-1=(r:Int) by omega]
 w_up
 refine⟨(),λD nD=>?_⟩
 w_up
 have u0:=az nD (.lst []);refine⟨_,u0.seq hS,λp np=>⟨⟨_,SqL.of ak⟩,?_⟩⟩;obtain⟨J,z1,lc⟩:∃J:aa,eQ (ns.map V') (some 4) (some 20)=J.map V'/\J.length<=16:=by
  refine⟨_,Em ns _ _,?_⟩;rw[bX,oI];unfold HT.sIx;simp;omega
 rw[z1];have u1:=az np (.lst (J.map V'));have ep:=ak (H:=L2.upd H D (.lst [])) (a:=p) (o:=.lst (J.map V'));have z0:=u1 _ _ (ak (H:=H) (a:=D) (o:=.lst []));have v1:p≠D:=(Lb np).1;have s1:=u0.trans u1;generalize L2.upd (L2.upd H D (.lst [])) p (.lst (J.map V'))=H1 at ep z0 s1 ⊢;obtain⟨Pv,C⟩:∃Pv:Nat->L2.St->Hp->Prop,∀i σ F,Pv i σ F↔∃(bs:am)(fs:List (Int×Int))(r4 r5 r6 r7 r8 B u:Option V),σ=[some (Z' a),some (Z' R),some (V' r),some (Z' D),r4,r5,r6,r7,r8,B,u]/\F D=some (.lst (bs.map Z'))/\TH F bs fs/\fs.length=i/\FVals f r fs/\F p=some (.lst (J.map V'))/\Same H F:=⟨_,λ_ _ _=>Iff.rfl⟩
 refine iV (xs:=J.map V') Pv ((C _ _ _).mpr ⟨[],[],none,none,none,none,none,none,none,rfl,z0,TH.nil _,rfl,FVals.nil,ep,s1⟩) (λi σ F _ z=>by obtain⟨_,_,_,_,_,_,_,_,_,_,_,_,_,_,z,_⟩:=(C i σ F).mp z;exact SqL.of z) ?_ ?_
 ·intro i v σ F hv U;obtain⟨bs,fs,r4,r5,r6,r7,r8,B,u,rfl,eD,hT,lf,X,j0,Y⟩:=(C _ _ _).mp U;rw[aG]at hv;obtain⟨c,hc,rfl⟩:=cZ.mp hv;have hi:=(aY.mp hc).1;have lb:=hT.len
  w_up
  refine⟨_,.inl (SqL.of eD),?_⟩;rw[af,lb,lf]
  w_up
  obtain⟨La,lst,j1,_,gL,k1⟩:=hL.lastAt S.ok.1.1;have m1:lst=f.getD r []:=by
   rw[fK,show f.length-1=r by omega]at gL;exact (getD_some gL).symm
  have n1:=S.ok.2.2 lst (il gL);have r2:r<=2:=by have:=S.ok.2.1;omega
  obtain⟨l,G⟩:∃l:Int,l=if r<=i then pvL f r (((i-r:Nat):Nat):Int) else 0:=⟨_,rfl⟩
  obtain⟨M,L⟩:∃M:L2.St->Hp->Prop,∀σ Hy,M σ Hy↔σ=[some (Z' a),some (Z' R),some (V' r),some (Z' D),some (V' c),some (V' ((i:Int)-(r:Int))),some (V' l),r7,r8,B,u]/\Hy=F:=⟨_,λ_ _=>Iff.rfl⟩
  w_left;refine fP M ?_ ?_
  ·w_left;k_units
   refine bO (λh=>?_) (λh=>(L _ _).mpr ⟨by rw[G,if_neg ()],rfl⟩);refine⟨_,Y.seq hR,_,j1,La,lst,_,60,5,rfl,Y.seq k1,(),n1.2,Bd.of_lt (m:=17) () (),(),(L _ _).mpr ⟨?_,rfl⟩⟩;rw[G,if_pos (),m1,show (i:Int)-(r:Int)=((i-r:Nat):Int) by omega];rfl
  intro σ Hy hm;obtain⟨rfl,rfl⟩:=(L _ _).mp hm;clear hm L M
  w_up
  refine⟨(),?_⟩
  w_up
  refine⟨⟨(),()⟩,(),?_⟩;obtain⟨t0,k0,k2⟩:∃t:Int,c % 19-9=t/\t.natAbs<=9:=⟨_,rfl,()⟩
  obtain⟨b0,n0,m2,n2⟩:∃b:Int,1+c / 19 % 4=b/\1<=b/\b<=4:=⟨_,rfl,(),()⟩
  rw[k0,n0];clear k0 n0;obtain⟨M,L⟩:∃M:L2.St->Hp->Prop,∀σ O,M σ O↔∃(t b:Int)(B u:Option V),σ=[some (Z' a),some (Z' R),some (V' r),some (Z' D),some (V' c),some (V' ((i:Int)-(r:Int))),some (V' l),some (V' t),some (V' b),B,u]/\O=Hy/\b≠0/\Bd 8900 b/\∀z:Int×Int,Frc z->z.1*b=t*z.2->z.1.natAbs<=t.natAbs->z.2.natAbs<=b.natAbs->FVals f r (fs++[z]):=⟨_,λ_ _=>Iff.rfl⟩
  w_left;refine fP M ?_ ?_
  ·w_left;k_units
   refine bO (λh=>?_) (λh=>?_)
   ·have ri:r<=i:=Classical.byContradiction λz=>h (by rw[G,if_neg z]);rw[if_pos ri]at G;obtain⟨n,hn⟩:∃n:Nat,i=n+r:=⟨i-r,()⟩
    rw[show i-r=n by omega]at G;have x2:n<=16:=by omega
    have xb:∀j,Bd 43 (pvL f j (n:Int)):=λj=>by
     refine (jE (k:=25) (l:=5) (n:=(n:Int)) (Bd.of_lt (m:=17) () ()) (f.getD j []) λy hy=>?_).mono ?_
     ·by_cases z:j<f.length
      ·exact Bd.of_lt (m:=30000011) (by have:=S.bd _ (mem_getD z) y hy;omega) ()
      ·rw[aq,ic ()]at hy;simp at hy
     ·by_cases z:j<f.length
      ·have:=(S.ok.2.2 _ (mem_getD (d:=[]) z)).1;omega
      ·rw[aq,ic ()];simp
    obtain⟨Ee,E1,Eb,Ed⟩:=X.E;have gb:∀k,k<fs.length->Bd 3210 (gf fs k).1/\Bd 161 (gf fs k).2:=λk hk=>⟨(X.bd k hk).mono (),ca (jd () (iH.mpr (Ed k hk))) (Eb.mono ())⟩
    obtain⟨Pw,I⟩:∃Pw:Nat->L2.St->Hp->Prop,∀j σ O,Pw j σ O↔∃(B u:Option V),σ=[some (Z' a),some (Z' R),some (V' r),some (Z' D),some (V' c),some (V' (n:Int)),some (V' l),some (V' (-(bV (λj=>pvL f j (n:Int)) (λj=>gf fs (n+j)) j).1)),some (V' (bV (λj=>pvL f j (n:Int)) (λj=>gf fs (n+j)) j).2),B,u]/\O=Hy/\Bd (4000*j+1) (bV (λj=>pvL f j (n:Int)) (λj=>gf fs (n+j)) j).1/\Bd (161*j+1) (bV (λj=>pvL f j (n:Int)) (λj=>gf fs (n+j)) j).2:=⟨_,λ_ _ _=>Iff.rfl⟩
    refine⟨(),(),?_⟩;have en:(i:Int)-(r:Int)=(n:Int):=by omega
    rw[iD,en];refine gY Pw ((I _ _ _).mpr ⟨_,_,rfl,rfl,Bd.zero _,Bd.one ()⟩) ?_ ?_
    ·intro j σ O hj U;obtain⟨B,u,rfl,rfl,b1,b2⟩:=(I _ _ _).mp U
     w_left;k_units
     have hk:n+j<fs.length:=by omega
     have ge:fs[n+j]?=some (gf fs (n+j)):=by unfold gf;rw[aq,ao hk];rfl
     have Z:bs[n+j]?=some (bs[n+j]'()):=ao _;generalize bs[n+j]'()=b5 at Z;have et:=SqT.of (K:=K) (hT.get (n+j) b5 _ Z ge);have x1:f[j]?=some (f.getD j []):=by rw[aq,ao ()];rfl
     have x0:as[j]?=some (as[j]'(by have:=hL.len;omega)):=ao _;generalize as[j]'(by have:=hL.len;omega)=pa at x0;have y2:=Y.seq (hL.get j pa _ x0 x1);have z2:=S.ok.2.2 _ (bT x1);obtain⟨g1,g2⟩:=gb (n+j) hk;have xj:Bd 43 (val (n:Int) (f.getD j [])):=xb j;have i1:(n:Int)+(0+(j:Int))=((n+j:Nat):Int):=by omega
     have i2:(0:Int)+(j:Int)=((j:Nat):Int):=by omega
     have wj:bV (λj=>pvL f j (n:Int)) (λj=>gf fs (n+j)) (j+1)=((bV (λj=>pvL f j (n:Int)) (λj=>gf fs (n+j)) j).1*(gf fs (n+j)).2+val (n:Int) (f.getD j [])*(gf fs (n+j)).1*(bV (λj=>pvL f j (n:Int)) (λj=>gf fs (n+j)) j).2,(bV (λj=>pvL f j (n:Int)) (λj=>gf fs (n+j)) j).2*(gf fs (n+j)).2):=rfl;generalize bV (λj=>pvL f j (n:Int)) (λj=>gf fs (n+j)) j=W at b1 b2 wj ⊢;refine⟨_,SqL.of eD,_,(by rw[i1];exact fE (by rw[aG,Z];rfl)),b5,rfl,_,et,_,rfl,_,rfl,b1.neg.fits g2 (),_,Y.seq hR,_,(by rw[i2];exact fE (by rw[aG,x0];rfl)),pa,_,_,60,5,rfl,y2,(),z2.2,Bd.of_lt (m:=17) () (),(),b5,rfl,_,et,_,rfl,_,rfl,_,rfl,xj.fits g1 (),(xj.mul g1).fits b2 (),b5,rfl,_,et,_,rfl,_,rfl,b2.fits g2 (),(I _ _ _).mpr ⟨some (V' (0+(j:Int))),some (Z' b5),?_,rfl,?_,?_⟩⟩
     ·rw[wj,show -W.1*(gf fs (n+j)).2-val (n:Int) (f.getD j [])*(gf fs (n+j)).1*W.2=-(W.1*(gf fs (n+j)).2+val (n:Int) (f.getD j [])*(gf fs (n+j)).1*W.2) by grind]
     ·rw[wj];exact (((b1.mul g2).mono (show _<=4000*j+4000 by omega)).add (((xj.mul g1).mul b2).mono ())).mono ()
     ·rw[wj];exact (b2.mul g2).mono ()
    ·intro σ O U;obtain⟨B,u,rfl,rfl,b1,b2⟩:=(I _ _ _).mp U
     w_left;k_units
     have y0:Bd 10 l:=by rw[G];have:=S.lb n x2;rw[lp,mG]at this;exact this
     have wp:=uA (x:=λj=>pvL f j (n:Int)) (fs:=λj=>gf fs (n+j)) r λk hk=>(X.fr (n+k) ()).1;refine⟨b2.fits y0 (),(L _ _).mpr ⟨_,_,B,u,by rw[en],rfl,fX () h,(b2.mul y0).mono (),λz hz e _ _=>?_⟩⟩;refine X.next (n:=n) () r2 () #v[<-G,h] #v[<-G,y0] (λk _=>xb k) hz ?_
     rw[<-G];exact e
   ·have l0:l=0:=by omega
    refine (L _ _).mpr ⟨t0,b0,_,_,rfl,rfl,(),Bd.of_lt (m:=5) () (aM (show 5<=2 ^ 3 by decide) (e9 () ())),λz hz _ h1 h2=>X.draw hz (Bd.of_lt (m:=10) () ()) () λn hn=>?_⟩;rw[l0,if_pos ()]at G;rw[show n=i-r by omega];exact G.symm
  intro σ O hm;obtain⟨t,b,B,u,rfl,rfl,u2,bb,hF⟩:=(L _ _).mp hm
  w_left;k_units
  refine⟨fO (SqL.of eD),t,b,rfl,u2,bb,λx y y1 g e lx ly p5 v2=>?_⟩;have u5:=az v2 (.tup [.int x,.int y]);have e5:=u5 _ _ eD;refine⟨_,e5,#v[af,bD ()],(C _ _ _).mpr ⟨bs++[p5],fs++[(x,y)],_,_,_,_,_,_,_,rfl,by rw[ak];simp,((hT.same u5).snoc ak).upd e5,by simp[lf],hF (x,y) ⟨y1,g⟩ e lx ly,#v[aC v1,u5 _ _ j0],(Y.trans u5).more nD⟩⟩
 ·intro σ F U;obtain⟨bs,fs,r4,r5,r6,r7,r8,B,u,rfl,eD,hT,lf,X,j0,Y⟩:=(C _ _ _).mp U
  w_left;k_units
  rw[af]at lf;exact q fs X () D bs F Y nD eD hT
def HP (K:ap):Sp:=λvs H Q _=>∃(D:Addr)(cs:am)(ds:ac)(n:Nat),vs=[.ref D,.int (n:Int)]/\H D=some (.lst (cs.map Z'))/\LH H cs ds/\0<ds.length/\ds.length<=n+1/\n<=900/\(∀d∈ds,Nml d/\d.length<=7)/\(∃p0 t0,ds.getLast?=some (p0++[t0])/\0<t0)/\(∀s:Nat,Prm s->(∀u∈ds,∀j,(s:Int)∣co u j)->False)/\∀H',Same H H'->Q (.bl true) H'
theorem HQ:FnOk P w K mg base CX0 3 T.TF T.TJ ["_law_found","_law_order"] (HP K):=by
 refine T.TK.ok oe (λvs H Q E h=>?_) (λz0 A outer s H vs Q E hr h=>?_)
 ·obtain⟨D,cs,ds,n,rfl,_⟩:=h;rfl
 obtain⟨D,cs,ds,n,rfl,I,B,d0,dn,n9,Y,⟨p0,Z,top,t1⟩,prm,q⟩:=h;refine⟨_,s!"˓ˣ:ā Ăăȝ)#Ą~ąƃʟ $|ɷɪȵ|ʞɪɃȪȵ¹=ĀȊʚəʏ±˧Ćʑ˼ʼĆȟmʂ|ˣ:ā Ăăɮ#Ą~ąƃʟ $¹gˎȷ/$ˏɷȳȫɝʃ±I.ɀQȫ̀Ćȟ˓ˣ:ā Ăăʓ#Ą~ąȋ Ȍȍ $¹°:ā Ăăʓ#Ą~ąȎ ȏȐ $Ȩ±Iɑ-ĆɋŻȴżŽžʰ˙ȨĶËZȰȵĪËhȳʚ˾",?_⟩
 w_up
 have ne:ds≠[]:=λz=>by rw[z]at d0;simp at d0
 refine⟨_,.lst I,true,rfl,?_⟩;rw[if_neg ()];refine⟨_,.inl (SqL.of I),?_⟩;rw[af,B.len,if_neg ()];refine⟨_,.inl (SqL.of I),?_⟩;rw[af,B.len,if_neg ()];obtain⟨La,lst,J,_,gL,L⟩:=(B.ll (K:=K)).lastAt ne;rw[top]at gL
 cases gL
 refine⟨_,SqL.of I,_,J,(),λp np=>?_⟩;have u:=az np (.lst []);refine⟨_,DV.ints (u.seq L),_,DV.ints (ns:=[]) (SqL.of ak),uG _,uG _,HK _,?_⟩;rw[HJ,if_neg (by simp)];have f:=u _ _ I;have O:=B.same u;generalize L2.upd H p (.lst [])=H1 at u f O ⊢
 w_up
 w_up
 obtain⟨Pv,a⟩:∃Pv:Nat->L2.St->Hp->Prop,∀i σ o,Pv i σ o↔∃(g:Nat)(r3 m:Option V),σ=[some (Z' D),some (V' n),some (V' (g:Int)),r3,m]/\o=H1/\∀t,t<i->∀j,(g:Int)∣co (ds.getD t []) j:=⟨_,λ_ _ _=>Iff.rfl⟩
 refine⟨⟨_,SqL.of f⟩,iV (xs:=cs.map Z') Pv ((a _ _ _).mpr ⟨0,none,none,rfl,rfl,λt C=>by omega⟩) (λi σ o _ z=>by obtain⟨_,_,_,_,rfl,_⟩:=(a i σ o).mp z;exact SqL.of f) ?_ ?_⟩
 ·intro i v σ o R r;obtain⟨g,r3,m,rfl,rfl,U⟩:=(a _ _ _).mp r;rw[aG]at R;obtain⟨b,hb,rfl⟩:=cZ.mp R;have hi:i<ds.length:=by have:=(aY.mp hb).1;rw[B.len]at this;exact this
  have hd:ds[i]?=some (ds.getD i []):=by rw[aq,ao hi];rfl
  have F:=O.get i b _ hb hd;obtain⟨nd,ld⟩:=Y _ (bT hd);generalize x0:ds.getD i []=d at hd F nd ld
  w_up
  obtain⟨M,hM⟩:∃M:L2.St->Hp->Prop,∀σ X,M σ X↔σ=[some (Z' D),some (V' n),some (V' (g:Int)),some (Z' b),m]/\X=o:=⟨_,λ_ _=>Iff.rfl⟩
  w_left;refine fP M ?_ ?_
  ·w_left;k_units
   refine⟨_,.lst F,true,rfl,?_⟩;rw[if_neg ()];refine⟨_,.inl (SqL.of F),?_⟩;rw[af];refine bO (λh=>?_) (λh=>(hM _ _).mpr ⟨rfl,rfl⟩);have S:d≠[]:=by intro z;rw[z]at h;simp at h
   refine⟨_,SqL.of F,_,jx S,?_⟩
   w_left;k_units
   rw[if_neg (d_.mp nd _ (oP S))];exact (hM _ _).mpr ⟨rfl,rfl⟩
  intro σ X hm;obtain⟨rfl,rfl⟩:=(hM _ _).mp hm
  k_typeOf
  obtain⟨Pw,c⟩:∃Pw:Nat->L2.St->Hp->Prop,∀k σ G,Pw k σ G↔∃(g:Nat)(m:Option V),σ=[some (Z' D),some (V' n),some (V' (g:Int)),some (Z' b),m]/\G=X/\(∀t,t<i->∀j,(g:Int)∣co (ds.getD t []) j)/\∀j,j<k->(g:Int)∣co d j:=⟨_,λ_ _ _=>Iff.rfl⟩
  refine⟨⟨_,SqL.of F⟩,iV (xs:=d.map V') Pw ((c _ _ _).mpr ⟨g,m,rfl,rfl,U,λj hj=>by omega⟩) (λk σ G _ z=>by obtain⟨_,_,_,rfl,_⟩:=(c k σ G).mp z;exact SqL.of F) ?_ ?_⟩
  ·intro k v σ G R r;obtain⟨g2,m,rfl,rfl,h1,h2⟩:=(c _ _ _).mp r;rw[aG]at R;obtain⟨x,hx,rfl⟩:=cZ.mp R
   w_left;k_units
   refine⟨_,.int _,true,rfl,?_⟩;rw[if_neg ()];refine⟨_,.int _,false,rfl,?_⟩;rw[if_neg ()];refine⟨_,_,rfl,(c _ _ _).mpr ⟨_,_,rfl,rfl,λt C j=>?_,λj hj=>?_⟩⟩
   ·exact eJ (gO.mpr (je _ _)) (h1 t C j)
   ·by_cases z:j<k
    ·exact eJ (gO.mpr (je _ _)) (h2 j z)
    ·have e:j=k:=by omega
     subst e;obtain⟨y0,ex⟩:=aY.mp hx;rw[aI y0,ex];exact gS.mpr (jN _ _)
  ·intro σ G r;obtain⟨g2,m,rfl,rfl,h1,h2⟩:=(c _ _ _).mp r;refine (a _ _ _).mpr ⟨g2,_,_,rfl,rfl,λt C j=>?_⟩;by_cases z:t<i
   ·exact h1 t z j
   ·have e:t=i:=by omega
    subst e;rw[x0];by_cases y:j<d.length
    ·exact h2 j #v[af,y]
    ·rw[aD ()];exact oS _
 ·intro σ o r;obtain⟨g,r3,m,rfl,rfl,U⟩:=(a _ _ _).mp r
  w_left;k_units
  rw[af,B.len]at U;have all:∀d∈ds,∀j,(g:Int)∣co d j:=λd hd j=>by
   obtain⟨t,C,rfl⟩:=cm.mp hd;have:=U t C j
   rwa [aq,ao C]at this
  have g1:g=1:=Classical.byContradiction λz=>by
   obtain⟨s,s1,s2⟩:∃s,s∣g/\Prm s:=by
    by_cases y:g=0
    ·exact⟨2,#v[y,Bw _],sU⟩
    ·exact nP g ()
   exact prm s s2 λu hu j=>eJ (gO.mpr s1) (all u hu j)
  rw[g1,if_pos ()];have z:p0++[Z]≠[]:=by simp
  refine⟨_,SqL.of f,_,J,La,rfl,_,u.seq L,_,jx z,_,rfl,?_⟩;rw[show (p0++[Z]).getLast z=Z by simp,decide_eq_true t1];exact q o u
def Qe (K:ap):Sp:=λvs H Q _=>∃(D S:Addr)(cs bs:am)(ds:ac)(fs:List (Int×Int)),vs=[.ref D,.ref S]/\SqL K H D (cs.map Z')/\LL K H cs ds/\H S=some (.lst (bs.map Z'))/\TH H bs fs/\0<ds.length/\ds.length<=4/\fs.length<=16/\(∀d∈ds,d.length<=7/\∀x∈d,Bd 300 x)/\(∀f∈fs,Bd 5000 f.1/\Bd 200 f.2)/\(∀n,n+ds.length<=fs.length->(bV (λi=>val (n:Int) (ds.getD i [])) (λi=>gf fs (n+i)) ds.length).1=0)/\Q (.bl true) H
theorem Qf:FnOk P w K mg base CX0 3 T.TL T.TM ["_law_rule_here","_law_values_here"] (Qe K):=by
 refine T.UM.ok i6 (λvs H Q E h=>?_) (λx0 A outer s H vs Q E hr h=>?_)
 ·obtain⟨D,S,t,bs,ds,fs,rfl,_⟩:=h;rfl
 obtain⟨D,S,t,bs,ds,fs,rfl,Y,u,Z,hT,d0,d4,y0,B,C,z0,q⟩:=h;refine⟨_,s!"ɉˤȻɪ&ʬȻɼȰ$ʼˤɯ´ʑʋ´ʑʬɃȰʒCˤ˂ˤˡɃȫɐȦɯˤʧȺˇȾȾȥĲȴĳĴĵɌɞɐȦʱˇɛɑ?ˤȾɛˇ.Ɉ®Ⱥʃ±ɹ±",?_⟩
 obtain⟨k,hk⟩:∃k:Nat,ds.length=k+1:=⟨ds.length-1,()⟩
 w_up
 refine⟨_,.inl Y,?_⟩;rw[af,u.len,show (ds.length:Int)-1=(k:Int) by omega]
 w_up
 refine⟨_,.inl (SqL.of Z),?_⟩;rw[af,hT.len];refine⟨(),(),?_⟩;obtain⟨N,hN⟩:∃N:Nat,((fs.length:Int)-(k:Int)).toNat=N:=⟨_,rfl⟩
 rw[hN];obtain⟨F,a⟩:∃F:Nat->L2.St->Hp->Prop,∀i σ p,F i σ p↔∃(G I J c d:Option V),σ=[some (Z' D),some (Z' S),some (V' k),G,I,J,c,d]/\p=H:=⟨_,λ_ _ _=>Iff.rfl⟩
 refine gY F ((a _ _ _).mpr ⟨none,none,none,none,none,rfl,rfl⟩) ?_ ?_
 ·intro n σ p hn e;obtain⟨G,I,J,c,d,rfl,rfl⟩:=(a _ _ _).mp e;rw[show (0:Int)+(n:Int)=(n:Int) by omega]
  w_up
  w_up
  w_up
  have nk:n+ds.length<=fs.length:=by omega
  have z1:=z0 n nk;rw[hk]at z1;refine⟨(),(),?_⟩;rw[show ((k:Int)+1).toNat=k+1 by omega];obtain⟨L,b⟩:∃L:Nat->L2.St->Hp->Prop,∀j σ x,L j σ x↔∃(c d:Option V),σ=[some (Z' D),some (Z' S),some (V' k),some (V' (n:Int)),some (V' (bV (λi=>val (n:Int) (ds.getD i [])) (λi=>gf fs (n+i)) j).1),some (V' (bV (λi=>val (n:Int) (ds.getD i [])) (λi=>gf fs (n+i)) j).2),c,d]/\x=p/\Bd (7000*j+1) (bV (λi=>val (n:Int) (ds.getD i [])) (λi=>gf fs (n+i)) j).1/\Bd (200*j+1) (bV (λi=>val (n:Int) (ds.getD i [])) (λi=>gf fs (n+i)) j).2:=⟨_,λ_ _ _=>Iff.rfl⟩
  refine gY L ((b _ _ _).mpr ⟨_,_,rfl,rfl,Bd.zero _,Bd.one ()⟩) ?_ ?_
  ·intro j σ x hj e;obtain⟨c,d,rfl,rfl,b1,b2⟩:=(b _ _ _).mp e
   w_left;k_units
   have M:n+j<fs.length:=by omega
   have ge:fs[n+j]?=some (gf fs (n+j)):=by unfold gf;rw[aq,ao M];rfl
   have f:bs[n+j]?=some (bs[n+j]'(#v[hT.len,M])):=ao _;generalize bs[n+j]'(#v[hT.len,M])=b5 at f;have O:=SqT.of (K:=K) (hT.get (n+j) b5 _ f ge);have r:ds[j]?=some (ds.getD j []):=by rw[aq,ao ()];rfl
   have g:t[j]?=some (t[j]'(by rw[u.len];omega)):=ao _;generalize t[j]'(by rw[u.len];omega)=pa at g;have R:=u.get j pa _ g r;have o:=B _ (bT r);obtain⟨U,y⟩:=C _ (bT ge);have X:Bd 400 (val (n:Int) (ds.getD j [])):=(jE (k:=300) (l:=5) (n:=(n:Int)) (Bd.of_lt (m:=17) () ()) _ o.2).mono (by have:=o.1;omega);have i1:(n:Int)+(0+(j:Int))=((n+j:Nat):Int):=by omega
   have i2:(0:Int)+(j:Int)=((j:Nat):Int):=by omega
   have z:bV (λi=>val (n:Int) (ds.getD i [])) (λi=>gf fs (n+i)) (j+1)=((bV (λi=>val (n:Int) (ds.getD i [])) (λi=>gf fs (n+i)) j).1*(gf fs (n+j)).2+val (n:Int) (ds.getD j [])*(gf fs (n+j)).1*(bV (λi=>val (n:Int) (ds.getD i [])) (λi=>gf fs (n+i)) j).2,(bV (λi=>val (n:Int) (ds.getD i [])) (λi=>gf fs (n+i)) j).2*(gf fs (n+j)).2):=rfl;generalize bV (λi=>val (n:Int) (ds.getD i [])) (λi=>gf fs (n+i)) j=W at b1 b2 z ⊢;refine⟨_,SqL.of Z,_,(by rw[i1];exact fE (by rw[aG,f];rfl)),b5,rfl,_,O,_,rfl,_,rfl,b1.fits y (),_,Y,_,(by rw[i2];exact fE (by rw[aG,g];rfl)),pa,_,_,300,5,rfl,R,(),o.2,Bd.of_lt (m:=17) () (),(),b5,rfl,_,O,_,rfl,_,rfl,_,rfl,X.fits U (),(X.mul U).fits b2 (),b5,rfl,_,O,_,rfl,_,rfl,b2.fits y (),(b _ _ _).mpr ⟨some (V' (0+(j:Int))),some (Z' b5),by rw[z],rfl,?_,?_⟩⟩
   ·rw[z];exact (((b1.mul y).mono (show _<=7000*j+7000 by omega)).add (((X.mul U).mul b2).mono ())).mono ()
   ·rw[z];exact (b2.mul y).mono ()
  ·intro σ x e;obtain⟨c,d,rfl,rfl,b1,b2⟩:=(b _ _ _).mp e;rw[z1]
   w_left;k_units
   rw[if_neg (by simp)];exact (a _ _ _).mpr ⟨_,_,_,_,_,rfl,rfl⟩
 ·intro σ p e;obtain⟨G,I,J,c,d,rfl,rfl⟩:=(a _ _ _).mp e
  w_left;k_units
  exact q
theorem Qg {ps:ac}(a:RuleL ps)(i:Nat):FL 30000010 3 (pvL ps i):=by
 by_cases z:i<ps.length
 ·have b:ps.getD i []∈ps:=mem_getD z;exact⟨ps.getD i [],(a.ok.2.2 _ b).1,a.bd _ b,λn=>rfl⟩
 ·refine FL.zero.congr λn=>?_;unfold pvL;rw[aq,ic ()];rfl
def Qh (K:ap):Sp:=λvs H Q _=>∃(R:Addr)(as:am)(ps:ac)(r:Nat),vs=[.ref R]/\SqL K H R (as.map Z')/\LL K H as ps/\RuleL ps/\ps.length=r+1/\(OutOk ps r (jK ps r)->ja H Q (jK ps r))
theorem HR:FnOk P w K mg base CX0 24 T.Rx T.Ry ["one"] (Qh K):=
 ⟨λg H Q E h=>by obtain⟨R,as,b,r,rfl,_⟩:=h;rfl,
  λA outer s H c i g Q E j I k m h=>by
  obtain⟨R,as,b,r,rfl,n,o,a,e,q⟩:=h;have f:r<=2:=by have:=a.ok.2.1;omega
  have t:b.getD r []∈b:=mem_getD ();refine (FnOk.mono (Ps (P:=P) (wd:=w) (base:=base) T (OJ (A4 f))) ()).run A outer s H c i _ Q E j I k m ⟨R,as,b,r,rfl,n,o,a.ok,e,λp u=>?_,λz x V Z=>PP V Z f (Qg a) (a.ok.1.2.2 _ t) ?_ q⟩
  ·have y:=(a.ok.2.2 p u).1;have:=dJ (dJ (show r+1<=3 by omega) (show r+1<=3 by omega)) y;omega
  ·refine a.ok.1.2.1 _ ?_;rw[fK,e,mG,ol (d:=[]) (show r<b.length by omega)]⟩
def HS (K:ap):Sp:=λvs H Q _=>∃(a:Addr)(ns:aa),vs=[.ref a]/\SqL K H a (ns.map V')/\ns.length<=63/\∀H',Q (.bl true) H'
structure SumF (E:Int)(A:aH)(ss:List (Int×Int)):Prop where
 at':∀k,k<ss.length->Frc (gf ss k)/\E*(gf ss k).1=au (k+1) A*(gf ss k).2
theorem SumF.snoc {E:Int}{A:aH}{a:List (Int×Int)}{z:Int×Int}{j:Nat}(h:SumF E A a)(b:a.length=j)(c:Frc z)(e:E*z.1=au (j+1) A*z.2):SumF E A (a++[z]):=⟨λk hk=>by
 by_cases y:k<a.length
 ·rw[uE y];exact h.at' k y
 ·have:a.length=k:=by simp at hk;omega
  rw[A9 this,<-this,b];exact⟨c,e⟩⟩
theorem Qi:FnOk P w K mg base CX0 25 T.Re T.Q7 ["_law_script"] (HS K):=by
 refine T.VO.ok iu (λvs H Q E h=>?_) (λx6 A outer s H vs Q E L h=>?_)
 ·obtain⟨a,ns,rfl,_⟩:=h;rfl
 obtain⟨a,ns,rfl,hS,_,q⟩:=h;refine⟨_,s!"ɿ¤ɋȑʙȒȓȔʛɉ¤˗ɒ¤ȟ˷˯ʯȥȕʙȖȗȘʎ̀¤ȟɒ¤ɋſʙƀƁƂɌʧɖȫȮ˻Ⱦ˻ɖȫȮ#ȾɖȫȮ˻$˞Ȱʱ˄?ɊɽɾyĦɭɄʁɟ¤Ʉʍ¤ɋƄʙƅƆƇȧɻ˓ˣȥƈʙƉƊƋȧC#ɼ$¹ˣȥșʙȚțȜȧCɡȨ±I˄TɊɽɐKyĦɭɄʁɟ¤Ʉʭȳ˹˘ʭɐ#ʊ$ȡ_¤ɋƄʙƅƆƇȧɻȨĶËĀƌʮɵȩĶȥƈʙƉƊƋȧ_#ɼ$ĪËĀƌɛȪȩ",?_⟩
 w_up
 refine⟨a,ns,rfl,hS,λps RL R as H1 s1 nR eR lR nb y6 nd=>?_⟩;obtain⟨r,lp⟩:∃r:Nat,ps.length=r+1:=⟨ps.length-1,by have:=de.mpr RL.ok.1.1;omega⟩
 have r2:r<=2:=by have:=RL.ok.2.1;omega
 w_up
 refine⟨(),λS nS=>?_⟩;have u2:=az nS (.lst []);have m3:=ak (H:=H1) (a:=S) (o:=.lst [])
 w_up
 refine⟨(),λu0 n3=>?_⟩;have u3:=az n3 (.tup [V' 0,V' 1]);have g1:=ak (H:=L2.upd H1 S (.lst [])) (a:=u0) (o:=.tup [V' 0,V' 1]);have j0:=u3 _ _ m3;have s3:=u2.trans u3;generalize L2.upd (L2.upd H1 S (.lst [])) u0 (.tup [V' 0,V' 1])=H3 at g1 j0 s3 ⊢;have x4:=s1.trans s3
 w_up
 refine⟨a,R,ns,as,ps,r,rfl,x4.seq hS,SqL.of (s3 _ _ eR),(lR.same s3).ll,RL,lp,λfs FV lf D bs H4 s4 nD eD hT=>⟨D,rfl,⟨_,SqL.of eD⟩,?_⟩⟩;have dd:=RL.dead;rw[lp,mG]at dd;obtain⟨Ee,Av,E1,Eb,hE,bA,kp⟩:=FV.keep dd;have y4:D≠S:=λz=>by rw[z,j0]at nD;cases nD
 have z4:=hT.len;obtain⟨Pv,F⟩:∃Pv:Nat->L2.St->Hp->Prop,∀j σ c,Pv j σ c↔∃(sf:Addr)(y:Int×Int)(u:am)(O:List (Int×Int))(r4:Option V),σ=[some (Z' a),some (Z' R),some (Z' S),some (Z' sf),r4,none,none,none,none]/\c S=some (.lst (u.map Z'))/\TH c u O/\O.length=j/\SumF Ee Av O/\c sf=some (.tup [.int y.1,.int y.2])/\Frc y/\Ee*y.1=au j Av*y.2/\c D=some (.lst (bs.map Z'))/\TH c bs fs/\Same H1 c:=⟨_,λ_ _ _=>Iff.rfl⟩
 refine iV (xs:=bs.map Z') Pv ((F _ _ _).mpr ⟨u0,(0,1),[],[],none,rfl,s4 _ _ j0,TH.nil _,rfl,⟨λk hk=>by simp at hk⟩,s4 _ _ g1,⟨(),()⟩,by show Ee*0=0*1;rw[dq];rfl,eD,hT,s3.trans s4⟩) (λi σ c _ z=>by obtain⟨_,_,_,_,_,_,_,_,_,_,_,_,_,z,_⟩:=(F i σ c).mp z;exact SqL.of z) ?_ ?_
 ·intro i v σ c hv hp;obtain⟨sf,y,u,O,r4,rfl,eS,U,ls,SF,I,fy,ey,k0,x0,sP⟩:=(F _ _ _).mp hp;rw[aG]at hv;obtain⟨b5,m1,rfl⟩:=cZ.mp hv;have hi:i<fs.length:=by have:=(aY.mp m1).1;omega
  have ge:fs[i]?=some (gf fs i):=by unfold gf;rw[aq,ao hi];rfl
  have et:=SqT.of (K:=K) (x0.get i b5 _ m1 ge);have es:=SqT.of (K:=K) I;have ff:=FV.fr i hi;have ef:=hE i hi;have n1:=oD fy (show Ee≠0 by omega) ey;have x2:=oD ff (show Ee≠0 by omega) ef;have y1:Bd 3700 y.1:=ca n1.2.2 ((uF i λk hk=>bA k ()).mono ());have y2:Bd 170 y.2:=ca n1.2.1 (Eb.mono ());have f1:Bd 3700 (gf fs i).1:=ca x2.2.2 ((bA i hi).mono ());have f2:Bd 170 (gf fs i).2:=ca x2.2.1 (Eb.mono ());have p2:=ff.1;have p1:=fy.1;generalize hg:gf fs i=g at *
  w_left;k_units
  refine⟨_,es,_,rfl,_,et,_,rfl,_,rfl,_,rfl,y1.fits f2 (),_,et,_,rfl,_,es,_,rfl,_,rfl,_,rfl,f1.fits y2 (),_,es,_,rfl,_,et,_,rfl,_,rfl,_,rfl,y2.fits f2 (),_,_,rfl,fX () (),(y2.mul f2).mono (),λx z z1 gz e _ _ p6 n0=>?_⟩;have u6:=az n0 (.tup [.int x,.int z]);have y0:=u6 _ _ eS;have hz:Frc (x,z):=⟨z1,gz⟩
  have e':Ee*(x,z).1=au (i+1) Av*(x,z).2:=PR p1 p2 ey ef e;have u4:p6≠S:=λz=>by rw[z,eS]at n0;cases n0
  have l6:=U.len;refine⟨fO (SqL.of y0),_,y0,#v[af,bD ()],(F _ _ _).mpr ⟨p6,(x,z),u++[p6],O++[(x,z)],_,rfl,by rw[ak];simp,((U.same u6).snoc ak).upd y0,by simp[ls],SF.snoc ls hz e',#v[aC u4,ak],hz,e',#v[aC y4,u6 _ _ k0],(x0.same u6).upd y0,(sP.trans u6).more nS⟩⟩
 ·intro σ c hp;obtain⟨sf,y,u,O,r4,rfl,eS,U,ls,SF,I,fy,ey,k0,x0,sP⟩:=(F _ _ _).mp hp;rw[af,z4]at ls;clear ey fy I k0 x0
  w_up
  refine⟨⟨_,SqL.of (sP _ _ eR)⟩,λX0 v4=>oq (ps:=ps) (ds:=ps) v4 (SqL.of (sP _ _ eR)) (lR.same sP).ll rfl () (λj b p d Hz R' hp hd sz hB hN=>?_) (λX xs H5 s5 nX eX lX z6 v6 j6=>?_)⟩
  ·w_left;simp![bst]
   rw[hp]at hd
   cases hd
   exact⟨_,.inl hB,λl nl=>hN l _ (az nl _) nl ak⟩
  have z2:=sP.trans s5;have j4:=s5 _ _ eS;have v2:=U.same s5
  w_up
  refine⟨X,xs,ps,r,rfl,SqL.of eX,lX.ll,RL,lp,λt D2 B H6 s6 k4 C m g4 j2 k6=>?_⟩;generalize m4:jK ps r=ds at t m;have k2:∀(c:Hp)(D:Addr)(B:am)(Q':VK),c D=some (.lst (B.map Z'))->LH c B ds->(∀H',Same c H'->Q' (.bl true) H')->HP K [Z' D,V' ((r+1:Nat):Int)] c Q' E0:=λc D B Q' h1 h2 h3=>⟨D,B,ds,r+1,rfl,h1,h2,t.l.1,by have:=t.l.2;omega,(),λd hd=>⟨(t.nm d hd).1,(t.nm d hd).2.1⟩,t.top,t.prm,h3⟩
  have g2:(as.map Z').length=r+1:=by rw[af,lR.len,lp]
  have n4:=z2.trans s6
  w_up
  refine⟨_,.inl (SqL.of (n4 _ _ eR)),?_⟩;rw[g2];refine k2 H6 D2 B _ C m λH7 s7=>⟨_,rfl,?_⟩
  rw[if_neg ()];have m2:=s6.trans s7;refine⟨D2,S,B,u,ds,O,rfl,SqL.of (s7 _ _ C),(m.same s7).ll,m2 _ _ j4,v2.same m2,t.l.1,by have:=t.l.2;omega,(),λd hd=>(t.nm d hd).2,λf hf=>?_,λn hn=>?_,_,rfl,?_⟩
  ·obtain⟨k,hk,rfl⟩:=cm.mp hf;obtain⟨h1,h2⟩:=SF.at' k hk;have e:gf O k=O[k]:=PQ (ao hk);rw[e]at h1 h2;have h3:=oD h1 (show Ee≠0 by omega) h2;exact⟨ca h3.2.2 ((uF (k+1) λj hj=>bA j ()).mono ()),ca h3.2.1 (Eb.mono ())⟩
  ·refine Pm (M:=Ee) (A:=λi=>au (n+i+1) Av) () (λi hi=>(SF.at' (n+i) ()).2) ?_;exact t.kp Av (λk=>au (k+1) Av) (fs.length-r) n kp (λk=>rfl) λh=>by omega
  rw[if_neg ()]
  w_up
  refine⟨⟨_,SqL.of (s7 _ _ C)⟩,λY0 x5=>oq (ps:=ds) (ds:=ds) x5 (SqL.of (s7 _ _ C)) (m.same s7).ll rfl (by have:=t.l.2;omega) (λj b p d Hz R' hp hd sz hB hN=>?_) (λY ys H8 s8 nY eY lY y5 g6 m6=>?_)⟩
  ·w_left;simp![bst]
   rw[hp]at hd
   cases hd
   exact⟨_,.inl hB,λl nl=>hN l _ (az nl _) nl ak⟩
  w_up
  have d0:=t.l.1;have d4:=t.l.2;have J:B[0]?=some (B[0]'(#v[m.len,d0])):=ao _;generalize B[0]'(#v[m.len,d0])=c0 at J;have x1:=m.get 0 c0 _ J (ao d0);have z5:=g4 c0 (bT J);have u5:=(t.nm _ (bY d0)).2.1;generalize ds[0]'d0=dz at x1 u5;have u1:=s7.trans s8;have n2:=u1 _ _ C;have x3:=u1 _ _ x1;have v5:c0≠D2:=λz=>j2 #v[<-z,bT J];obtain⟨G,hG⟩:∃G:Hp,∀a,G a=if a=D2\/a=c0 then none else H8 a:=⟨_,λ_=>rfl⟩
  have v1:∀a o,H8 a=some o->a≠D2/\a≠c0->G a=some o:=λa o h z=>by rw[hG,if_neg λy=>y.elim z.1 z.2];exact h
  have j5:Same H5 G:=λa o h=>v1 a o (u1 _ _ (s6 _ _ h)) ⟨λz=>(by rw[z,k4]at h;cases h),λz=>by rw[z,z5]at h;cases h⟩;have y3:∀a,H7 a=none->a≠D2/\a≠c0:=λa ha=>⟨λz=>(by rw[z,s7 _ _ C]at ha;cases ha),λz=>by rw[z,s7 _ _ x1]at ha;cases ha⟩
  have k5:=v1 _ _ eY (y3 Y nY);have g5:LH G ys ds:=⟨lY.len,λj b p h1 h2=>v1 _ _ (lY.get j b p h1 h2) (y3 b (y5 b (bT h1)))⟩
  refine⟨_,SqL.of n2,_,fE (j:=0) (by rw[aG,J];rfl),fO (SqL.of x3),c0,rfl,_,x3,#v[af,bD ()],?_⟩;have z3:Same G (L2.upd H8 c0 (.lst (dz.map V'++[V' 2]))):=λa o h=>by
   rw[hG]at h
   split at h
   ·cases h
   ·rename_i z;rw[aC λy=>z (.inr y)];exact h
  have j1:L2.upd H8 c0 (.lst (dz.map V'++[V' 2])) D2=some (.lst (B.map Z')):=by rw[aC v5.symm];exact n2
  generalize L2.upd H8 c0 (.lst (dz.map V'++[V' 2]))=H9 at z3 j1 ⊢;have GD:G D2=none:=by rw[hG,if_pos (.inl rfl)]
  w_up
  refine⟨fO (SqL.of j1),(),λp7 m5=>?_⟩;have u7:=az m5 (.lst [V' 1]);have n6:=m.len;refine⟨_,u7 _ _ j1,#v[af,bD ()],?_⟩;have k1:=(z3.trans u7).more (o:=.lst (B.map Z'++[Z' p7])) GD;generalize L2.upd (L2.upd H9 p7 (.lst [V' 1])) D2 (.lst (B.map Z'++[Z' p7]))=HA at k1 ⊢;have z0:=j5.trans k1;have n5:=z2.trans z0
  w_up
  refine⟨X,xs,ps,r,rfl,SqL.of (z0 _ _ eX),(lX.same z0).ll,RL,lp,λ_ Z zs HB sB nZ eZ lZ x7 y7 z7=>?_⟩;rw[m4]at lZ
  w_left;k_units
  have v3:=k1.trans sB;have j3:=n5.trans sB;refine⟨_,tU (SqL.of eZ) lZ.ll,_,tU (SqL.of (v3 _ _ k5)) (g5.same v3).ll,tV _,tV _,FA _,?_⟩;rw[if_pos (Fz ds)];refine⟨_,.inl (SqL.of (j3 _ _ eR)),?_⟩;rw[g2];refine k2 HB Z zs _ eZ lZ λHC sC=>⟨_,rfl,?_⟩
  rw[if_pos rfl];have k3:=(z0.trans sB).trans sC;have g3:=j3.trans sC;refine⟨_,tU (SqL.of (k3 _ _ eX)) (lX.same k3).ll,_,tU (SqL.of (g3 _ _ eR)) (lR.same g3).ll,tV _,tV _,FA _,?_⟩;rw[Fz ps];exact q HC
theorem Qj {us:List Value}(h:us.length=1):∃a,us=[a]:=by
 obtain⟨a,b,rfl⟩:=ji h;exact⟨a,by rw[bC (Nat.succ.inj h)]⟩
theorem Qk {us:List Value}(h:us.length=2):∃a b,us=[a,b]:=by
 obtain⟨a,c,rfl⟩:=ji h;obtain⟨b,d,rfl⟩:=ji (Nat.succ.inj h);exact⟨a,b,by rw[bC (Nat.succ.inj (Nat.succ.inj h))]⟩
theorem Ql {us:List Value}(h:us.length=3):∃a b c,us=[a,b,c]:=by
 obtain⟨a,d,rfl⟩:=ji h;obtain⟨b,e,rfl⟩:=ji (Nat.succ.inj h);obtain⟨c,f,rfl⟩:=ji (Nat.succ.inj (Nat.succ.inj h));exact⟨a,b,c,by rw[bC (Nat.succ.inj (Nat.succ.inj (Nat.succ.inj h)))]⟩
theorem Qm {us:List Value}(h:us.length=4):∃a b c d,us=[a,b,c,d]:=by
 obtain⟨a,e,rfl⟩:=ji h;obtain⟨b,f,rfl⟩:=ji (Nat.succ.inj h);obtain⟨c,g,rfl⟩:=ji (Nat.succ.inj (Nat.succ.inj h));obtain⟨d,i,rfl⟩:=ji (Nat.succ.inj (Nat.succ.inj (Nat.succ.inj h)));exact⟨a,b,c,d,by rw[bC (Nat.succ.inj (Nat.succ.inj (Nat.succ.inj (Nat.succ.inj h))))]⟩
local macro_rules | `(tactic| o_law)=>`(tactic| (intro _ _ _ _ _ _ us hl;first|(obtain⟨x0,e⟩:=Qj hl;subst e;rfl)|(obtain⟨x0,x1,e⟩:=Qk hl;subst e;rfl)|(obtain⟨x0,x1,x2,e⟩:=Ql hl;subst e;rfl)|(obtain⟨x0,x1,x2,x3,e⟩:=Qm hl;subst e;rfl)))
abbrev fdK (x q:Str) (st:Stmt) (pm:Value) (c:Nat):FuncData:=PySem.W.fnOf x q (mZ st) (kX st) (a_ st) .none .none .none pm none (.ref c) .none
abbrev FU (P:Params) (x q:Str) (st:Stmt) (f:Addr) (pm:Value) (c:Nat):Prop:=Fun (KK P) x q st f (fdK x q st pm c)
theorem fuk {P:Params}{x q:Str}{st:Stmt}{f:Addr}{pm:Value}{c:Nat}(l:(KK P).lookup f=some ⟨.type "function",none,.func (fdK x q st pm c),#[]⟩:=by kernel_rfl)(h:PySem.W.codeIn (KK P) (.ref c) q=true:=by kernel_rfl)(k:PySem.W.keepIn (KK P) (.ref f)=true:=by kernel_rfl):FU P x q st f pm c:=K2 l h k
abbrev pm0:Value:=.str "sumcraft.polys" 255
abbrev pm1:Value:=.str "sumcraft.ratios" 332
abbrev pm2:Value:=.str "sumcraft.reaches" 367
abbrev pm3:Value:=.str "sumcraft.rules" 440
abbrev pm4:Value:=.str "sumcraft.coords" 450
abbrev pm5:Value:=.str "sumcraft.spans" 464
abbrev pm6:Value:=.str "sumcraft.joins" 621
abbrev pm7:Value:=.str "law_sumcraft_k33_sums_so_far_keep" 649
theorem kf0 (P:Params):FU P "trimmed" "trimmed" ve 70 pm0 69:=fuk
theorem kf1 (P:Params):FU P "poly_plus" "poly_plus" vf 77 pm0 76:=fuk
theorem kf2 (P:Params):FU P "poly_less" "poly_less" vg 82 pm0 81:=fuk
theorem kf3 (P:Params):FU P "poly_times" "poly_times" vh 89 pm0 88:=fuk
theorem kf4 (P:Params):FU P "shifted" "shifted" vi 96 pm0 95:=fuk
theorem kf5 (P:Params):FU P "poly_value" "poly_value" vj 103 pm0 102:=fuk
theorem kf6 (P:Params):FU P "quotient" "quotient" vk 110 pm0 109:=fuk
theorem kf7 (P:Params):FU P "shortened" "shortened" vm 117 pm1 116:=fuk
theorem kf8 (P:Params):FU P "divisor" "divisor" vn 124 pm1 123:=fuk
theorem kf9 (P:Params):FU P "content" "content" vo 131 pm2 130:=fuk
theorem HU (P:Params):FU P "over" "over" vr 136 pm2 135:=fuk
theorem HV (P:Params):FU P "upright" "upright" vt 141 pm2 140:=fuk
theorem HW (P:Params):FU P "spread" "spread" vv 148 pm2 147:=fuk
theorem HX (P:Params):FU P "greatest_size" "greatest_size" vw 153 pm2 152:=fuk
theorem HY (P:Params):FU P "bare_common" "bare_common" vz 160 pm2 159:=fuk
theorem HZ (P:Params):FU P "common" "common" vB 165 pm2 164:=fuk
theorem H_ (P:Params):FU P "common_of" "common_of" vD 172 pm2 171:=fuk
theorem Ia (P:Params):FU P "clear" "clear" vE 179 pm2 178:=fuk
theorem Ic (P:Params):FU P "order_of" "order_of" vG 186 pm3 185:=fuk
theorem Ie (P:Params):FU P "further" "further" vH 191 pm4 190:=fuk
theorem If (P:Params):FU P "coords" "coords" vI 196 pm4 195:=fuk
theorem Ig (P:Params):FU P "lowered" "lowered" vJ 201 pm5 200:=fuk
theorem Ih (P:Params):FU P "through" "through" vK 208 pm5 207:=fuk
theorem Ii (P:Params):FU P "greatest_degree" "greatest_degree" vL 213 pm5 212:=fuk
theorem Ij (P:Params):FU P "degree_bound" "degree_bound" vM 218 pm5 217:=fuk
theorem Ik (P:Params):FU P "cleared" "cleared" vN 223 pm5 222:=fuk
theorem Il (P:Params):FU P "relation" "relation" vO 306 pm5 305:=fuk
theorem Im (P:Params):FU P "check_work" "check_work" vP 311 pm6 310:=fuk
theorem Io (P:Params):FU P "thinned" "thinned" vQ 316 pm6 315:=fuk
theorem Ip (P:Params):FU P "joined" "joined" vR 321 pm6 320:=fuk
theorem Iq (P:Params):FU P "summed_rule" "summed_rule" vU 326 pm6 325:=fuk
theorem Ir (P:Params):FU P "_law_cell_at" "_law_cell_at" vV 333 pm7 332:=fuk
theorem Is (P:Params):FU P "_law_divisor" "_law_divisor" vW 340 pm7 339:=fuk
theorem Iu (P:Params):FU P "_law_times" "_law_times" vX 347 pm7 346:=fuk
theorem Iv (P:Params):FU P "_law_rule" "_law_rule" vY 352 pm7 351:=fuk
theorem Iw (P:Params):FU P "_law_value" "_law_value" vZ 359 pm7 358:=fuk
theorem Ix (P:Params):FU P "_law_lowest" "_law_lowest" v_ 366 pm7 365:=fuk
theorem Iy (P:Params):FU P "_law_values" "_law_values" we 373 pm7 372:=fuk
theorem Iz (P:Params):FU P "_law_is_rule" "_law_is_rule" wf 380 pm7 379:=fuk
theorem IA (P:Params):FU P "_law_keeps" "_law_keeps" wg 387 pm7 386:=fuk
theorem IB (P:Params):FU P "law" "law" wh 392 pm7 391:=fuk
theorem IC (P:Params):FU P "__init__" "Span.__init__" wk 237 pm5 236:=fuk
theorem ID (P:Params):FU P "row_at" "Span.row_at" wl 242 pm5 241:=fuk
theorem IE (P:Params):FU P "table_at" "Span.table_at" wm 249 pm5 248:=fuk
theorem IF (P:Params):FU P "lowered_at" "Span.lowered_at" wn 256 pm5 255:=fuk
theorem IG (P:Params):FU P "only_choice" "Span.only_choice" wo 261 pm5 260:=fuk
theorem IH (P:Params):FU P "failing_column" "Span.failing_column" wq 268 pm5 267:=fuk
theorem II (P:Params):FU P "keep" "Span.keep" wt 275 pm5 274:=fuk
theorem IJ (P:Params):FU P "by_few" "Span.by_few" wu 280 pm5 279:=fuk
theorem IK (P:Params):FU P "take" "Span.take" wv 285 pm5 284:=fuk
theorem IL (P:Params):FU P "apart" "Span.apart" BD 292 pm5 291:=fuk
theorem Qn {l:PySem.W.OpenLaw}{q:Program}{loose:List Str}{XP:bh->Heap->Prop}{YP:World->Heap->Prop}{d:DefRec}{K:Params->ap}(i:l.most=some 63)(c:d.params.defaults=[])(j:∀(w:World)(h:Heap),YP w h->(K w.params).In h)(F:∀(w:World)(mg:bh)(b:Addr)(h:Heap),(K w.params).In h->h.Ns mainGlobals mg->mg d.name=some (.ref b)->
   ∃T:Tx (K w.params) mg,T.Re=b/\∀(s:Shared)(v:Value),BindsTo s T.Q7 ⟨[v],[]⟩ [("_law_script",v)]):
  PySem.W.WalkO q loose XP YP l.row.toRowW d [] (λf m=>PySem.call f m):=
 L2.K1 (n:=63) (k:=30) (x := "_law_script") (CX:=λ_=>CX0) (sp:=λw=>HS (K w.params)) i () c ⟨rfl,(),()⟩ j
  (λw mg b h KX G g=>by
   obtain⟨T,e,o⟩:=F w mg b h KX G g;subst e;exact⟨T.Q7,o,λbase _ _=>FnOk.mono (Qi T) ()⟩)
  (λ_ H a ns p _ r=>⟨a,ns,rfl,r,p,λ_=>rfl⟩) λ_ _ _ _ _ z=>z
theorem facts (w:World)(mg:bh)(d:Addr)(h:Heap)(KX:(KK w.params).In h)(G:h.Ns mainGlobals mg)(c:mg "law" = some (.ref d)):
  ∃T:Tx (KK w.params) mg,T.Re=d/\∀(s:Shared)(v:Value),BindsTo s T.Q7 ⟨[v],[]⟩ [("_law_script",v)]:=by
 have a:∀{x:Str}{f:Addr},PySem.W.nsIn (KK w.params) mainGlobals x=some (some (.ref f))->mg x=some (.ref f):=λe=>PySem.W.mg_of KX G e;have mi:∀{x:Str}{i:Int}{t:Tok},PySem.W.nsIn (KK w.params) mainGlobals x=some (some (.int i t))->mg x=some (.int i t):=λe=>PySem.W.mg_of KX G e;have b:∀{x:Str},PySem.W.nsIn (KK w.params) mainGlobals x=some none->mg x=none:=λe=>PySem.W.mg_none_of KX G e;have e:=c.symm.trans (a (f:=392) ∅)
 cases e
 exact⟨⟨_,_,kf0 _,a ∅,(kf0 _).binds (by o_law),_,_,kf1 _,a ∅,(kf1 _).binds (by o_law),_,_,kf2 _,a ∅,(kf2 _).binds (by o_law),_,_,kf3 _,a ∅,(kf3 _).binds (by o_law),_,_,kf4 _,a ∅,(kf4 _).binds (by o_law),_,_,kf5 _,a ∅,(kf5 _).binds (by o_law),_,_,kf6 _,a ∅,(kf6 _).binds (by o_law),_,_,kf7 _,a ∅,(kf7 _).binds (by o_law),_,_,kf8 _,a ∅,(kf8 _).binds (by o_law),_,_,kf9 _,a ∅,(kf9 _).binds (by o_law),_,_,HU _,a ∅,(HU _).binds (by o_law),_,_,HV _,a ∅,(HV _).binds (by o_law),_,_,HW _,a ∅,(HW _).binds (by o_law),_,_,HX _,a ∅,(HX _).binds (by o_law),_,_,HY _,a ∅,(HY _).binds (by o_law),_,_,HZ _,a ∅,(HZ _).binds (by o_law),_,_,H_ _,a ∅,(H_ _).binds (by o_law),_,_,Ia _,a ∅,(Ia _).binds (by o_law),_,_,Ic _,a ∅,(Ic _).binds (by o_law),_,_,Ie _,a ∅,(Ie _).binds (by o_law),_,_,If _,a ∅,(If _).binds (by o_law),_,_,Ig _,a ∅,(Ig _).binds (by o_law),_,_,Ih _,a ∅,(Ih _).binds (by o_law),_,_,Ii _,a ∅,(Ii _).binds (by o_law),_,_,Ij _,a ∅,(Ij _).binds (by o_law),_,_,Ik _,a ∅,(Ik _).binds (by o_law),_,_,Il _,a ∅,(Il _).binds (by o_law),_,_,Im _,a ∅,(Im _).binds (by o_law),_,_,Io _,a ∅,(Io _).binds (by o_law),_,_,Ip _,a ∅,(Ip _).binds (by o_law),_,_,Iq _,a ∅,(Iq _).binds (by o_law),_,_,Ir _,a ∅,(Ir _).binds (by o_law),_,_,Is _,a ∅,(Is _).binds (by o_law),_,_,Iu _,a ∅,(Iu _).binds (by o_law),_,_,Iv _,a ∅,(Iv _).binds (by o_law),_,_,Iw _,a ∅,(Iw _).binds (by o_law),_,_,Ix _,a ∅,(Ix _).binds (by o_law),_,_,Iy _,a ∅,(Iy _).binds (by o_law),_,_,Iz _,a ∅,(Iz _).binds (by o_law),_,_,IA _,a ∅,(IA _).binds (by o_law),_,_,IB _,a ∅,(IB _).binds (by o_law),_,_,IC _,(IC _).binds (by o_law),_,_,ID _,(ID _).binds (by o_law),_,_,IE _,(IE _).binds (by o_law),_,_,IF _,(IF _).binds (by o_law),_,_,IG _,(IG _).binds (by o_law),_,_,IH _,(IH _).binds (by o_law),_,_,II _,(II _).binds (by o_law),_,_,IJ _,(IJ _).binds (by o_law),_,_,IK _,(IK _).binds (by o_law),_,_,IL _,(IL _).binds (by o_law),295,a ∅,⟨∅,∅,∅,∅⟩,⟨∅,∅,∅,∅⟩,⟨∅,∅,∅⟩,⟨∅,∅,∅⟩,⟨∅,∅,∅⟩,⟨∅,∅,∅⟩,⟨∅,∅,∅⟩,⟨∅,∅,∅⟩,⟨∅,∅,∅⟩,⟨∅,∅,∅⟩,⟨∅,∅,∅⟩,by show PySem.W.findIn _ _ _=_;kernel_rfl,by show PySem.W.findIn _ _ _=_;kernel_rfl,by show PySem.W.findIn _ _ _=_;kernel_rfl,by show PySem.W.findIn _ _ _=_;kernel_rfl,by show PySem.W.findIn _ _ _=_;kernel_rfl,b ∅,b ∅,b ∅,b ∅,b ∅,b ∅,b ∅,b ∅,b ∅,b ∅,b ∅,b ∅,b ∅,⟨336,mi ∅⟩,⟨334,mi ∅⟩,⟨623,mi ∅⟩,⟨466,mi ∅⟩⟩,rfl,λs v=>.of_eq rfl⟩
end My
open PySem PySem.W PyProof.Rows
set_option maxRecDepth 100000 in
set_option maxHeartbeats 0 in
theorem PySem.Challenge.cw_sumcraft_k33_sums_so_far_keep_holds : PySem.Challenge.rw_sumcraft_k33_sums_so_far_keep.Holds := by
 refine holds_law My.JO λa=>?_;refine holds_open (r:=PySem.Challenge.rw_sumcraft_k33_sums_so_far_keep.row)
  (q:=My.qv) (loose:=[]) (Xt:=My.xt)
  (XP:=XL My.qv []) (Yf:=My.hk.obs) (Ya:=My.hk.val)
  (YP:=My.hk.says) (N:=5492)
  My.JN My.hk.of My.hk.keeps
  (λs e=>xl_of s (Bool.and_eq_true_iff.mp e).1)
  XL.keeps (by rfl) (by rfl) (by rfl)
  (λs e=>recFacts_of (Bool.and_eq_true_iff.mp e).2)
  (by rfl) a (by decide +kernel)
  My.JP ?wit ?go
 case wit=>w_witness2
 case go=>exact My.Qn (l:=PySem.Challenge.rw_sumcraft_k33_sums_so_far_keep) rfl rfl (λw h Y=>kIn_of Y) My.facts
