import PyProof.Rows.All
import Wide.All
import OpenK.AllK
import Wide.FinOn
import Lean
import PyProof.EqAt
import PyProof.EqKinds
import PyProof.TupleCall
import PySem.Challenge.RW_sumcraft_k54_frames_by_numbers
set_option Elab.async false
set_option linter.all false
set_option maxRecDepth 100000
set_option maxHeartbeats 4000000
set_option compiler.extract_closed false
set_option bootstrap.genMatcherCode false
local macro_rules | `(tactic| omega) => `(tactic| first|lia|omega +splitDisjunctions)
noncomputable section
open Nat renaming le_refl→aw,ne_of_lt→aO,le_trans→aP,gcd→aU,zero_le→aY,lt_of_lt_of_le→a_,lt_of_le_of_lt→cr,le_of_lt→cJ,mul_le_mul→dO,pow_le_pow_right→d6,lt_irrefl→eT,ne_of_gt→gg,lt_succ_of_lt→gh,lt_succ_self→gU,gcd_pos_of_pos_right→gZ,gcd_dvd_left→g0,gcd_dvd_right→g7,mul_add→g9,sub_self→hJ,zero_add→jN,pow_add→sY,add_mul→tf,pow_lt_pow_right→tm,div_le_self→tu,mul_succ→tz,le_succ→Ai,div_dvd_of_dvd→Ap,gcd_comm→As,gcd_le_right→At,log2_lt→Iq,pow_succ→Ir,le_succ_of_le→Iu,mul_pos→Iy,mul_one→IA,eq_of_mul_eq_mul_left→P0,coprime_div_gcd_div_gcd→P3,mul_le_mul_left→P6,pos_iff_ne_zero→P7
open List renaming length_map→aB,mem_cons→aH,getElem?_eq_getElem→aJ,map_append→aM,getElem?_map→aQ,range→aR,getElem?_eq_some_iff→be,mem_map→bw,mem_append_right→bE,map_cons→bF,replicate→bK,lookup→bQ,mem_singleton→bR,size_toArray→bW,mem_cons_of_mem→b7,length_append→b8,length_cons→cb,mem_of_getElem?→ci,not_mem_nil→ck,mem_append→cx,length_take→cB,getElem?_append_left→cK,mem_range→cM,mem_cons_self→cN,getElem?_append_right→cO,take_length→c_,take_append_getElem→dm,length_nil→dE,replicate_succ→d0,foldl_cons→d5,find?_cons→d7,nodup_cons→eV,getElem_mem→eX,eq_nil_of_length_eq_zero→eY,dropLast_concat_getLast→eZ,length_range→e7,mem_append_left→fP,getElem?_range→fR,sum_cons→gi,range_succ→gl,map_nil→gW,nodup_nil→gX,foldl_append→gY,append_assoc→jK,length_singleton→jL,any_cons→jM,mem_flatMap→jO,map_congr_left→jP,append_nil→sW,flatten_cons→sX,forIn_nil→sZ,map_map→s_,sum_append→tj,mem_filter→Ah,length_replicate→Aj,lookup_cons→Ak,forIn_cons→Al,getElem_range→Am,cons_append→An,take_of_length_le→Au,filterMap_cons→Ij,mem_filterMap→Ik,of_mem_zip→Il,length→Io,nil_append→Ip,getElem?_cons_zero→Is,filter_cons→Iv,take_zero→IC,sum_nil→ID,getElem_of_mem→IE,getElem?_eq_none→IF,getElem?_set_self→PV,getElem?_set_ne→PX,getElem?_cons_succ→P4,replicate_zero→P5,getD_eq_getElem?_getD→P8,mem_of_mem_take→P9
open Option renaming map_eq_some_iff→cc,getD_some→dH,isSome_iff_exists→Im
open Int renaming natAbs_mul→cP,emod_nonneg→dc,toNat_natCast→dk,emod_lt_of_pos→dq,mul_assoc→dJ,natAbs_natCast→dN,zero_add→dP,mul_le_mul_of_nonneg_right→dQ,pow_succ→fQ,pow_zero→gj,one_mul→g8,natCast_mul→g_,toNat→hV,mul_comm→jQ,mul_one→sV,lt_or_le→Ao,add_mul→Aq,zero_mul→Ar,natAbs_pow→Av,mul_nonneg→Aw,toNat_of_nonneg→Ax,mul_fdiv_cancel_left→Iw,mul_nonpos_of_nonneg_of_nonpos→Ix,pow_add→Iz,eq_of_mul_eq_mul_right→IB,mul_ne_zero→IG,fdiv_eq_ediv_of_nonneg→PY,natAbs_dvd_natAbs→PZ
namespace My
open PySem PySem.Spec PyProof.Rows PySem.W
noncomputable def top (i:Nat):Stmt:=PySem.Challenge.pw_sumcraft_k54_frames_by_numbers.main.body.getD i (.Pass ⟨0,0,0,0⟩)
def ay (s:Stmt)(j:Nat):Stmt:=match s with
 | .ClassDef _ _ _ b _ _ _ _ _ _ _=>b.getD j (.Pass ⟨0,0,0,0⟩)
 | _=>.Pass ⟨0,0,0,0⟩
abbrev tD:Stmt:=top 6
abbrev tE:Stmt:=top 7
abbrev tF:Stmt:=top 8
abbrev tG:Stmt:=top 9
abbrev tH:Stmt:=top 14
abbrev tI:Stmt:=top 15
abbrev tJ:Stmt:=top 18
abbrev tK:Stmt:=top 19
abbrev tL:Stmt:=top 20
abbrev tM:Stmt:=top 21
abbrev tN:Stmt:=top 22
abbrev tO:Stmt:=top 23
abbrev tP:Stmt:=top 24
abbrev tQ:Stmt:=top 35
abbrev tR:Stmt:=top 36
abbrev tS:Stmt:=top 37
abbrev tT:Stmt:=top 38
abbrev tU:Stmt:=top 39
abbrev tV:Stmt:=top 42
abbrev tW:Stmt:=top 43
abbrev tX:Stmt:=top 44
abbrev tY:Stmt:=top 45
abbrev tZ:Stmt:=top 46
abbrev t6:Stmt:=top 47
abbrev t7:Stmt:=top 48
abbrev t8:Stmt:=top 49
abbrev t9:Stmt:=top 50
abbrev t_:Stmt:=top 51
abbrev ua:Stmt:=top 52
abbrev ub:Stmt:=top 53
abbrev uc:Stmt:=top 54
abbrev ue:Stmt:=top 55
abbrev uf:Stmt:=top 56
abbrev ug:Stmt:=top 57
abbrev uh:Stmt:=top 58
abbrev ui:Stmt:=top 59
abbrev uj:Stmt:=top 60
abbrev uk:Stmt:=top 61
abbrev ul:Stmt:=top 62
abbrev um:Stmt:=top 63
abbrev uo:Stmt:=top 64
abbrev uq:Stmt:=top 65
abbrev ur:Stmt:=ay (top 25) 1
abbrev ut:Stmt:=ay (top 25) 2
abbrev uv:Stmt:=ay (top 25) 3
abbrev uw:Stmt:=ay (top 25) 4
abbrev ux:Stmt:=ay (top 26) 0
abbrev uy:Stmt:=ay (top 26) 1
abbrev uz:Stmt:=ay (top 26) 2
abbrev uA:Stmt:=ay (top 26) 3
abbrev uB:Stmt:=ay (top 26) 4
abbrev uC:Stmt:=ay (top 26) 5
abbrev uD:Stmt:=ay (top 26) 6
abbrev uE:Stmt:=ay (top 27) 0
abbrev uF:Stmt:=ay (top 27) 1
abbrev uG:Stmt:=ay (top 27) 2
abbrev uH:Stmt:=ay (top 28) 0
abbrev uJ:Stmt:=ay (top 28) 1
abbrev uK:Stmt:=ay (top 28) 2
abbrev uL:Stmt:=ay (top 28) 3
abbrev uM:Stmt:=ay (top 28) 4
abbrev uN:Stmt:=ay (top 29) 0
abbrev uO:Stmt:=ay (top 29) 1
abbrev uP:Stmt:=ay (top 29) 2
abbrev uQ:Stmt:=ay (top 29) 3
abbrev uR:Stmt:=ay (top 40) 0
abbrev uS:Stmt:=ay (top 40) 2
abbrev uT:Stmt:=ay (top 40) 3
abbrev uU:Stmt:=ay (top 40) 4
noncomputable def kE (P:Params) (x:String) (n:Nat) (v:Value):DictEntry:=⟨PyData.keyHash P (Str.ofString x),.str (Str.ofString x) n,v⟩
noncomputable def kM (x q:Str) (s:Stmt) (m:Str) (k c:Nat):Obj:=match s with
 | .FunctionDef _ a b _ _ _ sc _ _ _=>⟨.type "function",none,.func (fnOf x q a b sc .none .none .none (.str m k) none (.ref c) .none),#[]⟩
 | _=>⟨.none,none,.plain,#[]⟩
def kN (x q:Str)(s:Stmt):Obj:=match s with
 | .FunctionDef _ a b _ _ _ sc _ _ _=>⟨.none,none,.func { name:=x,qualname:=q,params:=a,body:=.stmts b,scope:=sc,globals:=0,closure:=[],defaults:=.none,kwdefaults:=.none },#[]⟩
 | _=>⟨.none,none,.plain,#[]⟩
noncomputable def oT (x:Array Value):Obj:={ cls:=.type "tuple",data:=Data.seq x }
noncomputable def oF (x:Array Value):Obj:={ cls:=.none,data:=Data.fields x }
noncomputable def oK (x:Array Value):Obj:={ cls:=.type "code",data:=Data.fields x }
noncomputable def oB (x:Array Value):Obj:={ cls:=.type "builtin_function_or_method",data:=Data.fields x }
def cp (n:Nat):Value:=.str "/claim/cut.py" n
def hX:Obj:=oT #[]
def IH:Obj:=oF #[]
def h8:Obj:=oK #[.str "<module>" 182,.str "<module>" 183,cp 184,.int 1 0,.int 0 0,.int 0 0,.int 0 0,.int 0 0,.ref 11,.bool false,.int 181 0,.ref 12,.none,.none,.none,.none,.int 185 0,.int 1 0,cp 186]
def h9:Obj:={ cls:=.type "frame",slots:=#[some (.ref 13),some (.ref 3),some (.ref 3),none,some (.str "__main__" 164),none,some (.ref 0)] }
def ob3 (P:Params):Obj:={ cls:=.type "dict",data:=Data.dict #[kE P "__name__" 165 (.str "sumcraft.parts" 328),kE P "__doc__" 166 (.none),kE P "__package__" 167 (.none),kE P "__loader__" 168 (.builtin "__main__.__loader__#opaque"),kE P "__spec__" 169 (.none),kE P "__annotations__" 170 (.ref 6),kE P "__builtins__" 171 (.ref 4),kE P "__file__" 173 (cp 172),kE P "__cached__" 174 (.none),kE P "_wall" 193 (.ref 21),kE P "SumError" 213 (.ref 31),kE P "NoNumber" 229 (.ref 44),kE P "NoTerm" 245 (.ref 56),kE P "bare" 253 (.ref 63),kE P "pair_times" 267 (.ref 70),kE P "pair_of_form" 274 (.ref 77),kE P "pair_product" 283 (.ref 84),kE P "LONG" 287 (.int 4000 286),kE P "WINDOW" 289 (.int 300 288),kE P "shortened" 306 (.ref 91),kE P "divisor" 318 (.ref 98),kE P "ratio" 327 (.ref 105),kE P "FEW" 331 (.int 16 330),kE P "form_value" 340 (.ref 112),kE P "raised" 348 (.ref 119),kE P "raised_from" 354 (.ref 124),kE P "low_forms" 362 (.ref 131),kE P "power_of" 372 (.ref 138),kE P "run_product" 383 (.ref 145),kE P "choices" 392 (.ref 152),kE P "Part" 456 (.ref 197)] 31 }
def II:Obj:=oF #[.int 1 0,.int 0 0,.ref 20,.int 5 0,.int 0 0,.ref 27,.int 7 0,.int 0 0,.ref 40,.int 9 0,.int 0 0,.ref 52,.int 12 0,.int 0 0,.ref 62,.int 14 0,.int 0 0,.ref 69,.int 21 0,.int 0 0,.ref 76,.int 23 0,.int 0 0,.ref 83,.int 31 0,.int 0 0,.ref 90,.int 47 0,.int 0 0,.ref 97,.int 59 0,.int 0 0,.ref 104,.int 68 0,.int 0 0,.ref 111,.int 70 0,.int 0 0,.ref 118,.int 72 0,.int 0 0,.ref 123,.int 74 0,.int 0 0,.ref 130,.int 76 0,.int 0 0,.ref 137,.int 81 0,.int 0 0,.ref 144,.int 89 0,.int 0 0,.ref 151,.int 92 0,.int 0 0,.ref 158]
def jR:Obj:=oT #[]
def jS:Obj:=oF #[]
def jT:Obj:=oT #[.str "k" 190]
def jU:Obj:=oT #[]
def jV:Obj:=kN "_wall" "_wall" (top 0)
def jW:Obj:=oK #[.str "_wall" 187,.str "_wall" 188,cp 189,.int 1 0,.int 1 0,.int 0 0,.int 0 0,.int 3 0,.ref 15,.bool true,.int 181 0,.ref 16,.none,.ref 17,.ref 18,.ref 19,.int 191 0,.int 1 0,cp 192]
def jX:Obj:=kM "_wall" "_wall" (top 0) "__main__" 164 20
def jY:Obj:=oT #[.type "ValueError"]
def jZ:Obj:=oB #[.builtin "type.__prepare__",.type "type"]
def h_ (P:Params):Obj:={ cls:=.type "dict",data:=Data.dict #[kE P "__module__" 203 (.str "sumcraft.errors" 194),kE P "__qualname__" 205 (.str "SumError" 204),kE P "__firstlineno__" 207 (.int 5 206),kE P "__static_attributes__" 208 (.ref 29)] 4 }
def j0:Obj:=oT #[]
def j4:Obj:=oF #[]
def j5:Obj:=oK #[.str "SumError" 198,.str "SumError" 199,cp 200,.int 5 0,.int 0 0,.int 0 0,.int 0 0,.int 0 0,.ref 25,.bool false,.int 181 0,.ref 26,.none,.none,.none,.none,.int 201 0,.int 5 0,cp 202]
def j6:Obj:={ cls:=.type "frame",slots:=#[some (.ref 27),some (.ref 3),some (.ref 24),none,some (.str "sumcraft.errors" 194),none,some (.ref 0)] }
def j7:Obj:=oT #[]
def ia (P:Params):Obj:={ cls:=.type "dict",data:=Data.dict #[kE P "__module__" 203 (.str "sumcraft.errors" 194),kE P "__firstlineno__" 207 (.int 5 206),kE P "__static_attributes__" 208 (.ref 29),kE P "__weakref__" 210 (.ref 32),kE P "__doc__" 211 (.none)] 3 }
def ib:Obj:={ cls:=.type "type",data:=Data.cls { name := "SumError",bases:=[.type "ValueError"],mro:=[.ref 31,.type "ValueError",.type "Exception",.type "BaseException",.type "object"],ns:=30,qualname := "SumError",subclasses:=[.ref 44,.ref 56] },slots:=#[some (.ref 22),none,some (.str "SumError" 196),some (.str "SumError" 204),some (.builtin "ValueError.__new__"),some (.bool true)] }
def j8:Obj:={ cls:=.type "getset_descriptor",data:=Data.fields #[.str "__weakref__" 209,.ref 31,.builtin "ExceptionGroup.__weakref__",.none] }
def j9:Obj:={ cls:=.type "super",data:=Data.fields #[.ref 31,.ref 31,.ref 31] }
def j_:Obj:=oB #[.builtin "object.__init_subclass__",.ref 31]
def ka:Obj:=oT #[.ref 31]
def kb:Obj:=oB #[.builtin "type.__prepare__",.type "type"]
def ic (P:Params):Obj:={ cls:=.type "dict",data:=Data.dict #[kE P "__module__" 221 (.str "sumcraft.errors" 194),kE P "__qualname__" 223 (.str "NoNumber" 222),kE P "__firstlineno__" 225 (.int 7 224),kE P "__static_attributes__" 226 (.ref 42)] 4 }
def kc:Obj:=oT #[]
def kd:Obj:=oF #[]
def ke:Obj:=oK #[.str "NoNumber" 216,.str "NoNumber" 217,cp 218,.int 7 0,.int 0 0,.int 0 0,.int 0 0,.int 0 0,.ref 38,.bool false,.int 181 0,.ref 39,.none,.none,.none,.none,.int 219 0,.int 7 0,cp 220]
def kf:Obj:={ cls:=.type "frame",slots:=#[some (.ref 40),some (.ref 3),some (.ref 37),none,some (.str "sumcraft.errors" 194),none,some (.ref 0)] }
def kg:Obj:=oT #[]
def ie (P:Params):Obj:={ cls:=.type "dict",data:=Data.dict #[kE P "__module__" 221 (.str "sumcraft.errors" 194),kE P "__firstlineno__" 225 (.int 7 224),kE P "__static_attributes__" 226 (.ref 42),kE P "__doc__" 227 (.none)] 2 }
def ig:Obj:={ cls:=.type "type",data:=Data.cls { name := "NoNumber",bases:=[.ref 31],mro:=[.ref 44,.ref 31,.type "ValueError",.type "Exception",.type "BaseException",.type "object"],ns:=43,qualname := "NoNumber" },slots:=#[some (.ref 35),none,some (.str "NoNumber" 214),some (.str "NoNumber" 222),some (.builtin "ValueError.__new__"),some (.bool true)] }
def kh:Obj:={ cls:=.type "super",data:=Data.fields #[.ref 44,.ref 44,.ref 44] }
def kj:Obj:=oB #[.builtin "object.__init_subclass__",.ref 44]
def km:Obj:=oT #[.ref 31]
def ko:Obj:=oB #[.builtin "type.__prepare__",.type "type"]
def ik (P:Params):Obj:={ cls:=.type "dict",data:=Data.dict #[kE P "__module__" 237 (.str "sumcraft.errors" 194),kE P "__qualname__" 239 (.str "NoTerm" 238),kE P "__firstlineno__" 241 (.int 9 240),kE P "__static_attributes__" 242 (.ref 54)] 4 }
def kr:Obj:=oT #[]
def ku:Obj:=oF #[]
def ky:Obj:=oK #[.str "NoTerm" 232,.str "NoTerm" 233,cp 234,.int 9 0,.int 0 0,.int 0 0,.int 0 0,.int 0 0,.ref 50,.bool false,.int 181 0,.ref 51,.none,.none,.none,.none,.int 235 0,.int 9 0,cp 236]
def kA:Obj:={ cls:=.type "frame",slots:=#[some (.ref 52),some (.ref 3),some (.ref 49),none,some (.str "sumcraft.errors" 194),none,some (.ref 0)] }
def kB:Obj:=oT #[]
def im (P:Params):Obj:={ cls:=.type "dict",data:=Data.dict #[kE P "__module__" 237 (.str "sumcraft.errors" 194),kE P "__firstlineno__" 241 (.int 9 240),kE P "__static_attributes__" 242 (.ref 54),kE P "__doc__" 243 (.none)] 2 }
def io:Obj:={ cls:=.type "type",data:=Data.cls { name := "NoTerm",bases:=[.ref 31],mro:=[.ref 56,.ref 31,.type "ValueError",.type "Exception",.type "BaseException",.type "object"],ns:=55,qualname := "NoTerm" },slots:=#[some (.ref 47),none,some (.str "NoTerm" 230),some (.str "NoTerm" 238),some (.builtin "ValueError.__new__"),some (.bool true)] }
def kC:Obj:={ cls:=.type "super",data:=Data.fields #[.ref 56,.ref 56,.ref 56] }
def kF:Obj:=oB #[.builtin "object.__init_subclass__",.ref 56]
def kG:Obj:=oT #[]
def kH:Obj:=oF #[]
def kI:Obj:=kN "bare" "bare" (top 6)
def iq:Obj:=oK #[.str "bare" 248,.str "bare" 249,cp 250,.int 12 0,.int 1 0,.int 0 0,.int 0 0,.int 3 0,.ref 59,.bool true,.int 181 0,.ref 60,.none,.none,.none,.ref 61,.int 251 0,.int 12 0,cp 252]
def ir:Obj:=kM "bare" "bare" (top 6) "sumcraft.pairs" 246 62
def kJ:Obj:=oT #[]
def kK:Obj:=oF #[]
def kL:Obj:=oT #[.str "one" 257,.str "other" 258,.str "answer" 259,.str "low" 260,.str "number" 261,.str "high" 262,.str "factor" 263,.str "powers" 264]
def kO:Obj:=oT #[]
def kP:Obj:=kN "pair_times" "pair_times" (top 7)
def iu:Obj:=oK #[.str "pair_times" 254,.str "pair_times" 255,cp 256,.int 14 0,.int 2 0,.int 0 0,.int 0 0,.int 3 0,.ref 64,.bool true,.int 181 0,.ref 65,.none,.ref 66,.ref 67,.ref 68,.int 265 0,.int 14 0,cp 266]
def iw:Obj:=kM "pair_times" "pair_times" (top 7) "sumcraft.pairs" 246 69
def kQ:Obj:=oT #[]
def kR:Obj:=oF #[]
def kS:Obj:=oT #[.str "form" 271]
def kT:Obj:=oT #[]
def kU:Obj:=kN "pair_of_form" "pair_of_form" (top 8)
def ix:Obj:=oK #[.str "pair_of_form" 268,.str "pair_of_form" 269,cp 270,.int 21 0,.int 1 0,.int 0 0,.int 0 0,.int 3 0,.ref 71,.bool true,.int 181 0,.ref 72,.none,.ref 73,.ref 74,.ref 75,.int 272 0,.int 21 0,cp 273]
def iy:Obj:=kM "pair_of_form" "pair_of_form" (top 8) "sumcraft.pairs" 246 76
def kW:Obj:=oT #[]
def kX:Obj:=oF #[]
def kY:Obj:=oT #[.str "pairs" 278,.str "answer" 279,.str "pair" 280]
def kZ:Obj:=oT #[]
def k6:Obj:=kN "pair_product" "pair_product" (top 9)
def iz:Obj:=oK #[.str "pair_product" 275,.str "pair_product" 276,cp 277,.int 23 0,.int 1 0,.int 0 0,.int 0 0,.int 3 0,.ref 78,.bool true,.int 181 0,.ref 79,.none,.ref 80,.ref 81,.ref 82,.int 281 0,.int 23 0,cp 282]
def iA:Obj:=kM "pair_product" "pair_product" (top 9) "sumcraft.pairs" 246 83
def k7:Obj:=oT #[]
def k8:Obj:=oF #[]
def k9:Obj:=oT #[.str "big" 293,.str "small" 294,.str "cut" 295,.str "ahead" 296,.str "behind" 297,.str "half" 298,.str "upper" 299,.str "lower" 300,.str "times" 301,.str "rest" 302,.str "further" 303]
def k_:Obj:=oT #[]
def lc:Obj:=kN "shortened" "shortened" (top 13)
def lh:Obj:=oK #[.str "shortened" 290,.str "shortened" 291,cp 292,.int 31 0,.int 2 0,.int 0 0,.int 0 0,.int 3 0,.ref 85,.bool true,.int 181 0,.ref 86,.none,.ref 87,.ref 88,.ref 89,.int 304 0,.int 31 0,cp 305]
def lj:Obj:=kM "shortened" "shortened" (top 13) "sumcraft.ratios" 284 90
def ll:Obj:=oT #[]
def lu:Obj:=oF #[]
def lv:Obj:=oT #[.str "one" 310,.str "other" 311,.str "big" 312,.str "small" 313,.str "pair" 314,.str "rest" 315]
def lw:Obj:=oT #[]
def lx:Obj:=kN "divisor" "divisor" (top 14)
def iB:Obj:=oK #[.str "divisor" 307,.str "divisor" 308,cp 309,.int 47 0,.int 2 0,.int 0 0,.int 0 0,.int 3 0,.ref 92,.bool true,.int 181 0,.ref 93,.none,.ref 94,.ref 95,.ref 96,.int 316 0,.int 47 0,cp 317]
def iC:Obj:=kM "divisor" "divisor" (top 14) "sumcraft.ratios" 284 97
def lD:Obj:=oT #[]
def lE:Obj:=oF #[]
def lF:Obj:=oT #[.str "top" 322,.str "bottom" 323,.str "shared" 324]
def lG:Obj:=oT #[]
def lH:Obj:=kN "ratio" "ratio" (top 15)
def iD:Obj:=oK #[.str "ratio" 319,.str "ratio" 320,cp 321,.int 59 0,.int 2 0,.int 0 0,.int 0 0,.int 3 0,.ref 99,.bool true,.int 181 0,.ref 100,.none,.ref 101,.ref 102,.ref 103,.int 325 0,.int 59 0,cp 326]
def iE:Obj:=kM "ratio" "ratio" (top 15) "sumcraft.ratios" 284 104
def lI:Obj:=oT #[]
def lJ:Obj:=oF #[]
def lK:Obj:=oT #[.str "form" 335,.str "n" 336,.str "k" 337]
def lL:Obj:=oT #[]
def lM:Obj:=kN "form_value" "form_value" (top 18)
def iF:Obj:=oK #[.str "form_value" 332,.str "form_value" 333,cp 334,.int 68 0,.int 3 0,.int 0 0,.int 0 0,.int 3 0,.ref 106,.bool true,.int 181 0,.ref 107,.none,.ref 108,.ref 109,.ref 110,.int 338 0,.int 68 0,cp 339]
def iG:Obj:=kM "form_value" "form_value" (top 18) "sumcraft.parts" 328 111
def lN:Obj:=oT #[]
def lO:Obj:=oF #[]
def lP:Obj:=oT #[.str "form" 344,.str "by" 345]
def lQ:Obj:=oT #[]
def lR:Obj:=kN "raised" "raised" (top 19)
def iH:Obj:=oK #[.str "raised" 341,.str "raised" 342,cp 343,.int 70 0,.int 2 0,.int 0 0,.int 0 0,.int 3 0,.ref 113,.bool true,.int 181 0,.ref 114,.none,.ref 115,.ref 116,.ref 117,.int 346 0,.int 70 0,cp 347]
def iI:Obj:=kM "raised" "raised" (top 19) "sumcraft.parts" 328 118
def lS:Obj:=oT #[]
def lT:Obj:=oF #[]
def lU:Obj:=kN "raised_from" "raised_from" (top 20)
def iJ:Obj:=oK #[.str "raised_from" 349,.str "raised_from" 350,cp 351,.int 72 0,.int 3 0,.int 0 0,.int 0 0,.int 3 0,.ref 120,.bool true,.int 181 0,.ref 121,.none,.none,.none,.ref 122,.int 352 0,.int 72 0,cp 353]
def iK:Obj:=kM "raised_from" "raised_from" (top 20) "sumcraft.parts" 328 123
def lV:Obj:=oT #[]
def lW:Obj:=oF #[]
def lY:Obj:=oT #[.str "upper" 358,.str "lower" 359]
def lZ:Obj:=oT #[]
def l5:Obj:=kN "low_forms" "low_forms" (top 21)
def iL:Obj:=oK #[.str "low_forms" 355,.str "low_forms" 356,cp 357,.int 74 0,.int 2 0,.int 0 0,.int 0 0,.int 3 0,.ref 125,.bool true,.int 181 0,.ref 126,.none,.ref 127,.ref 128,.ref 129,.int 360 0,.int 74 0,cp 361]
def iM:Obj:=kM "low_forms" "low_forms" (top 21) "sumcraft.parts" 328 130
def l7:Obj:=oT #[]
def l8:Obj:=oF #[]
def l9:Obj:=oT #[.str "number" 366,.str "exponent" 367,.str "answer" 368,.str "step" 369]
def l_:Obj:=oT #[]
def md:Obj:=kN "power_of" "power_of" (top 22)
def iN:Obj:=oK #[.str "power_of" 363,.str "power_of" 364,cp 365,.int 76 0,.int 2 0,.int 0 0,.int 0 0,.int 3 0,.ref 132,.bool true,.int 181 0,.ref 133,.none,.ref 134,.ref 135,.ref 136,.int 370 0,.int 76 0,cp 371]
def iO:Obj:=kM "power_of" "power_of" (top 22) "sumcraft.parts" 328 137
def me:Obj:=oT #[]
def mf:Obj:=oF #[]
def mh:Obj:=oT #[.str "low" 376,.str "high" 377,.str "answer" 378,.str "number" 379,.str "middle" 380]
def mj:Obj:=oT #[]
def ml:Obj:=kN "run_product" "run_product" (top 23)
def iP:Obj:=oK #[.str "run_product" 373,.str "run_product" 374,cp 375,.int 81 0,.int 2 0,.int 0 0,.int 0 0,.int 3 0,.ref 139,.bool true,.int 181 0,.ref 140,.none,.ref 141,.ref 142,.ref 143,.int 381 0,.int 81 0,cp 382]
def iQ:Obj:=kM "run_product" "run_product" (top 23) "sumcraft.parts" 328 144
def mm:Obj:=oT #[]
def mn:Obj:=oF #[]
def mo:Obj:=oT #[.str "one" 387,.str "other" 388,.str "few" 389]
def mq:Obj:=oT #[]
def mr:Obj:=kN "choices" "choices" (top 24)
def iR:Obj:=oK #[.str "choices" 384,.str "choices" 385,cp 386,.int 89 0,.int 2 0,.int 0 0,.int 0 0,.int 3 0,.ref 146,.bool true,.int 181 0,.ref 147,.none,.ref 148,.ref 149,.ref 150,.int 390 0,.int 89 0,cp 391]
def iS:Obj:=kM "choices" "choices" (top 24) "sumcraft.parts" 328 151
def ms:Obj:=oT #[]
def mv:Obj:=oB #[.builtin "type.__prepare__",.type "type"]
def iT (P:Params):Obj:={ cls:=.type "dict",data:=Data.dict #[kE P "__module__" 400 (.str "sumcraft.parts" 328),kE P "__qualname__" 402 (.str "Part" 401),kE P "__firstlineno__" 404 (.int 92 403),kE P "worth" 413 (.ref 166),kE P "step" 422 (.ref 173),kE P "up" 430 (.ref 180),kE P "down" 438 (.ref 187),kE P "floor" 448 (.ref 194),kE P "__static_attributes__" 449 (.ref 195)] 9 }
def mw:Obj:=oT #[]
def mC:Obj:=oF #[.int 94 0,.int 4 0,.ref 165,.int 97 0,.int 4 0,.ref 172,.int 100 0,.int 4 0,.ref 179,.int 103 0,.int 4 0,.ref 186,.int 106 0,.int 4 0,.ref 193]
def mD:Obj:=oK #[.str "Part" 395,.str "Part" 396,cp 397,.int 92 0,.int 0 0,.int 0 0,.int 0 0,.int 0 0,.ref 156,.bool false,.int 181 0,.ref 157,.none,.none,.none,.none,.int 398 0,.int 92 0,cp 399]
def mE:Obj:={ cls:=.type "frame",slots:=#[some (.ref 158),some (.ref 3),some (.ref 155),none,some (.str "sumcraft.parts" 328),none,some (.ref 0)] }
def mF:Obj:=oT #[]
def mG:Obj:=oF #[]
def mH:Obj:=oT #[.str "self" 408,.str "n" 409,.str "k" 410]
def mI:Obj:=oT #[]
def mJ:Obj:=kN "worth" "Part.worth" (ay (top 25) 0)
def mK:Obj:=oK #[.str "worth" 405,.str "Part.worth" 406,cp 407,.int 94 0,.int 3 0,.int 0 0,.int 0 0,.int 3 0,.ref 160,.bool true,.int 181 0,.ref 161,.none,.ref 162,.ref 163,.ref 164,.int 411 0,.int 94 0,cp 412]
def mL:Obj:=kM "worth" "Part.worth" (ay (top 25) 0) "sumcraft.parts" 328 165
def mM:Obj:=oT #[]
def mO:Obj:=oF #[]
def mP:Obj:=oT #[.str "self" 417,.str "i" 418,.str "far" 419]
def mQ:Obj:=oT #[]
def mR:Obj:=kN "step" "Part.step" (ay (top 25) 1)
def iU:Obj:=oK #[.str "step" 414,.str "Part.step" 415,cp 416,.int 97 0,.int 3 0,.int 0 0,.int 0 0,.int 3 0,.ref 167,.bool true,.int 181 0,.ref 168,.none,.ref 169,.ref 170,.ref 171,.int 420 0,.int 97 0,cp 421]
def iV:Obj:=kM "step" "Part.step" (ay (top 25) 1) "sumcraft.parts" 328 172
def mS:Obj:=oT #[]
def mT:Obj:=oF #[]
def mU:Obj:=oT #[.str "self" 426,.str "far" 427]
def mV:Obj:=oT #[]
def mW:Obj:=kN "up" "Part.up" (ay (top 25) 2)
def iW:Obj:=oK #[.str "up" 423,.str "Part.up" 424,cp 425,.int 100 0,.int 2 0,.int 0 0,.int 0 0,.int 3 0,.ref 174,.bool true,.int 181 0,.ref 175,.none,.ref 176,.ref 177,.ref 178,.int 428 0,.int 100 0,cp 429]
def iX:Obj:=kM "up" "Part.up" (ay (top 25) 2) "sumcraft.parts" 328 179
def mX:Obj:=oT #[]
def mY:Obj:=oF #[]
def mZ:Obj:=oT #[.str "self" 434,.str "far" 435]
def m5:Obj:=oT #[]
def m7:Obj:=kN "down" "Part.down" (ay (top 25) 3)
def iY:Obj:=oK #[.str "down" 431,.str "Part.down" 432,cp 433,.int 103 0,.int 2 0,.int 0 0,.int 0 0,.int 3 0,.ref 181,.bool true,.int 181 0,.ref 182,.none,.ref 183,.ref 184,.ref 185,.int 436 0,.int 103 0,cp 437]
def iZ:Obj:=kM "down" "Part.down" (ay (top 25) 3) "sumcraft.parts" 328 186
def m8:Obj:=oT #[]
def m9:Obj:=oF #[]
def m_:Obj:=oT #[.str "self" 442,.str "n" 443,.str "k" 444,.str "far" 445]
def ng:Obj:=oT #[]
def nh:Obj:=kN "floor" "Part.floor" (ay (top 25) 4)
def i4:Obj:=oK #[.str "floor" 439,.str "Part.floor" 440,cp 441,.int 106 0,.int 4 0,.int 0 0,.int 0 0,.int 3 0,.ref 188,.bool true,.int 181 0,.ref 189,.none,.ref 190,.ref 191,.ref 192,.int 446 0,.int 106 0,cp 447]
def i5:Obj:=kM "floor" "Part.floor" (ay (top 25) 4) "sumcraft.parts" 328 193
def nj:Obj:=oT #[]
def i7 (P:Params):Obj:={ cls:=.type "dict",data:=Data.dict #[kE P "__module__" 400 (.str "sumcraft.parts" 328),kE P "__firstlineno__" 404 (.int 92 403),kE P "worth" 413 (.ref 166),kE P "step" 422 (.ref 173),kE P "up" 430 (.ref 180),kE P "down" 438 (.ref 187),kE P "floor" 448 (.ref 194),kE P "__static_attributes__" 449 (.ref 195),kE P "__dict__" 451 (.ref 198),kE P "__weakref__" 453 (.ref 199),kE P "__doc__" 454 (.none)] 4 }
def IJ:Obj:={ cls:=.type "type",data:=Data.cls { name := "Part",bases:=[.type "object"],mro:=[.ref 197,.type "object"],ns:=196,qualname := "Part" },slots:=#[none,none,some (.str "Part" 393),some (.str "Part" 401),some (.builtin "object.__new__"),some (.bool true)] }
def nk:Obj:={ cls:=.type "getset_descriptor",data:=Data.fields #[.str "__dict__" 450,.ref 197,.builtin "function.__dict__",.builtin "function.__dict__#set"] }
def nv:Obj:={ cls:=.type "getset_descriptor",data:=Data.fields #[.str "__weakref__" 452,.ref 197,.builtin "ExceptionGroup.__weakref__",.none] }
def nw:Obj:={ cls:=.type "super",data:=Data.fields #[.ref 197,.ref 197,.ref 197] }
def ny:Obj:=oB #[.builtin "object.__init_subclass__",.ref 197]
def IK (P:Params):Obj:={ cls:=.type "dict",data:=Data.dict #[kE P "__name__" 165 (.str "sumcraft.parts" 328),kE P "__doc__" 166 (.none),kE P "__package__" 167 (.none),kE P "__loader__" 168 (.builtin "__main__.__loader__#opaque"),kE P "__spec__" 169 (.none),kE P "__annotations__" 170 (.ref 6),kE P "__builtins__" 171 (.ref 4),kE P "__file__" 173 (cp 172),kE P "__cached__" 174 (.none),kE P "_wall" 193 (.ref 21),kE P "SumError" 213 (.ref 31),kE P "NoNumber" 229 (.ref 44),kE P "NoTerm" 245 (.ref 56),kE P "bare" 253 (.ref 63),kE P "pair_times" 267 (.ref 70),kE P "pair_of_form" 274 (.ref 77),kE P "pair_product" 283 (.ref 84),kE P "LONG" 287 (.int 4000 286),kE P "WINDOW" 289 (.int 300 288),kE P "shortened" 306 (.ref 91),kE P "divisor" 318 (.ref 98),kE P "ratio" 327 (.ref 105),kE P "FEW" 331 (.int 16 330),kE P "form_value" 340 (.ref 112),kE P "raised" 348 (.ref 119),kE P "raised_from" 354 (.ref 124),kE P "low_forms" 362 (.ref 131),kE P "power_of" 372 (.ref 138),kE P "run_product" 383 (.ref 145),kE P "choices" 392 (.ref 152),kE P "Part" 456 (.ref 197),kE P "Choose" 535 (.ref 256),kE P "Weight" 578 (.ref 289),kE P "Power" 638 (.ref 336),kE P "Growth" 691 (.ref 376)] 35 }
def IL:Obj:=oF #[.int 1 0,.int 0 0,.ref 20,.int 5 0,.int 0 0,.ref 27,.int 7 0,.int 0 0,.ref 40,.int 9 0,.int 0 0,.ref 52,.int 12 0,.int 0 0,.ref 62,.int 14 0,.int 0 0,.ref 69,.int 21 0,.int 0 0,.ref 76,.int 23 0,.int 0 0,.ref 83,.int 31 0,.int 0 0,.ref 90,.int 47 0,.int 0 0,.ref 97,.int 59 0,.int 0 0,.ref 104,.int 68 0,.int 0 0,.ref 111,.int 70 0,.int 0 0,.ref 118,.int 72 0,.int 0 0,.ref 123,.int 74 0,.int 0 0,.ref 130,.int 76 0,.int 0 0,.ref 137,.int 81 0,.int 0 0,.ref 144,.int 89 0,.int 0 0,.ref 151,.int 92 0,.int 0 0,.ref 158,.int 108 0,.int 0 0,.ref 207,.int 144 0,.int 0 0,.ref 264,.int 154 0,.int 0 0,.ref 297,.int 170 0,.int 0 0,.ref 344]
def nA:Obj:={ cls:=.type "type",data:=Data.cls { name := "Part",bases:=[.type "object"],mro:=[.ref 197,.type "object"],ns:=196,qualname := "Part",subclasses:=[.ref 256,.ref 289,.ref 336,.ref 376] },slots:=#[none,none,some (.str "Part" 393),some (.str "Part" 401),some (.builtin "object.__new__"),some (.bool true)] }
def uV:Obj:=oT #[.ref 197]
def uW:Obj:=oB #[.builtin "type.__prepare__",.type "type"]
def nE (P:Params):Obj:={ cls:=.type "dict",data:=Data.dict #[kE P "__module__" 464 (.str "sumcraft.parts" 328),kE P "__qualname__" 466 (.str "Choose" 465),kE P "__firstlineno__" 468 (.int 108 467),kE P "__init__" 477 (.ref 215),kE P "lifted" 483 (.ref 220),kE P "worth" 492 (.ref 227),kE P "step" 503 (.ref 234),kE P "up" 513 (.ref 241),kE P "down" 523 (.ref 248),kE P "floor" 529 (.ref 253),kE P "__static_attributes__" 532 (.ref 254)] 11 }
def uX:Obj:=oT #[]
def uY:Obj:=oF #[.int 110 0,.int 4 0,.ref 214,.int 114 0,.int 4 0,.ref 219,.int 117 0,.int 4 0,.ref 226,.int 120 0,.int 4 0,.ref 233,.int 126 0,.int 4 0,.ref 240,.int 132 0,.int 4 0,.ref 247,.int 138 0,.int 4 0,.ref 252]
def uZ:Obj:=oK #[.str "Choose" 459,.str "Choose" 460,cp 461,.int 108 0,.int 0 0,.int 0 0,.int 0 0,.int 0 0,.ref 205,.bool false,.int 181 0,.ref 206,.none,.none,.none,.none,.int 462 0,.int 108 0,cp 463]
def u6:Obj:={ cls:=.type "frame",slots:=#[some (.ref 207),some (.ref 3),some (.ref 204),none,some (.str "sumcraft.parts" 328),none,some (.ref 0)] }
def u8:Obj:=oT #[]
def u9:Obj:=oF #[]
def u_:Obj:=oT #[.str "self" 472,.str "upper" 473,.str "lower" 474]
def va:Obj:=oT #[]
def vc:Obj:=kN "__init__" "Choose.__init__" (ay (top 26) 0)
def nH:Obj:=oK #[.str "__init__" 469,.str "Choose.__init__" 470,cp 471,.int 110 0,.int 3 0,.int 0 0,.int 0 0,.int 3 0,.ref 209,.bool true,.int 181 0,.ref 210,.none,.ref 211,.ref 212,.ref 213,.int 475 0,.int 110 0,cp 476]
def nI:Obj:=kM "__init__" "Choose.__init__" (ay (top 26) 0) "sumcraft.parts" 328 214
def vd:Obj:=oT #[]
def ve:Obj:=oF #[]
def vf:Obj:=kN "lifted" "Choose.lifted" (ay (top 26) 1)
def nJ:Obj:=oK #[.str "lifted" 478,.str "Choose.lifted" 479,cp 480,.int 114 0,.int 2 0,.int 0 0,.int 0 0,.int 3 0,.ref 216,.bool true,.int 181 0,.ref 217,.none,.none,.none,.ref 218,.int 481 0,.int 114 0,cp 482]
def nK:Obj:=kM "lifted" "Choose.lifted" (ay (top 26) 1) "sumcraft.parts" 328 219
def vg:Obj:=oT #[]
def vh:Obj:=oF #[]
def vi:Obj:=oT #[.str "self" 487,.str "n" 488,.str "k" 489]
def vj:Obj:=oT #[]
def vk:Obj:=kN "worth" "Choose.worth" (ay (top 26) 2)
def nO:Obj:=oK #[.str "worth" 484,.str "Choose.worth" 485,cp 486,.int 117 0,.int 3 0,.int 0 0,.int 0 0,.int 3 0,.ref 221,.bool true,.int 181 0,.ref 222,.none,.ref 223,.ref 224,.ref 225,.int 490 0,.int 117 0,cp 491]
def nP:Obj:=kM "worth" "Choose.worth" (ay (top 26) 2) "sumcraft.parts" 328 226
def vm:Obj:=oT #[]
def vn:Obj:=oF #[]
def vo:Obj:=oT #[.str "self" 496,.str "i" 497,.str "far" 498,.str "factors" 499,.str "low" 500]
def vp:Obj:=oT #[]
def vq:Obj:=kN "step" "Choose.step" (ay (top 26) 3)
def nQ:Obj:=oK #[.str "step" 493,.str "Choose.step" 494,cp 495,.int 120 0,.int 3 0,.int 0 0,.int 0 0,.int 3 0,.ref 228,.bool true,.int 181 0,.ref 229,.none,.ref 230,.ref 231,.ref 232,.int 501 0,.int 120 0,cp 502]
def nR:Obj:=kM "step" "Choose.step" (ay (top 26) 3) "sumcraft.parts" 328 233
def vt:Obj:=oT #[]
def vv:Obj:=oF #[]
def vw:Obj:=oT #[.str "self" 507,.str "far" 508,.str "factors" 509,.str "low" 510]
def vx:Obj:=oT #[]
def vy:Obj:=kN "up" "Choose.up" (ay (top 26) 4)
def nT:Obj:=oK #[.str "up" 504,.str "Choose.up" 505,cp 506,.int 126 0,.int 2 0,.int 0 0,.int 0 0,.int 3 0,.ref 235,.bool true,.int 181 0,.ref 236,.none,.ref 237,.ref 238,.ref 239,.int 511 0,.int 126 0,cp 512]
def nV:Obj:=kM "up" "Choose.up" (ay (top 26) 4) "sumcraft.parts" 328 240
def vz:Obj:=oT #[]
def vA:Obj:=oF #[]
def vB:Obj:=oT #[.str "self" 517,.str "far" 518,.str "factors" 519,.str "low" 520]
def vC:Obj:=oT #[]
def vD:Obj:=kN "down" "Choose.down" (ay (top 26) 5)
def nX:Obj:=oK #[.str "down" 514,.str "Choose.down" 515,cp 516,.int 132 0,.int 2 0,.int 0 0,.int 0 0,.int 3 0,.ref 242,.bool true,.int 181 0,.ref 243,.none,.ref 244,.ref 245,.ref 246,.int 521 0,.int 132 0,cp 522]
def nY:Obj:=kM "down" "Choose.down" (ay (top 26) 5) "sumcraft.parts" 328 247
def vE:Obj:=oT #[]
def vF:Obj:=oF #[]
def vG:Obj:=kN "floor" "Choose.floor" (ay (top 26) 6)
def nZ:Obj:=oK #[.str "floor" 524,.str "Choose.floor" 525,cp 526,.int 138 0,.int 4 0,.int 0 0,.int 0 0,.int 3 0,.ref 249,.bool true,.int 181 0,.ref 250,.none,.none,.none,.ref 251,.int 527 0,.int 138 0,cp 528]
def n6:Obj:=kM "floor" "Choose.floor" (ay (top 26) 6) "sumcraft.parts" 328 252
def vH:Obj:=oT #[.str "above" 530,.str "lows" 531]
def n8 (P:Params):Obj:={ cls:=.type "dict",data:=Data.dict #[kE P "__module__" 464 (.str "sumcraft.parts" 328),kE P "__firstlineno__" 468 (.int 108 467),kE P "__init__" 477 (.ref 215),kE P "lifted" 483 (.ref 220),kE P "worth" 492 (.ref 227),kE P "step" 503 (.ref 234),kE P "up" 513 (.ref 241),kE P "down" 523 (.ref 248),kE P "floor" 529 (.ref 253),kE P "__static_attributes__" 532 (.ref 254),kE P "__doc__" 533 (.none)] 2 }
def n_:Obj:={ cls:=.type "type",data:=Data.cls { name := "Choose",bases:=[.ref 197],mro:=[.ref 256,.ref 197,.type "object"],ns:=255,qualname := "Choose" },slots:=#[some (.ref 202),none,some (.str "Choose" 457),some (.str "Choose" 465),some (.builtin "object.__new__"),some (.bool true)] }
def vI:Obj:={ cls:=.type "super",data:=Data.fields #[.ref 256,.ref 256,.ref 256] }
def vJ:Obj:=oB #[.builtin "object.__init_subclass__",.ref 256]
def vK:Obj:=oT #[.ref 197]
def vL:Obj:=oB #[.builtin "type.__prepare__",.type "type"]
def og (P:Params):Obj:={ cls:=.type "dict",data:=Data.dict #[kE P "__module__" 543 (.str "sumcraft.parts" 328),kE P "__qualname__" 545 (.str "Weight" 544),kE P "__firstlineno__" 547 (.int 144 546),kE P "__init__" 555 (.ref 272),kE P "worth" 564 (.ref 279),kE P "step" 573 (.ref 286),kE P "__static_attributes__" 575 (.ref 287)] 7 }
def vM:Obj:=oT #[]
def vN:Obj:=oF #[.int 146 0,.int 4 0,.ref 271,.int 149 0,.int 4 0,.ref 278,.int 152 0,.int 4 0,.ref 285]
def vO:Obj:=oK #[.str "Weight" 538,.str "Weight" 539,cp 540,.int 144 0,.int 0 0,.int 0 0,.int 0 0,.int 0 0,.ref 262,.bool false,.int 181 0,.ref 263,.none,.none,.none,.none,.int 541 0,.int 144 0,cp 542]
def vP:Obj:={ cls:=.type "frame",slots:=#[some (.ref 264),some (.ref 3),some (.ref 261),none,some (.str "sumcraft.parts" 328),none,some (.ref 0)] }
def vQ:Obj:=oT #[]
def vR:Obj:=oF #[]
def vS:Obj:=oT #[.str "self" 551,.str "form" 552]
def vT:Obj:=oT #[]
def vU:Obj:=kN "__init__" "Weight.__init__" (ay (top 27) 0)
def oh:Obj:=oK #[.str "__init__" 548,.str "Weight.__init__" 549,cp 550,.int 146 0,.int 2 0,.int 0 0,.int 0 0,.int 3 0,.ref 266,.bool true,.int 181 0,.ref 267,.none,.ref 268,.ref 269,.ref 270,.int 553 0,.int 146 0,cp 554]
def oj:Obj:=kM "__init__" "Weight.__init__" (ay (top 27) 0) "sumcraft.parts" 328 271
def vV:Obj:=oT #[]
def vW:Obj:=oF #[]
def vX:Obj:=oT #[.str "self" 559,.str "n" 560,.str "k" 561]
def vY:Obj:=oT #[]
def vZ:Obj:=kN "worth" "Weight.worth" (ay (top 27) 1)
def om:Obj:=oK #[.str "worth" 556,.str "Weight.worth" 557,cp 558,.int 149 0,.int 3 0,.int 0 0,.int 0 0,.int 3 0,.ref 273,.bool true,.int 181 0,.ref 274,.none,.ref 275,.ref 276,.ref 277,.int 562 0,.int 149 0,cp 563]
def oo:Obj:=kM "worth" "Weight.worth" (ay (top 27) 1) "sumcraft.parts" 328 278
def v0:Obj:=oT #[]
def v4:Obj:=oF #[]
def v5:Obj:=oT #[.str "self" 568,.str "i" 569,.str "far" 570]
def v6:Obj:=oT #[]
def v7:Obj:=kN "step" "Weight.step" (ay (top 27) 2)
def oq:Obj:=oK #[.str "step" 565,.str "Weight.step" 566,cp 567,.int 152 0,.int 3 0,.int 0 0,.int 0 0,.int 3 0,.ref 280,.bool true,.int 181 0,.ref 281,.none,.ref 282,.ref 283,.ref 284,.int 571 0,.int 152 0,cp 572]
def ou:Obj:=kM "step" "Weight.step" (ay (top 27) 2) "sumcraft.parts" 328 285
def v8:Obj:=oT #[.str "form" 574]
def ow (P:Params):Obj:={ cls:=.type "dict",data:=Data.dict #[kE P "__module__" 543 (.str "sumcraft.parts" 328),kE P "__firstlineno__" 547 (.int 144 546),kE P "__init__" 555 (.ref 272),kE P "worth" 564 (.ref 279),kE P "step" 573 (.ref 286),kE P "__static_attributes__" 575 (.ref 287),kE P "__doc__" 576 (.none)] 2 }
def ox:Obj:={ cls:=.type "type",data:=Data.cls { name := "Weight",bases:=[.ref 197],mro:=[.ref 289,.ref 197,.type "object"],ns:=288,qualname := "Weight" },slots:=#[some (.ref 259),none,some (.str "Weight" 536),some (.str "Weight" 544),some (.builtin "object.__new__"),some (.bool true)] }
def v9:Obj:={ cls:=.type "super",data:=Data.fields #[.ref 289,.ref 289,.ref 289] }
def v_:Obj:=oB #[.builtin "object.__init_subclass__",.ref 289]
def wa:Obj:=oT #[.ref 197]
def wb:Obj:=oB #[.builtin "type.__prepare__",.type "type"]
def oy (P:Params):Obj:={ cls:=.type "dict",data:=Data.dict #[kE P "__module__" 586 (.str "sumcraft.parts" 328),kE P "__qualname__" 588 (.str "Power" 587),kE P "__firstlineno__" 590 (.int 154 589),kE P "__init__" 598 (.ref 305),kE P "worth" 607 (.ref 312),kE P "up" 615 (.ref 319),kE P "down" 623 (.ref 326),kE P "floor" 633 (.ref 333),kE P "__static_attributes__" 635 (.ref 334)] 9 }
def wc:Obj:=oT #[]
def wd:Obj:=oF #[.int 156 0,.int 4 0,.ref 304,.int 159 0,.int 4 0,.ref 311,.int 162 0,.int 4 0,.ref 318,.int 165 0,.int 4 0,.ref 325,.int 168 0,.int 4 0,.ref 332]
def we:Obj:=oK #[.str "Power" 581,.str "Power" 582,cp 583,.int 154 0,.int 0 0,.int 0 0,.int 0 0,.int 0 0,.ref 295,.bool false,.int 181 0,.ref 296,.none,.none,.none,.none,.int 584 0,.int 154 0,cp 585]
def wf:Obj:={ cls:=.type "frame",slots:=#[some (.ref 297),some (.ref 3),some (.ref 294),none,some (.str "sumcraft.parts" 328),none,some (.ref 0)] }
def wg:Obj:=oT #[]
def wj:Obj:=oF #[]
def wk:Obj:=oT #[.str "self" 594,.str "fraction" 595]
def wl:Obj:=oT #[]
def wm:Obj:=kN "__init__" "Power.__init__" (ay (top 28) 0)
def oz:Obj:=oK #[.str "__init__" 591,.str "Power.__init__" 592,cp 593,.int 156 0,.int 2 0,.int 0 0,.int 0 0,.int 3 0,.ref 299,.bool true,.int 181 0,.ref 300,.none,.ref 301,.ref 302,.ref 303,.int 596 0,.int 156 0,cp 597]
def oA:Obj:=kM "__init__" "Power.__init__" (ay (top 28) 0) "sumcraft.parts" 328 304
def wn:Obj:=oT #[]
def wo:Obj:=oF #[]
def wp:Obj:=oT #[.str "self" 602,.str "n" 603,.str "k" 604]
def wq:Obj:=oT #[]
def wt:Obj:=kN "worth" "Power.worth" (ay (top 28) 1)
def oC:Obj:=oK #[.str "worth" 599,.str "Power.worth" 600,cp 601,.int 159 0,.int 3 0,.int 0 0,.int 0 0,.int 3 0,.ref 306,.bool true,.int 181 0,.ref 307,.none,.ref 308,.ref 309,.ref 310,.int 605 0,.int 159 0,cp 606]
def oE:Obj:=kM "worth" "Power.worth" (ay (top 28) 1) "sumcraft.parts" 328 311
def wu:Obj:=oT #[]
def wv:Obj:=oF #[]
def ww:Obj:=oT #[.str "self" 611,.str "far" 612]
def wx:Obj:=oT #[]
def wz:Obj:=kN "up" "Power.up" (ay (top 28) 2)
def oG:Obj:=oK #[.str "up" 608,.str "Power.up" 609,cp 610,.int 162 0,.int 2 0,.int 0 0,.int 0 0,.int 3 0,.ref 313,.bool true,.int 181 0,.ref 314,.none,.ref 315,.ref 316,.ref 317,.int 613 0,.int 162 0,cp 614]
def oH:Obj:=kM "up" "Power.up" (ay (top 28) 2) "sumcraft.parts" 328 318
def wA:Obj:=oT #[]
def wB:Obj:=oF #[]
def wC:Obj:=oT #[.str "self" 619,.str "far" 620]
def wD:Obj:=oT #[]
def wE:Obj:=kN "down" "Power.down" (ay (top 28) 3)
def oI:Obj:=oK #[.str "down" 616,.str "Power.down" 617,cp 618,.int 165 0,.int 2 0,.int 0 0,.int 0 0,.int 3 0,.ref 320,.bool true,.int 181 0,.ref 321,.none,.ref 322,.ref 323,.ref 324,.int 621 0,.int 165 0,cp 622]
def oJ:Obj:=kM "down" "Power.down" (ay (top 28) 3) "sumcraft.parts" 328 325
def wF:Obj:=oT #[]
def wG:Obj:=oF #[]
def wH:Obj:=oT #[.str "self" 627,.str "n" 628,.str "k" 629,.str "far" 630]
def wI:Obj:=oT #[]
def wJ:Obj:=kN "floor" "Power.floor" (ay (top 28) 4)
def oM:Obj:=oK #[.str "floor" 624,.str "Power.floor" 625,cp 626,.int 168 0,.int 4 0,.int 0 0,.int 0 0,.int 3 0,.ref 327,.bool true,.int 181 0,.ref 328,.none,.ref 329,.ref 330,.ref 331,.int 631 0,.int 168 0,cp 632]
def oN:Obj:=kM "floor" "Power.floor" (ay (top 28) 4) "sumcraft.parts" 328 332
def wK:Obj:=oT #[.str "fraction" 634]
def oO (P:Params):Obj:={ cls:=.type "dict",data:=Data.dict #[kE P "__module__" 586 (.str "sumcraft.parts" 328),kE P "__firstlineno__" 590 (.int 154 589),kE P "__init__" 598 (.ref 305),kE P "worth" 607 (.ref 312),kE P "up" 615 (.ref 319),kE P "down" 623 (.ref 326),kE P "floor" 633 (.ref 333),kE P "__static_attributes__" 635 (.ref 334),kE P "__doc__" 636 (.none)] 2 }
def oP:Obj:={ cls:=.type "type",data:=Data.cls { name := "Power",bases:=[.ref 197],mro:=[.ref 336,.ref 197,.type "object"],ns:=335,qualname := "Power" },slots:=#[some (.ref 292),none,some (.str "Power" 579),some (.str "Power" 587),some (.builtin "object.__new__"),some (.bool true)] }
def wL:Obj:={ cls:=.type "super",data:=Data.fields #[.ref 336,.ref 336,.ref 336] }
def wM:Obj:=oB #[.builtin "object.__init_subclass__",.ref 336]
def wN:Obj:=oT #[.ref 197]
def wO:Obj:=oB #[.builtin "type.__prepare__",.type "type"]
def oQ (P:Params):Obj:={ cls:=.type "dict",data:=Data.dict #[kE P "__module__" 646 (.str "sumcraft.parts" 328),kE P "__qualname__" 648 (.str "Growth" 647),kE P "__firstlineno__" 650 (.int 170 649),kE P "__init__" 658 (.ref 352),kE P "worth" 667 (.ref 359),kE P "step" 676 (.ref 366),kE P "floor" 686 (.ref 373),kE P "__static_attributes__" 688 (.ref 374)] 8 }
def wP:Obj:=oT #[]
def wQ:Obj:=oF #[.int 172 0,.int 4 0,.ref 351,.int 175 0,.int 4 0,.ref 358,.int 178 0,.int 4 0,.ref 365,.int 181 0,.int 4 0,.ref 372]
def wR:Obj:=oK #[.str "Growth" 641,.str "Growth" 642,cp 643,.int 170 0,.int 0 0,.int 0 0,.int 0 0,.int 0 0,.ref 342,.bool false,.int 181 0,.ref 343,.none,.none,.none,.none,.int 644 0,.int 170 0,cp 645]
def wS:Obj:={ cls:=.type "frame",slots:=#[some (.ref 344),some (.ref 3),some (.ref 341),none,some (.str "sumcraft.parts" 328),none,some (.ref 0)] }
def wT:Obj:=oT #[]
def wU:Obj:=oF #[]
def wV:Obj:=oT #[.str "self" 654,.str "fraction" 655]
def wW:Obj:=oT #[]
def wX:Obj:=kN "__init__" "Growth.__init__" (ay (top 29) 0)
def oR:Obj:=oK #[.str "__init__" 651,.str "Growth.__init__" 652,cp 653,.int 172 0,.int 2 0,.int 0 0,.int 0 0,.int 3 0,.ref 346,.bool true,.int 181 0,.ref 347,.none,.ref 348,.ref 349,.ref 350,.int 656 0,.int 172 0,cp 657]
def oS:Obj:=kM "__init__" "Growth.__init__" (ay (top 29) 0) "sumcraft.parts" 328 351
def wY:Obj:=oT #[]
def wZ:Obj:=oF #[]
def w8:Obj:=oT #[.str "self" 662,.str "n" 663,.str "k" 664]
def w_:Obj:=oT #[]
def xa:Obj:=kN "worth" "Growth.worth" (ay (top 29) 1)
def oU:Obj:=oK #[.str "worth" 659,.str "Growth.worth" 660,cp 661,.int 175 0,.int 3 0,.int 0 0,.int 0 0,.int 3 0,.ref 353,.bool true,.int 181 0,.ref 354,.none,.ref 355,.ref 356,.ref 357,.int 665 0,.int 175 0,cp 666]
def oV:Obj:=kM "worth" "Growth.worth" (ay (top 29) 1) "sumcraft.parts" 328 358
def xb:Obj:=oT #[]
def xc:Obj:=oF #[]
def xf:Obj:=oT #[.str "self" 671,.str "i" 672,.str "far" 673]
def xg:Obj:=oT #[]
def xh:Obj:=kN "step" "Growth.step" (ay (top 29) 2)
def oW:Obj:=oK #[.str "step" 668,.str "Growth.step" 669,cp 670,.int 178 0,.int 3 0,.int 0 0,.int 0 0,.int 3 0,.ref 360,.bool true,.int 181 0,.ref 361,.none,.ref 362,.ref 363,.ref 364,.int 674 0,.int 178 0,cp 675]
def oX:Obj:=kM "step" "Growth.step" (ay (top 29) 2) "sumcraft.parts" 328 365
def xi:Obj:=oT #[]
def xj:Obj:=oF #[]
def xk:Obj:=oT #[.str "self" 680,.str "n" 681,.str "k" 682,.str "far" 683]
def xl:Obj:=oT #[]
def xm:Obj:=kN "floor" "Growth.floor" (ay (top 29) 3)
def oY:Obj:=oK #[.str "floor" 677,.str "Growth.floor" 678,cp 679,.int 181 0,.int 4 0,.int 0 0,.int 0 0,.int 3 0,.ref 367,.bool true,.int 181 0,.ref 368,.none,.ref 369,.ref 370,.ref 371,.int 684 0,.int 181 0,cp 685]
def oZ:Obj:=kM "floor" "Growth.floor" (ay (top 29) 3) "sumcraft.parts" 328 372
def xn:Obj:=oT #[.str "fraction" 687]
def o0 (P:Params):Obj:={ cls:=.type "dict",data:=Data.dict #[kE P "__module__" 646 (.str "sumcraft.parts" 328),kE P "__firstlineno__" 650 (.int 170 649),kE P "__init__" 658 (.ref 352),kE P "worth" 667 (.ref 359),kE P "step" 676 (.ref 366),kE P "floor" 686 (.ref 373),kE P "__static_attributes__" 688 (.ref 374),kE P "__doc__" 689 (.none)] 2 }
def o8:Obj:={ cls:=.type "type",data:=Data.cls { name := "Growth",bases:=[.ref 197],mro:=[.ref 376,.ref 197,.type "object"],ns:=375,qualname := "Growth" },slots:=#[some (.ref 339),none,some (.str "Growth" 639),some (.str "Growth" 647),some (.builtin "object.__new__"),some (.bool true)] }
def xo:Obj:={ cls:=.type "super",data:=Data.fields #[.ref 376,.ref 376,.ref 376] }
def xp:Obj:=oB #[.builtin "object.__init_subclass__",.ref 376]
def IM (P:Params):Obj:={ cls:=.type "dict",data:=Data.dict #[kE P "__name__" 165 (.str "law_sumcraft_k54_frames_by_numbers" 805),kE P "__doc__" 166 (.none),kE P "__package__" 167 (.none),kE P "__loader__" 168 (.builtin "__main__.__loader__#opaque"),kE P "__spec__" 169 (.none),kE P "__annotations__" 170 (.ref 6),kE P "__builtins__" 171 (.ref 4),kE P "__file__" 173 (cp 172),kE P "__cached__" 174 (.none),kE P "_wall" 193 (.ref 21),kE P "SumError" 213 (.ref 31),kE P "NoNumber" 229 (.ref 44),kE P "NoTerm" 245 (.ref 56),kE P "bare" 253 (.ref 63),kE P "pair_times" 267 (.ref 70),kE P "pair_of_form" 274 (.ref 77),kE P "pair_product" 283 (.ref 84),kE P "LONG" 287 (.int 4000 286),kE P "WINDOW" 289 (.int 300 288),kE P "shortened" 306 (.ref 91),kE P "divisor" 318 (.ref 98),kE P "ratio" 327 (.ref 105),kE P "FEW" 331 (.int 16 330),kE P "form_value" 340 (.ref 112),kE P "raised" 348 (.ref 119),kE P "raised_from" 354 (.ref 124),kE P "low_forms" 362 (.ref 131),kE P "power_of" 372 (.ref 138),kE P "run_product" 383 (.ref 145),kE P "choices" 392 (.ref 152),kE P "Part" 456 (.ref 197),kE P "Choose" 535 (.ref 256),kE P "Weight" 578 (.ref 289),kE P "Power" 638 (.ref 336),kE P "Growth" 691 (.ref 376),kE P "MOST_PARTS" 695 (.int 6 694),kE P "UPPER_LEAST" 699 (.ref 379),kE P "LOWER_LEAST" 706 (.ref 380),kE P "GREATEST" 710 (.ref 381),kE P "within" 716 (.ref 386),kE P "check_choose" 725 (.ref 393),kE P "check_base" 732 (.ref 400),kE P "piece_of" 739 (.ref 407),kE P "product" 751 (.ref 414),kE P "Term" 804 (.ref 451),kE P "_law_cell_at" 814 (.ref 462),kE P "_law_number" 822 (.ref 469),kE P "_law_whole" 829 (.ref 476),kE P "_law_divisor" 838 (.ref 483),kE P "_law_mixed" 848 (.ref 490),kE P "_law_forms" 859 (.ref 497),kE P "_law_ratio" 871 (.ref 504),kE P "_law_part" 877 (.ref 509),kE P "_law_parts" 883 (.ref 514),kE P "_law_at" 892 (.ref 521),kE P "_law_raised" 903 (.ref 528),kE P "_law_alike" 911 (.ref 535),kE P "_law_made" 918 (.ref 542),kE P "_law_is_dict" 927 (.ref 549),kE P "_law_is_frame" 936 (.ref 556),kE P "_law_pair_at" 951 (.ref 563),kE P "_law_rise" 962 (.ref 570),kE P "_law_choose" 968 (.ref 575),kE P "_law_due" 974 (.ref 580),kE P "_law_floor" 980 (.ref 585),kE P "_law_meets" 986 (.ref 590),kE P "_law_alone" 992 (.ref 595)] 67 }
def IN:Obj:=oF #[.int 1 0,.int 0 0,.ref 20,.int 5 0,.int 0 0,.ref 27,.int 7 0,.int 0 0,.ref 40,.int 9 0,.int 0 0,.ref 52,.int 12 0,.int 0 0,.ref 62,.int 14 0,.int 0 0,.ref 69,.int 21 0,.int 0 0,.ref 76,.int 23 0,.int 0 0,.ref 83,.int 31 0,.int 0 0,.ref 90,.int 47 0,.int 0 0,.ref 97,.int 59 0,.int 0 0,.ref 104,.int 68 0,.int 0 0,.ref 111,.int 70 0,.int 0 0,.ref 118,.int 72 0,.int 0 0,.ref 123,.int 74 0,.int 0 0,.ref 130,.int 76 0,.int 0 0,.ref 137,.int 81 0,.int 0 0,.ref 144,.int 89 0,.int 0 0,.ref 151,.int 92 0,.int 0 0,.ref 158,.int 108 0,.int 0 0,.ref 207,.int 144 0,.int 0 0,.ref 264,.int 154 0,.int 0 0,.ref 297,.int 170 0,.int 0 0,.ref 344,.int 188 0,.int 0 0,.ref 385,.int 190 0,.int 0 0,.ref 392,.int 196 0,.int 0 0,.ref 399,.int 199 0,.int 0 0,.ref 406,.int 212 0,.int 0 0,.ref 413,.int 221 0,.int 0 0,.ref 420,.int 244 0,.int 0 0,.ref 461,.int 248 0,.int 0 0,.ref 468,.int 254 0,.int 0 0,.ref 475,.int 256 0,.int 0 0,.ref 482,.int 264 0,.int 0 0,.ref 489,.int 273 0,.int 0 0,.ref 496,.int 284 0,.int 0 0,.ref 503,.int 292 0,.int 0 0,.ref 508,.int 301 0,.int 0 0,.ref 513,.int 309 0,.int 0 0,.ref 520,.int 311 0,.int 0 0,.ref 527,.int 318 0,.int 0 0,.ref 534,.int 326 0,.int 0 0,.ref 541,.int 334 0,.int 0 0,.ref 548,.int 343 0,.int 0 0,.ref 555,.int 352 0,.int 0 0,.ref 562,.int 365 0,.int 0 0,.ref 569,.int 370 0,.int 0 0,.ref 574,.int 388 0,.int 0 0,.ref 579,.int 399 0,.int 0 0,.ref 584,.int 414 0,.int 0 0,.ref 589,.int 427 0,.int 0 0,.ref 594]
def xq:Obj:=oT #[.int 0 696,.int 0 697,.int 0 698]
def xr:Obj:=oT #[.int (-3) 701,.int (-3) 703,.int (-9) 705]
def xu:Obj:=oT #[.int 3 707,.int 3 708,.int 9 709]
def Ay:Obj:=oT #[]
def Az:Obj:=oF #[]
def AA:Obj:=kN "within" "within" (top 35)
def xv:Obj:=oK #[.str "within" 711,.str "within" 712,cp 713,.int 188 0,.int 2 0,.int 0 0,.int 0 0,.int 3 0,.ref 382,.bool true,.int 181 0,.ref 383,.none,.none,.none,.ref 384,.int 714 0,.int 188 0,cp 715]
def xw:Obj:=kM "within" "within" (top 35) "sumcraft.terms" 692 385
def AB:Obj:=oT #[]
def AC:Obj:=oF #[]
def AD:Obj:=oT #[.str "upper" 720,.str "lower" 721,.str "low" 722]
def AE:Obj:=oT #[]
def AF:Obj:=kN "check_choose" "check_choose" (top 36)
def xx:Obj:=oK #[.str "check_choose" 717,.str "check_choose" 718,cp 719,.int 190 0,.int 2 0,.int 0 0,.int 0 0,.int 3 0,.ref 387,.bool true,.int 181 0,.ref 388,.none,.ref 389,.ref 390,.ref 391,.int 723 0,.int 190 0,cp 724]
def xy:Obj:=kM "check_choose" "check_choose" (top 36) "sumcraft.terms" 692 392
def AG:Obj:=oT #[]
def AH:Obj:=oF #[]
def AI:Obj:=oT #[.str "fraction" 729]
def AJ:Obj:=oT #[]
def AK:Obj:=kN "check_base" "check_base" (top 37)
def xz:Obj:=oK #[.str "check_base" 726,.str "check_base" 727,cp 728,.int 196 0,.int 1 0,.int 0 0,.int 0 0,.int 3 0,.ref 394,.bool true,.int 181 0,.ref 395,.none,.ref 396,.ref 397,.ref 398,.int 730 0,.int 196 0,cp 731]
def xB:Obj:=kM "check_base" "check_base" (top 37) "sumcraft.terms" 692 399
def AL:Obj:=oT #[]
def AM:Obj:=oF #[]
def AN:Obj:=oT #[.str "part" 736]
def AO:Obj:=oT #[]
def AQ:Obj:=kN "piece_of" "piece_of" (top 38)
def xC:Obj:=oK #[.str "piece_of" 733,.str "piece_of" 734,cp 735,.int 199 0,.int 1 0,.int 0 0,.int 0 0,.int 3 0,.ref 401,.bool true,.int 181 0,.ref 402,.none,.ref 403,.ref 404,.ref 405,.int 737 0,.int 199 0,cp 738]
def xE:Obj:=kM "piece_of" "piece_of" (top 38) "sumcraft.terms" 692 406
def AR:Obj:=oT #[]
def AS:Obj:=oF #[]
def AT:Obj:=oT #[.str "fractions" 743,.str "top" 744,.str "bottom" 745,.str "fraction" 746,.str "left" 747,.str "right" 748]
def AU:Obj:=oT #[]
def AV:Obj:=kN "product" "product" (top 39)
def xF:Obj:=oK #[.str "product" 740,.str "product" 741,cp 742,.int 212 0,.int 1 0,.int 0 0,.int 0 0,.int 3 0,.ref 408,.bool true,.int 181 0,.ref 409,.none,.ref 410,.ref 411,.ref 412,.int 749 0,.int 212 0,cp 750]
def xG:Obj:=kM "product" "product" (top 39) "sumcraft.terms" 692 413
def AW:Obj:=oT #[]
def AX:Obj:=oB #[.builtin "type.__prepare__",.type "type"]
def xH (P:Params):Obj:={ cls:=.type "dict",data:=Data.dict #[kE P "__module__" 759 (.str "sumcraft.terms" 692),kE P "__qualname__" 761 (.str "Term" 760),kE P "__firstlineno__" 763 (.int 221 762),kE P "__init__" 769 (.ref 426),kE P "told" 776 (.ref 433),kE P "worth" 782 (.ref 438),kE P "floor" 788 (.ref 443),kE P "frame" 794 (.ref 448),kE P "__static_attributes__" 797 (.ref 449)] 9 }
def AY:Obj:=oT #[]
def AZ:Obj:=oF #[.int 223 0,.int 4 0,.ref 425,.int 229 0,.int 4 0,.ref 432,.int 232 0,.int 4 0,.ref 437,.int 235 0,.int 4 0,.ref 442,.int 238 0,.int 4 0,.ref 447]
def A1:Obj:=oK #[.str "Term" 754,.str "Term" 755,cp 756,.int 221 0,.int 0 0,.int 0 0,.int 0 0,.int 0 0,.ref 418,.bool false,.int 181 0,.ref 419,.none,.none,.none,.none,.int 757 0,.int 221 0,cp 758]
def A2:Obj:={ cls:=.type "frame",slots:=#[some (.ref 420),some (.ref 3),some (.ref 417),none,some (.str "sumcraft.terms" 692),none,some (.ref 0)] }
def A3:Obj:=oT #[]
def A4:Obj:=oF #[]
def A5:Obj:=kN "__init__" "Term.__init__" (ay (top 40) 0)
def xI:Obj:=oK #[.str "__init__" 764,.str "Term.__init__" 765,cp 766,.int 223 0,.int 2 0,.int 0 0,.int 0 0,.int 3 0,.ref 422,.bool true,.int 181 0,.ref 423,.none,.none,.none,.ref 424,.int 767 0,.int 223 0,cp 768]
def xJ:Obj:=kM "__init__" "Term.__init__" (ay (top 40) 0) "sumcraft.terms" 692 425
def A6:Obj:=oT #[]
def A7:Obj:=oF #[]
def A8:Obj:=oT #[.str "self" 773]
def A9:Obj:=oT #[]
def A_:Obj:=kN "told" "Term.told" (ay (top 40) 1)
def Ba:Obj:=oK #[.str "told" 770,.str "Term.told" 771,cp 772,.int 229 0,.int 1 0,.int 0 0,.int 0 0,.int 3 0,.ref 427,.bool true,.int 181 0,.ref 428,.none,.ref 429,.ref 430,.ref 431,.int 774 0,.int 229 0,cp 775]
def Bb:Obj:=kM "told" "Term.told" (ay (top 40) 1) "sumcraft.terms" 692 432
def Bc:Obj:=oT #[]
def Be:Obj:=oF #[]
def Bf:Obj:=kN "worth" "Term.worth" (ay (top 40) 2)
def xK:Obj:=oK #[.str "worth" 777,.str "Term.worth" 778,cp 779,.int 232 0,.int 3 0,.int 0 0,.int 0 0,.int 3 0,.ref 434,.bool true,.int 181 0,.ref 435,.none,.none,.none,.ref 436,.int 780 0,.int 232 0,cp 781]
def xL:Obj:=kM "worth" "Term.worth" (ay (top 40) 2) "sumcraft.terms" 692 437
def Bg:Obj:=oT #[]
def Bh:Obj:=oF #[]
def Bi:Obj:=kN "floor" "Term.floor" (ay (top 40) 3)
def xM:Obj:=oK #[.str "floor" 783,.str "Term.floor" 784,cp 785,.int 235 0,.int 4 0,.int 0 0,.int 0 0,.int 3 0,.ref 439,.bool true,.int 181 0,.ref 440,.none,.none,.none,.ref 441,.int 786 0,.int 235 0,cp 787]
def xN:Obj:=kM "floor" "Term.floor" (ay (top 40) 3) "sumcraft.terms" 692 442
def Bj:Obj:=oT #[]
def Bk:Obj:=oF #[]
def Bl:Obj:=kN "frame" "Term.frame" (ay (top 40) 4)
def xO:Obj:=oK #[.str "frame" 789,.str "Term.frame" 790,cp 791,.int 238 0,.int 2 0,.int 0 0,.int 0 0,.int 3 0,.ref 444,.bool true,.int 181 0,.ref 445,.none,.none,.none,.ref 446,.int 792 0,.int 238 0,cp 793]
def xQ:Obj:=kM "frame" "Term.frame" (ay (top 40) 4) "sumcraft.terms" 692 447
def Bm:Obj:=oT #[.str "parts" 795,.str "pieces" 796]
def xR (P:Params):Obj:={ cls:=.type "dict",data:=Data.dict #[kE P "__module__" 759 (.str "sumcraft.terms" 692),kE P "__firstlineno__" 763 (.int 221 762),kE P "__init__" 769 (.ref 426),kE P "told" 776 (.ref 433),kE P "worth" 782 (.ref 438),kE P "floor" 788 (.ref 443),kE P "frame" 794 (.ref 448),kE P "__static_attributes__" 797 (.ref 449),kE P "__dict__" 799 (.ref 452),kE P "__weakref__" 801 (.ref 453),kE P "__doc__" 802 (.none)] 4 }
def xS:Obj:={ cls:=.type "type",data:=Data.cls { name := "Term",bases:=[.type "object"],mro:=[.ref 451,.type "object"],ns:=450,qualname := "Term" },slots:=#[none,none,some (.str "Term" 752),some (.str "Term" 760),some (.builtin "object.__new__"),some (.bool true)] }
def Bn:Obj:={ cls:=.type "getset_descriptor",data:=Data.fields #[.str "__dict__" 798,.ref 451,.builtin "function.__dict__",.builtin "function.__dict__#set"] }
def Bo:Obj:={ cls:=.type "getset_descriptor",data:=Data.fields #[.str "__weakref__" 800,.ref 451,.builtin "ExceptionGroup.__weakref__",.none] }
def Bp:Obj:={ cls:=.type "super",data:=Data.fields #[.ref 451,.ref 451,.ref 451] }
def Bq:Obj:=oB #[.builtin "object.__init_subclass__",.ref 451]
def Br:Obj:=oT #[]
def Bs:Obj:=oF #[]
def Bv:Obj:=oT #[.str "_law_script" 810,.str "_law_k" 811]
def Bx:Obj:=oT #[]
def By:Obj:=kN "_law_cell_at" "_law_cell_at" (top 42)
def xT:Obj:=oK #[.str "_law_cell_at" 807,.str "_law_cell_at" 808,cp 809,.int 244 0,.int 2 0,.int 0 0,.int 0 0,.int 3 0,.ref 456,.bool true,.int 181 0,.ref 457,.none,.ref 458,.ref 459,.ref 460,.int 812 0,.int 244 0,cp 813]
def xU:Obj:=kM "_law_cell_at" "_law_cell_at" (top 42) "law_sumcraft_k54_frames_by_numbers" 805 461
def Bz:Obj:=oT #[]
def BA:Obj:=oF #[]
def BB:Obj:=oT #[.str "_law_cell" 818,.str "_law_most" 819]
def BC:Obj:=oT #[]
def BD:Obj:=kN "_law_number" "_law_number" (top 43)
def xV:Obj:=oK #[.str "_law_number" 815,.str "_law_number" 816,cp 817,.int 248 0,.int 2 0,.int 0 0,.int 0 0,.int 3 0,.ref 463,.bool true,.int 181 0,.ref 464,.none,.ref 465,.ref 466,.ref 467,.int 820 0,.int 248 0,cp 821]
def xW:Obj:=kM "_law_number" "_law_number" (top 43) "law_sumcraft_k54_frames_by_numbers" 805 468
def BE:Obj:=oT #[]
def BF:Obj:=oF #[]
def BG:Obj:=oT #[.str "_law_found" 826]
def BH:Obj:=oT #[]
def BI:Obj:=kN "_law_whole" "_law_whole" (top 44)
def xX:Obj:=oK #[.str "_law_whole" 823,.str "_law_whole" 824,cp 825,.int 254 0,.int 1 0,.int 0 0,.int 0 0,.int 3 0,.ref 470,.bool true,.int 181 0,.ref 471,.none,.ref 472,.ref 473,.ref 474,.int 827 0,.int 254 0,cp 828]
def xY:Obj:=kM "_law_whole" "_law_whole" (top 44) "law_sumcraft_k54_frames_by_numbers" 805 475
def BJ:Obj:=oT #[]
def BK:Obj:=oF #[]
def BL:Obj:=oT #[.str "_law_one" 833,.str "_law_other" 834,.str "_law_rest" 835]
def BM:Obj:=oT #[]
def BN:Obj:=kN "_law_divisor" "_law_divisor" (top 45)
def xZ:Obj:=oK #[.str "_law_divisor" 830,.str "_law_divisor" 831,cp 832,.int 256 0,.int 2 0,.int 0 0,.int 0 0,.int 3 0,.ref 477,.bool true,.int 181 0,.ref 478,.none,.ref 479,.ref 480,.ref 481,.int 836 0,.int 256 0,cp 837]
def x8:Obj:=kM "_law_divisor" "_law_divisor" (top 45) "law_sumcraft_k54_frames_by_numbers" 805 482
def BO:Obj:=oT #[]
def BP:Obj:=oF #[]
def BQ:Obj:=oT #[.str "_law_cell" 842,.str "_law_k" 843,.str "_law_number_here" 844,.str "_law_time" 845]
def BR:Obj:=oT #[]
def BS:Obj:=kN "_law_mixed" "_law_mixed" (top 46)
def x9:Obj:=oK #[.str "_law_mixed" 839,.str "_law_mixed" 840,cp 841,.int 264 0,.int 2 0,.int 0 0,.int 0 0,.int 3 0,.ref 484,.bool true,.int 181 0,.ref 485,.none,.ref 486,.ref 487,.ref 488,.int 846 0,.int 264 0,cp 847]
def x_:Obj:=kM "_law_mixed" "_law_mixed" (top 46) "law_sumcraft_k54_frames_by_numbers" 805 489
def BU:Obj:=oT #[]
def BV:Obj:=oF #[]
def BW:Obj:=oT #[.str "_law_one" 852,.str "_law_other" 853,.str "_law_most" 854,.str "_law_high" 855,.str "_law_low" 856]
def BX:Obj:=oT #[]
def BY:Obj:=kN "_law_forms" "_law_forms" (top 47)
def ya:Obj:=oK #[.str "_law_forms" 849,.str "_law_forms" 850,cp 851,.int 273 0,.int 3 0,.int 0 0,.int 0 0,.int 3 0,.ref 491,.bool true,.int 181 0,.ref 492,.none,.ref 493,.ref 494,.ref 495,.int 857 0,.int 273 0,cp 858]
def yb:Obj:=kM "_law_forms" "_law_forms" (top 47) "law_sumcraft_k54_frames_by_numbers" 805 496
def BZ:Obj:=oT #[]
def B3:Obj:=oF #[]
def B4:Obj:=oT #[.str "_law_one" 863,.str "_law_other" 864,.str "_law_top" 865,.str "_law_number_here" 866,.str "_law_bottom" 867,.str "_law_by" 868]
def B5:Obj:=oT #[]
def B6:Obj:=kN "_law_ratio" "_law_ratio" (top 48)
def yc:Obj:=oK #[.str "_law_ratio" 860,.str "_law_ratio" 861,cp 862,.int 284 0,.int 2 0,.int 0 0,.int 0 0,.int 3 0,.ref 498,.bool true,.int 181 0,.ref 499,.none,.ref 500,.ref 501,.ref 502,.int 869 0,.int 284 0,cp 870]
def yd:Obj:=kM "_law_ratio" "_law_ratio" (top 48) "law_sumcraft_k54_frames_by_numbers" 805 503
def B7:Obj:=oT #[]
def B8:Obj:=oF #[]
def B9:Obj:=kN "_law_part" "_law_part" (top 49)
def ye:Obj:=oK #[.str "_law_part" 872,.str "_law_part" 873,cp 874,.int 292 0,.int 2 0,.int 0 0,.int 0 0,.int 3 0,.ref 505,.bool true,.int 181 0,.ref 506,.none,.none,.none,.ref 507,.int 875 0,.int 292 0,cp 876]
def yf:Obj:=kM "_law_part" "_law_part" (top 49) "law_sumcraft_k54_frames_by_numbers" 805 508
def B_:Obj:=oT #[]
def Ca:Obj:=oF #[]
def Cb:Obj:=kN "_law_parts" "_law_parts" (top 50)
def yg:Obj:=oK #[.str "_law_parts" 878,.str "_law_parts" 879,cp 880,.int 301 0,.int 2 0,.int 0 0,.int 0 0,.int 3 0,.ref 510,.bool true,.int 181 0,.ref 511,.none,.none,.none,.ref 512,.int 881 0,.int 301 0,cp 882]
def yh:Obj:=kM "_law_parts" "_law_parts" (top 50) "law_sumcraft_k54_frames_by_numbers" 805 513
def Cc:Obj:=oT #[]
def Cd:Obj:=oF #[]
def Ce:Obj:=oT #[.str "_law_form" 887,.str "_law_n" 888,.str "_law_k" 889]
def Cf:Obj:=oT #[]
def Cg:Obj:=kN "_law_at" "_law_at" (top 51)
def yi:Obj:=oK #[.str "_law_at" 884,.str "_law_at" 885,cp 886,.int 309 0,.int 3 0,.int 0 0,.int 0 0,.int 3 0,.ref 515,.bool true,.int 181 0,.ref 516,.none,.ref 517,.ref 518,.ref 519,.int 890 0,.int 309 0,cp 891]
def yj:Obj:=kM "_law_at" "_law_at" (top 51) "law_sumcraft_k54_frames_by_numbers" 805 520
def Ch:Obj:=oT #[]
def Ci:Obj:=oF #[]
def Cj:Obj:=oT #[.str "_law_fraction" 896,.str "_law_many" 897,.str "_law_top" 898,.str "_law_bottom" 899,.str "_law_time" 900]
def Ck:Obj:=oT #[]
def Cm:Obj:=kN "_law_raised" "_law_raised" (top 52)
def yk:Obj:=oK #[.str "_law_raised" 893,.str "_law_raised" 894,cp 895,.int 311 0,.int 2 0,.int 0 0,.int 0 0,.int 3 0,.ref 522,.bool true,.int 181 0,.ref 523,.none,.ref 524,.ref 525,.ref 526,.int 901 0,.int 311 0,cp 902]
def yl:Obj:=kM "_law_raised" "_law_raised" (top 52) "law_sumcraft_k54_frames_by_numbers" 805 527
def Cn:Obj:=oT #[]
def Co:Obj:=oF #[]
def Cp:Obj:=oT #[.str "_law_found" 907,.str "_law_due_here" 908]
def Cq:Obj:=oT #[]
def Cr:Obj:=kN "_law_alike" "_law_alike" (top 53)
def ym:Obj:=oK #[.str "_law_alike" 904,.str "_law_alike" 905,cp 906,.int 318 0,.int 2 0,.int 0 0,.int 0 0,.int 3 0,.ref 529,.bool true,.int 181 0,.ref 530,.none,.ref 531,.ref 532,.ref 533,.int 909 0,.int 318 0,cp 910]
def yn:Obj:=kM "_law_alike" "_law_alike" (top 53) "law_sumcraft_k54_frames_by_numbers" 805 534
def Cs:Obj:=oT #[]
def Ct:Obj:=oF #[]
def Cu:Obj:=oT #[.str "_law_part_here" 915]
def Cv:Obj:=oT #[]
def Cw:Obj:=kN "_law_made" "_law_made" (top 54)
def yo:Obj:=oK #[.str "_law_made" 912,.str "_law_made" 913,cp 914,.int 326 0,.int 1 0,.int 0 0,.int 0 0,.int 3 0,.ref 536,.bool true,.int 181 0,.ref 537,.none,.ref 538,.ref 539,.ref 540,.int 916 0,.int 326 0,cp 917]
def yp:Obj:=kM "_law_made" "_law_made" (top 54) "law_sumcraft_k54_frames_by_numbers" 805 541
def Cy:Obj:=oT #[]
def Cz:Obj:=oF #[]
def CA:Obj:=oT #[.str "_law_found" 922,.str "_law_powers" 923,.str "_law_number_here" 924]
def CB:Obj:=oT #[]
def CC:Obj:=kN "_law_is_dict" "_law_is_dict" (top 55)
def yq:Obj:=oK #[.str "_law_is_dict" 919,.str "_law_is_dict" 920,cp 921,.int 334 0,.int 1 0,.int 0 0,.int 0 0,.int 3 0,.ref 543,.bool true,.int 181 0,.ref 544,.none,.ref 545,.ref 546,.ref 547,.int 925 0,.int 334 0,cp 926]
def yr:Obj:=kM "_law_is_dict" "_law_is_dict" (top 55) "law_sumcraft_k54_frames_by_numbers" 805 548
def CD:Obj:=oT #[]
def CF:Obj:=oF #[]
def CG:Obj:=oT #[.str "_law_found" 931,.str "_law_far" 932,.str "_law_some" 933]
def CH:Obj:=oT #[]
def CI:Obj:=kN "_law_is_frame" "_law_is_frame" (top 56)
def yt:Obj:=oK #[.str "_law_is_frame" 928,.str "_law_is_frame" 929,cp 930,.int 343 0,.int 2 0,.int 0 0,.int 0 0,.int 3 0,.ref 550,.bool true,.int 181 0,.ref 551,.none,.ref 552,.ref 553,.ref 554,.int 934 0,.int 343 0,cp 935]
def yu:Obj:=kM "_law_is_frame" "_law_is_frame" (top 56) "law_sumcraft_k54_frames_by_numbers" 805 555
def CJ:Obj:=oT #[]
def CK:Obj:=oF #[]
def CL:Obj:=oT #[.str "_law_some" 940,.str "_law_n" 941,.str "_law_k" 942,.str "_law_most" 943,.str "_law_powers" 944,.str "_law_lists" 945,.str "_law_time" 946,.str "_law_found" 947,.str "_law_number_here" 948]
def CM:Obj:=oT #[]
def CN:Obj:=kN "_law_pair_at" "_law_pair_at" (top 57)
def yw:Obj:=oK #[.str "_law_pair_at" 937,.str "_law_pair_at" 938,cp 939,.int 352 0,.int 3 0,.int 0 0,.int 0 0,.int 3 0,.ref 557,.bool true,.int 181 0,.ref 558,.none,.ref 559,.ref 560,.ref 561,.int 949 0,.int 352 0,cp 950]
def yx:Obj:=kM "_law_pair_at" "_law_pair_at" (top 57) "law_sumcraft_k54_frames_by_numbers" 805 562
def CO:Obj:=oT #[]
def CP:Obj:=oF #[]
def CQ:Obj:=oT #[.str "_law_x" 955,.str "_law_low" 956,.str "_law_high" 957,.str "_law_found" 958,.str "_law_t" 959]
def CS:Obj:=oT #[]
def CT:Obj:=kN "_law_rise" "_law_rise" (top 58)
def yy:Obj:=oK #[.str "_law_rise" 952,.str "_law_rise" 953,cp 954,.int 365 0,.int 3 0,.int 0 0,.int 0 0,.int 3 0,.ref 564,.bool true,.int 181 0,.ref 565,.none,.ref 566,.ref 567,.ref 568,.int 960 0,.int 365 0,cp 961]
def yz:Obj:=kM "_law_rise" "_law_rise" (top 58) "law_sumcraft_k54_frames_by_numbers" 805 569
def CU:Obj:=oT #[]
def CV:Obj:=oF #[]
def CW:Obj:=kN "_law_choose" "_law_choose" (top 59)
def yA:Obj:=oK #[.str "_law_choose" 963,.str "_law_choose" 964,cp 965,.int 370 0,.int 4 0,.int 0 0,.int 0 0,.int 3 0,.ref 571,.bool true,.int 181 0,.ref 572,.none,.none,.none,.ref 573,.int 966 0,.int 370 0,cp 967]
def yB:Obj:=kM "_law_choose" "_law_choose" (top 59) "law_sumcraft_k54_frames_by_numbers" 805 574
def CY:Obj:=oT #[]
def CZ:Obj:=oF #[]
def C2:Obj:=kN "_law_due" "_law_due" (top 60)
def yC:Obj:=oK #[.str "_law_due" 969,.str "_law_due" 970,cp 971,.int 388 0,.int 4 0,.int 0 0,.int 0 0,.int 3 0,.ref 576,.bool true,.int 181 0,.ref 577,.none,.none,.none,.ref 578,.int 972 0,.int 388 0,cp 973]
def yD:Obj:=kM "_law_due" "_law_due" (top 60) "law_sumcraft_k54_frames_by_numbers" 805 579
def C3:Obj:=oT #[]
def C4:Obj:=oF #[]
def C5:Obj:=kN "_law_floor" "_law_floor" (top 61)
def yE:Obj:=oK #[.str "_law_floor" 975,.str "_law_floor" 976,cp 977,.int 399 0,.int 4 0,.int 0 0,.int 0 0,.int 3 0,.ref 581,.bool true,.int 181 0,.ref 582,.none,.none,.none,.ref 583,.int 978 0,.int 399 0,cp 979]
def yF:Obj:=kM "_law_floor" "_law_floor" (top 61) "law_sumcraft_k54_frames_by_numbers" 805 584
def C6:Obj:=oT #[]
def C7:Obj:=oF #[]
def C8:Obj:=kN "_law_meets" "_law_meets" (top 62)
def yG:Obj:=oK #[.str "_law_meets" 981,.str "_law_meets" 982,cp 983,.int 414 0,.int 6 0,.int 0 0,.int 0 0,.int 3 0,.ref 586,.bool true,.int 181 0,.ref 587,.none,.none,.none,.ref 588,.int 984 0,.int 414 0,cp 985]
def yH:Obj:=kM "_law_meets" "_law_meets" (top 62) "law_sumcraft_k54_frames_by_numbers" 805 589
def C9:Obj:=oT #[]
def C_:Obj:=oF #[]
def Da:Obj:=kN "_law_alone" "_law_alone" (top 63)
def yI:Obj:=oK #[.str "_law_alone" 987,.str "_law_alone" 988,cp 989,.int 427 0,.int 4 0,.int 0 0,.int 0 0,.int 3 0,.ref 591,.bool true,.int 181 0,.ref 592,.none,.none,.none,.ref 593,.int 990 0,.int 427 0,cp 991]
def yJ:Obj:=kM "_law_alone" "_law_alone" (top 63) "law_sumcraft_k54_frames_by_numbers" 805 594
def Db (P:Params):Obj:={ cls:=.type "dict",data:=Data.dict #[kE P "__name__" 165 (.str "law_sumcraft_k54_frames_by_numbers" 805),kE P "__doc__" 166 (.none),kE P "__package__" 167 (.none),kE P "__loader__" 168 (.builtin "__main__.__loader__#opaque"),kE P "__spec__" 169 (.none),kE P "__annotations__" 170 (.ref 6),kE P "__builtins__" 171 (.ref 4),kE P "__file__" 173 (cp 172),kE P "__cached__" 174 (.none),kE P "_wall" 193 (.ref 21),kE P "SumError" 213 (.ref 31),kE P "NoNumber" 229 (.ref 44),kE P "NoTerm" 245 (.ref 56),kE P "bare" 253 (.ref 63),kE P "pair_times" 267 (.ref 70),kE P "pair_of_form" 274 (.ref 77),kE P "pair_product" 283 (.ref 84),kE P "LONG" 287 (.int 4000 286),kE P "WINDOW" 289 (.int 300 288),kE P "shortened" 306 (.ref 91),kE P "divisor" 318 (.ref 98),kE P "ratio" 327 (.ref 105),kE P "FEW" 331 (.int 16 330),kE P "form_value" 340 (.ref 112),kE P "raised" 348 (.ref 119),kE P "raised_from" 354 (.ref 124),kE P "low_forms" 362 (.ref 131),kE P "power_of" 372 (.ref 138),kE P "run_product" 383 (.ref 145),kE P "choices" 392 (.ref 152),kE P "Part" 456 (.ref 197),kE P "Choose" 535 (.ref 256),kE P "Weight" 578 (.ref 289),kE P "Power" 638 (.ref 336),kE P "Growth" 691 (.ref 376),kE P "MOST_PARTS" 695 (.int 6 694),kE P "UPPER_LEAST" 699 (.ref 379),kE P "LOWER_LEAST" 706 (.ref 380),kE P "GREATEST" 710 (.ref 381),kE P "within" 716 (.ref 386),kE P "check_choose" 725 (.ref 393),kE P "check_base" 732 (.ref 400),kE P "piece_of" 739 (.ref 407),kE P "product" 751 (.ref 414),kE P "Term" 804 (.ref 451),kE P "_law_cell_at" 814 (.ref 462),kE P "_law_number" 822 (.ref 469),kE P "_law_whole" 829 (.ref 476),kE P "_law_divisor" 838 (.ref 483),kE P "_law_mixed" 848 (.ref 490),kE P "_law_forms" 859 (.ref 497),kE P "_law_ratio" 871 (.ref 504),kE P "_law_part" 877 (.ref 509),kE P "_law_parts" 883 (.ref 514),kE P "_law_at" 892 (.ref 521),kE P "_law_raised" 903 (.ref 528),kE P "_law_alike" 911 (.ref 535),kE P "_law_made" 918 (.ref 542),kE P "_law_is_dict" 927 (.ref 549),kE P "_law_is_frame" 936 (.ref 556),kE P "_law_pair_at" 951 (.ref 563),kE P "_law_rise" 962 (.ref 570),kE P "_law_choose" 968 (.ref 575),kE P "_law_due" 974 (.ref 580),kE P "_law_floor" 980 (.ref 585),kE P "_law_meets" 986 (.ref 590),kE P "_law_alone" 992 (.ref 595),kE P "_law_plain" 1000 (.ref 602),kE P "law" 1006 (.ref 607)] 69 }
def IP:Obj:=oF #[.int 1 0,.int 0 0,.ref 20,.int 5 0,.int 0 0,.ref 27,.int 7 0,.int 0 0,.ref 40,.int 9 0,.int 0 0,.ref 52,.int 12 0,.int 0 0,.ref 62,.int 14 0,.int 0 0,.ref 69,.int 21 0,.int 0 0,.ref 76,.int 23 0,.int 0 0,.ref 83,.int 31 0,.int 0 0,.ref 90,.int 47 0,.int 0 0,.ref 97,.int 59 0,.int 0 0,.ref 104,.int 68 0,.int 0 0,.ref 111,.int 70 0,.int 0 0,.ref 118,.int 72 0,.int 0 0,.ref 123,.int 74 0,.int 0 0,.ref 130,.int 76 0,.int 0 0,.ref 137,.int 81 0,.int 0 0,.ref 144,.int 89 0,.int 0 0,.ref 151,.int 92 0,.int 0 0,.ref 158,.int 108 0,.int 0 0,.ref 207,.int 144 0,.int 0 0,.ref 264,.int 154 0,.int 0 0,.ref 297,.int 170 0,.int 0 0,.ref 344,.int 188 0,.int 0 0,.ref 385,.int 190 0,.int 0 0,.ref 392,.int 196 0,.int 0 0,.ref 399,.int 199 0,.int 0 0,.ref 406,.int 212 0,.int 0 0,.ref 413,.int 221 0,.int 0 0,.ref 420,.int 244 0,.int 0 0,.ref 461,.int 248 0,.int 0 0,.ref 468,.int 254 0,.int 0 0,.ref 475,.int 256 0,.int 0 0,.ref 482,.int 264 0,.int 0 0,.ref 489,.int 273 0,.int 0 0,.ref 496,.int 284 0,.int 0 0,.ref 503,.int 292 0,.int 0 0,.ref 508,.int 301 0,.int 0 0,.ref 513,.int 309 0,.int 0 0,.ref 520,.int 311 0,.int 0 0,.ref 527,.int 318 0,.int 0 0,.ref 534,.int 326 0,.int 0 0,.ref 541,.int 334 0,.int 0 0,.ref 548,.int 343 0,.int 0 0,.ref 555,.int 352 0,.int 0 0,.ref 562,.int 365 0,.int 0 0,.ref 569,.int 370 0,.int 0 0,.ref 574,.int 388 0,.int 0 0,.ref 579,.int 399 0,.int 0 0,.ref 584,.int 414 0,.int 0 0,.ref 589,.int 427 0,.int 0 0,.ref 594,.int 433 0,.int 0 0,.ref 601,.int 438 0,.int 0 0,.ref 606]
def IQ:Obj:=oT #[]
def IR:Obj:=oF #[]
def IS:Obj:=oT #[.str "_law_far" 996,.str "_law_one" 997]
def IT:Obj:=oT #[]
def IU:Obj:=kN "_law_plain" "_law_plain" (top 64)
def Dd:Obj:=oK #[.str "_law_plain" 993,.str "_law_plain" 994,cp 995,.int 433 0,.int 1 0,.int 0 0,.int 0 0,.int 3 0,.ref 596,.bool true,.int 181 0,.ref 597,.none,.ref 598,.ref 599,.ref 600,.int 998 0,.int 433 0,cp 999]
def De:Obj:=kM "_law_plain" "_law_plain" (top 64) "law_sumcraft_k54_frames_by_numbers" 805 601
def IV:Obj:=oT #[]
def IW:Obj:=oF #[]
def IX:Obj:=kN "law" "law" (top 65)
def Df:Obj:=oK #[.str "law" 1001,.str "law" 1002,cp 1003,.int 438 0,.int 1 0,.int 0 0,.int 0 0,.int 3 0,.ref 603,.bool true,.int 181 0,.ref 604,.none,.none,.none,.ref 605,.int 1004 0,.int 438 0,cp 1005]
def Dg:Obj:=kM "law" "law" (top 65) "law_sumcraft_k54_frames_by_numbers" 805 606
def env0:Env:={ scope:=PySem.Challenge.pw_sumcraft_k54_frames_by_numbers.main.scope,locals:=mainNs,globals:=mainNs,cells:=[],code:=.ref 13,frame:=some 14 }
def cd0:Code:=.body (behindTheImports PySem.Challenge.pw_sumcraft_k54_frames_by_numbers) env0
def fr0:List Frame:=[topFrame { line:=0,col:=0,endLine:=0,endCol:=0 }]
noncomputable def hp1 (P:Params):Heap:=⟨⟨[boot_o_0 P,boot_o_1 P,boot_o_2 P,boot_o_3 P,boot_o_4 P,boot_o_5 P,boot_o_6 P,boot_o_7 P,boot_o_8 P,boot_o_9 P,boot_o_10 P,hX,IH,h8,h9]⟩,{}⟩
noncomputable def hp3 (P:Params):Heap:=⟨⟨[boot_o_0 P,boot_o_1 P,boot_o_2 P,ob3 P,boot_o_4 P,boot_o_5 P,boot_o_6 P,boot_o_7 P,boot_o_8 P,boot_o_9 P,boot_o_10 P,hX,II,h8,h9,jR,jS,jT,jU,jV,jW,jX,jY,jZ,h_ P,j0,j4,j5,j6,j7,ia P,ib,j8,j9,j_,ka,kb,ic P,kc,kd,ke,kf,kg,ie P,ig,kh,kj,km,ko,ik P,kr,ku,ky,kA,kB,im P,io,kC,kF,kG,kH,kI,iq,ir,kJ,kK,kL,kO,kP,iu,iw,kQ,kR,kS,kT,kU,ix,iy,kW,kX,kY,kZ,k6,iz,iA,k7,k8,k9,k_,lc,lh,lj,ll,lu,lv,lw,lx,iB,iC,lD,lE,lF,lG,lH,iD,iE,lI,lJ,lK,lL,lM,iF,iG,lN,lO,lP,lQ,lR,iH,iI,lS,lT,lU,iJ,iK,lV,lW,lY,lZ,l5,iL,iM,l7,l8,l9,l_,md,iN,iO,me,mf,mh,mj,ml,iP,iQ,mm,mn,mo,mq,mr,iR,iS,ms,mv,iT P,mw,mC,mD,mE,mF,mG,mH,mI,mJ,mK,mL,mM,mO,mP,mQ,mR,iU,iV,mS,mT,mU,mV,mW,iW,iX,mX,mY,mZ,m5,m7,iY,iZ,m8,m9,m_,ng,nh,i4,i5,nj,i7 P,IJ,nk,nv,nw,ny]⟩,{}⟩
noncomputable def hp4 (P:Params):Heap:=⟨⟨[boot_o_0 P,boot_o_1 P,boot_o_2 P,IK P,boot_o_4 P,boot_o_5 P,boot_o_6 P,boot_o_7 P,boot_o_8 P,boot_o_9 P,boot_o_10 P,hX,IL,h8,h9,jR,jS,jT,jU,jV,jW,jX,jY,jZ,h_ P,j0,j4,j5,j6,j7,ia P,ib,j8,j9,j_,ka,kb,ic P,kc,kd,ke,kf,kg,ie P,ig,kh,kj,km,ko,ik P,kr,ku,ky,kA,kB,im P,io,kC,kF,kG,kH,kI,iq,ir,kJ,kK,kL,kO,kP,iu,iw,kQ,kR,kS,kT,kU,ix,iy,kW,kX,kY,kZ,k6,iz,iA,k7,k8,k9,k_,lc,lh,lj,ll,lu,lv,lw,lx,iB,iC,lD,lE,lF,lG,lH,iD,iE,lI,lJ,lK,lL,lM,iF,iG,lN,lO,lP,lQ,lR,iH,iI,lS,lT,lU,iJ,iK,lV,lW,lY,lZ,l5,iL,iM,l7,l8,l9,l_,md,iN,iO,me,mf,mh,mj,ml,iP,iQ,mm,mn,mo,mq,mr,iR,iS,ms,mv,iT P,mw,mC,mD,mE,mF,mG,mH,mI,mJ,mK,mL,mM,mO,mP,mQ,mR,iU,iV,mS,mT,mU,mV,mW,iW,iX,mX,mY,mZ,m5,m7,iY,iZ,m8,m9,m_,ng,nh,i4,i5,nj,i7 P,nA,nk,nv,nw,ny,uV,uW,nE P,uX,uY,uZ,u6,u8,u9,u_,va,vc,nH,nI,vd,ve,vf,nJ,nK,vg,vh,vi,vj,vk,nO,nP,vm,vn,vo,vp,vq,nQ,nR,vt,vv,vw,vx,vy,nT,nV,vz,vA,vB,vC,vD,nX,nY,vE,vF,vG,nZ,n6,vH,n8 P,n_,vI,vJ,vK,vL,og P,vM,vN,vO,vP,vQ,vR,vS,vT,vU,oh,oj,vV,vW,vX,vY,vZ,om,oo,v0,v4,v5,v6,v7,oq,ou,v8,ow P,ox,v9,v_,wa,wb,oy P,wc,wd,we,wf,wg,wj,wk,wl,wm,oz,oA,wn,wo,wp,wq,wt,oC,oE,wu,wv,ww,wx,wz,oG,oH,wA,wB,wC,wD,wE,oI,oJ,wF,wG,wH,wI,wJ,oM,oN,wK,oO P,oP,wL,wM,wN,wO,oQ P,wP,wQ,wR,wS,wT,wU,wV,wW,wX,oR,oS,wY,wZ,w8,w_,xa,oU,oV,xb,xc,xf,xg,xh,oW,oX,xi,xj,xk,xl,xm,oY,oZ,xn,o0 P,o8,xo,xp]⟩,{}⟩
noncomputable def hp5 (P:Params):Heap:=⟨⟨[boot_o_0 P,boot_o_1 P,boot_o_2 P,IM P,boot_o_4 P,boot_o_5 P,boot_o_6 P,boot_o_7 P,boot_o_8 P,boot_o_9 P,boot_o_10 P,hX,IN,h8,h9,jR,jS,jT,jU,jV,jW,jX,jY,jZ,h_ P,j0,j4,j5,j6,j7,ia P,ib,j8,j9,j_,ka,kb,ic P,kc,kd,ke,kf,kg,ie P,ig,kh,kj,km,ko,ik P,kr,ku,ky,kA,kB,im P,io,kC,kF,kG,kH,kI,iq,ir,kJ,kK,kL,kO,kP,iu,iw,kQ,kR,kS,kT,kU,ix,iy,kW,kX,kY,kZ,k6,iz,iA,k7,k8,k9,k_,lc,lh,lj,ll,lu,lv,lw,lx,iB,iC,lD,lE,lF,lG,lH,iD,iE,lI,lJ,lK,lL,lM,iF,iG,lN,lO,lP,lQ,lR,iH,iI,lS,lT,lU,iJ,iK,lV,lW,lY,lZ,l5,iL,iM,l7,l8,l9,l_,md,iN,iO,me,mf,mh,mj,ml,iP,iQ,mm,mn,mo,mq,mr,iR,iS,ms,mv,iT P,mw,mC,mD,mE,mF,mG,mH,mI,mJ,mK,mL,mM,mO,mP,mQ,mR,iU,iV,mS,mT,mU,mV,mW,iW,iX,mX,mY,mZ,m5,m7,iY,iZ,m8,m9,m_,ng,nh,i4,i5,nj,i7 P,nA,nk,nv,nw,ny,uV,uW,nE P,uX,uY,uZ,u6,u8,u9,u_,va,vc,nH,nI,vd,ve,vf,nJ,nK,vg,vh,vi,vj,vk,nO,nP,vm,vn,vo,vp,vq,nQ,nR,vt,vv,vw,vx,vy,nT,nV,vz,vA,vB,vC,vD,nX,nY,vE,vF,vG,nZ,n6,vH,n8 P,n_,vI,vJ,vK,vL,og P,vM,vN,vO,vP,vQ,vR,vS,vT,vU,oh,oj,vV,vW,vX,vY,vZ,om,oo,v0,v4,v5,v6,v7,oq,ou,v8,ow P,ox,v9,v_,wa,wb,oy P,wc,wd,we,wf,wg,wj,wk,wl,wm,oz,oA,wn,wo,wp,wq,wt,oC,oE,wu,wv,ww,wx,wz,oG,oH,wA,wB,wC,wD,wE,oI,oJ,wF,wG,wH,wI,wJ,oM,oN,wK,oO P,oP,wL,wM,wN,wO,oQ P,wP,wQ,wR,wS,wT,wU,wV,wW,wX,oR,oS,wY,wZ,w8,w_,xa,oU,oV,xb,xc,xf,xg,xh,oW,oX,xi,xj,xk,xl,xm,oY,oZ,xn,o0 P,o8,xo,xp,xq,xr,xu,Ay,Az,AA,xv,xw,AB,AC,AD,AE,AF,xx,xy,AG,AH,AI,AJ,AK,xz,xB,AL,AM,AN,AO,AQ,xC,xE,AR,AS,AT,AU,AV,xF,xG,AW,AX,xH P,AY,AZ,A1,A2,A3,A4,A5,xI,xJ,A6,A7,A8,A9,A_,Ba,Bb,Bc,Be,Bf,xK,xL,Bg,Bh,Bi,xM,xN,Bj,Bk,Bl,xO,xQ,Bm,xR P,xS,Bn,Bo,Bp,Bq,Br,Bs,Bv,Bx,By,xT,xU,Bz,BA,BB,BC,BD,xV,xW,BE,BF,BG,BH,BI,xX,xY,BJ,BK,BL,BM,BN,xZ,x8,BO,BP,BQ,BR,BS,x9,x_,BU,BV,BW,BX,BY,ya,yb,BZ,B3,B4,B5,B6,yc,yd,B7,B8,B9,ye,yf,B_,Ca,Cb,yg,yh,Cc,Cd,Ce,Cf,Cg,yi,yj,Ch,Ci,Cj,Ck,Cm,yk,yl,Cn,Co,Cp,Cq,Cr,ym,yn,Cs,Ct,Cu,Cv,Cw,yo,yp,Cy,Cz,CA,CB,CC,yq,yr,CD,CF,CG,CH,CI,yt,yu,CJ,CK,CL,CM,CN,yw,yx,CO,CP,CQ,CS,CT,yy,yz,CU,CV,CW,yA,yB,CY,CZ,C2,yC,yD,C3,C4,C5,yE,yF,C6,C7,C8,yG,yH,C9,C_,Da,yI,yJ]⟩,{}⟩
noncomputable def hp6 (P:Params):Heap:=⟨⟨[boot_o_0 P,boot_o_1 P,boot_o_2 P,Db P,boot_o_4 P,boot_o_5 P,boot_o_6 P,boot_o_7 P,boot_o_8 P,boot_o_9 P,boot_o_10 P,hX,IP,h8,h9,jR,jS,jT,jU,jV,jW,jX,jY,jZ,h_ P,j0,j4,j5,j6,j7,ia P,ib,j8,j9,j_,ka,kb,ic P,kc,kd,ke,kf,kg,ie P,ig,kh,kj,km,ko,ik P,kr,ku,ky,kA,kB,im P,io,kC,kF,kG,kH,kI,iq,ir,kJ,kK,kL,kO,kP,iu,iw,kQ,kR,kS,kT,kU,ix,iy,kW,kX,kY,kZ,k6,iz,iA,k7,k8,k9,k_,lc,lh,lj,ll,lu,lv,lw,lx,iB,iC,lD,lE,lF,lG,lH,iD,iE,lI,lJ,lK,lL,lM,iF,iG,lN,lO,lP,lQ,lR,iH,iI,lS,lT,lU,iJ,iK,lV,lW,lY,lZ,l5,iL,iM,l7,l8,l9,l_,md,iN,iO,me,mf,mh,mj,ml,iP,iQ,mm,mn,mo,mq,mr,iR,iS,ms,mv,iT P,mw,mC,mD,mE,mF,mG,mH,mI,mJ,mK,mL,mM,mO,mP,mQ,mR,iU,iV,mS,mT,mU,mV,mW,iW,iX,mX,mY,mZ,m5,m7,iY,iZ,m8,m9,m_,ng,nh,i4,i5,nj,i7 P,nA,nk,nv,nw,ny,uV,uW,nE P,uX,uY,uZ,u6,u8,u9,u_,va,vc,nH,nI,vd,ve,vf,nJ,nK,vg,vh,vi,vj,vk,nO,nP,vm,vn,vo,vp,vq,nQ,nR,vt,vv,vw,vx,vy,nT,nV,vz,vA,vB,vC,vD,nX,nY,vE,vF,vG,nZ,n6,vH,n8 P,n_,vI,vJ,vK,vL,og P,vM,vN,vO,vP,vQ,vR,vS,vT,vU,oh,oj,vV,vW,vX,vY,vZ,om,oo,v0,v4,v5,v6,v7,oq,ou,v8,ow P,ox,v9,v_,wa,wb,oy P,wc,wd,we,wf,wg,wj,wk,wl,wm,oz,oA,wn,wo,wp,wq,wt,oC,oE,wu,wv,ww,wx,wz,oG,oH,wA,wB,wC,wD,wE,oI,oJ,wF,wG,wH,wI,wJ,oM,oN,wK,oO P,oP,wL,wM,wN,wO,oQ P,wP,wQ,wR,wS,wT,wU,wV,wW,wX,oR,oS,wY,wZ,w8,w_,xa,oU,oV,xb,xc,xf,xg,xh,oW,oX,xi,xj,xk,xl,xm,oY,oZ,xn,o0 P,o8,xo,xp,xq,xr,xu,Ay,Az,AA,xv,xw,AB,AC,AD,AE,AF,xx,xy,AG,AH,AI,AJ,AK,xz,xB,AL,AM,AN,AO,AQ,xC,xE,AR,AS,AT,AU,AV,xF,xG,AW,AX,xH P,AY,AZ,A1,A2,A3,A4,A5,xI,xJ,A6,A7,A8,A9,A_,Ba,Bb,Bc,Be,Bf,xK,xL,Bg,Bh,Bi,xM,xN,Bj,Bk,Bl,xO,xQ,Bm,xR P,xS,Bn,Bo,Bp,Bq,Br,Bs,Bv,Bx,By,xT,xU,Bz,BA,BB,BC,BD,xV,xW,BE,BF,BG,BH,BI,xX,xY,BJ,BK,BL,BM,BN,xZ,x8,BO,BP,BQ,BR,BS,x9,x_,BU,BV,BW,BX,BY,ya,yb,BZ,B3,B4,B5,B6,yc,yd,B7,B8,B9,ye,yf,B_,Ca,Cb,yg,yh,Cc,Cd,Ce,Cf,Cg,yi,yj,Ch,Ci,Cj,Ck,Cm,yk,yl,Cn,Co,Cp,Cq,Cr,ym,yn,Cs,Ct,Cu,Cv,Cw,yo,yp,Cy,Cz,CA,CB,CC,yq,yr,CD,CF,CG,CH,CI,yt,yu,CJ,CK,CL,CM,CN,yw,yx,CO,CP,CQ,CS,CT,yy,yz,CU,CV,CW,yA,yB,CY,CZ,C2,yC,yD,C3,C4,C5,yE,yF,C6,C7,C8,yG,yH,C9,C_,Da,yI,yJ,IQ,IR,IS,IT,IU,Dd,De,IV,IW,IX,Df,Dg]⟩,{}⟩
set_option maxHeartbeats 0 in
theorem IY (w:World)(os:OsState):topGo treeTable PySem.Challenge.pw_sumcraft_k54_frames_by_numbers w 11 (some (.ref 6)) 12 (⟨boot_heap w.params,Array.mk [],boot_drawn,boot_toks,os⟩:Shared) (topStub PySem.Challenge.pw_sumcraft_k54_frames_by_numbers)=some ((⟨hp1 w.params,#[],{},187,os⟩:Shared),⟨denote treeTable cd0,cd0,{ line:=0,col:=0,endLine:=0,endCol:=0 },fr0⟩):=by kernel_rfl
set_option maxHeartbeats 0 in
theorem IZ (w:World)(os:OsState):segRun treeTable PySem.Challenge.pw_sumcraft_k54_frames_by_numbers w 11 (some (.ref 6)) 1 1 (⟨hp1 w.params,#[],{},187,os⟩:Shared) (blockOf (behindTheImports PySem.Challenge.pw_sumcraft_k54_frames_by_numbers) env0 cd0 { line:=0,col:=0,endLine:=0,endCol:=0 } fr0)=some (.next,(⟨hp1 w.params,#[],{},187,os⟩:Shared),cd0,{ line:=0,col:=0,endLine:=0,endCol:=0 }):=by kernel_rfl
noncomputable def gl3:List Stmt:=[top 0,top 1,top 2,top 3,top 4,top 5,top 6,top 7,top 8,top 9,top 10,top 11,top 12,top 13,top 14,top 15,top 16,top 17,top 18,top 19,top 20,top 21,top 22,top 23,top 24,top 25]
set_option maxHeartbeats 0 in
theorem pc3 (w:World)(os:OsState):segRun treeTable PySem.Challenge.pw_sumcraft_k54_frames_by_numbers w 11 (some (.ref 6)) 1 1497 (⟨hp1 w.params,#[],{},187,os⟩:Shared) (piecesOf gl3 env0 cd0 { line:=0,col:=0,endLine:=0,endCol:=0 } fr0)=some (.next,(⟨hp3 w.params,#[],{},457,os⟩:Shared),cd0,{ line:=92,col:=0,endLine:=107,endCol:=21 }):=by kernel_rfl
noncomputable def gl4:List Stmt:=[top 26,top 27,top 28,top 29]
set_option maxHeartbeats 0 in
theorem pc4 (w:World)(os:OsState):segRun treeTable PySem.Challenge.pw_sumcraft_k54_frames_by_numbers w 11 (some (.ref 6)) 1 1472 (⟨hp3 w.params,#[],{},457,os⟩:Shared) (piecesOf gl4 env0 cd0 { line:=92,col:=0,endLine:=107,endCol:=21 } fr0)=some (.next,(⟨hp4 w.params,#[],{},692,os⟩:Shared),cd0,{ line:=170,col:=0,endLine:=182,endCol:=83 }):=by kernel_rfl
noncomputable def gl5:List Stmt:=[top 30,top 31,top 32,top 33,top 34,top 35,top 36,top 37,top 38,top 39,top 40,top 41,top 42,top 43,top 44,top 45,top 46,top 47,top 48,top 49,top 50,top 51,top 52,top 53,top 54,top 55,top 56,top 57,top 58,top 59,top 60,top 61,top 62,top 63]
set_option maxHeartbeats 0 in
theorem pc5 (w:World)(os:OsState):segRun treeTable PySem.Challenge.pw_sumcraft_k54_frames_by_numbers w 11 (some (.ref 6)) 1 1221 (⟨hp4 w.params,#[],{},692,os⟩:Shared) (piecesOf gl5 env0 cd0 { line:=170,col:=0,endLine:=182,endCol:=83 } fr0)=some (.next,(⟨hp5 w.params,#[],{},993,os⟩:Shared),cd0,{ line:=427,col:=0,endLine:=432,endCol:=87 }):=by kernel_rfl
noncomputable def gl6:List Stmt:=[top 64,top 65]
set_option maxHeartbeats 0 in
theorem pc6 (w:World)(os:OsState):segRun treeTable PySem.Challenge.pw_sumcraft_k54_frames_by_numbers w 11 (some (.ref 6)) 1 57 (⟨hp5 w.params,#[],{},993,os⟩:Shared) (piecesOf gl6 env0 cd0 { line:=427,col:=0,endLine:=432,endCol:=87 } fr0)=some (.next,(⟨hp6 w.params,#[],{},1007,os⟩:Shared),cd0,{ line:=438,col:=0,endLine:=463,endCol:=51 }):=by kernel_rfl
set_option maxHeartbeats 0 in
theorem I0 (w:World)(os:OsState):topRun treeTable PySem.Challenge.pw_sumcraft_k54_frames_by_numbers w 11 (some (.ref 6)) 2 (⟨hp6 w.params,#[],{},1007,os⟩:Shared) ⟨doneF .next,cd0,{ line:=438,col:=0,endLine:=463,endCol:=51 },fr0⟩=some (⟨hp6 w.params,#[],{},1007,os⟩:Shared):=by kernel_rfl
theorem I_:behindTheImports PySem.Challenge.pw_sumcraft_k54_frames_by_numbers=gl3++(gl4++(gl5++(gl6++[]))):=by kernel_rfl
theorem Ja (w:World)(os:OsState):topRun treeTable PySem.Challenge.pw_sumcraft_k54_frames_by_numbers w 11 (some (.ref 6)) (12+(1+(1497+(1472+(1221+(57+2)))))) (⟨boot_heap w.params,Array.mk [],boot_drawn,boot_toks,os⟩:Shared) (topStub PySem.Challenge.pw_sumcraft_k54_frames_by_numbers)=some (⟨hp6 w.params,#[],{},1007,os⟩:Shared):=
 go_top (IY w os) (piece_block (IZ w os) (by
  rw[I_];exact piece_app (pc3 w os) (piece_app (pc4 w os) (piece_app (pc5 w os) (piece_app (pc6 w os) (piece_nil (I0 w os)))))))
noncomputable def KK (P:Params):Frag:=[(3,Db P),(24,h_ P),(30,ia P),(31,ib),(37,ic P),(43,ie P),(44,ig),(49,ik P),(55,im P),(56,io),(62,iq),(63,ir),(69,iu),(70,iw),(76,ix),(77,iy),(83,iz),(84,iA),(97,iB),(98,iC),(104,iD),(105,iE),(111,iF),(112,iG),(118,iH),(119,iI),(123,iJ),(124,iK),(130,iL),(131,iM),(137,iN),(138,iO),(144,iP),(145,iQ),(151,iR),(152,iS),(155,iT P),(172,iU),(173,iV),(179,iW),(180,iX),(186,iY),(187,iZ),(193,i4),(194,i5),(196,i7 P),(197,nA),(204,nE P),(214,nH),(215,nI),(219,nJ),(220,nK),(226,nO),(227,nP),(233,nQ),(234,nR),(240,nT),(241,nV),(247,nX),(248,nY),(252,nZ),(253,n6),(255,n8 P),(256,n_),(261,og P),(271,oh),(272,oj),(278,om),(279,oo),(285,oq),(286,ou),(288,ow P),(289,ox),(294,oy P),(304,oz),(305,oA),(311,oC),(312,oE),(318,oG),(319,oH),(325,oI),(326,oJ),(332,oM),(333,oN),(335,oO P),(336,oP),(341,oQ P),(351,oR),(352,oS),(358,oU),(359,oV),(365,oW),(366,oX),(372,oY),(373,oZ),(375,o0 P),(376,o8),(379,xq),(380,xr),(381,xu),(385,xv),(386,xw),(392,xx),(393,xy),(399,xz),(400,xB),(406,xC),(407,xE),(413,xF),(414,xG),(417,xH P),(425,xI),(426,xJ),(437,xK),(438,xL),(442,xM),(443,xN),(447,xO),(448,xQ),(450,xR P),(451,xS),(461,xT),(462,xU),(468,xV),(469,xW),(475,xX),(476,xY),(482,xZ),(483,x8),(489,x9),(490,x_),(496,ya),(497,yb),(503,yc),(504,yd),(508,ye),(509,yf),(513,yg),(514,yh),(520,yi),(521,yj),(527,yk),(528,yl),(534,ym),(535,yn),(541,yo),(542,yp),(548,yq),(549,yr),(555,yt),(556,yu),(562,yw),(563,yx),(569,yy),(570,yz),(574,yA),(575,yB),(579,yC),(580,yD),(584,yE),(585,yF),(589,yG),(590,yH),(594,yI),(595,yJ),(601,Dd),(602,De),(606,Df),(607,Dg)]
noncomputable def KA:List Addr:=[3,24,30,31,37,43,44,49,55,56,62,63,69,70,76,77,83,84,97,98,104,105,111,112,118,119,123,124,130,131,137,138,144,145,151,152,155,172,173,179,180,186,187,193,194,196,197,204,214,215,219,220,226,227,233,234,240,241,247,248,252,253,255,256,261,271,272,278,279,285,286,288,289,294,304,305,311,312,318,319,325,326,332,333,335,336,341,351,352,358,359,365,366,372,373,375,376,379,380,381,385,386,392,393,399,400,406,407,413,414,417,425,426,437,438,442,443,447,448,450,451,461,462,468,469,475,476,482,483,489,490,496,497,503,504,508,509,513,514,520,521,527,528,534,535,541,542,548,549,555,556,562,563,569,570,574,575,579,580,584,585,589,590,594,595,601,602,606,607]
noncomputable def qv:Program:=view PySem.Challenge.pw_sumcraft_k54_frames_by_numbers [0,2,3,4,6,7,8,9,11,12,13,14,15,17,18,19,20,21,22,23,24,25,26,27,28,29,31,32,33,34,35,36,37,38,39,40,42,43,44,45,46,47,48,49,50,51,52,53,54,55,56,57,58,59,60,61,62,63,64,65]
def xt (s:Shared):Bool:=xlAt qv [] s && recOk (PySem.Challenge.rw_sumcraft_k54_frames_by_numbers.row.toRowW).records s
def hk:Hook:=kHook KK KA λ_=>rfl
set_option maxHeartbeats 0 in
theorem left:LeftO PySem.Challenge.pw_sumcraft_k54_frames_by_numbers qv [] xt hk.obs hk.val 8612:=
 LeftO.of_pieces (H₀:=boot_heap) (H₁:=hp6) (gs₁:=#[]) (d₁:={}) (k₁:=1007)
  (boot_open (by kernel_rfl) rfl λs=>by kernel_rfl)
  (λw=>by kernel_rfl) Ja (by kernel_rfl)
  λw=>by kernel_rfl
set_option maxHeartbeats 0 in
theorem Jb:PySem.Challenge.rw_sumcraft_k54_frames_by_numbers.wellSaid=true:=by kernel_rfl
set_option maxHeartbeats 0 in
theorem Jc:PySem.Challenge.rw_sumcraft_k54_frames_by_numbers.row.prog.bare:=⟨rfl,rfl,rfl,rfl,rfl,by decide +kernel⟩
end My
namespace L2
open PySem PySem.Spec PyProof.Rows
abbrev Key:=Sum Int Str
def gm:Key->Value->Bool
 | .inl k,v=>Value.isInt k v
 | .inr x,v=>Value.isStrOf x v
def Jd (w:World):Key->Int
 | .inl k=>hashInt k
 | .inr x=>hashStr w x
theorem d8:∀{k:Key}{v:Value},gm k v=true->(∃i t,k=Sum.inl i∧v=Value.int i t)∨(∃x t,k=Sum.inr x∧v=Value.str x t)
 | .inl i,v,h=>by
  obtain⟨t,e⟩:=Value.isInt_shape (k:=i) (v:=v) h;exact .inl ⟨i,t,rfl,e⟩
 | .inr x,v,h=>by
  obtain⟨t,e⟩:=Value.isStrOf_shape (x:=x) (v:=v) h;exact .inr ⟨x,t,rfl,e⟩
theorem Je (i:Int)(t:Tok):gm (.inl i) (.int i t)=true:=by simp[gm,Value.isInt]
theorem Jf (x:Str)(t:Tok):gm (.inr x) (.str x t)=true:=by simp[gm,Value.isStrOf]
theorem Jg (a b:Int):decide ((Sum.inl a:Key)=Sum.inl b)=(a == b):=by
 by_cases e:a=b
 ·subst e;simp
 ·have h:¬(Sum.inl a:Key)=Sum.inl b:=λq=>e (Sum.inl.inj q);rw[decide_eq_false h];exact (beq_eq_false_iff_ne.mpr e).symm
theorem Jh (a b:Str):decide ((Sum.inr a:Key)=Sum.inr b)=decide (a=b):=by
 by_cases e:a=b
 ·subst e;simp
 ·have h:¬(Sum.inr a:Key)=Sum.inr b:=λq=>e (Sum.inr.inj q);rw[decide_eq_false h,decide_eq_false e]
theorem Ji (a:Int)(b:Str):decide ((Sum.inl a:Key)=Sum.inr b)=false:=decide_eq_false (λq=>nomatch q)
theorem Jj (a:Str)(b:Int):decide ((Sum.inr a:Key)=Sum.inl b)=false:=decide_eq_false (λq=>nomatch q)
def bj (prog:Program)(w:World):PySem.KeyKind prog w Key where
 is:=gm
 hash:=Jd w
 inj:=λv a b ha hb=>by
  rcases d8 ha with ⟨i,t,rfl,rfl⟩|⟨x,t,rfl,rfl⟩
  ·rcases d8 hb with ⟨j,u,rfl,e⟩|⟨y,u,rfl,e⟩
   ·injection e with e1 _;rw[e1]
   ·exact nomatch e
  ·rcases d8 hb with ⟨j,u,rfl,e⟩|⟨y,u,rfl,e⟩
   ·exact nomatch e
   ·injection e with e1 _;rw[e1]
 byValue:=λk v h=>by
  rcases d8 h with ⟨i,t,rfl,rfl⟩|⟨x,t,rfl,rfl⟩ <;> rfl
 pyHash:=λhv h=>by
  rcases d8 hv with ⟨i,t,rfl,rfl⟩|⟨x,t,rfl,rfl⟩
  ·exact wpAny_pyHash_int h
  ·exact wpAny_pyHash_str h
 eqBool:=λhu hv h=>by
  rcases d8 hu with ⟨i,t,rfl,rfl⟩|⟨x,t,rfl,rfl⟩
  ·rcases d8 hv with ⟨j,u,rfl,rfl⟩|⟨y,u,rfl,rfl⟩
   ·rw[Jg]at h;exact wpAny_eqBool_int h
   ·rw[Ji]at h;exact SeqAt.EqAt.int_str i t y u _ _ _ _ h
  ·rcases d8 hv with ⟨j,u,rfl,rfl⟩|⟨y,u,rfl,rfl⟩
   ·rw[Jj]at h;exact SeqAt.EqAt.str_int x t j u _ _ _ _ h
   ·rw[Jh]at h;exact wpAny_eqBool_str h
 «strs»:=λk x t v h=>by
  rcases d8 h with ⟨i,u,rfl,e⟩|⟨y,u,rfl,e⟩
  ·exact nomatch e
  ·injection e with e1 _;subst e1
   cases v <;> rfl
theorem Jk (prog:Program)(w:World)(i:Int)(t:Tok):(bj prog w).is (.inl i) (.int i t)=true:=Je i t
theorem Jl (prog:Program)(w:World)(x:Str)(t:Tok):(bj prog w).is (.inr x) (.str x t)=true:=Jf x t
inductive V where
 | non|bl (b:Bool)|int (i:Int)|str (x:Str)|byt (b:Array UInt8)|flt (b:UInt64)|ref (a:Addr)|ty (n:String)
 deriving DecidableEq
def RelV:V->Value->Prop
 | .non,u=>u=Value.none
 | .bl b,u=>u=Value.bool b
 | .int i,u=>∃t,u=Value.int i t
 | .str x,u=>∃t,u=Value.str x t
 | .byt b,u=>∃t,u=Value.bytes b t
 | .flt b,u=>∃t,u=Value.float b t
 | .ref a,u=>u=Value.ref a
 | .ty n,u=>u=Value.type n
abbrev Vals:List V->List Value->Prop:=Paired RelV
theorem Vals.length {xs:List V}{us:List Value}(r:Vals xs us):xs.length=us.length:=Paired.length r
theorem Vals.get:∀{xs:List V}{us:List Value}{i:Nat}{x:V},Vals xs us->xs[i]?=some x->∃u,us[i]?=some u∧RelV x u
 | _,_,_,_,.nil,e=>by simp at e
 | _,_,0,_,.cons r _,e=>by simp at e;subst e;exact⟨_,rfl,r⟩
 | _,_,i+1,x,.cons _ t,e=>by
  obtain⟨u,h1,h2⟩:=Vals.get (i:=i) (x:=x) t (by simpa using e);exact⟨u,by simpa using h1,h2⟩
theorem Vals.append:∀{xs ys:List V}{us ws:List Value},Vals xs us->Vals ys ws->Vals (xs++ys) (us++ws)
 | _,_,_,_,.nil,s=>s
 | _,_,_,_,.cons r t,s=>.cons r (Vals.append t s)
theorem Vals.take:∀{xs:List V}{us:List Value}(n:Nat),Vals xs us->Vals (xs.take n) (us.take n)
 | _,_,0,_=>.nil
 | _,_,_+1,.nil=>.nil
 | _,_,n+1,.cons r t=>.cons r (Vals.take n t)
theorem Vals.drop:∀{xs:List V}{us:List Value}(n:Nat),Vals xs us->Vals (xs.drop n) (us.drop n)
 | _,_,0,r=>r
 | _,_,_+1,.nil=>.nil
 | _,_,n+1,.cons _ t=>Vals.drop n t
def RelO:Option V->Option Value->Prop
 | some v,some u=>RelV v u
 | none,none=>True
 | _,_=>False
def KV {κ:Type}:List (κ×V)->List (κ×Value)->Prop:=Paired λ(p:κ×V) (q:κ×Value)=>p.1=q.1∧RelV p.2 q.2
def kV:Key->V
 | .inl i=>.int i
 | .inr x=>.str x
inductive HO where
  | lst (xs:List V)
  | tup (xs:List V)
  | dK (kvs:List (Key×V))|dT (kvs:List (List Key×V))
  | set (S:Int->Bool) (n:Nat)
  | ins (C dx:Addr) (fs:List (Str×V))
  | own (x:Addr)
  | xd (fs:List (Str×V))
  | met (f x:Addr)
  | rng (lo hi:Int)
  | frz (o:Obj) (u:HO)
  | tbl (ps:Array Value)
  | ext (φ:Heap->Prop)
abbrev Hp:=Addr->Option HO
def upd (H:Hp)(a:Addr)(o:HO):Hp:=λb=>if b=a then some o else H b
theorem af {H:Hp}{a:Addr}{o:HO}:upd H a o a=some o:=by unfold upd;rw[if_pos rfl]
theorem aq {H:Hp}{a b:Addr}{o:HO}(h:b≠a):upd H a o b=H b:=by unfold upd;rw[if_neg h]
theorem Jm {H:Hp}{a:Addr}{o u:HO}:upd (upd H a o) a u=upd H a u:=by
 funext b;unfold upd;split <;> rfl
theorem aW {H:Hp}{a b:Addr}{o u:HO}(h:H a=some o)(h':H b=some u)(d:o≠u):a≠b:=by
 intro e;subst e;rw[h]at h';exact d (Option.some.inj h')
theorem aV {H:Hp}{a b:Addr}{o:HO}(h:H a=some o)(h':H b=none):a≠b:=by
 intro e;subst e;rw[h]at h';cases h'
section
variable (P:Program)(w:World)
def ObjOk (H:Hp)(h:Heap)(a:Addr):HO->Prop
 | .lst xs=>xs.length<=sizeLine∧∃(its:List Value) (n:Nat),Vals xs its∧h.get? a=some { cls:=.type "list",data:=.seq its.toArray n }
 | .tup xs=>xs.length<=sizeLine∧∃its:List Value,Vals xs its∧IsTup h a its.toArray
 | .dK kvs=>kvs.length<=sizeLine∧(a == sysModules)=false∧∃vs,KV kvs vs∧h.DictOf (bj P w) a vs
 | .dT kvs=>kvs.length<=sizeLine∧(a == sysModules)=false∧∃xs:List (List Key×Addr×Value),
   Paired (λ(p:List Key×V) (q:List Key×Addr×Value)=>p.1=q.1∧H q.2.1=some (.tup (p.1.map kV))∧RelV p.2 q.2.2) kvs xs∧
   ∃o es ep,h.get? a=some o∧o.ExactDict∧o.data=.dict es ep∧es.toList=xs.map (entryOfKey (tupleKind (bj P w)))∧(xs.map (·.1)).Nodup
 | .set S n=>h.SetOf (intKind P w) a S n
 | .ins C dx fs=>H dx=some (.own a)∧fs.length<=1000∧dx≠a∧h.get? a=some (PySem.W.instObj C dx)∧
   ∃mA,h.Ns1 dx mA∧(∀f,RelO (fs.lookup f) (mA f))∧PySem.Within mA (fs.map (·.1))
 | .own _=>∃o,h.get? a=some o
 | .xd fs=>∃mA,h.Ns1 a mA∧∀f,RelO (fs.lookup f) (mA f)
 | .rng lo hi=>∃t u v,h.get? a=some { cls:=.type "range",data:=.fields #[.int lo t,.int hi u,.int 1 v] }
 | .frz o u=>h.get? a=some o∧ObjOk H h a u
 | .tbl ps=>h.get? a=some { cls:=.none,data:=.fields ps }
 | .met f x=>h.get? a=some (PySem.W.methodObj (.ref f) (.ref x))
 | .ext φ=>φ h∧(∃o,h.get? a=some o)∧∀h1 h2:Heap,φ h1->(∀o,h1.get? a=some o->h2.get? a=some o)->φ h2
def HOk (H:Hp)(h:Heap):Prop:=∀a o,H a=some o->ObjOk P w H h a o
end
section
variable {P:Program}{w:World}{H H':Hp}{h h':Heap}{a:Addr}{o:HO}
theorem ObjOk.lt (x:ObjOk P w H h a o):a<h.objs.size:=by
 cases o with
 | lst xs=>obtain⟨_,_,_,_,e⟩:=x;exact Heap.lt_size e
 | tup xs=>obtain⟨_,_,_,p⟩:=x;exact p.lt
 | dK kvs=>obtain⟨_,_,_,_,o,_,_,e,_⟩:=x;exact Heap.lt_size e
 | dT kvs=>obtain⟨_,_,_,_,o,_,_,e,_⟩:=x;exact Heap.lt_size e
 | set S n=>obtain⟨o,_,_,_,e,_⟩:=x;exact Heap.lt_size e
 | ins C dx fs=>obtain⟨_,_,_,e,_⟩:=x;exact Heap.lt_size e
 | own y=>obtain⟨_,e⟩:=x;exact Heap.lt_size e
 | xd fs=>obtain⟨_,⟨_,_,_,e,_⟩,_⟩:=x;exact Heap.lt_size e
 | rng lo hi=>obtain⟨_,_,_,e⟩:=x;exact Heap.lt_size e
 | frz ob u=>obtain⟨e,_⟩:=x;exact Heap.lt_size e
 | tbl ps=>exact Heap.lt_size (show h.get? a=some _ from x)
 | met f y=>exact Heap.lt_size (show h.get? a=some _ from x)
 | ext φ=>obtain⟨_,⟨_,e⟩,_⟩:=x;exact Heap.lt_size e
theorem Paired.mapP {α β:Type}{F G:α->β->Prop}:∀{l₁:List α}{l₂:List β},Paired F l₁ l₂->(∀a b,F a b->G a b)->Paired G l₁ l₂
 | _,_,.nil,_=>.nil
 | _,_,.cons r t,f=>.cons (f _ _ r) (Paired.mapP t f)
theorem ObjOk.stay (x:ObjOk P w H h a o) (k:∀b u,(b=a∨H b=some (.own a))->h.get? b=some u->h'.get? b=some u)
  (ho:∀b,H b=some (.own a)->H' b=some (.own a)) (ht:∀b xs,H b=some (.tup xs)->H' b=some (.tup xs)):ObjOk P w H' h' a o:=by
 induction o with
 | lst xs=>obtain⟨z,its,n,r,e⟩:=x;exact⟨z,its,n,r,k _ _ (.inl rfl) e⟩
 | tup xs=>obtain⟨z,its,r,ob,e,c⟩:=x;exact⟨z,its,r,ob,k _ _ (.inl rfl) e,c⟩
 | dK kvs=>obtain⟨z,y,vs,r,ob,es,ep,e,c⟩:=x;exact⟨z,y,vs,r,ob,es,ep,k _ _ (.inl rfl) e,c⟩
 | dT kvs=>
  obtain⟨z,y,xs,r,ob,es,ep,e,c⟩:=x;exact⟨z,y,xs,Paired.mapP r λp q z=>⟨z.1,ht _ _ z.2.1,z.2.2⟩,ob,es,ep,k _ _ (.inl rfl) e,c⟩
 | set S n=>obtain⟨ob,es,ep,t,e,c⟩:=x;exact⟨ob,es,ep,t,k _ _ (.inl rfl) e,c⟩
 | ins C dx fs=>
  obtain⟨d,z,ne,e,mA,⟨od,es,ep,e2,c⟩,r⟩:=x;exact⟨ho _ d,z,ne,k _ _ (.inl rfl) e,mA,⟨od,es,ep,k _ _ (.inr d) e2,c⟩,r⟩
 | own y=>obtain⟨ob,e⟩:=x;exact⟨ob,k _ _ (.inl rfl) e⟩
 | xd fs=>obtain⟨mA,⟨od,es,ep,e,c⟩,r⟩:=x;exact⟨mA,⟨od,es,ep,k _ _ (.inl rfl) e,c⟩,r⟩
 | rng lo hi=>obtain⟨t,u,v,e⟩:=x;exact⟨t,u,v,k _ _ (.inl rfl) e⟩
 | frz ob u ih=>obtain⟨e,q⟩:=x;exact⟨k _ _ (.inl rfl) e,ih q⟩
 | tbl ps=>
  have e:h.get? a=some { cls:=.none,data:=.fields ps }:=x;show h'.get? a=some { cls:=.none,data:=.fields ps };exact k a _ (.inl rfl) e
 | met f y=>
  have e:h.get? a=some (PySem.W.methodObj (.ref f) (.ref y)):=x;show h'.get? a=some (PySem.W.methodObj (.ref f) (.ref y));exact k a _ (.inl rfl) e
 | ext φ=>obtain⟨p,⟨o,e⟩,st⟩:=x;exact⟨st _ _ p λo q=>k _ _ (.inl rfl) q,⟨o,k _ _ (.inl rfl) e⟩,st⟩
theorem HOk.lt (x:HOk P w H h)(e:H a=some o):a<h.objs.size:=(x a o e).lt
theorem HOk.fresh (x:HOk P w H h)(e:h.objs.size<=a):H a=none:=by
 cases q:H a with
 | none=>rfl
 | some u=>exact absurd (a_ (x.lt q) e) (eT _)
theorem HOk.kept (x:HOk P w H h)(k:∀b u,h.get? b=some u->h'.get? b=some u):HOk P w H h':=λa o e=>
 (x a o e).stay (λb u _ q=>k b u q) (λ_ q=>q) λ_ _ q=>q
theorem HOk.laid (x:HOk P w H h)(k:∀b u,h.get? b=some u->h'.get? b=some u)(hp:h.objs.size<=a)(new:ObjOk P w (upd H a o) h' a o):HOk P w (upd H a o) h':=λb u e=>by
 have hn:=x.fresh hp;by_cases hb:b=a
 ·subst hb;rw[af]at e;cases e;exact new
 ·rw[aq hb]at e;exact (x b u e).stay (λc v _ q=>k c v q) (λc q=>by rw[aq (aV q hn)];exact q) λc xs q=>by rw[aq (aV q hn)];exact q
end
def Rd (H:Hp)(a:Addr)(u:HO):Prop:=H a=some u∨∃o,H a=some (.frz o u)
theorem Rd.ok {P:Program}{w:World}{H:Hp}{h:Heap}{a:Addr}{u:HO}(r:Rd H a u)(x:HOk P w H h):ObjOk P w H h a u:=by
 rcases r with r|⟨o,r⟩
 ·exact x a u r
 ·obtain⟨_,q⟩:=x a _ r;exact q
def Mut:Option HO->Prop
 | some (.lst _)=>True
 | some (.dK _)=>True
 | some (.dT _)=>True
 | some (.set _ _)=>True
 | some (.ins _ _ _)=>True
 | some (.ext _)=>True
 | _=>False
section
variable {P:Program}{w:World}{H:Hp}{h h':Heap}{x e:Addr}{o':HO}
theorem HOk.write (ok:HOk P w H h) (mu:Mut (H x)) (he:e=x∨H e=some (.own x)) (k:∀b u,b≠e->h.get? b=some u->h'.get? b=some u) (heo:∃u,h'.get? e=some u)
  (new:ObjOk P w (upd H x o') h' x o'):HOk P w (upd H x o') h':=λb u q=>by
 have nown:∀c y,H c=some (.own y)->c≠x:=λc y r z=>by subst z;rw[r]at mu;exact mu
 have ntup:∀c xs,H c=some (.tup xs)->c≠x:=λc xs r z=>by subst z;rw[r]at mu;exact mu
 by_cases hb:b=x
 ·subst hb;rw[af]at q;cases q;exact new
 ·rw[aq hb]at q;by_cases hbe:b=e
  ·have q':H b=some (.own x):=by
    rcases he with z|z
    ·exact absurd (hbe.trans z) hb
    ·rw[hbe];exact z
   rw[q]at q';cases q';obtain⟨v,hv⟩:=heo;exact⟨v,by rw[hbe];exact hv⟩
  ·refine (ok b u q).stay (λc v hc r=>k c v ?_ r) (λc r=>by rw[aq (nown c b r)];exact r) λc xs r=>by rw[aq (ntup c xs r)];exact r
   rcases hc with rfl|hc
   ·exact hbe
   ·rintro rfl
    rcases he with z|z
    ·exact nown c b hc z
    ·rw[hc]at z;cases z;exact hb rfl
end
structure Un (fs ex:List Addr)(H H':Hp)(h h':Heap):Prop where
 keep:∀b o,h.get? b=some o->H b=none->b∉fs->b∉ex->h'.get? b=some o
 slot:∀b o,h.get? b=some o->H b=none->b∈fs->b∉ex->∃sl,h'.get? b=some { o with slots:=sl }
 free:∀b o,h.get? b=some o->H b=none->b∉ex->H' b=none
 there:∀b o,h.get? b=some o->b∉ex->∃o',h'.get? b=some o'
 tups:∀b xs,H b=some (.tup xs)->H' b=some (.tup xs)
 frzs:∀b o u,H b=some (.frz o u)->H' b=some (.frz o u)
 tbls:∀b ps,H b=some (.tbl ps)->∃more,H' b=some (.tbl (ps++more))
section
variable {fs fs' ex ex':List Addr}{H H1 H2:Hp}{h h1 h2 h':Heap}{a x e:Addr}{o:HO}
theorem Un.any (u:Un fs ex H H1 h h1){b:Addr}{ob:Obj}(q:h.get? b=some ob)(n:H b=none)(hx:b∉ex):∃sl,h1.get? b=some { ob with slots:=sl }:=by
 by_cases hb:b∈fs
 ·exact u.slot b ob q n hb hx
 ·exact⟨ob.slots,u.keep b ob q n hb hx⟩
theorem Un.trans (a:Un fs ex H H1 h h1)(b:Un fs ex H1 H2 h1 h2):Un fs ex H H2 h h2 where
 keep:=λc ob q n hc hx=>b.keep c ob (a.keep c ob q n hc hx) (a.free c ob q n hx) hc hx
 slot:=λc ob q n hc hx=>by
  obtain⟨sl,e1⟩:=a.slot c ob q n hc hx;obtain⟨sl',e2⟩:=b.slot c _ e1 (a.free c ob q n hx) hc hx;exact⟨sl',e2⟩
 free:=λc ob q n hx=>by
  obtain⟨o',e1⟩:=a.there c ob q hx;exact b.free c o' e1 (a.free c ob q n hx) hx
 there:=λc ob q hx=>by
  obtain⟨o',e1⟩:=a.there c ob q hx;exact b.there c o' e1 hx
 tups:=λc xs q=>b.tups c xs (a.tups c xs q)
 frzs:=λc ob xs q=>b.frzs c ob xs (a.frzs c ob xs q)
 tbls:=λc ps q=>by
  obtain⟨m1,e1⟩:=a.tbls c ps q;obtain⟨m2,e2⟩:=b.tbls c _ e1;exact⟨m1++m2,by rw[e2,Array.append_assoc]⟩
theorem Un.kept (k:∀b u,h.get? b=some u->h'.get? b=some u):Un fs ex H H h h':=
 ⟨λb ob q _ _ _=>k b ob q,λb ob q _ _ _=>⟨ob.slots,k b ob q⟩,λ_ _ _ n _=>n,λb ob q _=>⟨ob,k b ob q⟩,λ_ _ q=>q,λ_ _ _ q=>q,λ_ ps q=>⟨#[],by rw[q];simp⟩⟩
theorem Un.refl:Un fs ex H H h h:=Un.kept λ_ _ q=>q
theorem Un.laid (k:∀b u,h.get? b=some u->h'.get? b=some u)(hp:h.objs.size<=a)(hn:H a=none):Un fs ex H (upd H a o) h h' where
 keep:=λb u q _ _ _=>k b u q
 slot:=λb u q _ _ _=>⟨u.slots,k b u q⟩
 free:=λb u q n _=>by rw[aq (aO (a_ (Heap.lt_size q) hp))];exact n
 there:=λb u q _=>⟨u,k b u q⟩
 tups:=λb xs q=>by rw[aq (aV q hn)];exact q
 frzs:=λb u xs q=>by rw[aq (aV q hn)];exact q
 tbls:=λb ps q=>⟨#[],by rw[aq (aV q hn),q];simp⟩
theorem Un.write (mu:Mut (H x))(he:e=x∨H e=some (.own x))(k:∀b u,b≠e->h.get? b=some u->h'.get? b=some u)(heo:∃u,h'.get? e=some u):Un fs ex H (upd H x o) h h':=by
 have hx:∀b,H b=none->b≠x:=λb n z=>by subst z;rw[n]at mu;exact mu
 have hb:∀b,H b=none->b≠e:=λb n z=>by
  subst z;rcases he with r|r
  ·exact hx b n r
  ·rw[n]at r;cases r
 have hm:∀b u,H b=some u->¬Mut (some u)->b≠x:=λb u q nm z=>by subst z;rw[q]at mu;exact nm mu
 refine⟨λb u q n _ _=>k b u (hb b n) q,λb u q n _ _=>⟨u.slots,k b u (hb b n) q⟩,λb u q n _=>by rw[aq (hx b n)];exact n,λb u q _=>?_,
  λb xs q=>by rw[aq (hm b _ q λz=>z)];exact q,λb u xs q=>by rw[aq (hm b _ q λz=>z)];exact q,λb ps q=>⟨#[],by rw[aq (hm b _ q λz=>z),q];simp⟩⟩
 by_cases hbe:b=e
 ·subst hbe;exact heo
 ·exact⟨u,k b u hbe q⟩
end
def trk (h:Heap)(H:Hp):List Addr:=(aR h.objs.size).filter λa=>(H a).isSome
def d9 (h:Heap)(H:Hp):Heap:=PySem.W.hideAll h (trk h H)
theorem Jn (h:Heap)(H:Hp):(d9 h H).objs.size=h.objs.size:=PySem.W.hideAll_size _ _
theorem Jo {h:Heap}{H:Hp}{b:Addr}{o:Obj}(e:h.get? b=some o)(n:H b=none):(d9 h H).get? b=some o:=
 PySem.W.hideAll_get _ e λhm=>by
  have q:(H b).isSome=true:=(Ah.mp hm).2;rw[n]at q;simp at q
theorem Jp {h:Heap}{H:Hp}{b:Addr}{o:Obj}(e:(d9 h H).get? b=some o):h.get? b=some o∧H b=none:=by
 have e':h.get? b=some o:=PySem.W.of_hideAll (trk h H) e;refine⟨e',?_⟩
 cases q:H b with
 | none=>rfl
 | some x=>
  have hm:b∈trk h H:=Ah.mpr ⟨cM.mpr (Heap.lt_size e'),by simp[q]⟩;have z:(d9 h H).get? b=none:=PySem.W.hideAll_none (trk h H) hm;rw[z]at e;cases e
def Jq (g h:Heap)(L:Addr):List (Addr×Obj):=(aR h.objs.size).filterMap λa=>if a=L∨(g.get? a).isSome=true then none else (h.get? a).map λo=>(a,o)
def rest (g h:Heap)(L d:Addr):List (Addr×Obj):=(Jq g h L).filter λp=>decide (p.1≠d)
structure Mod (K:W.Frag)(mg:Str->Option Value)(base:Heap):Prop where
 kin:K.In base
 glob:base.Ns mainGlobals mg
 blt:∃mb,base.Ns builtinsNs mb∧∀x:Str,x ≠ "__name__" -> mb x=bootBuiltins x
 nolimit:base.NoLimit
structure Cx where
 prog:Program
 w:World
 K:W.Frag
 mg:Str->Option Value
 base:Heap
 A:Around
 N:List Str
 s₀:Shared
 H₀:Hp
 env:Env
 outer:List Env
 stack:List Env
 ex:List Addr
 fn:Str->Bool
 calm:Bool
 pn:List (Addr×Obj)
 xe:Value->Shared->Prop
def frs (l:List Env):List Addr:=l.filterMap (·.frame)
abbrev Cx.fs (X:Cx):List Addr:=frs X.outer
def Vis (sc:Scope)(x:Str):Prop:=sc.names.lookup x=some .local∨sc.names.lookup x=some .cell∨sc.names.lookup x=some .free
def Loc (sc:Scope)(x:Str):Prop:=sc.names.lookup x=some .local∨sc.names.lookup x=some .cell
def Jr (env:Env)(h:Heap)(m:Str->Option Value)(x:Str)(u:Value):Prop:=
 (env.kindOf x=some .local∧m x=some u)∨((env.kindOf x=some .cell∨env.kindOf x=some .free)∧∃c,env.cells.lookup x=some c∧h.IsCell c (some u))
structure Cx.Ok (X:Cx):Prop where
 mod:Mod X.K X.mg X.base
 kind:X.env.scope.kind=.function
 glob:X.env.globals=mainGlobals
 blt:X.env.builtins=builtinsNs
 above:X.s₀.heap.objs.size<=X.env.locals
 inj:∀x y c,X.env.cells.lookup x=some c->X.env.cells.lookup y=some c->x=y
 has:∀x,(X.env.kindOf x=some .cell∨X.env.kindOf x=some .free)->∃c,X.env.cells.lookup x=some c
 cab:∀x c,X.fn x=true->X.env.cells.lookup x=some c->X.s₀.heap.objs.size<=c
 hd:X.calm=true->X.A.handled=none
 frames:X.A.frames=some X.stack
 stk:X.stack=X.outer∨(X.stack=X.env :: X.outer∧X.env.frame=some X.env.locals)
 exf:∀b∈X.ex,b≠X.env.locals∧∀x c,X.env.cells.lookup x=some c->c≠b
 bs:∀b o,X.base.get? b=some o->X.s₀.heap.get? b=some o∧X.H₀ b=none
 bsz:X.base.objs.size<=X.s₀.heap.objs.size
 noex:∀b o,X.base.get? b=some o->b∉X.ex
 exfs:∀b∈X.ex,b∉X.fs
 funs:X.s₀.heap.FunFrames X.base X.outer
 frf:∀b∈X.fs,X.H₀ b=none
structure Inv (X:Cx)(Xj:List (Addr×Obj))(σ:List (Option V))(H:Hp)(s:Shared):Prop where
 ok:X.Ok
 os:s.os=X.s₀.os
 bare:AllBare s.gens
 base:Un X.fs X.ex X.H₀ H X.s₀.heap s.heap
 loc:∃m,s.heap.Ns X.env.locals m∧∀(i:Nat) (x:Str) (v:V),X.N[i]?=some x->σ[i]?=some (some v)->Vis X.env.scope x->∃u,RelV v u∧Jr X.env s.heap m x u
 cell:∀x c,X.env.cells.lookup x=some c->∃v,s.heap.IsCell c v
 free:H X.env.locals=none
 freeC:∀x c,X.env.cells.lookup x=some c->H c=none
 pin:∀p∈X.pn++Xj,s.heap.get? p.1=some p.2∧H p.1=none∧p.1≠X.env.locals∧p.1∉X.fs∧∀v,p.2.data≠.cell v
 hok:HOk X.prog X.w H s.heap
 len:σ.length=X.N.length
section
variable {X:Cx}{Xj:List (Addr×Obj)}{σ:List (Option V)}{H H':Hp}{s:Shared}{h':Heap}
theorem Cx.Ok.nofr (ok:X.Ok){b:Addr}{o:Obj}(e:X.base.get? b=some o):b∉X.fs:=λhb=>by
 have:=(ok.funs.mem hb).1;rw[e]at this;cases this
theorem Inv.bs (I:Inv X Xj σ H s):∀b o,X.base.get? b=some o->s.heap.get? b=some o∧H b=none:=λb o e=>
 ⟨I.base.keep b o (I.ok.bs b o e).1 (I.ok.bs b o e).2 (I.ok.nofr e) (I.ok.noex b o e),I.base.free b o (I.ok.bs b o e).1 (I.ok.bs b o e).2 (I.ok.noex b o e)⟩
theorem Inv.bk (I:Inv X Xj σ H s):∀b o,X.base.get? b=some o->s.heap.get? b=some o:=λb o e=>(I.bs b o e).1
theorem Inv.mod (I:Inv X Xj σ H s):Mod X.K X.mg X.base:=I.ok.mod
theorem Inv.kIn (I:Inv X Xj σ H s):X.K.In s.heap:=I.ok.mod.kin.keeps I.bk
theorem Inv.lt (I:Inv X Xj σ H s):X.env.locals<s.heap.objs.size:=let ⟨_,hn,_⟩:=I.loc;hn.lt
theorem Inv.sz (I:Inv X Xj σ H s):X.s₀.heap.objs.size<=s.heap.objs.size:=aP I.ok.above (cJ I.lt)
theorem Inv.nofs (I:Inv X Xj σ H s){a:Addr}(h:s.heap.objs.size<=a):a∉X.fs:=λhb=>by
 obtain⟨_,o,ho,_⟩:=I.ok.funs.mem hb;exact absurd (a_ (Heap.lt_size ho) (aP I.sz h)) (eT _)
theorem Inv.cne (I:Inv X Xj σ H s):∀x c,X.env.cells.lookup x=some c->c≠X.env.locals:=λx c e z=>by
 obtain⟨v,o,ho,hd⟩:=I.cell x c e;obtain⟨m,⟨o',es,ep,ho',hd',_⟩,_⟩:=I.loc;rw[z,ho']at ho;cases ho;rw[hd']at hd;cases hd
theorem Inv.funs (I:Inv X Xj σ H s):s.heap.FunFrames X.base X.outer:=by
 have all:∀(l:List Env),(∀b∈frs l,b∈X.fs)->X.s₀.heap.FunFrames X.base l->s.heap.FunFrames X.base l:=by
  intro l
  induction l with
  | nil=>intro _ _;trivial
  | cons env r ih=>
   intro hs hl;obtain⟨hk,⟨L,o,hf,hn,ho,hd⟩,hr⟩:=hl;have hL:L∈X.fs:=hs L (by unfold frs;rw[Ij,hf];exact cN);obtain⟨sl,e⟩:=I.base.slot L o ho (I.ok.frf L hL) hL λz=>I.ok.exfs L z hL;exact⟨hk,⟨L,_,hf,hn,e,hd⟩,ih (λb hb=>hs b (by unfold frs;rw[Ij,hf];exact b7 _ hb)) hr⟩
 exact all X.outer (λ_ hb=>hb) I.ok.funs
theorem Inv.stack (I:Inv X Xj σ H s):s.heap.FunFrames X.base X.stack:=by
 rcases I.ok.stk with e|⟨e,hf⟩
 ·rw[e];exact I.funs
 ·rw[e];obtain⟨m,hn,_⟩:=I.loc;refine .cons (by rw[I.ok.kind];decide) hf hn ?_ I.funs;exact Heap.get?_none_of_le (aP I.ok.bsz I.ok.above)
theorem Inv.stkSub (I:Inv X Xj σ H s):∀b∈frs X.stack,b∈X.env.locals :: X.fs:=λb hb=>by
 rcases I.ok.stk with e|⟨e,hf⟩
 ·rw[e]at hb;exact b7 _ hb
 ·rw[e]at hb;unfold frs at hb;rw[Ij,hf]at hb;exact hb
theorem Inv.stkFree (I:Inv X Xj σ H s):∀b∈frs X.stack,H b=none:=λb hb=>by
 rcases aH.mp (I.stkSub b hb) with e|hb
 ·rw[e];exact I.free
 ·obtain⟨_,o,ho,_⟩:=I.ok.funs.mem hb;exact I.base.free b o ho (I.ok.frf b hb) λz=>I.ok.exfs b z hb
theorem Inv.step {g':Array GenState}{t':Nat}{d':Drawn}{ch:List Addr}(I:Inv X Xj σ H s)
  (hch:∀b∈ch,(b∈X.ex∨X.s₀.heap.objs.size<=b)∧b≠X.env.locals∧(∀x c,X.env.cells.lookup x=some c->c≠b)∧∀p∈X.pn++Xj,p.1≠b)
  (keep:∀b o,b≠X.env.locals->b∉X.fs->b∉ch->s.heap.get? b=some o->H b=none->h'.get? b=some o)
  (slot:∀b o,b≠X.env.locals->b∈X.fs->b∉ch->s.heap.get? b=some o->H b=none->∃sl,h'.get? b=some { o with slots:=sl }) (free:∀b o,b∉ch->s.heap.get? b=some o->H b=none->H' b=none)
  (there:∀b o,b∉ch->s.heap.get? b=some o->∃o',h'.get? b=some o')
  (tups:∀b xs,H b=some (.tup xs)->H' b=some (.tup xs)) (frzs:∀b o u,H b=some (.frz o u)->H' b=some (.frz o u)) (tbls:∀b ps,H b=some (.tbl ps)->∃more,H' b=some (.tbl (ps++more)))
  (ns:∀m,s.heap.Ns X.env.locals m->h'.Ns X.env.locals m) (hok:HOk X.prog X.w H' h') (hg:AllBare g'):
  Inv X Xj σ H' { s with heap:=h',gens:=g',drawn:=d',toks:=t' }:=by
 have neL:∀b o,X.s₀.heap.get? b=some o->b≠X.env.locals:=λb o e=>aO (a_ (Heap.lt_size e) I.ok.above);have neC:∀b o,X.s₀.heap.get? b=some o->b∉X.ex->b∉ch:=λb o e hx hb=>by
  rcases (hch b hb).1 with z|z
  ·exact hx z
  ·exact absurd (a_ (Heap.lt_size e) z) (eT _)
 have cellK:∀x c,X.env.cells.lookup x=some c->∀v,s.heap.IsCell c v->h'.IsCell c v:=λx c e v ⟨o,ho,hd⟩=>by
  have nch:c∉ch:=λz=>(hch c z).2.2.1 x c e rfl;by_cases hc:c∈X.fs
  ·obtain⟨sl,q⟩:=slot c o (I.cne x c e) hc nch ho (I.freeC x c e);exact⟨_,q,hd⟩
  ·exact⟨o,keep c o (I.cne x c e) hc nch ho (I.freeC x c e),hd⟩
 refine⟨I.ok,I.os,hg,⟨λb o e n hb hx=>?_,λb o e n hb hx=>?_,λb o e n hx=>?_,λb o e hx=>?_,λb xs e=>tups b xs (I.base.tups b xs e),λb o xs e=>frzs b o xs (I.base.frzs b o xs e),λb ps e=>?_⟩,?_,λx c e=>?_,?_,λx c e=>?_,λp hp=>?_,hok,I.len⟩
 ·exact keep b o (neL b o e) hb (neC b o e hx) (I.base.keep b o e n hb hx) (I.base.free b o e n hx)
 ·obtain⟨sl,e1⟩:=I.base.slot b o e n hb hx;obtain⟨sl',e2⟩:=slot b _ (neL b o e) hb (neC b o e hx) e1 (I.base.free b o e n hx);exact⟨sl',e2⟩
 ·obtain⟨o',e1⟩:=I.base.there b o e hx;exact free b o' (neC b o e hx) e1 (I.base.free b o e n hx)
 ·obtain⟨o',e1⟩:=I.base.there b o e hx;exact there b o' (neC b o e hx) e1
 ·obtain⟨m1,e1⟩:=I.base.tbls b ps e;obtain⟨m2,e2⟩:=tbls b _ e1;exact⟨m1++m2,by rw[e2,Array.append_assoc]⟩
 ·obtain⟨m,hn,hl⟩:=I.loc;refine⟨m,ns m hn,λi x v e1 e2 e3=>?_⟩;obtain⟨u,r,l⟩:=hl i x v e1 e2 e3;refine⟨u,r,?_⟩;rcases l with l|⟨k,c,e,z⟩
  ·exact .inl l
  ·exact .inr ⟨k,c,e,cellK x c e _ z⟩
 ·obtain⟨v,z⟩:=I.cell x c e;exact⟨v,cellK x c e v z⟩
 ·obtain⟨m,⟨o,_,_,ho,_⟩,_⟩:=I.loc;exact free _ o (λz=>(hch _ z).2.1 rfl) ho I.free
 ·obtain⟨v,o,ho,hd⟩:=I.cell x c e;exact free c o (λz=>(hch c z).2.2.1 x c e rfl) ho (I.freeC x c e)
 ·obtain⟨e,n,ne,nf,d⟩:=I.pin p hp;have nch:p.1∉ch:=λz=>(hch p.1 z).2.2.2 p hp rfl;exact⟨keep p.1 p.2 ne nf nch e n,free p.1 p.2 nch e n,ne,nf,d⟩
theorem Inv.un {t':Nat}(I:Inv X Xj σ H s)(u:Un X.fs [] H H' s.heap h')(hok:HOk X.prog X.w H' h'):Inv X Xj σ H' { s with heap:=h',toks:=t' }:=by
 obtain⟨m,⟨o,es,ep,ho,r⟩,_⟩:=id I.loc;obtain⟨sl,hL⟩:=u.any ho I.free (by simp);exact I.step (g':=s.gens) (d':=s.drawn) (ch:=[]) (λ_ z=>nomatch z) (λb o _ hb _ e n=>u.keep b o e n hb (by simp)) (λb o _ hb _ e n=>u.slot b o e n hb (by simp)) (λb o _ e n=>u.free b o e n (by simp)) (λb o _ e=>u.there b o e (by simp)) u.tups u.frzs u.tbls (λm' hm=>by
  obtain⟨o',es',ep',ho',r'⟩:=hm;rw[ho]at ho';cases ho';exact⟨_,es',ep',hL,r'⟩) hok I.bare
theorem Inv.call {g':Array GenState}{t':Nat}{d':Drawn}{ch:List Addr}(I:Inv X Xj σ H s) (u:Un (frs X.stack) ch H H' s.heap h') (hok:HOk X.prog X.w H' h') (hg:AllBare g')
  (hch:∀b∈ch,(b∈X.ex∨X.s₀.heap.objs.size<=b)∧b≠X.env.locals∧(∀x c,X.env.cells.lookup x=some c->c≠b)∧∀p∈X.pn++Xj,p.1≠b):
  Inv X Xj σ H' { s with heap:=h',gens:=g',drawn:=d',toks:=t' }:=by
 obtain⟨m,⟨o,es,ep,ho,r⟩,_⟩:=id I.loc;obtain⟨sl,hL⟩:=u.any ho I.free λz=>(hch _ z).2.1 rfl;exact I.step (ch:=ch) hch (λb o hL hb hc e n=>u.keep b o e n (λz=>(aH.mp (I.stkSub b z)).elim hL hb) hc) (λb o _ _ hc e n=>u.any e n hc) (λb o hc e n=>u.free b o e n hc) (λb o hc e=>u.there b o e hc) u.tups u.frzs u.tbls (λm' hm=>by
  obtain⟨o',es',ep',ho',r'⟩:=hm;rw[ho]at ho';cases ho';exact⟨_,es',ep',hL,r'⟩) hok hg
theorem Inv.turned {t':Nat}{it:Addr}(I:Inv X Xj σ H s) (k:∀b o,b≠it->s.heap.get? b=some o->h'.get? b=some o) (hn:H it=none) (hL:it≠X.env.locals)
  (h1:it∈X.ex∨X.s₀.heap.objs.size<=it) (h2:∀x c,X.env.cells.lookup x=some c->c≠it) (h3:∀p∈X.pn++Xj,p.1≠it):Inv X Xj σ H { s with heap:=h',toks:=t' }:=by
 have nit:∀b u,H b=some u->b≠it:=λb u e z=>by rw[z,hn]at e;cases e
 refine I.step (g':=s.gens) (d':=s.drawn) (ch:=[it]) (λb hb=>?_) (λb o _ _ hc e _=>k b o (λz=>hc (by simp[z])) e) (λb o _ _ hc e _=>⟨o.slots,k b o (λz=>hc (by simp[z])) e⟩) (λ_ _ _ _ n=>n)
  (λb o hc e=>⟨o,k b o (λz=>hc (by simp[z])) e⟩) (λ_ _ e=>e) (λ_ _ _ e=>e) (λb ps e=>⟨#[],by rw[e];simp⟩) (λm hm=>?_) (λb u e=>?_) I.bare
 ·have e:b=it:=by simpa using hb
  subst e;exact⟨h1,hL,h2,h3⟩
 ·obtain⟨o,es,ep,ho,r⟩:=hm;exact⟨o,es,ep,k _ o (Ne.symm hL) ho,r⟩
 ·refine (I.hok b u e).stay (λc v hc q=>k c v ?_ q) (λ_ q=>q) λ_ _ q=>q;rcases hc with z|z
  ·rw[z];exact nit b u e
  ·exact nit c _ z
theorem Inv.tok (I:Inv X Xj σ H s)(t:Nat):Inv X Xj σ H { s with toks:=t }:=I.un (h':=s.heap) (t':=t) Un.refl I.hok
theorem Inv.kept {t':Nat}(I:Inv X Xj σ H s)(k:∀b u,s.heap.get? b=some u->h'.get? b=some u):Inv X Xj σ H { s with heap:=h',toks:=t' }:=I.un (Un.kept k) (I.hok.kept k)
theorem Inv.laid {a:Addr}{o:HO}{t':Nat}(I:Inv X Xj σ H s)(k:∀b u,s.heap.get? b=some u->h'.get? b=some u)(hp:s.heap.objs.size<=a)(new:ObjOk X.prog X.w (upd H a o) h' a o):
  Inv X Xj σ (upd H a o) { s with heap:=h',toks:=t' }:=I.un (Un.laid k hp (I.hok.fresh hp)) (I.hok.laid k hp new)
theorem Inv.write {x e:Addr}{o:HO}{t':Nat}(I:Inv X Xj σ H s) (mu:Mut (H x)) (he:e=x∨H e=some (.own x)) (k:∀b u,b≠e->s.heap.get? b=some u->h'.get? b=some u) (heo:∃u,h'.get? e=some u)
  (new:ObjOk X.prog X.w (upd H x o) h' x o):Inv X Xj σ (upd H x o) { s with heap:=h',toks:=t' }:=I.un (Un.write mu he k heo) (I.hok.write mu he k heo new)
theorem Inv.pins_of {pins':List (Addr×Obj)}(I:Inv X Xj σ H s)(h:∀p∈pins',s.heap.get? p.1=some p.2∧H p.1=none∧p.1≠X.env.locals∧p.1∉X.fs∧∀v,p.2.data≠.cell v):Inv X pins' σ H s:=
 ⟨I.ok,I.os,I.bare,I.base,I.loc,I.cell,I.free,I.freeC,λp hp=>(cx.mp hp).elim (λz=>I.pin p (fP _ z)) (h p),I.hok,I.len⟩
theorem Dh {N:List Str}(hN:N.Nodup){i j:Nat}{x:Str}(a:N[i]?=some x)(b:N[j]?=some x):i=j:=by
 obtain⟨h1,e1⟩:=be.mp a;obtain⟨h2,e2⟩:=be.mp b;exact (List.getElem_inj hN).mp (e1.trans e2.symm)
theorem o9 {M:Model}{A:Around}{E:Value->Shared->Prop}{i:Nat}{x:Str}{v:V}{u:Value}{Q:Unit->Shared->Prop}(I:Inv X Xj σ H s) (hN:X.N.Nodup) (hi:X.N[i]?=some x) (hx:Loc X.env.scope x) (r:RelV v u)
  (h:∀s',Inv X Xj (σ.set i (some v)) H s'->(∃a,Heap.SameBut a s.heap s'.heap∧(a=X.env.locals∨X.env.cells.lookup x=some a))->Q () s') (hf:X.fn x=true∨X.env.scope.names.lookup x=some .local:=by first|exact .inl rfl|exact .inr rfl|assumption):wpAny M A (storeName X.env x u) Q E s:=by
 obtain⟨m,hn,hl⟩:=id I.loc;have hcls:(X.env.scope.kind == .class || (X.env.scope.kind == .module && X.env.locals != X.env.globals))=false:=by rw[I.ok.kind];rfl
 have hiσ:i < σ.length:=by rw[I.len];exact (be.mp hi).1
 have cne:=I.cne;have tracked:∀{a:Addr}{h':Heap},(∃o,s.heap.get? a=some o∧H a=none)->Heap.SameBut a s.heap h'->HOk X.prog X.w H h':=λ{a h'} ha hs b ob e=>by
  obtain⟨_,_,hfree⟩:=ha;refine (I.hok b ob e).stay (λc w' hc q=>(hs.2 c ?_).trans q) (λ_ q=>q) λ_ _ q=>q
  rintro rfl
  rcases hc with rfl|hc
  ·rw[hfree]at e;cases e
  ·rw[hfree]at hc;cases hc
 rcases hx with hk|hk
 ·refine wpAny_storeName_local hk hn (λh' hn' hs=>?_) hcls;obtain⟨oL,_,_,hoL,_⟩:=id hn;refine h _ ⟨I.ok,I.os,I.bare,⟨λb o e n hb hx=>?_,λb o e n hb hx=>?_,I.base.free,λb o e hx=>?_,I.base.tups,I.base.frzs,I.base.tbls⟩,⟨_,hn',λj y v' e1 e2 e3=>?_⟩,λy c e=>?_,I.free,I.freeC,λp hp=>?_,tracked ⟨oL,hoL,I.free⟩ hs,by simpa using I.len⟩ ⟨_,hs,.inl rfl⟩
  ·exact (hs.2 b (aO (a_ (Heap.lt_size e) I.ok.above))).trans (I.base.keep b o e n hb hx)
  ·obtain⟨sl,e1⟩:=I.base.slot b o e n hb hx;exact⟨sl,(hs.2 b (aO (a_ (Heap.lt_size e) I.ok.above))).trans e1⟩
  ·obtain⟨o',e1⟩:=I.base.there b o e hx;exact⟨o',(hs.2 b (aO (a_ (Heap.lt_size e) I.ok.above))).trans e1⟩
  ·by_cases hj:j=i
   ·subst hj;rw[hi]at e1;cases e1;rw[PV hiσ]at e2
    cases e2
    exact⟨u,r,.inl ⟨hk,by simp⟩⟩
   ·rw[PX (Ne.symm hj)]at e2;obtain⟨u',r',q⟩:=hl j y v' e1 e2 e3;refine⟨u',r',?_⟩;rcases q with ⟨k,e⟩|⟨k,c,e,z⟩
    ·refine .inl ⟨k,?_⟩;have:y≠x:=λe=>hj (Dh hN e1 (e ▸ hi));simp[this,e]
    ·exact .inr ⟨k,c,e,z.sameBut hs (cne y c e)⟩
  ·obtain⟨w',z⟩:=I.cell y c e;exact⟨w',z.sameBut hs (cne y c e)⟩
  ·obtain⟨e,n,ne,nf,d⟩:=I.pin p hp;exact⟨(hs.2 p.1 ne).trans e,n,ne,nf,d⟩
 ·have hfn:X.fn x=true:=by
   rcases hf with z|z
   ·exact z
   ·rw[z]at hk;cases hk
  obtain⟨c,hc⟩:=I.ok.has x (.inl hk);obtain⟨w',z⟩:=I.cell x c hc;refine wpAny_storeName_cell I.ok.kind hk hc z (λh' hc' hs=>?_);obtain⟨oc,hoc,hocd⟩:=id z;refine h { s with heap:=h' } ⟨I.ok,I.os,I.bare,⟨λb o e n hb hx=>?_,λb o e n hb hx=>?_,I.base.free,λb o e hx=>?_,I.base.tups,I.base.frzs,I.base.tbls⟩,⟨m,hn.sameBut hs (Ne.symm (cne x c hc)),λj y v' e1 e2 e3=>?_⟩,λy c' e=>?_,I.free,I.freeC,λp hp=>?_,tracked ⟨oc,hoc,I.freeC x c hc⟩ hs,by simpa using I.len⟩ ⟨c,hs,.inr hc⟩
  ·exact (hs.2 b (aO (a_ (Heap.lt_size e) (I.ok.cab x c hfn hc)))).trans (I.base.keep b o e n hb hx)
  ·obtain⟨sl,e1⟩:=I.base.slot b o e n hb hx;exact⟨sl,(hs.2 b (aO (a_ (Heap.lt_size e) (I.ok.cab x c hfn hc)))).trans e1⟩
  ·obtain⟨o',e1⟩:=I.base.there b o e hx;exact⟨o',(hs.2 b (aO (a_ (Heap.lt_size e) (I.ok.cab x c hfn hc)))).trans e1⟩
  ·by_cases hj:j=i
   ·subst hj;rw[hi]at e1;cases e1;rw[PV hiσ]at e2
    cases e2
    exact⟨u,r,.inr ⟨.inl hk,c,hc,hc'⟩⟩
   ·rw[PX (Ne.symm hj)]at e2;obtain⟨u',r',q⟩:=hl j y v' e1 e2 e3;refine⟨u',r',?_⟩;rcases q with q|⟨k,c',e,z'⟩
    ·exact .inl q
    ·refine .inr ⟨k,c',e,z'.sameBut hs ?_⟩
     rintro rfl
     exact hj (Dh hN e1 (I.ok.inj _ _ _ e hc ▸ hi))
  ·by_cases hcc:c'=c
   ·subst hcc;exact⟨_,hc'⟩
   ·obtain⟨w2,z2⟩:=I.cell y c' e;exact⟨w2,z2.sameBut hs hcc⟩
  ·obtain⟨e,n,ne,nf,d⟩:=I.pin p hp;refine⟨(hs.2 p.1 ?_).trans e,n,ne,nf,d⟩;intro q;rw[q,hoc]at e;have q':oc=p.2:=Option.some.inj e;exact d w' (by rw[←q'];exact hocd)
theorem o_ {M:Model}{A:Around}{E:Value->Shared->Prop}{i:Nat}{x:Str}{v:V}{u:Value}{Q:Unit->Shared->Prop}(I:Inv X Xj σ H s) (hN:X.N.Nodup) (hi:X.N[i]?=some x) (hx:Loc X.env.scope x) (r:RelV v u)
  (h:∀s',Inv X Xj (σ.set i (some v)) H s'->Q () s') (hf:X.fn x=true∨X.env.scope.names.lookup x=some .local:=by first|exact .inl rfl|exact .inr rfl|assumption):wpAny M A (storeName X.env x u) Q E s:=
 o9 I hN hi hx r (λs' I' _=>h s' I') hf
theorem Inv.call' {s':Shared}{ch:List Addr}(I:Inv X Xj σ H s) (ho:s'.os=s.os) (u:Un (frs X.stack) ch H H' s.heap s'.heap) (hok:HOk X.prog X.w H' s'.heap) (hg:AllBare s'.gens)
  (hch:∀b∈ch,(b∈X.ex∨X.s₀.heap.objs.size<=b)∧b≠X.env.locals∧(∀x c,X.env.cells.lookup x=some c->c≠b)∧∀p∈X.pn++Xj,p.1≠b):Inv X Xj σ H' s':=by
 obtain⟨h',g',d',t',o'⟩:=s';have e:o'=s.os:=ho;subst e;exact I.call (g':=g') (t':=t') (d':=d') u hok hg hch
end
abbrev XK:=Value->Option Addr->Hp->Prop
abbrev St:=List (Option V)
abbrev VK:=V->Hp->Prop
abbrev TE:=St->Hp->VK->Prop
abbrev TT:=St->Hp->(Bool->Hp->Prop)->Prop
abbrev TA:=St->Hp->(List V->Hp->Prop)->Prop
structure Ends where
 nx:St->Hp->Prop
 rt:VK
 bk:St->Hp->Prop:=λ_ _=>False
 ct:St->Hp->Prop:=λ_ _=>False
abbrev TS:=Ends->St->Hp->Prop
def EP (X:Cx)(Xj:List (Addr×Obj))(σ:St)(Q:VK)(u:Value)(s':Shared):Prop:=∃v H',Inv X Xj σ H' s'∧RelV v u∧Q v H'
def TP (X:Cx)(Xj:List (Addr×Obj))(σ:St)(Q:Bool->Hp->Prop)(b:Bool)(s':Shared):Prop:=∃H',Inv X Xj σ H' s'∧Q b H'
def AP (X:Cx)(Xj:List (Addr×Obj))(σ:St)(Q:List V->Hp->Prop)(us:List Value)(s':Shared):Prop:=∃vs H',Inv X Xj σ H' s'∧Vals vs us∧Q vs H'
def SP (X:Cx)(Xj:List (Addr×Obj))(D:Ends)(f:Flow)(s':Shared):Prop:=
 match f with
 | .next=>∃σ' H',Inv X Xj σ' H' s'∧D.nx σ' H'
 | .brk=>∃σ' H',Inv X Xj σ' H' s'∧D.bk σ' H'
 | .cont=>∃σ' H',Inv X Xj σ' H' s'∧D.ct σ' H'
 | .ret u=>∃v σ' H',Inv X Xj σ' H' s'∧RelV v u∧D.rt v H'
def PE (X:Cx)(e:Expr)(t:TE):Prop:=
 ∀(Xj:List (Addr×Obj)) (s:Shared) (σ:St) (H:Hp) (Q:VK),Inv X Xj σ H s->t σ H Q->wpAny (model X.prog X.w) X.A (eval e X.env) (EP X Xj σ Q) X.xe s
def PT (X:Cx)(e:Expr)(t:TT):Prop:=
 ∀(Xj:List (Addr×Obj)) (s:Shared) (σ:St) (H:Hp) (Q:Bool->Hp->Prop),Inv X Xj σ H s->t σ H Q->wpAny (model X.prog X.w) X.A (isTrue e X.env (eval e X.env)) (TP X Xj σ Q) X.xe s
def PW (X:Cx)(e:Expr)(t:TT):Prop:=
 ∀(whole:Sem Value) (Xj:List (Addr×Obj)) (s:Shared) (σ:St) (H:Hp) (Q:Bool->Hp->Prop),Inv X Xj σ H s->t σ H Q->wpAny (model X.prog X.w) X.A (isTrue e X.env whole) (TP X Xj σ Q) X.xe s
theorem PW.pt {X:Cx}{e:Expr}{t:TT}(h:PW X e t):PT X e t:=h _
def PA (X:Cx)(es:List Expr)(t:TA):Prop:=
 ∀(pos:Pos) (Xj:List (Addr×Obj)) (s:Shared) (σ:St) (H:Hp) (Q:List V->Hp->Prop),Inv X Xj σ H s->t σ H Q->wpAny (model X.prog X.w) X.A (spliced (backTo pos (starEach es X.env))) (AP X Xj σ Q) X.xe s
def PS (X:Cx)(st:Stmt)(t:TS):Prop:=
 ∀(Xj:List (Addr×Obj)) (s:Shared) (σ:St) (H:Hp) (D:Ends),Inv X Xj σ H s->t D σ H->wpAny (model X.prog X.w) X.A (exec st X.env) (SP X Xj D) X.xe s
def PSs (X:Cx)(st:List Stmt)(t:TS):Prop:=
 ∀(Xj:List (Addr×Obj)) (s:Shared) (σ:St) (H:Hp) (D:Ends),Inv X Xj σ H s->t D σ H->wpAny (model X.prog X.w) X.A (execs st X.env) (SP X Xj D) X.xe s
theorem thn {α:Type}{t:Sem α}{Q Q':α->Shared->Prop}{M:Model}{A:Around}{E:Value->Shared->Prop}{s:Shared}(h:wpAny M A t Q E s)(hQ:∀a s,Q a s->Q' a s):wpAny M A t Q' E s:=wpAny_mono h hQ λ_ _ x=>x
section
variable {X:Cx}
theorem bin {a b:Expr}{ta tb:TE}(ha:PE X a ta) (hb:PE X b tb){Xj:List (Addr×Obj)}{s:Shared}{σ:St}{H:Hp}{R:V->V->Hp->Prop}(I:Inv X Xj σ H s) (h:ta σ H λx H1=>tb σ H1 λy H2=>R x y H2)
  {α:Type}{Q:α->Shared->Prop}{f:Value->Value->Sem α}
  (hf:∀v u s2 x y H2,Inv X Xj σ H2 s2->RelV x v->RelV y u->R x y H2->wpAny (model X.prog X.w) X.A (f v u) Q X.xe s2):
  wpAny (model X.prog X.w) X.A (eval a X.env) (λv s₁=>wpAny (model X.prog X.w) X.A (eval b X.env) (λu s₂=>wpAny (model X.prog X.w) X.A (f v u) Q X.xe s₂) X.xe s₁) X.xe s:=by
 refine thn (ha Xj s σ H _ I h) λv s1 ⟨x,H1,I1,r1,q1⟩=>?_;refine thn (hb Xj s1 σ H1 _ I1 q1) λu s2 ⟨y,H2,I2,r2,q2⟩=>?_;exact hf v u s2 x y H2 I2 r1 r2 q2
def yK (i:Nat):TE:=λσ H Q=>∃v,σ[i]?=some (some v)∧Q v H
def tC (v:V):TE:=λ_ H Q=>Q v H
theorem Js {i:Nat}{x:Str}{pos:Pos}(hN:X.N[i]?=some x) (hv:Vis X.env.scope x) (hd:(x == ("__debug__" : Str))=false:=by decide) (hcd:(x == ("__classdict__" : Str))=false:=by decide):PE X (.Name x pos) (yK i):=by
 intro Xj s σ H Q I h;obtain⟨v,e,h⟩:=h;obtain⟨m,hn,hl⟩:=I.loc;obtain⟨u,r,l⟩:=hl i x v hN e hv;have fin:EP X Xj σ Q u s:=⟨v,H,I,r,h⟩
 rcases l with ⟨hk,hm⟩|⟨hk,c,hc,hcell⟩
 ·exact wpAny_Name (wpAny_loadName_local I.ok.kind hk hn hm fin) hd
 ·rcases hk with hk|hk
  ·exact wpAny_Name (wpAny_loadName_cell I.ok.kind hk hc hcell fin) hd
  ·exact wpAny_Name (wpAny_loadName_free I.ok.kind hk hc hcell fin hcd) hd
theorem ac {i j pos}:PE X (.Constant (.int i) j pos) (tC (.int i)):=λ_ _ _ H _ I h=>wpAny_Constant_int ⟨.int i,H,I.tok _,⟨_,rfl⟩,h⟩
theorem cm {b j pos}:PE X (.Constant (.bool b) j pos) (tC (.bl b)):=λ_ _ _ H _ I h=>Constant_bool ⟨.bl b,H,I,rfl,h⟩
theorem bX {x j pos}:PE X (.Constant (.str x) j pos) (tC (.str x)):=λ_ _ _ H _ I h=>Calls.Constant_str ⟨.str x,H,I.tok _,⟨_,rfl⟩,h⟩
def Gl (X:Cx)(x:Str):Prop:=X.env.kindOf x=some .globalImplicit
theorem i8 {E:Value->Shared->Prop}{Xj:List (Addr×Obj)}{s:Shared}{σ:St}{H:Hp}{x:Str}{u:Value}{pos:Pos}{Q:Value->Shared->Prop}(I:Inv X Xj σ H s) (hg:Gl X x) (hm:X.mg x=some u) (h:Q u s)
  (hd:(x == ("__debug__" : Str))=false:=by decide):wpAny (model X.prog X.w) X.A (eval (.Name x pos) X.env) Q E s:=
 Calls.Name_function_global I.ok.kind hg (Calls.loadGlobal_global (by rw[I.ok.glob];exact I.mod.glob.keeps I.bk) hm h) hd
theorem e_ {E:Value->Shared->Prop}{Xj:List (Addr×Obj)}{s:Shared}{σ:St}{H:Hp}{x:Str}{u:Value}{pos:Pos}{Q:Value->Shared->Prop}(I:Inv X Xj σ H s) (hg:Gl X x) (hm:X.mg x=none) (hv:bootBuiltins x=some u) (h:Q u s)
  (hn:x ≠ "__name__" := by decide) (hd:(x == ("__debug__" : Str))=false:=by decide):wpAny (model X.prog X.w) X.A (eval (.Name x pos) X.env) Q E s:=by
 obtain⟨mb,h1,h2⟩:=I.mod.blt;exact Calls.Name_function_global I.ok.kind hg (Calls.loadGlobal_builtin (by rw[I.ok.glob];exact I.mod.glob.keeps I.bk) hm (by rw[I.ok.blt];exact h1.keeps I.bk) ((h2 x hn).trans hv) h) hd
theorem fS {x:Str}{v:V}{u:Value}{pos:Pos}(hg:Gl X x) (hm:X.mg x=some u) (r:RelV v u) (hd:(x == ("__debug__" : Str))=false:=by decide):PE X (.Name x pos) (tC v):=
 λ_ _ _ H _ I h=>i8 I hg hm ⟨v,H,I,r,h⟩ hd
theorem fT {x:Str}{v:V}{u:Value}{pos:Pos}(hg:Gl X x) (hm:X.mg x=none) (hv:bootBuiltins x=some u) (r:RelV v u) (hn:x ≠ "__name__" := by decide) (hd:(x == ("__debug__" : Str))=false:=by decide):PE X (.Name x pos) (tC v):=
 λ_ _ _ H _ I h=>e_ I hg hm hv ⟨v,H,I,r,h⟩ hn hd
variable {a b:Expr}{ta tb:TE}{pos:Pos}
def PC (X:Cx)(op:CmpOp)(a b:Expr)(t:TE):Prop:=
 ∀(Xj:List (Addr×Obj)) (s:Shared) (σ:St) (H:Hp) (Q:VK),Inv X Xj σ H s->t σ H Q->
  wpAny (model X.prog X.w) X.A (eval a X.env) (λv s₁=>wpAny (model X.prog X.w) X.A (eval b X.env) (λu s₂=>wpAny (model X.prog X.w) X.A (compareOp op v u) (EP X Xj σ Q) X.xe s₂) X.xe s₁) X.xe s
theorem Jt (b:Expr){op:CmpOp}(h:op≠.In)(h2:op≠.NotIn):behindInMarks op b=false:=by
 have e1:(op == CmpOp.In)=false:=by cases op <;> first|rfl|exact absurd rfl h
 have e2:(op == CmpOp.NotIn)=false:=by cases op <;> first|rfl|exact absurd rfl h2
 cases b <;> simp[behindInMarks,e1,e2]
def tB (t:TE):TT:=λσ H Q=>t σ H λx H1=>∃c,x=.bl c∧Q c H1
theorem P_ {op:CmpOp}{t:TE}(h:PC X op a b t)(h1:behindInMarks op b=false:=by first|exact Jt _ (by decide) (by decide)|rfl):PT X (.Compare a [op] [b] pos) (tB t):=by
 intro Xj s σ H Q I hw;refine wpAny_isTrue_Compare1 (thn (h Xj s σ H _ I hw) λv s1 h1=>thn h1 λu s2 h2=>thn h2 λc s3 ⟨x,H1,I1,r1,q1⟩=>?_) h1;obtain⟨d,rfl,q⟩:=q1
 cases r1
 exact wpAny_truthy_bool ⟨H1,I1,q⟩
theorem b9 {e:Expr}{t:TE}(h:PE X e t)(he:∀whole,isTrue e X.env whole=(do let v ←whole;standAt e.pos;holding [v] (truthy v)):=by intro _;rfl):PT X e (tB t):=by
 intro Xj s σ H Q I hw;refine isTrue_plain (thn (h Xj s σ H _ I hw) λv s1 ⟨x,H1,I1,r1,q1⟩=>?_) (he _);obtain⟨d,rfl,q⟩:=q1
 cases r1
 exact wpAny_truthy_bool ⟨H1,I1,q⟩
variable {tA tB':TT}{rest:List Expr}
def Di (t u:TT):TT:=λσ H Q=>t σ H λc H1=>if c=true then u σ H1 Q else Q false H1
def tOr (t u:TT):TT:=λσ H Q=>t σ H λc H1=>if c=true then Q true H1 else u σ H1 Q
def Dj (t:TT):TT:=λσ H Q=>t σ H λc H1=>Q (!c) H1
theorem pe (ha:PT X a tA):PW X (.BoolOp .And [a] pos) tA:=by
 intro wh Xj s σ H Q I h;refine isTrue_and (thn (ha Xj s σ H Q I h) λc s1 e=>?_)
 cases c with
 | true=>exact isTrue_and_nil e
 | false=>exact e
theorem de (ha:PT X a tA):PW X (.BoolOp .Or [a] pos) tA:=by
 intro wh Xj s σ H Q I h;refine isTrue_or (thn (ha Xj s σ H Q I h) λc s1 e=>?_)
 cases c with
 | false=>exact isTrue_or_nil e
 | true=>exact e
theorem ph (ha:PT X a tA)(hb:PW X (.BoolOp .And (b :: rest) pos) tB'):PW X (.BoolOp .And (a :: b :: rest) pos) (Di tA tB'):=by
 intro wh Xj s σ H Q I h;refine isTrue_and (thn (ha Xj s σ H _ I h) λc s1 ⟨H1,I1,q1⟩=>?_)
 cases c with
 | true=>exact hb wh Xj s1 σ H1 Q I1 q1
 | false=>exact⟨H1,I1,q1⟩
theorem cn (ha:PT X a tA)(hb:PW X (.BoolOp .Or (b :: rest) pos) tB'):PW X (.BoolOp .Or (a :: b :: rest) pos) (tOr tA tB'):=by
 intro wh Xj s σ H Q I h;refine isTrue_or (thn (ha Xj s σ H _ I h) λc s1 ⟨H1,I1,q1⟩=>?_)
 cases c with
 | true=>exact⟨H1,I1,q1⟩
 | false=>exact hb wh Xj s1 σ H1 Q I1 q1
theorem b_ (ha:PT X a tA):PT X (.UnaryOp .Not a pos) (Dj tA):=by
 intro Xj s σ H Q I h;exact isTrue_not (ha Xj s σ H (λc H1=>Q (!c) H1) I h)
def Dk (ta tb:TE):TE:=λσ H Q=>ta σ H λx H1=>∃c,x=.bl c∧if c=true then tb σ H1 Q else Q (.bl false) H1
def Ju (ta tb:TE):TE:=λσ H Q=>ta σ H λx H1=>∃c,x=.bl c∧if c=true then Q (.bl true) H1 else tb σ H1 Q
def Dm (ta:TE):TE:=λσ H Q=>ta σ H λx H1=>∃c,x=.bl c∧Q (.bl (!c)) H1
theorem Dn {op}{t:TE}(h:PE X a t):PE X (.BoolOp op [a] pos) t:=λXj s σ H Q I hw=>BoolOp_one (h Xj s σ H Q I hw)
theorem Do (ha:PE X a ta)(hb:PE X (.BoolOp .And (b :: rest) pos) tb):PE X (.BoolOp .And (a :: b :: rest) pos) (Dk ta tb):=by
 intro Xj s σ H Q I h;refine BoolOp_and (thn (ha Xj s σ H _ I h) λv s1 ⟨x,H1,I1,r1,q1⟩=>?_);obtain⟨c,rfl,q1⟩:=q1
 cases r1
 refine wpAny_truthy_bool ?_
 cases c with
 | true=>exact hb Xj s1 σ H1 Q I1 q1
 | false=>exact⟨.bl false,H1,I1,rfl,q1⟩
theorem Jv (ha:PE X a ta):PE X (.UnaryOp .Not a pos) (Dm ta):=by
 intro Xj s σ H Q I h;refine UnaryOp_ (thn (ha Xj s σ H _ I h) λv s1 ⟨x,H1,I1,r1,q1⟩=>?_);obtain⟨c,rfl,q1⟩:=q1
 cases r1
 exact not_of (wpAny_truthy_bool ⟨.bl (!c),H1,I1,rfl,q1⟩)
def tIf (t:TT)(ta tb:TE):TE:=λσ H Q=>t σ H λc H1=>if c=true then ta σ H1 Q else tb σ H1 Q
end
def SqL (K:W.Frag)(H:Hp)(a:Addr)(xs:List V):Prop:=
 Rd H a (.lst xs)∨
  ∃(o:Obj) (its:Array Value) (n:Nat),K.lookup a=some o∧o.cls=.type "list" ∧ o.dict=none∧o.data=.seq its n∧its.size<=sizeLine∧Vals xs its.toList
def SqT (K:W.Frag)(H:Hp)(a:Addr)(xs:List V):Prop:=
 Rd H a (.tup xs)∨
  ∃(o:Obj) (its:Array Value) (n:Nat),K.lookup a=some o∧o.cls=.type "tuple" ∧ o.data=.seq its n∧its.size<=sizeLine∧Vals xs its.toList
def Jw:Value->Option V
 | .none=>some .non
 | .bool b=>some (.bl b)
 | .int i _=>some (.int i)
 | .str x _=>some (.str x)
 | .bytes b _=>some (.byt b)
 | .float b _=>some (.flt b)
 | .ref a=>some (.ref a)
 | .type n=>some (.ty n)
 | _=>none
theorem RelV.abs {x:V}{u:Value}(r:RelV x u):Jw u=some x:=by
 cases x with
 | non=>cases r;rfl
 | bl _=>cases r;rfl
 | int _=>obtain⟨t,rfl⟩:=r;rfl
 | str _=>obtain⟨t,rfl⟩:=r;rfl
 | byt _=>obtain⟨t,rfl⟩:=r;rfl
 | flt _=>obtain⟨t,rfl⟩:=r;rfl
 | ref _=>cases r;rfl
 | ty _=>cases r;rfl
theorem RelV.inj {x y:V}{u:Value}(r:RelV x u)(q:RelV y u):x=y:=Option.some.inj (r.abs.symm.trans q.abs)
theorem Vals.inj:∀{xs ys:List V}{us:List Value},Vals xs us->Vals ys us->xs=ys
 | _,_,_,.nil,.nil=>rfl
 | _,_,_,.cons r t,.cons r' t'=>by rw[r.inj r',Vals.inj t t']
section
variable {X:Cx}{Xj:List (Addr×Obj)}{σ:St}{H:Hp}{s:Shared}{a:Addr}{xs ys:List V}
theorem SqL.of {K:W.Frag}(h:H a=some (.lst xs)):SqL K H a xs:=.inl (.inl h)
theorem SqT.of {K:W.Frag}(h:H a=some (.tup xs)):SqT K H a xs:=.inl (.inl h)
theorem Inv.list (I:Inv X Xj σ H s)(h:SqL X.K H a xs):∃its:List Value,Vals xs its∧PlainL s.heap a its.toArray∧xs.length<=sizeLine:=by
 rcases h with h|⟨o,its,n,hk,hc,hd,hs,hz,r⟩
 ·obtain⟨z,its,n,r,e⟩:=h.ok I.hok;exact⟨its,r,⟨_,n,e,rfl,rfl,rfl⟩,z⟩
 ·refine⟨its.toList,r,⟨o,n,I.kIn a o hk,hc,hd,by simpa using hs⟩,?_⟩;have e:=r.length;simp only[Array.length_toList]at e;omega
theorem Inv.tuple (I:Inv X Xj σ H s)(h:SqT X.K H a xs):∃its:List Value,Vals xs its∧IsTup s.heap a its.toArray∧xs.length<=sizeLine:=by
 rcases h with h|⟨o,its,n,hk,hc,hs,hz,r⟩
 ·obtain⟨z,its,r,p⟩:=h.ok I.hok;exact⟨its,r,p,z⟩
 ·refine⟨its.toList,r,⟨o,I.kIn a o hk,hc,n,by simpa using hs⟩,?_⟩;have e:=r.length;simp only[Array.length_toList]at e;omega
theorem Inv.list_inj (I:Inv X Xj σ H s)(h:SqL X.K H a xs)(h':SqL X.K H a ys):xs=ys:=by
 obtain⟨its,r,⟨o,n,e,_,_,d⟩,_⟩:=I.list h;obtain⟨its',r',⟨o',n',e',_,_,d'⟩,_⟩:=I.list h';rw[e]at e';cases e';rw[d]at d';injection d' with d1 _;have:its=its':=by simpa using congrArg Array.toList d1
 subst this;exact r.inj r'
theorem Inv.tuple_inj (I:Inv X Xj σ H s)(h:SqT X.K H a xs)(h':SqT X.K H a ys):xs=ys:=by
 obtain⟨its,r,⟨o,e,_,n,d⟩,_⟩:=I.tuple h;obtain⟨its',r',⟨o',e',_,n',d'⟩,_⟩:=I.tuple h';rw[e]at e';cases e';rw[d]at d';injection d' with d1 _;have:its=its':=by simpa using congrArg Array.toList d1
 subst this;exact r.inj r'
end
abbrev Cx.wish (X:Cx) (E:Value->Shared->Prop):Cx:={ X with xe:=E }
abbrev Cx.nox (X:Cx):Cx:=X.wish λ_ _=>False
theorem Cx.Ok.wish {X:Cx}(ok:X.Ok)(E:Value->Shared->Prop):(X.wish E).Ok:=
 ⟨ok.mod,ok.kind,ok.glob,ok.blt,ok.above,ok.inj,ok.has,ok.cab,ok.hd,ok.frames,ok.stk,ok.exf,ok.bs,ok.bsz,ok.noex,ok.exfs,ok.funs,ok.frf⟩
theorem Cx.Ok.unwish {X:Cx}{E:Value->Shared->Prop}(ok:(X.wish E).Ok):X.Ok:=
 ⟨ok.mod,ok.kind,ok.glob,ok.blt,ok.above,ok.inj,ok.has,ok.cab,ok.hd,ok.frames,ok.stk,ok.exf,ok.bs,ok.bsz,ok.noex,ok.exfs,ok.funs,ok.frf⟩
section
variable {X:Cx}{Xj:List (Addr×Obj)}{σ:St}{H:Hp}{s:Shared}{E:Value->Shared->Prop}
theorem Inv.wish (I:Inv X Xj σ H s)(E:Value->Shared->Prop):Inv (X.wish E) Xj σ H s:=⟨I.ok.wish E,I.os,I.bare,I.base,I.loc,I.cell,I.free,I.freeC,I.pin,I.hok,I.len⟩
theorem Inv.unwish (I:Inv (X.wish E) Xj σ H s):Inv X Xj σ H s:=⟨I.ok.unwish,I.os,I.bare,I.base,I.loc,I.cell,I.free,I.freeC,I.pin,I.hok,I.len⟩
theorem SP.unwish {D:Ends}{f:Flow}{s':Shared}(h:SP (X.wish E) Xj D f s'):SP X Xj D f s':=by
 cases f with
 | next=>obtain⟨σ',H',I,q⟩:=h;exact⟨σ',H',I.unwish,q⟩
 | brk=>obtain⟨σ',H',I,q⟩:=h;exact⟨σ',H',I.unwish,q⟩
 | cont=>obtain⟨σ',H',I,q⟩:=h;exact⟨σ',H',I.unwish,q⟩
 | ret u=>obtain⟨v,σ',H',I,r,q⟩:=h;exact⟨v,σ',H',I.unwish,r,q⟩
theorem PT.nox {e:Expr}{t:TT}(h:PT X.nox e t):PT X e t:=λXj s σ H Q I hw=>
 wpAny_mono (h Xj s σ H Q (I.wish _) hw) (λ_ _ ⟨H',I',q⟩=>⟨H',I'.unwish,q⟩) λ_ _ z=>False.elim z
theorem PSs.nox {st:List Stmt}{t:TS}(h:PSs X.nox st t):PSs X st t:=λXj s σ H D I hw=>
 wpAny_mono (h Xj s σ H D (I.wish _) hw) (λ_ _ q=>q.unwish) λ_ _ z=>False.elim z
end
section
variable {X:Cx}{st:Stmt}{rest:List Stmt}{t u:TS}{e:Expr}{te:TE}{pos:Pos}
def Dp:TS:=λD σ H=>D.nx σ H
def Dq (t u:TS):TS:=λD σ H=>t { D with nx:=u D } σ H
theorem aG:PSs X [] Dp:=λ_ _ σ H _ I h=>wpAny_execs_nil ⟨σ,H,I,h⟩
theorem am (h1:PS X st t)(h2:PSs X rest u):PSs X (st :: rest) (Dq t u):=by
 intro Xj s σ H D I h;refine wpAny_execs_cons (thn (h1 Xj s σ H { D with nx:=u D } I h) λf s1 q=>?_)
 cases f with
 | next=>
  obtain⟨σ',H',I',q⟩:=q;exact h2 Xj s1 σ' H' D I' q
 | ret v=>exact q
 | brk=>exact q
 | cont=>exact q
theorem ak (h1:PS X st t):PSs X [st] t:=by
 intro Xj s σ H D I h;refine wpAny_execs_cons (thn (h1 Xj s σ H D I h) λf s1 q=>?_)
 cases f with
 | next=>exact wpAny_execs_nil q
 | ret v=>exact q
 | brk=>exact q
 | cont=>exact q
def Jx:TS:=λD σ H=>D.bk σ H
def Jy:TS:=λD σ H=>D.ct σ H
theorem Inv.quiet {Xj:List (Addr×Obj)}{σ:St}{H:Hp}{s:Shared}(I:Inv X Xj σ H s):interactive X.env=false:=by simp[interactive,I.ok.kind]
def Dr (te:TE):TS:=λD σ H=>te σ H λ_ H1=>D.nx σ H1
theorem du (he:PE X e te)(hs:swapsWith e none pos.line X.env=pure false:=by rfl):PS X (.Expr e pos) (Dr te):=by
 intro Xj s σ H D I h;exact wpAny_Expr_any (thn (he Xj s σ H _ I h) λv s1 ⟨x,H1,I1,r1,q1⟩=>⟨σ,H1,I1,q1⟩) I.quiet hs
def Ds (te:TE):TS:=λD σ H=>te σ H D.rt
theorem av (he:PE X e te):PS X (.Return (some e) pos) (Ds te):=by
 intro Xj s σ H D I h;exact wpAny_Return_some (thn (he Xj s σ H _ I h) λv s1 ⟨x,H1,I1,r1,q1⟩=>⟨x,σ,H1,I1,r1,q1⟩)
def Jz:TS:=λD _ H=>D.rt .non H
def Dt (c:TT)(t u:TS):TS:=λD σ H=>c σ H λb H1=>if b=true then t D σ H1 else u D σ H1
theorem aF {c:Expr}{a b:List Stmt}{tc:TT}(hc:PT X c tc)(ha:PSs X a t)(hb:PSs X b u):PS X (.If c a b pos) (Dt tc t u):=by
 intro Xj s σ H D I h;refine wpAny_If (thn (hc Xj s σ H _ I h) λd s1 ⟨H1,I1,q1⟩=>?_)
 cases d with
 | true=>exact ha Xj s1 σ H1 D I1 q1
 | false=>exact hb Xj s1 σ H1 D I1 q1
def JA:TS:=λ_ _ _=>False
theorem Du {sts:List Stmt}:PSs X sts JA:=λ_ _ _ _ _ _ h=>h.elim
end
abbrev TG:=V->St->Hp->(St->Hp->Prop)->Prop
abbrev TGs:=List V->St->Hp->(St->Hp->Prop)->Prop
def PG (X:Cx)(target:Expr)(t:TG):Prop:=
 ∀(Xj:List (Addr×Obj)) (s:Shared) (σ:St) (H:Hp) (v:V) (u:Value) (Q:St->Hp->Prop),Inv X Xj σ H s->RelV v u->t v σ H Q->
  wpAny (model X.prog X.w) X.A (assign target X.env u) (λ_ s'=>∃σ' H',Inv X Xj σ' H' s'∧Q σ' H') X.xe s
def PGs (X:Cx)(ts:List Expr)(t:TGs):Prop:=
 ∀(Xj:List (Addr×Obj)) (s:Shared) (σ:St) (H:Hp) (vs:List V) (us:List Value) (Q:St->Hp->Prop),Inv X Xj σ H s->Vals vs us->t vs σ H Q->
  wpAny (model X.prog X.w) X.A (assignInOrder ((assignEach ts X.env).map (·.2)) us) (λ_ s'=>∃σ' H',Inv X Xj σ' H' s'∧Q σ' H') X.xe s
abbrev pi:=V->V->V->Hp->(Hp->Prop)->Prop
abbrev TIp:=V->V->Hp->VK->Prop
def PIp (X:Cx)(op:Operator)(t:TIp):Prop:=
 ∀(Xj:List (Addr×Obj)) (s:Shared) (σ:St) (H:Hp) (x y:V) (v u:Value) (Q:VK),Inv X Xj σ H s->RelV x v->RelV y u->t x y H Q->
  wpAny (model X.prog X.w) X.A (inplaceOp op v u) (EP X Xj σ Q) X.xe s
section
variable {X:Cx}{pos:Pos}
def cQ (i:Nat):TG:=λv σ H Q=>Q (σ.set i (some v)) H
theorem aS {i:Nat}{x:Str}(hN:X.N.Nodup)(hi:X.N[i]?=some x)(hx:Loc X.env.scope x)(hf:X.fn x=true∨X.env.scope.names.lookup x=some .local:=by first|exact .inl rfl|exact .inr rfl|assumption):PG X (.Name x pos) (cQ i):=by
 intro Xj s σ H v u Q I r h;exact wpAny_assign_Name (o_ I hN hi hx r (λs' I'=>⟨_,H,I',h⟩) hf)
def pj:TGs:=λvs σ H Q=>vs=[]∧Q σ H
def fU (t:TG)(u:TGs):TGs:=λvs σ H Q=>∃v r,vs=v :: r∧t v σ H λσ' H'=>u r σ' H' Q
theorem fh:PGs X [] pj:=by
 intro Xj s σ H vs us Q I r h;obtain⟨e,h⟩:=h;subst e
 cases r
 exact assignInOrder_nil ⟨σ,H,I,h⟩
theorem cy {e:Expr}{es:List Expr}{t:TG}{u:TGs}(h1:PG X e t) (h2:PGs X es u)
  (hs:(assignEach (e :: es) X.env).map (·.2)=assign e X.env :: (assignEach es X.env).map (·.2):=by rfl):PGs X (e :: es) (fU t u):=by
 intro Xj s σ H vs us Q I r h;obtain⟨v,vr,e1,h⟩:=h;subst e1
 cases r with
 | cons r rr=>
  rw[hs];refine assignInOrder_cons (thn (h1 Xj s σ H _ _ _ I r h) λ_ s1 ⟨σ1,H1,I1,q1⟩=>?_);exact h2 Xj s1 σ1 H1 _ _ Q I1 rr q1
def pk (K:W.Frag)(n:Nat)(t:TGs):TG:=λv σ H Q=>∃a xs,v=.ref a∧SqT K H a xs∧xs.length=n∧t xs σ H Q
theorem fj {es:List Expr}{k:Nat}{t:TGs}{n:Nat}(hc:X.calm=true) (h:PGs X es t)
  (hn:(assignEach es X.env).length=n:=by rfl) (hst:(assignEach es X.env).findIdx? (·.1)=none:=by rfl):PG X (.Tuple es k pos) (pk X.K n t):=by
 intro Xj s σ H v u Q I r hw;obtain⟨a,xs,e1,hq,hl,hw⟩:=hw;subst e1
 cases r
 obtain⟨its,rv,ht,hz⟩:=I.tuple hq;refine assign_Tuple_tuple (I.ok.hd hc) ht (by simp[hn,←hl,rv.length]) hst λh' hx=>?_;have I1:Inv X Xj σ H { s with heap:=h' }:=I.kept (t':=s.toks) λb o e=>hx b o (aO (Heap.lt_size e)) e;exact h Xj _ σ H xs _ Q I1 (by simpa using rv) hw
def JB (to ti:TE)(t:pi):TG:=λv σ H Q=>to σ H λo H1=>ti σ H1 λi H2=>t o i v H2 λH3=>Q σ H3
def gq (te:TE)(g:TG):TS:=λD σ H=>te σ H λx H1=>g x σ H1 D.nx
theorem JC {tg e:Expr}{te:TE}{g:TG}(he:PE X e te) (hg:PG X tg g) (hs:swapsWithSole [tg] e pos.line X.env=pure false:=by rfl) (hw:swappedStores [tg] e X.env=pure none:=by rfl)
  (h1:(assignEach [tg] X.env).map (·.2)=[assign tg X.env]:=by rfl):PS X (.Assign [tg] e pos) (gq te g):=by
 intro Xj s σ H D I h;refine wpAny_Assign_stores (thn (he Xj s σ H _ I h) λv s1 ⟨x,H1,I1,r1,q1⟩=>?_) hs hw;rw[h1];exact thn (hg Xj s1 σ H1 x v _ I1 r1 q1) λ_ s2 q=>q
theorem ax {i:Nat}{x:Str}{e:Expr}{te:TE}{pos':Pos}(hN:X.N.Nodup)(hi:X.N[i]?=some x)(hx:Loc X.env.scope x)(he:PE X e te)(hs:swapsWith e (some (.Name x pos')) pos.line X.env=pure false:=by rfl)(hf:X.fn x=true∨X.env.scope.names.lookup x=some .local:=by first|exact .inl rfl|exact .inr rfl|assumption):
  PS X (.Assign [.Name x pos'] e pos) (gq te (cQ i)):=by
 intro Xj s σ H D I h;refine wpAny_Assign_Name (thn (he Xj s σ H _ I h) λv s1 ⟨y,H1,I1,r1,q1⟩=>?_) hs;exact o_ I1 hN hi hx r1 (λs2 I2=>⟨_,H1,I2,q1⟩) hf
def Dv (i:Nat)(te:TE)(ti:TIp):TS:=λD σ H=>∃x,σ[i]?=some (some x)∧te σ H λy H1=>ti x y H1 λz H2=>D.nx (σ.set i (some z)) H2
theorem Dw {i:Nat}{x:Str}{e:Expr}{te:TE}{op:Operator}{ti:TIp}{pos':Pos}(hN:X.N.Nodup)(hi:X.N[i]?=some x)(hx:Loc X.env.scope x)(he:PE X e te)(ho:PIp X op ti)(hf:X.fn x=true∨X.env.scope.names.lookup x=some .local:=by first|exact .inl rfl|exact .inr rfl|assumption):
  PS X (.AugAssign (.Name x pos') op e pos) (Dv i te ti):=by
 intro Xj s σ H D I h;obtain⟨v,e1,h⟩:=h;obtain⟨m,hn,hl⟩:=I.loc;have vis:Vis X.env.scope x:=by rcases hx with k|k;exact .inl k;exact .inr (.inl k)
 obtain⟨u,r,l⟩:=hl i x v hi e1 vis;refine wpAny_AugAssign_Name ?_;have go:wpAny (model X.prog X.w) X.A (eval e X.env) (λw s₂=>wpAny (model X.prog X.w) X.A (inplaceOp op u w) (λr s₃=>wpAny (model X.prog X.w) X.A (storeName X.env x r) (λ_=>SP X Xj D .next) X.xe s₃) X.xe s₂) X.xe s:=by
  refine thn (he Xj s σ H _ I h) λw s1 ⟨y,H1,I1,r1,q1⟩=>?_;refine thn (ho Xj s1 σ H1 v y u w _ I1 r r1 q1) λz s2 ⟨zv,H2,I2,r2,q2⟩=>?_;exact o_ I2 hN hi hx r2 (λs3 I3=>⟨_,H2,I3,q2⟩) hf
 rcases l with ⟨hk,hm⟩|⟨hk,c,hc,hcell⟩
 ·exact wpAny_loadName_local I.ok.kind hk hn hm go
 ·rcases hk with hk|hk
  ·exact wpAny_loadName_cell I.ok.kind hk hc hcell go
  ·rcases hx with k|k
   ·have:X.env.scope.names.lookup x=some .free:=hk;rw[k]at this;cases this
   ·have:X.env.scope.names.lookup x=some .free:=hk;rw[k]at this;cases this
def JD (to ti te:TE)(tget:V->V->Hp->VK->Prop)(tip:TIp)(tset:pi):TS:=λD σ H=>to σ H λo H1=>ti σ H1 λi H2=>tget o i H2 λx H3=>te σ H3 λy H4=>tip x y H4 λz H5=>tset o i z H5 λH6=>D.nx σ H6
def ipI (f:Int->Int->Int):TIp:=λx y H Q=>∃i j,x=.int i∧y=.int j∧Q (.int (f i j)) H
end
section
variable {X:Cx}{pos:Pos}
def Dx (c:TT)(tb:TS):TS:=λD σ H=>∃W:Nat->St->Hp->Prop,(∃m,W m σ H)∧∀m σ H,W m σ H->
 c σ H λb H1=>if b=true then ∃N:St->Hp->Prop,(∀σ' H',N σ' H'->∃m',m'<m∧W m' σ' H')∧tb { D with nx:=N,ct:=N,bk:=D.nx } σ H1 else D.nx σ H1
theorem yL {c:Expr}{body:List Stmt}{tc:TT}{tb:TS}(hp:PassesOwn (model X.prog X.w) X.A X.env X.xe)(hc:PT X c tc)(hb:PSs X body tb):PS X (.While c body [] pos) (Dx tc tb):=by
 intro Xj s σ H D I h;obtain⟨W,⟨m0,w0⟩,turn⟩:=h;refine wpAny_While (codeAny_whileLoop (λn s'=>∃σ' H',Inv X Xj σ' H' s'∧W n σ' H') ?_ m0 ⟨σ,H,I,w0⟩)
 rintro n s1 ⟨σ1,H1,I1,w1⟩
 refine wpAny_passesOwn hp (thn (hc Xj s1 σ1 H1 _ I1 (turn n σ1 H1 w1)) λb s2 ⟨H2,I2,q2⟩=>?_)
 cases b with
 | true=>
  obtain⟨N,hN,q2⟩:=q2;rw[if_pos rfl];refine wpAny_passesOwn hp (thn (hb Xj s2 σ1 H2 _ I2 q2) λf s3 q3=>?_)
  cases f with
  | next=>
   obtain⟨σ3,H3,I3,n3⟩:=q3;obtain⟨m',hm,w3⟩:=hN σ3 H3 n3;exact⟨m',hm,σ3,H3,I3,w3⟩
  | cont=>
   obtain⟨σ3,H3,I3,n3⟩:=q3;obtain⟨m',hm,w3⟩:=hN σ3 H3 n3;exact⟨m',hm,σ3,H3,I3,w3⟩
  | brk=>exact q3
  | ret v=>exact q3
 | false=>
  rw[if_neg Bool.false_ne_true];exact wpAny_execs_nil ⟨σ1,H2,I2,q2⟩
end
structure It where
 go:Nat->Hp->Prop
 yld:Nat->Hp->V->Hp->Prop
 stop:Nat->Hp->Prop
def a8 (X:Cx)(Xj:List (Addr×Obj))(H:Hp)(b:Addr):Prop:=
 H b=none∧b≠X.env.locals∧b∉X.fs∧(b∈X.ex∨X.s₀.heap.objs.size<=b)∧(∀x c,X.env.cells.lookup x=some c->c≠b)∧∀p∈X.pn++Xj,p.1≠b
theorem Inv.fpOk {X:Cx}{Xj:List (Addr×Obj)}{σ:St}{H H':Hp}{s:Shared}{b:Addr}(I:Inv X Xj σ H s)(hb:s.heap.objs.size<=b)(hn:H' b=none):a8 X Xj H' b:=by
 refine⟨hn,gg (a_ I.lt hb),I.nofs hb,.inr (aP I.sz hb),λx c e z=>?_,λp hp z=>?_⟩
 ·obtain⟨v,q⟩:=I.cell x c e;exact absurd (a_ q.lt (by rw[z];exact hb)) (eT _)
 ·exact absurd (a_ (Heap.lt_size (I.pin p hp).1) (by rw[z];exact hb)) (eT _)
structure Turn (P:Program)(w:World)(K:W.Frag)(tg:Expr)(J:It)(fp:List Addr)(it:Addr)(tn:Nat->Heap->Prop):Prop where
 mem:it∈fp
 obj:∀i h,tn i h->∀b∈fp,∃o,h.get? b=some o∧∀v,o.data≠.cell v
 keep:∀i h h',tn i h->(∀b∈fp,∀o,h.get? b=some o->h'.get? b=some o)->tn i h'
 item:∀(X:Cx),X.prog=P->X.w=w->X.K=K->X.calm=true->∀(i:Nat) (Xj:List (Addr×Obj)) (s:Shared) (σ:St) (H:Hp) (E:Value->Shared->Prop),Inv X Xj σ H s->(∀b∈fp,a8 X Xj H b)->tn i s.heap->J.go i H->
  wpAny (model P w) X.A (pyNext (.ref it)) (λr s1=>∃u,r=some u∧
   wpAny (model P w) X.A (letOwnedTupleGo tg (.ref it) u) (λ_ s2=>∃x H',Inv X Xj σ H' s2∧RelV x u∧J.yld i H x H'∧tn (i+1) s2.heap∧∀b∈fp,H' b=none) E s1) E s
 done:∀(X:Cx),X.prog=P->X.w=w->X.K=K->X.calm=true->∀(i:Nat) (Xj:List (Addr×Obj)) (s:Shared) (σ:St) (H:Hp) (E:Value->Shared->Prop),Inv X Xj σ H s->(∀b∈fp,a8 X Xj H b)->tn i s.heap->J.stop i H->
  wpAny (model P w) X.A (pyNext (.ref it)) (λr s1=>r=none∧Inv X Xj σ H s1) E s
 self:∀(A:Around) (i:Nat) (s:Shared) (Q:Value->Shared->Prop) (E:Value->Shared->Prop),tn i s.heap->Q (.ref it) s->wpAny (model P w) A (pyIter (.ref it)) Q E s
abbrev TI:=St->Hp->(It->Hp->Prop)->Prop
def PIE (X:Cx)(Xj:List (Addr×Obj))(σ:St)(tg:Expr)(R:It->Hp->Prop)(itv:Value)(s2:Shared):Prop:=
 ∃(it:Addr) (fp:List Addr) (tn:Nat->Heap->Prop) (J:It) (H':Hp),itv=.ref it∧Inv X Xj σ H' s2∧Turn X.prog X.w X.K tg J fp it tn∧tn 0 s2.heap∧(∀b∈fp,a8 X Xj H' b)∧R J H'
def PI (X:Cx)(tg iter:Expr)(wi:TI):Prop:=
 ∀(Xj:List (Addr×Obj)) (s:Shared) (σ:St) (H:Hp) (R:It->Hp->Prop),Inv X Xj σ H s->wi σ H R->
  wpAny (model X.prog X.w) X.A (eval iter X.env) (λv s1=>wpAny (model X.prog X.w) X.A (pyIter v) (PIE X Xj σ tg R) X.xe s1) X.xe s
theorem yM {M:Model}{A:Around}{E:Value->Shared->Prop}{s:Shared}{tg:Expr}{it:Addr}{u:Value}{o:Obj}{n:String}{vs:Array Value}{Q:Unit->Shared->Prop}(ho:s.heap.get? it=some o) (hc:o.cls=.type n) (hd:o.data=.fields vs)
  (hn:["enumerate","zip","dict_itemiterator","dict_reverseitemiterator","odict_iterator","itertools.zip_longest","itertools.pairwise"].contains n=false) (hQ:Q () s):wpAny M A (letOwnedTupleGo tg (.ref it) u) Q E s:=by
 unfold letOwnedTupleGo
 cases tg <;> first
  | exact wpAny_pure hQ
  |(cases u <;> first
    | exact wpAny_pure hQ
    |(refine wpAny_bind (wpAny_load ho ?_)
      rw[hc,hd];show wpAny M A (if (["enumerate","zip","dict_itemiterator","dict_reverseitemiterator","odict_iterator","itertools.zip_longest","itertools.pairwise"].contains n && vs[0]? == some (rawInt _))=true then _ else _) Q E s;rw[if_neg (by intro h;rw[hn,Bool.false_and]at h;cases h)];exact wpAny_pure hQ))
def Itl (K:W.Frag)(a:Addr):It:=
 ⟨λi H=>∃xs x,SqL K H a xs∧xs[i]?=some x,λi H x H'=>H'=H∧∀xs,SqL K H a xs->xs[i]?=some x,λi H=>∃xs,SqL K H a xs∧xs.length<=i⟩
def Itt (K:W.Frag)(a:Addr):It:=
 ⟨λi H=>∃xs x,SqT K H a xs∧xs[i]?=some x,λi H x H'=>H'=H∧∀xs,SqT K H a xs->xs[i]?=some x,λi H=>∃xs,SqT K H a xs∧xs.length<=i⟩
def Itr (lo:Int)(n:Nat):It:=⟨λi _=>i<n,λi H x H'=>H'=H∧x=.int (lo+i),λi _=>n<=i⟩
theorem JE {P:Program}{w:World}{K:W.Frag}{tg:Expr}(a it:Addr):Turn P w K tg (Itl K a) [it] it (λi h=>h.IsListIter it a i) where
 mem:=by simp
 obj:=λi h st b hb=>by
  have e:b=it:=by simpa using hb
  subst e;obtain⟨o,e,c,d⟩:=st;exact⟨o,e,λv z=>by rw[d]at z;cases z⟩
 keep:=λi h h' st k=>st.at λo e=>k it (by simp) o e
 item:=by
  intro X hP hw hK hc i Xj s σ H E I hf st hg;subst hP hw hK;obtain⟨xs,x,hq,hx⟩:=hg;obtain⟨its,rv,p,hz⟩:=I.list hq;obtain⟨u,hu,ru⟩:=rv.get hx;obtain⟨f0,f1,f2,f3,f4,f5⟩:=hf it (by simp);refine wpAny_pyNext_list_item st p.isList (x:=u) (by simpa using hu) λh' st' sb=>?_;have I1:Inv X Xj σ H { s with heap:=h' }:=I.turned (t':=s.toks) (λb o hb e=>(sb.2 b hb).trans e) f0 f1 f3 f4 f5;obtain⟨o,e,c,d⟩:=id st';exact⟨u,rfl,yM (s:={ s with heap:=h' }) e c d (by decide) ⟨x,H,I1,ru,⟨rfl,λys hy=>by rw[I.list_inj hy hq];exact hx⟩,st',λb hb=>(hf b hb).1⟩⟩
 done:=by
  intro X hP hw hK hc i Xj s σ H E I hf st hg;subst hP hw hK;obtain⟨xs,hq,hx⟩:=hg;obtain⟨its,rv,p,hz⟩:=I.list hq;obtain⟨f0,f1,f2,f3,f4,f5⟩:=hf it (by simp);have hl:=rv.length;exact wpAny_pyNext_list_end (I.ok.hd hc) st p.isList (by simp;omega) λh' eb=>⟨rfl,I.turned (t':=s.toks) (λb o hb e=>eb b o hb e) f0 f1 f3 f4 f5⟩
 self:=λ_ _ _ _ _ st h=>wpAny_pyIter_listiter st h
theorem JF {P:Program}{w:World}{K:W.Frag}{tg:Expr}(it:Addr)(lo:Int)(n:Nat):Turn P w K tg (Itr lo n) [it] it (λi h=>IsRangeIter h it (lo+(i:Nat)*1) ((n:Int)-(i:Nat)) 1) where
 mem:=by simp
 obj:=λi h st b hb=>by
  have e:b=it:=by simpa using hb
  subst e;exact⟨_,st,λv z=>by
   have z':Data.fields _=Data.cell v:=z
   cases z'⟩
 keep:=λi h h' st k=>k it (by simp) _ st
 item:=by
  intro X hP hw hK hc i Xj s σ H E I hf st hg;subst hP hw hK;obtain⟨f0,f1,f2,f3,f4,f5⟩:=hf it (by simp);have W:=Walks.range (prog:=X.prog) (w:=X.w) (I.ok.hd hc) it lo 1 n;refine W.item i s _ _ hg st λv h' tk hv st' kk=>?_;obtain⟨t,rfl⟩:=hv;have I1:Inv X Xj σ H { s with heap:=h',toks:=tk }:=I.turned (λb o hb e=>kk b o (by simpa using hb) e) f0 f1 f3 f4 f5;refine⟨_,rfl,yM (s:={ s with heap:=h',toks:=tk }) (n := "range_iterator") st' rfl rfl (by decide) ⟨.int (lo+i),H,I1,⟨t,?_⟩,⟨rfl,rfl⟩,st',λb hb=>(hf b hb).1⟩⟩;rw[sV]
 done:=by
  intro X hP hw hK hc i Xj s σ H E I hf st hg;subst hP hw hK;obtain⟨f0,f1,f2,f3,f4,f5⟩:=hf it (by simp);exact wpAny_pyNext_range_end (I.ok.hd hc) st (by have:n<=i:=hg;omega) λh' eb=>⟨rfl,I.turned (t':=s.toks) (λb o hb e=>eb b o hb e) f0 f1 f3 f4 f5⟩
 self:=λ_ _ _ _ _ st h=>wpAny_pyIter_rangeiter st h
section
variable {X:Cx}{tg:Expr}
def yN (K:W.Frag)(tl:TE):TI:=λσ H R=>tl σ H λx H1=>∃a,x=.ref a∧(∃xs,SqL K H1 a xs)∧R (Itl K a) H1
def JG (K:W.Frag)(tl:TE):TI:=λσ H R=>tl σ H λx H1=>∃a,x=.ref a∧(∃xs,SqT K H1 a xs)∧R (Itt K a) H1
theorem bY {l:Expr}{tl:TE}(hl:PE X l tl):PI X tg l (yN X.K tl):=by
 intro Xj s σ H R I h;refine thn (hl Xj s σ H _ I h) λv s1 ⟨x,H1,I1,r1,q1⟩=>?_;obtain⟨a,e,⟨xs,hq⟩,q⟩:=q1;subst e
 cases r1
 obtain⟨its,rv,p,hz⟩:=I1.list hq;refine wpAny_pyIter_list p.isList ?_;refine⟨s1.heap.objs.size,[s1.heap.objs.size],_,_,H1,rfl,I1.kept (t':=s1.toks) λb o e=>Heap.get?_push_of_some _ e,JE a _,⟨_,Heap.get?_push_size _ rfl,rfl,rfl⟩,λb hb=>?_,q⟩;have e:b=s1.heap.objs.size:=by simpa using hb
 subst e;exact I1.fpOk (aw _) (I1.hok.fresh (aw _))
theorem Dy {Xj:List (Addr×Obj)}{σ:St}{H:Hp}{s:Shared}{R:It->Hp->Prop}{E:Value->Shared->Prop}{lo hi:Int}{t u v:Tok}{tk:Nat}(I:Inv X Xj σ H s) (h1:-(2 ^ 62)<=lo) (h2:lo<2 ^ 62) (h3:-(2 ^ 62)<=hi) (h4:hi<2 ^ 62)
  (q:R (Itr lo (hi-lo).toNat) H):wpAny (model X.prog X.w) X.A (pyIter (.ref s.heap.objs.size)) (PIE X Xj σ tg R) E { s with heap:=s.heap.push { cls:=.type "range",data:=.fields #[.int lo t,.int hi u,.int 1 v] },toks:=tk }:=by
 refine wpAny_pyIter_range (IsRange.new ..) (small_one h1 h2 h3 h4) ?_;have I1:Inv X Xj σ H { s with heap:=s.heap.push { cls:=.type "range",data:=.fields #[.int lo t,.int hi u,.int 1 v] },toks:=tk }:=I.kept λb o e=>Heap.get?_push_of_some _ e;refine⟨(s.heap.push { cls:=.type "range",data:=.fields #[.int lo t,.int hi u,.int 1 v] }).objs.size,[(s.heap.push { cls:=.type "range",data:=.fields #[.int lo t,.int hi u,.int 1 v] }).objs.size],_,_,H,rfl,
  I1.kept (t':=tk) λb o e=>Heap.get?_push_of_some _ e,JF _ lo (hi-lo).toNat,?_,λb hb=>?_,q⟩
 ·have e1:lo+((0:Nat):Int)*1=lo:=by simp
  have e2:(((hi-lo).toNat:Nat):Int)-((0:Nat):Int)=Builtin.Range.rangeSize lo hi 1:=by rw[rangeSize_one];split <;> omega
  show IsRangeIter _ _ (lo+((0:Nat):Int)*1) ((((hi-lo).toNat:Nat):Int)-((0:Nat):Int)) 1;rw[e1,e2];exact Heap.get?_push_size _ rfl
 ·have e:b=(s.heap.push { cls:=.type "range",data:=.fields #[.int lo t,.int hi u,.int 1 v] }).objs.size:=by simpa using hb
  subst e;exact I1.fpOk (aw _) (I1.hok.fresh (aw _))
def Dz (ta:TA):TI:=λσ H R=>ta σ H λvs H1=>∃j:Int,vs=[.int j]∧-(2 ^ 62)<=j∧j<2 ^ 62∧R (Itr 0 j.toNat) H1
def DA (ta:TA):TI:=λσ H R=>ta σ H λvs H1=>∃i j:Int,vs=[.int i,.int j]∧(-(2 ^ 62)<=i∧i<2 ^ 62∧-(2 ^ 62)<=j∧j<2 ^ 62)∧R (Itr i (j-i).toNat) H1
theorem cR {a:Expr}{ta:TA}{p pos:Pos}(hg:Gl X "range") (hm:X.mg "range" = none) (ha:PA X [a] ta) (hs:starEach [a] X.env=[(false,eval a X.env)]:=by rfl):PI X tg (.Call (.Name "range" p) [a] [] pos) (Dz ta):=by
 intro Xj s σ H R I h;refine Call_ (e_ I hg hm boot_range (PyProof.Rows.callWith_type1 (thn (ha pos Xj s σ H _ I h) λus s1 ⟨vs,H1,I1,r1,q1⟩=>?_) hs rfl));obtain⟨j,e,q1,q2,q⟩:=q1;subst e
 cases r1 with
 | cons r rr=>
  cases rr
  obtain⟨t,rfl⟩:=r;exact call_range_1 (Dy I1 (by omega) (by omega) q1 q2 (by simpa using q))
theorem yO {a b:Expr}{ta:TA}{p pos:Pos}(hg:Gl X "range") (hm:X.mg "range" = none) (ha:PA X [a,b] ta) (hs:starEach [a,b] X.env=[(false,eval a X.env),(false,eval b X.env)]:=by rfl) (hs2:starEach [b] X.env=[(false,eval b X.env)]:=by rfl):
  PI X tg (.Call (.Name "range" p) [a,b] [] pos) (DA ta):=by
 intro Xj s σ H R I h;refine Call_ (e_ I hg hm boot_range (PyProof.Rows.callWith_type1 (thn (ha pos Xj s σ H _ I h) λus s1 ⟨vs,H1,I1,r1,q1⟩=>?_) (by rw[hs,hs2]) (by rw[hs2];rfl)));obtain⟨i,j,e,⟨q1,q2,q3,q4⟩,q⟩:=q1;subst e
 cases r1 with
 | cons r rr=>
  cases rr with
  | cons r' rr=>
   cases rr
   obtain⟨t,rfl⟩:=r;obtain⟨t',rfl⟩:=r';exact call_range_2 (Dy I1 q1 q2 q3 q4 q)
def pq (wi:TI)(g:TG)(tb:TS):TS:=λD σ H=>wi σ H λJ H1=>∃W:Nat->Nat->St->Hp->Prop,(∃m,W 0 m σ H1)∧∀i m σ H,W i m σ H->
 (J.stop i H∧D.nx σ H)∨(J.go i H∧∃N:St->Hp->Prop,(∀σ' H',N σ' H'->∃m',m'<m∧W (i+1) m' σ' H')∧∀x H',J.yld i H x H'->g x σ H' λσ2 H2=>tb { D with nx:=N,ct:=N,bk:=D.nx } σ2 H2)
def pr (fp:List Addr)(h:Heap):List (Addr×Obj):=fp.filterMap λb=>(h.get? b).map λo=>(b,o)
theorem cS {fp:List Addr}{h:Heap}{b:Addr}{o:Obj}(hb:b∈fp)(e:h.get? b=some o):(b,o)∈pr fp h:=Ik.mpr ⟨b,hb,by rw[e];rfl⟩
theorem JH {fp:List Addr}{h:Heap}{p:Addr×Obj}(hp:p∈pr fp h):p.1∈fp∧h.get? p.1=some p.2:=by
 obtain⟨b,hb,e⟩:=Ik.mp hp
 cases q:h.get? b with
 | none=>rw[q]at e;cases e
 | some o=>
  rw[q]at e;have e':(b,o)=p:=Option.some.inj e;subst e';exact⟨hb,q⟩
theorem Inv.pinned {Xj:List (Addr×Obj)}{σ:St}{H:Hp}{s:Shared}{fp:List Addr}(I:Inv X Xj σ H s)(hf:∀b∈fp,a8 X Xj H b)(ho:∀b∈fp,∃o,s.heap.get? b=some o∧∀v,o.data≠.cell v):Inv X (Xj++pr fp s.heap) σ H s:=
 I.pins_of λp hp=>(cx.mp hp).elim (λz=>I.pin p (bE _ z)) λz=>by
  obtain⟨hb,e⟩:=JH z;obtain⟨f0,f1,f2,_⟩:=hf p.1 hb;obtain⟨o,e',d⟩:=ho p.1 hb;rw[e]at e';cases e';exact⟨e,f0,f1,f2,d⟩
theorem Inv.unpinned {Xj pl:List (Addr×Obj)}{σ:St}{H:Hp}{s:Shared}(I:Inv X (Xj++pl) σ H s):Inv X Xj σ H s:=I.pins_of λp hp=>I.pin p (bE _ (fP _ hp))
theorem bL {iter:Expr}{body:List Stmt}{wi:TI}{g:TG}{tb:TS}{pos:Pos}(hp:PassesOwn (model X.prog X.w) X.A X.env X.xe) (hc:X.calm=true) (hi:PI X tg iter wi) (hg:PG X tg g) (hb:PSs X body tb)
  (hs:∀x,foldedSetIterable iter X.env x=pure x:=by intro _;rfl):PS X (.For tg iter body [] pos) (pq wi g tb):=by
 intro Xj s σ H D I h;refine wpAny_For (thn (hi Xj s σ H _ I h) λv s1 h1=>thn h1 λitv s2 h2=>?_) hs;obtain⟨it,fp,tn,J,H2,e,I2,T,st2,f2,W,⟨m0,w0⟩,turn⟩:=h2;subst e;have stat:∀{H':Hp},(∀b∈fp,H' b=none)->∀b∈fp,a8 X Xj H' b:=λhn b hb=>⟨hn b hb,(f2 b hb).2⟩
 refine codeAny_forLoop_any (λn s'=>∃i σ' H',Inv X Xj σ' H' s'∧tn i s'.heap∧(∀b∈fp,H' b=none)∧W i n σ' H') ?_ m0 ⟨0,σ,H2,I2,st2,λb hb=>(f2 b hb).1,w0⟩
 rintro n s3 ⟨i,σ3,H3,I3,st3,fr3,w3⟩
 rcases turn i n σ3 H3 w3 with ⟨stop,qn⟩|⟨go,N,hN,step⟩
 ·refine wpAny_passesOwn hp (thn (T.done X rfl rfl rfl hc i Xj s3 σ3 H3 X.xe I3 (stat fr3) st3 stop) λr s4 ⟨hr,I4⟩=>?_);subst hr;exact wpAny_execs_nil ⟨σ3,H3,I4,qn⟩
 ·refine wpAny_passesOwn hp (thn (T.item X rfl rfl rfl hc i Xj s3 σ3 H3 X.xe I3 (stat fr3) st3 go) λr s4 ⟨u,hr,h4⟩=>?_);subst hr;refine wpAny_passesOwn hp (thn h4 λ_ s5 ⟨x,H5,I5,r5,y5,st5,fr5⟩=>?_);have I5':=I5.pinned (stat fr5) (T.obj _ _ st5);refine wpAny_passesOwn hp (thn (hg _ s5 σ3 H5 x u _ I5' r5 (step x H5 y5)) λ_ s6 ⟨σ6,H6,I6,q6⟩=>?_);refine wpAny_passesOwn hp (thn (hb _ s6 σ6 H6 _ I6 q6) λf s7 q7=>?_);have again:∀{σ7:St}{H7:Hp},Inv X (Xj++pr fp s5.heap) σ7 H7 s7->N σ7 H7->∃m,m<n∧∃i σ' H',Inv X Xj σ' H' s7∧tn i s7.heap∧(∀b∈fp,H' b=none)∧W i m σ' H':=λ{σ7 H7} I7 n7=>by
   obtain⟨m',hm,w7⟩:=hN σ7 H7 n7;refine⟨m',hm,i+1,σ7,H7,I7.unpinned,T.keep _ _ _ st5 λb hb o e=>(I7.pin (b,o) (bE _ (bE _ (cS hb e)))).1,λb hb=>?_,w7⟩;obtain⟨o,e,d⟩:=T.obj _ _ st5 b hb;exact (I7.pin (b,o) (bE _ (bE _ (cS hb e)))).2.1
  cases f with
  | next=>obtain⟨σ7,H7,I7,n7⟩:=q7;exact again I7 n7
  | cont=>obtain⟨σ7,H7,I7,n7⟩:=q7;exact again I7 n7
  | brk=>obtain⟨σ7,H7,I7,q7⟩:=q7;exact⟨σ7,H7,I7.unpinned,q7⟩
  | ret v=>obtain⟨x7,σ7,H7,I7,r7,q7⟩:=q7;exact⟨x7,σ7,H7,I7.unpinned,r7,q7⟩
end
theorem JI {K:W.Frag}{a:Addr}{xs:List V}{g:TG}{tb:TS}{D:Ends}{σ:St}{H:Hp}(Pv:Nat->St->Hp->Prop) (h0:Pv 0 σ H) (hl:∀i σ H,i<=xs.length->Pv i σ H->SqL K H a xs)
  (hs:∀i x σ H,xs[i]?=some x->Pv i σ H->g x σ H λσ2 H2=>tb { D with nx:=Pv (i+1),ct:=Pv (i+1),bk:=D.nx } σ2 H2) (hd:∀σ H,Pv xs.length σ H->D.nx σ H):
  ∃W:Nat->Nat->St->Hp->Prop,(∃m,W 0 m σ H)∧∀i m σ H,W i m σ H->
   ((Itl K a).stop i H∧D.nx σ H)∨((Itl K a).go i H∧∃N:St->Hp->Prop,(∀σ' H',N σ' H'->∃m',m'<m∧W (i+1) m' σ' H')∧∀x H',(Itl K a).yld i H x H'->g x σ H' λσ2 H2=>tb { D with nx:=N,ct:=N,bk:=D.nx } σ2 H2):=by
 refine⟨λi m σ H=>m=xs.length-i∧i<=xs.length∧Pv i σ H,⟨xs.length,by simp,aY _,h0⟩,?_⟩
 rintro i m σ H ⟨rfl,hi,p⟩
 have q:=hl i σ H hi p;by_cases hlt:i<xs.length
 ·refine .inr ⟨⟨xs,xs[i],q,by simp[hlt]⟩,Pv (i+1),λσ' H' p'=>⟨xs.length-(i+1),by omega,rfl,hlt,p'⟩,λx H' y=>?_⟩;obtain⟨e,y⟩:=y;subst e;exact hs i x σ _ (y xs q) p
 ·have e:i=xs.length:=by omega
  subst e;exact .inl ⟨⟨xs,q,aw _⟩,hd σ H p⟩
theorem JJ {lo:Int}{n:Nat}{g:TG}{tb:TS}{D:Ends}{σ:St}{H:Hp}(Pv:Nat->St->Hp->Prop) (h0:Pv 0 σ H)
  (hs:∀i σ H,i<n->Pv i σ H->g (.int (lo+i)) σ H λσ2 H2=>tb { D with nx:=Pv (i+1),ct:=Pv (i+1),bk:=D.nx } σ2 H2) (hd:∀σ H,Pv n σ H->D.nx σ H):
  ∃W:Nat->Nat->St->Hp->Prop,(∃m,W 0 m σ H)∧∀i m σ H,W i m σ H->
   ((Itr lo n).stop i H∧D.nx σ H)∨((Itr lo n).go i H∧∃N:St->Hp->Prop,(∀σ' H',N σ' H'->∃m',m'<m∧W (i+1) m' σ' H')∧∀x H',(Itr lo n).yld i H x H'->g x σ H' λσ2 H2=>tb { D with nx:=N,ct:=N,bk:=D.nx } σ2 H2):=by
 refine⟨λi m σ H=>m=n-i∧i<=n∧Pv i σ H,⟨n,by simp,aY _,h0⟩,?_⟩
 rintro i m σ H ⟨rfl,hi,p⟩
 by_cases hlt:i<n
 ·refine .inr ⟨hlt,Pv (i+1),λσ' H' p'=>⟨n-(i+1),by omega,rfl,hlt,p'⟩,λx H' y=>?_⟩;obtain⟨e,y⟩:=y;subst e y;exact hs i σ _ hlt p
 ·have e:i=n:=by omega
  subst e;exact .inl ⟨aw _,hd σ H p⟩
abbrev R2:=V->V->Hp->VK->Prop
def OpR (X:Cx)(f:Value->Value->Sem Value)(r:R2):Prop:=
 ∀(Xj:List (Addr×Obj)) (s:Shared) (σ:St) (H:Hp) (x y:V) (v u:Value) (Q:VK),Inv X Xj σ H s->RelV x v->RelV y u->r x y H Q->
  wpAny (model X.prog X.w) X.A (f v u) (EP X Xj σ Q) X.xe s
def UnR (X:Cx)(f:Value->Sem Value)(r:V->Hp->VK->Prop):Prop:=
 ∀(Xj:List (Addr×Obj)) (s:Shared) (σ:St) (H:Hp) (x:V) (v:Value) (Q:VK),Inv X Xj σ H s->RelV x v->r x H Q->
  wpAny (model X.prog X.w) X.A (f v) (EP X Xj σ Q) X.xe s
def cL (X:Cx)(f:Value)(r:List V->Hp->VK->Prop):Prop:=
 ∀(Xj:List (Addr×Obj)) (s:Shared) (σ:St) (H:Hp) (xs:List V) (us:List Value) (Q:VK),Inv X Xj σ H s->Vals xs us->r xs H Q->
  wpAny (model X.prog X.w) X.A (call f us) (EP X Xj σ Q) X.xe s
def tOp (r:R2)(ta tb:TE):TE:=λσ H Q=>ta σ H λx H1=>tb σ H1 λy H2=>r x y H2 Q
def tUn (r:V->Hp->VK->Prop)(ta:TE):TE:=λσ H Q=>ta σ H λx H1=>r x H1 Q
def rI (C:Int->Int->Prop)(g:Int->Int->V):R2:=λx y H Q=>∃i j,x=.int i∧y=.int j∧C i j∧Q (g i j) H
def rI0 (g:Int->Int->V):R2:=λx y H Q=>∃i j,x=.int i∧y=.int j∧Q (g i j) H
def rU (g:Int->V):V->Hp->VK->Prop:=λx H Q=>∃i,x=.int i∧Q (g i) H
section
variable {X:Cx}{a b c:Expr}{ta tb tc:TE}{pos:Pos}
theorem yP (ha:PE X a ta) (hb:PE X b tb){Xj:List (Addr×Obj)}{s:Shared}{σ:St}{H:Hp}{R:V->V->Hp->Prop}(I:Inv X Xj σ H s)
  (h:ta σ H λx H1=>tb σ H1 λy H2=>R x y H2){Q:Value->Shared->Prop}{f:Value->Value->Sem Value}
  (hf:∀v u s2 x y H2,Inv X Xj σ H2 s2->RelV x v->RelV y u->R x y H2->wpAny (model X.prog X.w) X.A (f v u) Q X.xe s2):
  wpAny (model X.prog X.w) X.A (eval a X.env) (λv s₁=>wpAny (model X.prog X.w) X.A (eval b X.env) (λu s₂=>wpAny (model X.prog X.w) X.A (f v u) Q X.xe s₂) X.xe s₁) X.xe s:=by
 refine thn (ha Xj s σ H _ I h) λv s1 ⟨x,H1,I1,r1,q1⟩=>?_;refine thn (hb Xj s1 σ H1 _ I1 q1) λu s2 ⟨y,H2,I2,r2,q2⟩=>?_;exact hf v u s2 x y H2 I2 r1 r2 q2
theorem ag {op:Operator}{r:R2}(ho:OpR X (binaryOp op) r)(ha:PE X a ta)(hb:PE X b tb):PE X (.BinOp a op b pos) (tOp r ta tb):=by
 intro Xj s σ H Q I h;exact wpAny_BinOp (yP ha hb I h λv u s2 x y H2 I2 rx ry q=>ho Xj s2 σ H2 x y v u Q I2 rx ry q)
theorem pw {op:UnaryOp}{r:V->Hp->VK->Prop}(ho:UnR X (unaryOp op) r)(ha:PE X a ta):PE X (.UnaryOp op a pos) (tUn r ta):=by
 intro Xj s σ H Q I h;exact UnaryOp_ (thn (ha Xj s σ H _ I h) λv s1 ⟨x,H1,I1,r1,q1⟩=>ho Xj s1 σ H1 x v Q I1 r1 q1)
theorem opI {f:Value->Value->Sem Value}{C:Int->Int->Prop}{g:Int->Int->Int}
  (rule:∀(i j:Int) (t u:Tok) (s:Shared) (Q:Value->Shared->Prop) (E:Value->Shared->Prop),C i j->Q (.int (g i j) s.toks) { s with toks:=s.toks+1 }->wpAny (model X.prog X.w) X.A (f (.int i t) (.int j u)) Q E s):
  OpR X f (rI C λi j=>.int (g i j)):=by
 intro Xj s σ H x y v u Q I rx ry h;obtain⟨i,j,rfl,rfl,hc,q⟩:=h;obtain⟨t,rfl⟩:=rx;obtain⟨t',rfl⟩:=ry;exact rule i j t t' s _ _ hc ⟨.int (g i j),H,I.tok _,⟨_,rfl⟩,q⟩
theorem DB {f:Value->Value->Sem Value}{g:Int->Int->Int}
  (rule:∀(i j:Int) (t u:Tok) (s:Shared) (Q:Value->Shared->Prop) (E:Value->Shared->Prop),Q (.int (g i j) s.toks) { s with toks:=s.toks+1 }->wpAny (model X.prog X.w) X.A (f (.int i t) (.int j u)) Q E s):
  OpR X f (rI0 λi j=>.int (g i j)):=by
 intro Xj s σ H x y v u Q I rx ry h;obtain⟨i,j,rfl,rfl,q⟩:=h;obtain⟨t,rfl⟩:=rx;obtain⟨t',rfl⟩:=ry;exact rule i j t t' s _ _ ⟨.int (g i j),H,I.tok _,⟨_,rfl⟩,q⟩
theorem yQ {f:Value->Value->Sem Value}{g:Int->Int->Bool}
  (rule:∀(i j:Int) (t u:Tok) (s:Shared) (Q:Value->Shared->Prop) (E:Value->Shared->Prop),Q (.bool (g i j)) s->wpAny (model X.prog X.w) X.A (f (.int i t) (.int j u)) Q E s):
  OpR X f (rI0 λi j=>.bl (g i j)):=by
 intro Xj s σ H x y v u Q I rx ry h;obtain⟨i,j,rfl,rfl,q⟩:=h;obtain⟨t,rfl⟩:=rx;obtain⟨t',rfl⟩:=ry;exact rule i j t t' s _ _ ⟨.bl (g i j),H,I,rfl,q⟩
def pA (i j:Int):Prop:=0<j∧j<1073741824
def DC (i j:Int):Prop:=0<=j∧j<=1000000∧i.natAbs<2 ^ 64
def CMul (i j:Int):Prop:=(-(2 ^ 64)<i∧i<2 ^ 64)∨(-(2 ^ 64)<j∧j<2 ^ 64)
theorem CMul.ok {i j:Int}(h:CMul i j):IntMulOk i j:=by
 rcases h with ⟨h1,h2⟩|⟨h1,h2⟩
 ·exact .of_left (intBits_le_64 h1 h2)
 ·exact .of_right (intBits_le_64 h1 h2)
theorem aI:OpR X (binaryOp .Add) (rI0 λi j=>.int (i+j)):=DB λ_ _ _ _ _ _ _ q=>add_int q
theorem cf:OpR X (binaryOp .Sub) (rI0 λi j=>.int (i-j)):=DB λ_ _ _ _ _ _ _ q=>sub_int q
theorem fk:OpR X (binaryOp .Mult) (rI CMul λi j=>.int (i*j)):=opI λ_ _ _ _ _ _ _ hc q=>mul_int q hc.ok
theorem cC:OpR X (binaryOp .FloorDiv) (rI pA λi j=>.int (i / j)):=opI λi j _ _ _ _ _ hc q=>by
 have h1:(0:Int)<j:=hc.1;have h2:j<1073741824:=hc.2;exact floordiv_int (by omega) (by rw[PY i (by omega)];exact q) (.inl (PyProof.noPylong_small (by omega)))
theorem aZ:OpR X (binaryOp .Mod) (rI (λ_ j=>0<j) λi j=>.int (i % j)):=opI λi j _ _ _ _ _ hc q=>by
 have h1:(0:Int)<j:=hc;exact mod_int' (by omega) (by rw[Int.fmod_eq_emod_of_nonneg i (by omega)];exact q)
theorem fm:OpR X (binaryOp .Pow) (rI DC λi j=>.int (i ^ j.toNat)):=opI λ_ _ _ _ _ _ _ hc q=>pow_int_small hc.1 hc.2.1 hc.2.2 q
theorem unI {f:Value->Sem Value}{g:Int->Int}
  (rule:∀(i:Int) (t:Tok) (s:Shared) (Q:Value->Shared->Prop) (E:Value->Shared->Prop),Q (.int (g i) s.toks) { s with toks:=s.toks+1 }->wpAny (model X.prog X.w) X.A (f (.int i t)) Q E s):
  UnR X f (rU λi=>.int (g i)):=by
 intro Xj s σ H x v Q I rx h;obtain⟨i,rfl,q⟩:=h;obtain⟨t,rfl⟩:=rx;exact rule i t s _ _ ⟨.int (g i),H,I.tok _,⟨_,rfl⟩,q⟩
theorem pB:UnR X (unaryOp .USub) (rU λi=>.int (-i)):=unI λ_ _ _ _ _ q=>neg_int q
end
def yR:V->V->Bool
 | .non,.non=>true | .non,.int _=>true | .int _,.non=>true | .non,.bl _=>true | .bl _,.non=>true | .non,.str _=>true | .str _,.non=>true
 | .int _,.int _=>true | .bl _,.bl _=>true | .str _,.str _=>true | .byt _,.byt _=>true
 | .int _,.str _=>true | .str _,.int _=>true | .bl _,.str _=>true | .str _,.bl _=>true
 | _,_=>false
def rEq:R2:=λx y H Q=>yR x y=true∧Q (.bl (decide (x=y))) H
def rNe:R2:=λx y H Q=>yR x y=true∧Q (.bl (!decide (x=y))) H
theorem pC {i j:Int}:decide (V.int i=V.int j)=(i == j):=by
 rw[Bool.eq_iff_iff];simp
theorem DE {i j:Bool}:decide (V.bl i=V.bl j)=(i == j):=by
 rw[Bool.eq_iff_iff];simp
theorem DF {i j:Str}:decide (V.str i=V.str j)=(i == j):=by
 rw[Bool.eq_iff_iff];simp
theorem DG {i j:Array UInt8}:decide (V.byt i=V.byt j)=(i.toList == j.toList):=by
 rw[Bool.eq_iff_iff]
 cases i
 cases j
 simp
section
variable {X:Cx}{a b c:Expr}{ta tb tc:TE}{pos:Pos}
theorem bv {Xj:List (Addr×Obj)}{σ:St}{H:Hp}{s:Shared}{Q:VK}{k k':Bool}(I:Inv X Xj σ H s)(q:Q (.bl k) H)(e:k=k'):EP X Xj σ Q (.bool k') s:=by
 subst e;exact⟨.bl k,H,I,rfl,q⟩
theorem br:OpR X (compareOp .Eq) rEq:=by
 intro Xj s σ H x y v u Q I rx ry h;obtain⟨hs,q⟩:=h
 cases x with
 | non=>
  cases rx
  cases y with
  | non=>cases ry;exact PySem.EqNone.eq_none_none (bv I q (by simp))
  | bl j=>cases ry;exact PySem.EqNone.eq_none_bool (bv I q (by simp))
  | int j=>obtain⟨t',rfl⟩:=ry;exact PySem.EqNone.eq_none_int (bv I q (by simp))
  | str j=>obtain⟨t',rfl⟩:=ry;exact PySem.EqNone.eq_none_str (bv I q (by simp))
  | _=>exact absurd (show false=true from hs) Bool.false_ne_true
 | bl i=>
  cases rx
  cases y with
  | non=>cases ry;exact PySem.EqNone.eq_bool_none (bv I q (by simp))
  | bl j=>cases ry;exact eq_bool (bv I q DE)
  | str j=>obtain⟨t',rfl⟩:=ry;exact PySem.EqMixed.eq_bool_str (bv I q (by simp))
  | _=>exact absurd (show false=true from hs) Bool.false_ne_true
 | int i=>
  obtain⟨t,rfl⟩:=rx
  cases y with
  | non=>cases ry;exact PySem.EqNone.eq_int_none (bv I q (by simp))
  | int j=>obtain⟨t',rfl⟩:=ry;exact eq_int (bv I q pC)
  | str j=>obtain⟨t',rfl⟩:=ry;exact PySem.EqMixed.eq_int_str (bv I q (by simp))
  | _=>exact absurd (show false=true from hs) Bool.false_ne_true
 | str i=>
  obtain⟨t,rfl⟩:=rx
  cases y with
  | non=>cases ry;exact PySem.EqNone.eq_str_none (bv I q (by simp))
  | bl j=>cases ry;exact PySem.EqMixed.eq_str_bool (bv I q (by simp))
  | int j=>obtain⟨t',rfl⟩:=ry;exact PySem.EqMixed.eq_str_int (bv I q (by simp))
  | str j=>obtain⟨t',rfl⟩:=ry;exact eq_str (bv I q DF)
  | _=>exact absurd (show false=true from hs) Bool.false_ne_true
 | byt i=>
  obtain⟨t,rfl⟩:=rx
  cases y with
  | byt j=>obtain⟨t',rfl⟩:=ry;exact PySem.W.eq_bytes (bv I q DG)
  | _=>exact absurd (show false=true from hs) Bool.false_ne_true
 | _=>cases y <;> exact absurd (show false=true from hs) Bool.false_ne_true
theorem fo:OpR X (compareOp .NotEq) rNe:=by
 intro Xj s σ H x y v u Q I rx ry h;obtain⟨hs,q⟩:=h
 cases x with
 | non=>
  cases rx
  cases y with
  | non=>cases ry;exact PySem.EqNone.ne_none_none (bv I q (by simp))
  | bl j=>cases ry;exact PySem.EqNone.ne_none_bool (bv I q (by simp))
  | int j=>obtain⟨t',rfl⟩:=ry;exact PySem.EqNone.ne_none_int (bv I q (by simp))
  | str j=>obtain⟨t',rfl⟩:=ry;exact PySem.EqNone.ne_none_str (bv I q (by simp))
  | _=>exact absurd (show false=true from hs) Bool.false_ne_true
 | bl i=>
  cases rx
  cases y with
  | non=>cases ry;exact PySem.EqNone.ne_bool_none (bv I q (by simp))
  | bl j=>cases ry;exact ne_bool (bv I q (congrArg not DE))
  | str j=>obtain⟨t',rfl⟩:=ry;exact PySem.EqMixed.ne_bool_str (bv I q (by simp))
  | _=>exact absurd (show false=true from hs) Bool.false_ne_true
 | int i=>
  obtain⟨t,rfl⟩:=rx
  cases y with
  | non=>cases ry;exact PySem.EqNone.ne_int_none (bv I q (by simp))
  | int j=>obtain⟨t',rfl⟩:=ry;exact ne_int (bv I q (congrArg not pC))
  | str j=>obtain⟨t',rfl⟩:=ry;exact PySem.EqMixed.ne_int_str (bv I q (by simp))
  | _=>exact absurd (show false=true from hs) Bool.false_ne_true
 | str i=>
  obtain⟨t,rfl⟩:=rx
  cases y with
  | non=>cases ry;exact PySem.EqNone.ne_str_none (bv I q (by simp))
  | bl j=>cases ry;exact PySem.EqMixed.ne_str_bool (bv I q (by simp))
  | int j=>obtain⟨t',rfl⟩:=ry;exact PySem.EqMixed.ne_str_int (bv I q (by simp))
  | str j=>obtain⟨t',rfl⟩:=ry;exact ne_str (bv I q (congrArg not DF))
  | _=>exact absurd (show false=true from hs) Bool.false_ne_true
 | byt i=>
  obtain⟨t,rfl⟩:=rx
  cases y with
  | byt j=>obtain⟨t',rfl⟩:=ry;exact PySem.W.ne_bytes (bv I q (congrArg not DG))
  | _=>exact absurd (show false=true from hs) Bool.false_ne_true
 | _=>cases y <;> exact absurd (show false=true from hs) Bool.false_ne_true
theorem dw:OpR X (compareOp .Lt) (rI0 λi j=>.bl (decide (i<j))):=yQ λ_ _ _ _ _ _ _ q=>lt_int q
theorem DH:OpR X (compareOp .LtE) (rI0 λi j=>.bl (decide (i<=j))):=yQ λ_ _ _ _ _ _ _ q=>le_int q
theorem fV:OpR X (compareOp .Gt) (rI0 λi j=>.bl (decide (j<i))):=yQ λ_ _ _ _ _ _ _ q=>gt_int q
theorem aC (b:Expr){op:CmpOp}(h:op≠.In:=by decide)(h2:op≠.NotIn:=by decide):behindInMarks op b=false:=by
 have e1:(op == CmpOp.In)=false:=by cases op <;> first|rfl|exact absurd rfl h
 have e2:(op == CmpOp.NotIn)=false:=by cases op <;> first|rfl|exact absurd rfl h2
 cases b <;> simp[behindInMarks,e1,e2]
theorem pD {op:CmpOp}{r:R2}(ho:OpR X (compareOp op) r)(ha:PE X a ta)(hb:PE X b tb)(hm:behindInMarks op b=false):PE X (.Compare a [op] [b] pos) (tOp r ta tb):=by
 intro Xj s σ H Q I h;exact wpAny_Compare1 (yP ha hb I h λv u s2 x y H2 I2 rx ry q=>ho Xj s2 σ H2 x y v u Q I2 rx ry q) hm
def DI (t:TE):TT:=λσ H Q=>t σ H λx H'=>∃k,x=.bl k∧Q k H'
theorem aD {op:CmpOp}{r:R2}(ho:OpR X (compareOp op) r)(ha:PE X a ta)(hb:PE X b tb)(hm:behindInMarks op b=false):PT X (.Compare a [op] [b] pos) (DI (tOp r ta tb)):=by
 intro Xj s σ H Q I h;refine wpAny_isTrue_Compare1 (thn (ha Xj s σ H _ I h) λv s1 ⟨x,H1,I1,r1,q1⟩=>thn (hb Xj s1 σ H1 _ I1 q1) λu s2 ⟨y,H2,I2,r2,q2⟩=>
  thn (ho Xj s2 σ H2 x y v u _ I2 r1 r2 q2) λc s3 ⟨z,H3,I3,r3,k,e,q3⟩=>?_) hm
 subst e
 cases r3
 exact wpAny_truthy_bool ⟨H3,I3,q3⟩
def DJ (r r':R2)(ta tb tc:TE):TE:=λσ H Q=>ta σ H λx H1=>tb σ H1 λy H2=>r x y H2 λz H3=>∃k,z=.bl k∧
 (if k=true then tc σ H3 λw' H4=>r' y w' H4 Q else Q (.bl false) H3)
theorem JK {op op':CmpOp}{r r':R2}(ho:OpR X (compareOp op) r) (ho':OpR X (compareOp op') r') (ha:PE X a ta) (hb:PE X b tb) (hc:PE X c tc)
  (hm:lastMarks [op,op'] [b,c]=false:=by with_unfolding_all rfl):PE X (.Compare a [op,op'] [b,c] pos) (DJ r r' ta tb tc):=by
 intro Xj s σ H Q I h;refine Compare_chain (thn (ha Xj s σ H _ I h) λv s1 ⟨x,H1,I1,r1,q1⟩=>chain_link (thn (hb Xj s1 σ H1 _ I1 q1) λu s2 ⟨y,H2,I2,r2,q2⟩=>
  thn (ho Xj s2 σ H2 x y v u _ I2 r1 r2 q2) λd s3 ⟨z,H3,I3,r3,k,e,q3⟩=>?_)) hm
 subst e
 cases r3
 refine wpAny_truthy_bool ?_
 cases k with
 | false=>exact ite_ff ⟨.bl false,H3,I3,rfl,q3⟩
 | true=>exact ite_tt (chain_last (thn (hc Xj s3 σ H3 _ I3 q3) λw' s4 ⟨z',H4,I4,r4,q4⟩=>ho' Xj s4 σ H4 y z' u w' Q I4 r2 r4 q4))
theorem yS:(sizeLine:Nat)<2 ^ 63:=by rw[sizeLine_eq];decide
theorem d_ {x:V}{us:List Value}(r:Vals [x] us):∃u,us=[u]∧RelV x u:=by
 cases r with
 | cons r1 r2=>cases r2;exact⟨_,rfl,r1⟩
theorem DK {x y:V}{us:List Value}(r:Vals [x,y] us):∃u w',us=[u,w']∧RelV x u∧RelV y w':=by
 cases r with
 | cons r1 r2=>
  cases r2 with
  | cons r3 r4=>cases r4;exact⟨_,_,rfl,r1,r3⟩
theorem fW:cL X (.builtin "abs") (λxs H Q=>∃i,xs=[.int i]∧Q (.int (if i<0 then -i else i)) H):=by
 intro Xj s σ H xs us Q I r h;obtain⟨i,rfl,q⟩:=h;obtain⟨u,rfl,t,rfl⟩:=d_ r;exact call_abs_int λu tk=>⟨.int (if i<0 then -i else i),H,I.tok _,⟨_,rfl⟩,q⟩
theorem fX (hc:X.calm=true):cL X (.builtin "max") (λxs H Q=>∃i j,xs=[.int i,.int j]∧Q (.int (if j > i then j else i)) H):=by
 intro Xj s σ H xs us Q I r h;obtain⟨i,j,rfl,q⟩:=h;obtain⟨u,w',rfl,⟨t,rfl⟩,⟨t',rfl⟩⟩:=DK r;refine max_two_ints (I.ok.hd hc) λh' tk k=>⟨_,H,I.kept k,?_,q⟩
 by_cases hj:j > i
 ·rw[if_pos hj,if_pos hj];exact⟨_,rfl⟩
 ·rw[if_neg hj,if_neg hj];exact⟨_,rfl⟩
theorem DL (hc:X.calm=true):cL X (.builtin "min") (λxs H Q=>∃i j,xs=[.int i,.int j]∧Q (.int (if j<i then j else i)) H):=by
 intro Xj s σ H xs us Q I r h;obtain⟨i,j,rfl,q⟩:=h;obtain⟨u,w',rfl,⟨t,rfl⟩,⟨t',rfl⟩⟩:=DK r;refine min_two_ints (I.ok.hd hc) λh' tk k=>⟨_,H,I.kept k,?_,q⟩
 by_cases hj:j<i
 ·rw[if_pos hj,if_pos hj];exact⟨_,rfl⟩
 ·rw[if_neg hj,if_neg hj];exact⟨_,rfl⟩
end
structure ObjM (h:Heap)(x dx C:Addr)(mA:Str->Option Value):Prop where
 obj:h.get? x=some (PySem.W.instObj C dx)
 ns:h.Ns1 dx mA
 ne:dx≠x
theorem JL {h:Heap}{dx:Addr}{mA:Str->Option Value}(n:h.Ns1 dx mA):∃od,h.get? dx=some od∧∀name,PySem.W.lookIn name od=some (mA name):=by
 obtain⟨o,es,ep,ho,hd,hk,_,hm⟩:=n;refine⟨o,ho,λname=>?_⟩;have e:=hm name;unfold nsFind findBy at e;rw[←Array.find?_toList]at e;unfold PySem.W.lookIn;rw[hd];dsimp only
 split
 ·rename_i y q;rw[q]at e;exact congrArg some e
 ·rename_i q;rw[q]at e;have a:es.toList.any (·.refKey)=false:=by
   rw[List.any_eq_false];intro y hy;obtain⟨z,t,hkey⟩:=hk y (Array.mem_toList_iff.mp hy);simp[DictEntry.refKey,hkey]
  have a':¬es.toList.any (·.refKey)=true:=by rw[a];exact Bool.false_ne_true
  rw[if_neg a'];exact congrArg some e
theorem ObjM.look {h:Heap}{x dx C:Addr}{mA:Str->Option Value}(I:ObjM h x dx C mA):∃od,PySem.W.InstAt h x (PySem.W.instObj C dx) C (some od)∧∀name,PySem.W.lookIn name od=some (mA name):=
 let ⟨od,ho,hl⟩:=JL I.ns
 ⟨od,⟨I.obj,rfl,rfl,ho⟩,hl⟩
section
variable {prog:Program}{w:World}{A:Around}{E:Value->Shared->Prop}{s:Shared}{K:W.Frag}{x dx C f:Addr}{mA:Str->Option Value}{name:Str}{v:Value}
theorem JM {expr:Bool}{Q:Value->Shared->Prop}(X:K.In s.heap) (I:ObjM s.heap x dx C mA) (hg:PySem.W.plainGet K C name=true) (hh:PySem.W.hasDictIn K C=true)
  (ha:PySem.W.findIn K (.ref C) name=some none) (hv:mA name=some v) (hv':PySem.W.handedIn v=true) (h:Q v { s with toks:=s.toks+1 }):
  wpAny (model prog w) A (getAttr (.ref x) name expr) Q E s:=by
 obtain⟨od,J,hl⟩:=I.look;exact PySem.W.get_value X J (PySem.W.plainGet_of hg).1 (PySem.W.findObj_own hh ha rfl (by rw[hl,hv])) hv' h
theorem JN {pl:Sem Bool}{Q:Value×List Value->Shared->Prop}(X:K.In s.heap) (I:ObjM s.heap x dx C mA) (hg:PySem.W.plainGet K C name=true)
  (hf:PySem.W.findIn K (.ref C) name=some (some (.ref f))) (ht:PySem.W.isFn K (.ref f)=true) (hv:mA name=none) (h:Q (.ref f,[.ref x]) s):
  wpAny (model prog w) A (getMethod (.ref x) name pl) Q E s:=by
 obtain⟨od,J,hl⟩:=I.look;exact PySem.W.method_fn X J (PySem.W.plainGet_of hg).1 (PySem.W.plainGet_of hg).2 hf (beq_iff_eq.mp ht) (by show (PySem.W.lookIn name od).map (·.isSome)=some false;rw[hl,hv];rfl) h
theorem JO {ns:List Str}{Q:Unit->Shared->Prop}(X:K.In s.heap) (I:ObjM s.heap x dx C mA)
  (hs:PySem.W.findIn K (.ref C) "__setattr__" = some (some (.builtin "object.__setattr__"))) (hp:PySem.W.plainOver K C=true) (ht:PySem.W.takerIn K C name=some none) (hh:PySem.W.hasDictIn K C=true)
  (hw:PySem.Within mA ns) (hsz:ns.length<=sizeLine)
  (h:∀h',ObjM h' x dx C (λy=>if y=name then some v else mA y)->Heap.SameBut dx s.heap h'->Q () { s with heap:=h',toks:=s.toks+2 }):
  wpAny (model prog w) A (setAttr (.ref x) name v) Q E s:=by
 obtain⟨od,J,hl⟩:=I.look;refine PySem.W.set_plain X J hs (PySem.W.osa_open (s:={ s with toks:=s.toks+1 }) (r:=none) X J hp ht λb=>?_);obtain⟨cd,hc,hd'⟩:=PySem.W.any_some hh;have hx:s.heap.get? x=some ⟨.ref C,some dx,.plain,#[]⟩:=I.obj;refine wpAny_bind (wpAny_pure (wpAny_bind (wpAny_bind (wpAny_loadPart hx (wpAny_bind (PySem.W.Looks.here (s:={ s with toks:=s.toks+1 }) (PySem.W.looks_clsIn X hc) ?_))))));rw[hd'];refine wpAny_pure (a:=some dx) (wpAny_bind (wpAny_pure (wpAny_bind ?_)));refine wpAny_nsSet1 (s:={ s with toks:=s.toks+1 }) I.ns λh' hn2 hs2=>?_;obtain⟨oD,esD,epD,hoD,hdD,hcD⟩:=hn2.count (PySem.Within.cons name v hw);refine wpAny_bind (wpAny_lookBehind hoD (by rw[hdD];exact pastItsLine_dict (aP hcD (by rw[cb];omega))) ?_);exact wpAny_pure (h _ ⟨(hs2.2 _ (Ne.symm I.ne)).trans I.obj,hn2,I.ne⟩ hs2)
theorem JP {R:Result->Shared->Prop}{vs:List Value}{kw:List (Str×Value)}(X:K.In s.heap) (hm:PySem.W.makesIn K C=true)
  (hi:PySem.W.findIn K (.ref C) "__init__" = some (some (.ref f))) (hf:PySem.W.typeIn K (.ref f)=some (.type "function"))
  (h:codeAny (model prog w) (A.under (.builtin "type.__call__" ⟨.ref C :: vs,kw⟩)) (.call (.ref f) ⟨.ref (s.heap.objs.size+1) :: vs,kw⟩) (PySem.W.InitBack (s.heap.objs.size+1) R)
   { s with heap:=(s.heap.push PySem.W.emptyDict).push (PySem.W.instObj C s.heap.objs.size) }):
  codeAny (model prog w) A (.call (.ref C) ⟨vs,kw⟩) R s:=by
 obtain⟨hh,g,d,t,os⟩:=s;exact PySem.W.make_core (PySem.W.makes_of X hm) (PySem.W.looks_findIn X hi) (λself=>PySem.W.bind_fn X self hf) (.inl rfl) h
theorem JQ {R:Result->Shared->Prop}(X:K.In s.heap) (hm:PySem.W.makesIn K C=true)
  (hi:PySem.W.findIn K (.ref C) "__init__" = some (some (.builtin "object.__init__")))
  (hb:∀self,PySem.W.Looks (model prog w) s.heap (bindSpecial (.builtin "object.__init__") self) (.builtin "object.__init__",[self]))
  (h:codeAny (model prog w) (A.under (.builtin "type.__call__" ⟨[.ref C],[]⟩)) (.call (.builtin "object.__init__") ⟨[.ref (s.heap.objs.size+1)],[]⟩) (PySem.W.InitBack (s.heap.objs.size+1) R)
   { s with heap:=(s.heap.push PySem.W.emptyDict).push (PySem.W.instObj C s.heap.objs.size) }):
  codeAny (model prog w) A (.call (.ref C) ⟨[],[]⟩) R s:=by
 obtain⟨hh,g,d,t,os⟩:=s;exact PySem.W.make_core (PySem.W.makes_of X hm) (PySem.W.looks_findIn X hi) hb (.inr ⟨rfl,rfl⟩) h
end
def bM (f:Str)(v:V):List (Str×V)->List (Str×V)
 | []=>[(f,v)]
 |(g,x) :: r=>if g=f then (g,v) :: r else (g,x) :: bM f v r
theorem DM (f g:Str)(v:V):∀fs:List (Str×V),(bM f v fs).lookup g=if g=f then some v else fs.lookup g
 | []=>by
  show bQ g [(f,v)]=_;by_cases h:g=f
  ·have hb:(g == f)=true:=beq_iff_eq.mpr h;simp only[bQ,hb,if_pos h]
  ·have hb:(g == f)=false:=beq_eq_false_iff_ne.mpr h;simp only[bQ,hb,if_neg h]
 |(k,x) :: r=>by
  have ih:=DM f g v r;rw[show bM f v ((k,x) :: r)=(if k=f then (k,v) :: r else (k,x) :: bM f v r) from rfl];by_cases hk:k=f
  ·rw[if_pos hk];by_cases h:g=k
   ·have hb:(g == k)=true:=beq_iff_eq.mpr h;simp only[bQ,hb,if_pos (h.trans hk)]
   ·have hb:(g == k)=false:=beq_eq_false_iff_ne.mpr h;simp only[bQ,hb,if_neg (λe:g=f=>h (e.trans hk.symm))]
  ·rw[if_neg hk];by_cases h:g=k
   ·have hb:(g == k)=true:=beq_iff_eq.mpr h;simp only[bQ,hb,if_neg (λe:g=f=>hk (h.symm.trans e))]
   ·have hb:(g == k)=false:=beq_eq_false_iff_ne.mpr h;simp only[bQ,hb];exact ih
theorem yT (f:Str)(v:V):∀fs:List (Str×V),f∈(bM f v fs).map (·.1)∧∀g,g∈fs.map (·.1)->g∈(bM f v fs).map (·.1)
 | []=>⟨by simp[bM],λg h=>by simp at h⟩
 |(k,x) :: r=>by
  obtain⟨i1,i2⟩:=yT f v r;rw[show bM f v ((k,x) :: r)=(if k=f then (k,v) :: r else (k,x) :: bM f v r) from rfl];by_cases hk:k=f
  ·rw[if_pos hk];subst hk;exact⟨by simp,λg h=>by simpa using h⟩
  ·rw[if_neg hk];refine⟨?_,λg h=>?_⟩
   ·rw[bF];exact b7 _ i1
   ·rw[bF]at h ⊢;rcases aH.mp h with e|e
    ·exact aH.mpr (.inl e)
    ·exact b7 _ (i2 g e)
theorem DN (f:Str)(v:V):∀fs:List (Str×V),(bM f v fs).length<=fs.length+1
 | []=>by simp[bM]
 |(k,x) :: r=>by
  have ih:=DN f v r;rw[show bM f v ((k,x) :: r)=(if k=f then (k,v) :: r else (k,x) :: bM f v r) from rfl];by_cases hk:k=f
  ·rw[if_pos hk,cb,cb];omega
  ·rw[if_neg hk,cb,cb];omega
theorem RelO.some_of {v:V}{o:Option Value}(r:RelO (some v) o):∃u,o=some u∧RelV v u:=by
 cases o with
 | none=>exact (show False from r).elim
 | some u=>exact⟨u,rfl,r⟩
theorem RelO.none_of {o:Option Value}(r:RelO none o):o=none:=by
 cases o with
 | none=>rfl
 | some u=>exact (show False from r).elim
theorem JR {v:V}{u:Value}(r:RelV v u):PySem.W.handedIn u=true:=by
 cases v with
 | non=>cases (show u=Value.none from r);rfl
 | bl b=>cases (show u=Value.bool b from r);rfl
 | int i=>obtain⟨t,e⟩:=(show ∃t,u=Value.int i t from r);cases e;rfl
 | str x=>obtain⟨t,e⟩:=(show ∃t,u=Value.str x t from r);cases e;rfl
 | byt b=>obtain⟨t,e⟩:=(show ∃t,u=Value.bytes b t from r);cases e;rfl
 | flt b=>obtain⟨t,e⟩:=(show ∃t,u=Value.float b t from r);cases e;rfl
 | ref a=>cases (show u=Value.ref a from r);rfl
 | ty n=>cases (show u=Value.type n from r);rfl
section
variable {P:Program}{w:World}{H H':Hp}{h h':Heap}{a C dx:Addr}{fs fs':List (Str×V)}
theorem pE (hok:HOk P w H h)(e:H a=some (.ins C dx fs)):∃mA,ObjM h a dx C mA∧(∀f,RelO (fs.lookup f) (mA f))∧PySem.Within mA (fs.map (·.1))∧fs.length<=1000∧H dx=some (.own a):=by
 obtain⟨d,z,ne,ob,mA,n,r,q⟩:=(show ObjOk P w H h a (.ins C dx fs) from hok a _ e)
 exact⟨mA,⟨ob,n,ne⟩,r,q,z,d⟩
end
structure Cls (K:W.Frag)(C:Addr):Prop where
 pg:PySem.W.plainGet K C Str.empty=true
 hd:PySem.W.hasDictIn K C=true
 po:PySem.W.plainOver K C=true
 sa:PySem.W.findIn K (.ref C) "__setattr__" = some (some (.builtin "object.__setattr__"))
theorem Cls.get {K:W.Frag}{C:Addr}(c:Cls K C)(f:Str):PySem.W.plainGet K C f=true:=c.pg
def NoAttr (K:W.Frag)(C:Addr)(f:Str):Prop:=PySem.W.findIn K (.ref C) f=some none
theorem NoAttr.taker {K:W.Frag}{C:Addr}{f:Str}(n:NoAttr K C f):PySem.W.takerIn K C f=some none:=by
 unfold PySem.W.takerIn;rw[show PySem.W.findIn K (.ref C) f=some none from n];rfl
structure Meth (K:W.Frag)(C:Addr)(m:Str)(f:Addr):Prop where
 at_:PySem.W.findIn K (.ref C) m=some (some (.ref f))
 fn:PySem.W.isFn K (.ref f)=true
 kp:PySem.W.keepIn K (.ref f)=true
section
variable {X:Cx}{Xj:List (Addr×Obj)}{σ:St}{H:Hp}{s:Shared}{a C dx:Addr}{fs:List (Str×V)}{f:Str}{v:V}{A:Around}{E:Value->Shared->Prop}
theorem JS {b:Bool}{Q:Value->Shared->Prop}(I:Inv X Xj σ H s) (e:H a=some (.ins C dx fs)) (c:Cls X.K C) (n:NoAttr X.K C f) (l:fs.lookup f=some v)
  (h:∀u s',Inv X Xj σ H s'->RelV v u->Q u s'):wpAny (model X.prog X.w) A (getAttr (.ref a) f b) Q E s:=by
 obtain⟨mA,O,r,_,_,_⟩:=pE I.hok e;obtain⟨u,hu,ru⟩:=RelO.some_of (v:=v) (o:=mA f) (by rw[←l];exact r f);exact JM I.kIn O (c.get f) c.hd n hu (JR ru) (h u _ (I.tok _) ru)
theorem DO {m:Str}{g:Addr}{pl:Sem Bool}{Q:Value×List Value->Shared->Prop}(I:Inv X Xj σ H s) (e:H a=some (.ins C dx fs)) (c:Cls X.K C) (k:Meth X.K C m g) (l:fs.lookup m=none)
  (h:Q (.ref g,[.ref a]) s):wpAny (model X.prog X.w) A (getMethod (.ref a) m pl) Q E s:=by
 obtain⟨mA,O,r,_,_,_⟩:=pE I.hok e;have hn:mA m=none:=RelO.none_of (by rw[←l];exact r m);exact JN I.kIn O (c.get m) k.at_ k.fn hn h
theorem JT {y:V}{u:Value}{Q:Unit->Shared->Prop}(I:Inv X Xj σ H s) (e:H a=some (.ins C dx fs)) (c:Cls X.K C) (n:NoAttr X.K C f) (hl:fs.length<1000) (ry:RelV y u)
  (h:∀s',Inv X Xj σ (upd H a (.ins C dx (bM f y fs))) s'->Q () s'):wpAny (model X.prog X.w) A (setAttr (.ref a) f u) Q E s:=by
 obtain⟨mA,O,r,wi,_,ho⟩:=pE I.hok e;have hz:(fs.map (·.1)).length<=sizeLine:=by rw[aB,sizeLine_eq];omega
 refine JO I.kIn O c.sa c.po n.taker c.hd wi hz λh' O' sb=>h _ ?_;have hd:∃o,h'.get? dx=some o:=let ⟨o,_,_,e',_⟩:=O'.ns;⟨o,e'⟩
 refine I.write (x:=a) (e:=dx) (by rw[e];exact True.intro) (.inr ho) (λb q hb z=>(sb.2 b hb).trans z) hd ?_;refine⟨by rw[aq O.ne];exact ho,?_,O.ne,O'.obj,_,O'.ns,λg=>?_,λg hg=>?_⟩
 ·have:=DN f y fs;omega
 ·show RelO ((bM f y fs).lookup g) (if g=f then some u else mA g);rw[DM];by_cases q:g=f
  ·rw[if_pos q,if_pos q];exact ry
  ·rw[if_neg q,if_neg q];exact r g
 ·by_cases q:g=f
  ·rw[q];exact (yT f y fs).1
  ·refine (yT f y fs).2 g (wi g λz=>hg ?_);show (if g=f then some u else mA g)=none;rw[if_neg q];exact z
theorem Inv.made (I:Inv X Xj σ H s):Inv X Xj σ (upd (upd H s.heap.objs.size (.own (s.heap.objs.size+1))) (s.heap.objs.size+1) (.ins C s.heap.objs.size []))
  { s with heap:=(s.heap.push PySem.W.emptyDict).push (PySem.W.instObj C s.heap.objs.size) }:=by
 have e1:(s.heap.push PySem.W.emptyDict).get? s.heap.objs.size=some PySem.W.emptyDict:=Heap.get?_push_size s.heap rfl;have e2:((s.heap.push PySem.W.emptyDict).push (PySem.W.instObj C s.heap.objs.size)).get? (s.heap.objs.size+1)=some (PySem.W.instObj C s.heap.objs.size):=by
  have:=Heap.get?_push_size (s.heap.push PySem.W.emptyDict) (o:=PySem.W.instObj C s.heap.objs.size) rfl
  rwa [Heap.size_push]at this
 have e3:(s.heap.push PySem.W.emptyDict).Ns s.heap.objs.size (λ_=>none):=⟨PySem.W.emptyDict,#[],_,e1,rfl,(λe he=>absurd he (by simp)),λ_=>rfl⟩
 have I1:=I.laid (a:=s.heap.objs.size) (o:=.own (s.heap.objs.size+1)) (h':=s.heap.push PySem.W.emptyDict) (t':=s.toks) (λb u q=>Heap.get?_push_of_some _ q) (aw _) ⟨_,e1⟩;refine I1.laid (a:=s.heap.objs.size+1) (o:=.ins C s.heap.objs.size []) (t':=s.toks) (λb u q=>Heap.get?_push_of_some _ q) (Nat.le_of_eq (Heap.size_push _ _)) ?_;have ne:s.heap.objs.size≠s.heap.objs.size+1:=aO (gU _);refine⟨by rw[aq ne,af],aY _,ne,e2,λ_=>none,(Heap.Ns1.of_empty e3).at λo q=>Heap.get?_push_of_some _ q,λ_=>True.intro,λy hy=>absurd rfl hy⟩
theorem JU {prog:Program}{w:World}{env:Env}{e:Expr}{f:Str}{pos:Pos}{s:Shared}{Q:Value->Shared->Prop}(hb:attributeBase e f env (eval e env)=eval e env)
  (h:wpAny (model prog w) A (eval e env) (λo s₁=>wpAny (model prog w) A (getAttr o f true) Q E s₁) E s):wpAny (model prog w) A (eval (.Attribute e f pos) env) Q E s:=
 Attribute_any_ h (by rw[arm_eval_Attribute,hb])
end
def yU (K:W.Frag)(ta:TE)(f:Str):TE:=λσ H Q=>ta σ H λx H1=>∃a C dx fs v,x=.ref a∧H1 a=some (.ins C dx fs)∧Cls K C∧NoAttr K C f∧fs.lookup f=some v∧Q v H1
def DP (K:W.Frag)(ta tv:TE)(f:Str):TS:=λD σ H=>tv σ H λy H1=>ta σ H1 λx H2=>∃a C dx fs,x=.ref a∧H2 a=some (.ins C dx fs)∧Cls K C∧NoAttr K C f∧fs.length<1000∧
 D.nx σ (upd H2 a (.ins C dx (bM f y fs)))
section
variable {X:Cx}{o e value:Expr}{f:Str}{pos pos' tpos:Pos}{ta tv:TE}
theorem bS (he:PE X e ta)(hb:attributeBase e f X.env (eval e X.env)=eval e X.env):PE X (.Attribute e f pos) (yU X.K ta f):=by
 intro Xj s σ H Q I h;refine JU hb (thn (he Xj s σ H _ I h) λu s1 ⟨x,H1,I1,rx,a,C,dx,fs,v,ex,ea,c,n,l,q⟩=>?_);subst ex;obtain rfl:u=Value.ref a:=rx;exact JS I1 ea c n l λu' s2 I2 ru=>⟨v,H1,I2,ru,q⟩
theorem fY (ha:PE X o ta)(hv:PE X value tv)(hs:swapsWith value (some (.Attribute o f pos')) pos.line X.env=pure false):PS X (.Assign [.Attribute o f pos'] value pos) (DP X.K ta tv f):=by
 intro Xj s σ H D I h;refine plainObj_wpAny_Assign_Attribute (thn (hv Xj s σ H _ I h) λu s1 ⟨y,H1,I1,ry,q⟩=>thn (ha Xj s1 σ H1 _ I1 q) λov s2 ⟨x,H2,I2,rx,a,C,dx,fs,ex,ea,c,n,l,q2⟩=>?_) hs;subst ex;obtain rfl:ov=Value.ref a:=rx;exact JT I2 ea c n l ry λs3 I3=>⟨σ,_,I3,q2⟩
theorem Qa {pl:Sem Bool}{m:Str}{apos:Pos}{args:List Expr}{Xj:List (Addr×Obj)}{s:Shared}{σ:St}{H:Hp}{Q:Value->Shared->Prop}{te:TE}(he:PE X e te) (I:Inv X Xj σ H s)
  (h:te σ H λx H1=>∃a C dx fs g,x=.ref a∧H1 a=some (.ins C dx fs)∧Cls X.K C∧Meth X.K C m g∧fs.lookup m=none∧
   ∀s1,Inv X Xj σ H1 s1->wpAny (model X.prog X.w) X.A (callWith pos (.ref g) [.ref a] (backTo pos (starEach args X.env)) (backToKw pos (keywordEach [] X.env))) Q X.xe s1)
  (ht:eval (.Call (.Attribute e m apos) args [] pos) X.env=(do
   let ov ←eval e X.env
   standAt apos.atName
   let (f,first) ←holding [ov] (getMethod ov m pl)
   callWith pos f first (backTo pos (starEach args X.env)) (backToKw pos (keywordEach [] X.env)))):
  wpAny (model X.prog X.w) X.A (eval (.Call (.Attribute e m apos) args [] pos) X.env) Q X.xe s:=by
 refine PySem.W.methodCall_KW (pl:=pl) (thn (he Xj s σ H _ I h) λu s1 ⟨x,H1,I1,rx,a,C,dx,fs,g,ex,ea,c,k,l,q⟩=>?_) ht;subst ex;obtain rfl:u=Value.ref a:=rx;exact DO I1 ea c k l (q s1 I1)
end
section
variable {X:Cx}{Xj:List (Addr×Obj)}{σ:St}{H:Hp}{s:Shared}{A:Around}{E:Value->Shared->Prop}{Q:Value->Shared->Prop}{c:Value}{b:Bool}
inductive TyOf (K:W.Frag) (H:Hp):V->Value->Prop where
 | non:TyOf K H .non (.type "NoneType")
 | bl (x:Bool):TyOf K H (.bl x) (.type "bool")
 | int (i:Int):TyOf K H (.int i) (.type "int")
 | str (x:Str):TyOf K H (.str x) (.type "str")
 | flt (x:UInt64):TyOf K H (.flt x) (.type "float")
 | lst {a:Addr}{xs:List V}(e:H a=some (.lst xs)):TyOf K H (.ref a) (.type "list")
 | frz {a:Addr}{o:Obj}{xs:List V}(e:H a=some (.frz o (.lst xs))):TyOf K H (.ref a) (.type "list")
 | tup {a:Addr}{xs:List V}(e:H a=some (.tup xs)):TyOf K H (.ref a) (.type "tuple")
 | dK {a:Addr}{kvs:List (Key×V)}(e:H a=some (.dK kvs)):TyOf K H (.ref a) (.type "dict")
 | dT {a:Addr}{kvs:List (List Key×V)}(e:H a=some (.dT kvs)):TyOf K H (.ref a) (.type "dict")
 | ins {a C dx:Addr}{fs:List (Str×V)}(e:H a=some (.ins C dx fs)) (cl:Cls K C) (ha:PySem.W.findIn K (.ref C) "__class__" = some (some (.builtin "object.__class__")))
   (hn:PySem.W.specialIn K (.builtin "object.__class__") "__get__" = some (some (.builtin "getset_descriptor.__get__"))) (htk:PySem.W.takesIn K (.builtin "object.__class__")=some true)
   (hm:PySem.W.mroIn K C (.type "object")=some true):TyOf K H (.ref a) (.ref C)
theorem DQ {x:V}{u t:Value}(I:Inv X Xj σ H s)(rx:RelV x u)(ty:TyOf X.K H x t)(e:PySem.W.kitOne X.K t c=some b)(h:∀tk,Q (.bool b) { s with toks:=tk }):
  wpAny (model X.prog X.w) A (call (.builtin "isinstance") [u,c]) Q E s:=by
 cases ty with
 | non=>cases (show u=Value.none from rx);exact PySem.W.kia_one PySem.W.kitx_none I.kIn True.intro e (λz=>nomatch z) h
 | bl y=>cases (show u=Value.bool y from rx);exact PySem.W.kia_one PySem.W.kitx_bool I.kIn True.intro e (λz=>nomatch z) h
 | int i=>obtain⟨t,q⟩:=(show ∃t,u=Value.int i t from rx);cases q;exact PySem.W.kia_one PySem.W.kitx_int I.kIn True.intro e (λz=>nomatch z) h
 | str y=>obtain⟨t,q⟩:=(show ∃t,u=Value.str y t from rx);cases q;exact PySem.W.kia_one PySem.W.kitx_str I.kIn True.intro e (λz=>nomatch z) h
 | flt y=>obtain⟨t,q⟩:=(show ∃t,u=Value.float y t from rx);cases q;exact PySem.W.kia_one PySem.W.kitx_float I.kIn True.intro e (λz=>nomatch z) h
 | @lst a xs ea=>
  cases (show u=Value.ref a from rx)
  obtain⟨_,_,n,_,h1⟩:=(show ObjOk X.prog X.w H s.heap a (.lst xs) from I.hok a _ ea)
  exact PySem.W.kia_one PySem.W.kitx_list I.kIn ⟨_,h1,rfl⟩ e (λz=>nomatch z) h
 | @frz a ob xs ea=>
  cases (show u=Value.ref a from rx)
  obtain⟨_,_,_,n,_,h1⟩:=(show ObjOk X.prog X.w H s.heap a (.frz ob (.lst xs)) from I.hok a _ ea)
  exact PySem.W.kia_one PySem.W.kitx_list I.kIn ⟨_,h1,rfl⟩ e (λz=>nomatch z) h
 | @tup a xs ea=>
  cases (show u=Value.ref a from rx)
  obtain⟨_,_,_,p⟩:=(show ObjOk X.prog X.w H s.heap a (.tup xs) from I.hok a _ ea)
  obtain⟨o,h1,h2,_⟩:=p;exact PySem.W.kia_one PySem.W.kitx_tuple I.kIn ⟨o,h1,h2⟩ e (λz=>nomatch z) h
 | @dK a kvs ea=>
  cases (show u=Value.ref a from rx)
  obtain⟨_,_,vs,_,p⟩:=(show ObjOk X.prog X.w H s.heap a (.dK kvs) from I.hok a _ ea)
  obtain⟨o,es,ep,h1,h2,_⟩:=p;exact PySem.W.kia_one PySem.W.kitx_dict I.kIn ⟨o,h1,h2.1⟩ e (λz=>nomatch z) h
 | @dT a kvs ea=>
  cases (show u=Value.ref a from rx)
  obtain⟨_,_,xs,_,o,es,ep,h1,h2,_⟩:=(show ObjOk X.prog X.w H s.heap a (.dT kvs) from I.hok a _ ea)
  exact PySem.W.kia_one PySem.W.kitx_dict I.kIn ⟨o,h1,h2.1⟩ e (λz=>nomatch z) h
 | @ins a C dx fs ea cl ha hn htk hm=>
  cases (show u=Value.ref a from rx)
  obtain⟨mA,O,_⟩:=pE I.hok ea;obtain⟨od,J,_⟩:=O.look;exact PySem.W.kia_one (PySem.W.kitx_own (cl.get _) cl.hd ha hn htk hm) I.kIn J e (λz=>nomatch z) h
end
structure Room (k:Nat)(A:Around):Prop where
 hd:A.handled=none
 dp:A.depth+3*k+5<recursionLimit
 un:A.units+16*k+200<cLine
theorem Room.mono {j k:Nat}{A:Around}(r:Room k A)(h:j<=k):Room j A:=⟨r.hd,by have:=r.dp;omega,by have:=r.un;omega⟩
theorem Room.deeper {k:Nat}{A:Around}(r:Room (k+1) A)(env:Env):Room k (A.deeper env):=
 ⟨r.hd,by have:=r.dp;show A.depth+1+3*k+5<_;omega,by have:=r.un;show A.units+3+16*k+200<_;omega⟩
theorem JV {A:Around}{C:Addr}{us:List Value}{kw:List (Str×Value)}:(A.under (.builtin "type.__call__" ⟨.ref C :: us,kw⟩)).depth=A.depth+1:=by
 first|rfl|simp[Around.under,Code.weight,Code.isCreation,Code.isGuard,Code.isCaller,Code.frames,Code.isFrame,guardIds]
theorem JW {A:Around}{C:Addr}{us:List Value}{kw:List (Str×Value)}:(A.under (.builtin "type.__call__" ⟨.ref C :: us,kw⟩)).units=A.units+1:=by
 first|rfl|simp[Around.under,Code.cUnits,Code.frames,Code.isFrame]
theorem Room.make {k:Nat}{A:Around}(r:Room (k+1) A)(C:Addr)(us:List Value)(kw:List (Str×Value)):Room k (A.under (.builtin "type.__call__" ⟨.ref C :: us,kw⟩)):=
 ⟨r.hd,by have:=r.dp;rw[JV];omega,by have:=r.un;rw[JW];omega⟩
theorem Room.depth {k:Nat}{A:Around}(r:Room k A):A.depth<recursionLimit:=by have:=r.dp;omega
theorem Room.units {k:Nat}{A:Around}(r:Room k A):A.units+64<cLine:=by have:=r.un;omega
def DR:TA:=λ_ H Q=>Q [] H
def DS (ta:TE)(tr:TA):TA:=λσ H Q=>ta σ H λx H1=>tr σ H1 λxs H2=>Q (x :: xs) H2
section
variable {X:Cx}{e:Expr}{es:List Expr}{te:TE}{t:TA}{pos:Pos}
theorem ae:PA X [] DR:=λ_ _ _ _ H Q I h=>Calls.spliced_nil ⟨[],H,I,.nil,h⟩
theorem aa (ha:PE X e te)(hr:PA X es t)(hs:starEach (e :: es) X.env=(false,eval e X.env) :: starEach es X.env:=by rfl):PA X (e :: es) (DS te t):=by
 intro pos Xj s σ H Q I h;rw[hs];show wpAny _ _ (spliced ((false,eval e X.env) :: backTo pos (starEach es X.env))) _ _ s;refine Calls.spliced_cons (thn (ha Xj s σ H _ I h) λu s1 ⟨x,H1,I1,r1,q1⟩=>?_);exact thn (hr pos Xj s1 σ H1 _ I1 q1) λus s2 ⟨xs,H2,I2,r2,q2⟩=>⟨x :: xs,H2,I2,.cons r1 r2,q2⟩
def DT (t:TA):TE:=λσ H Q=>t σ H λxs H1=>xs.length<=sizeLine∧∀p,H1 p=none->Q (.ref p) (upd H1 p (.tup xs))
def DU (t:TA):TE:=λσ H Q=>t σ H λxs H1=>xs.length<=sizeLine∧∀p,H1 p=none->Q (.ref p) (upd H1 p (.lst xs))
theorem aK {x1}(h:PA X es t):PE X (.Tuple es x1 pos) (DT t):=by
 intro Xj s σ H Q I hq;refine wpAny_Tuple_spliced (thn (h pos Xj s σ H _ I hq) λus s1 ⟨xs,H1,I1,r,z,q⟩=>⟨by rw[←r.length];exact z,?_⟩);have hf:H1 s1.heap.objs.size=none:=I1.hok.fresh (aw _);refine⟨.ref s1.heap.objs.size,upd H1 s1.heap.objs.size (.tup xs),I1.laid (t':=s1.toks) (λb u e=>Heap.get?_push_of_some _ e) (aw _) ?_,rfl,q _ hf⟩;exact⟨z,us,r,⟨_,Heap.get?_push_size _ rfl,rfl,_,rfl⟩⟩
theorem bT (h:PA X es t):PE X (.List es pos) (DU t):=by
 intro Xj s σ H Q I hq;refine wpAny_List_spliced (thn (h pos Xj s σ H _ I hq) λus s1 ⟨xs,H1,I1,r,z,q⟩=>⟨by rw[←r.length];exact z,?_⟩);have hf:H1 s1.heap.objs.size=none:=I1.hok.fresh (aw _);refine⟨.ref s1.heap.objs.size,upd H1 s1.heap.objs.size (.lst xs),I1.laid (t':=s1.toks) (λb u e=>Heap.get?_push_of_some _ e) (aw _) ?_,rfl,q _ hf⟩;exact⟨z,us,0,r,Heap.get?_push_size _ rfl⟩
end
abbrev Sp:=List V->Hp->VK->XK->Prop
abbrev CXT:=List Env->Hp->Shared->XK->Value->Shared->Prop
structure Env0 (P:Program)(w:World)(K:W.Frag)(mg:Str->Option Value)(base:Heap)(A:Around)(outer:List Env)(s:Shared)(H:Hp):Prop where
 frames:A.frames=some outer
 mod:Mod K mg base
 bs:∀b o,base.get? b=some o->s.heap.get? b=some o∧H b=none
 bsz:base.objs.size<=s.heap.objs.size
 funs:s.heap.FunFrames base outer
 frf:∀b∈frs outer,H b=none
 hok:HOk P w H s.heap
 bare:AllBare s.gens
def CE (outer:List Env)(P:Program)(w:World)(H:Hp)(s:Shared)(Q:VK)(u:Value)(s':Shared):Prop:=
 ∃v H',s'.os=s.os∧AllBare s'.gens∧Un (frs outer) [] H H' s.heap s'.heap∧HOk P w H' s'.heap∧RelV v u∧Q v H'
def CR (CX:CXT)(outer:List Env)(P:Program)(w:World)(H:Hp)(s:Shared)(Q:VK)(E:XK)(r:Result)(s':Shared):Prop:=
 match r with
 | .ok (.ret u)=>CE outer P w H s Q u s'
 | .ok _=>False
 | .error e=>CX outer H s E e s'
structure FnOk (P:Program)(w:World)(K:W.Frag)(mg:Str->Option Value)(base:Heap)(CX:CXT)(k:Nat)(f:Addr)(fd:FuncData)(ps:List Str)(sp:Sp):Prop where
 len:∀vs H Q E,sp vs H Q E->vs.length=ps.length
 run:∀(A:Around) (outer:List Env) (s:Shared) (H:Hp) (args:Args) (us:List Value) (vs:List V) (Q:VK) (E:XK),Room k A->Env0 P w K mg base A outer s H->BindsTo s fd args (ps.zip us)->Vals vs us->sp vs H Q E->
  codeAny (model P w) A (.call (.ref f) args) (CR CX outer P w H s Q E) s
theorem FnOk.mono {P:Program}{w:World}{K:W.Frag}{mg:Str->Option Value}{base:Heap}{CX:CXT}{j k:Nat}{f:Addr}{fd:FuncData}{ps:List Str}{sp:Sp}(F:FnOk P w K mg base CX j f fd ps sp)(h:j<=k):
  FnOk P w K mg base CX k f fd ps sp:=⟨F.len,λA outer s H args us vs Q E hr=>F.run A outer s H args us vs Q E (hr.mono h)⟩
theorem Env0.make {P:Program}{w:World}{K:W.Frag}{mg:Str->Option Value}{base:Heap}{A:Around}{outer:List Env}{s:Shared}{H:Hp}(e:Env0 P w K mg base A outer s H)(C:Addr)(us:List Value)(kw:List (Str×Value)):
  Env0 P w K mg base (A.under (.builtin "type.__call__" ⟨.ref C :: us,kw⟩)) outer s H:=⟨by first|exact e.frames|(simpa [Around.under,Code.envs,Code.isFrame,pushEnvs] using e.frames),e.mod,e.bs,e.bsz,e.funs,e.frf,e.hok,e.bare⟩
section
variable {X:Cx}{Xj:List (Addr×Obj)}{σ:St}{H:Hp}{s s':Shared}
theorem Inv.env0 (I:Inv X Xj σ H s):Env0 X.prog X.w X.K X.mg X.base X.A X.stack s H:=
 ⟨I.ok.frames,I.ok.mod,I.bs,aP I.ok.bsz I.sz,I.stack,I.stkFree,I.hok,I.bare⟩
theorem Inv.after {Q:VK}{u:Value}(I:Inv X Xj σ H s)(h:CE X.stack X.prog X.w H s Q u s'):EP X Xj σ Q u s':=by
 obtain⟨v,H',os,bare,un,hok,r,q⟩:=h;obtain⟨hh,g,d,t,os'⟩:=s';obtain rfl:os'=s.os:=os;exact⟨v,H',I.call (h':=hh) (g':=g) (d':=d) (t':=t) (ch:=[]) un hok bare (λb z=>absurd z (by simp)),r,q⟩
end
def DW (sp:Sp)(dvs:List V)(E:XK)(t:TA):TE:=λσ H Q=>t σ H λvs H1=>sp (vs++dvs) H1 Q E
def DX (C:Addr)(m:Str)(sp:Sp)(dvs:List V)(E:XK)(ta:TE)(t:TA):TE:=λσ H Q=>ta σ H λx H1=>∃a dx fs,x=.ref a∧H1 a=some (.ins C dx fs)∧fs.lookup m=none∧
 t σ H1 λvs H2=>sp (x :: (vs++dvs)) H2 Q E
def DY (C:Addr)(sp:Sp)(dvs:List V)(E:XK)(t:TA):TE:=λσ H Q=>t σ H λvs H1=>∀x dx,H1 x=none->H1 dx=none->dx≠x->
 sp (.ref x :: (vs++dvs)) (upd (upd H1 dx (.own x)) x (.ins C dx [])) (λv H2=>v=.non∧Q (.ref x) H2) E
def Binds (K:W.Frag)(fd:FuncData)(ps:List Str)(ds:List Value):Prop:=
 ∀(s:Shared) (us:List Value),K.In s.heap->(us++ds).length=ps.length->BindsTo s fd ⟨us,[]⟩ (ps.zip (us++ds))
theorem Binds.all {K:W.Frag}{fd:FuncData}{ps:List Str}(h:∀us:List Value,us.length=ps.length->bindArgs fd ⟨us,[]⟩=pure (ps.zip us)):Binds K fd ps []:=λs us _ hl=>by
 rw[sW]at hl ⊢;exact .of_eq (h us hl)
def fq (CX:CXT)(X:Cx)(E:XK):Prop:=∀(Xj:List (Addr×Obj)) (σ:St) (H:Hp) (s:Shared) (e:Value) (s':Shared),Inv X Xj σ H s->CX X.stack H s E e s'->X.xe e s'
section
variable {X:Cx}{CX:CXT}{k:Nat}{f C:Addr}{fd:FuncData}{ps:List Str}{sp:Sp}{dvs:List V}{ds:List Value}{E:XK}{x m:Str}{p pos apos:Pos}{e o:Expr}{es:List Expr}{ta:TE}{t:TA}
theorem DZ {Xj:List (Addr×Obj)}{σ:St}{H:Hp}{s:Shared}{Q:VK}{us:List Value}{vs:List V}(F:FnOk X.prog X.w X.K X.mg X.base CX k f fd ps sp) (hr:Room k X.A) (hb:Binds X.K fd ps ds) (hd:Vals dvs ds) (hx:fq CX X E)
  (I:Inv X Xj σ H s) (r:Vals vs us) (h:sp (vs++dvs) H Q E):wpAny (model X.prog X.w) X.A (call (.ref f) us) (EP X Xj σ Q) X.xe s:=by
 have r2:Vals (vs++dvs) (us++ds):=r.append hd;have hl:(us++ds).length=ps.length:=by rw[←r2.length];exact F.len _ _ _ _ h
 refine wpAny_call (codeAny_mono (F.run X.A X.stack s H ⟨us,[]⟩ (us++ds) (vs++dvs) Q E hr I.env0 (hb s us I.kIn hl) r2 h) λr s' hq=>?_)
 cases r with
 | error e=>exact hx Xj σ H s e s' I hq
 | ok fl=>
  cases fl with
  | ret u=>exact I.after hq
  | next=>exact False.elim hq
  | brk=>exact False.elim hq
  | cont=>exact False.elim hq
theorem au (F:FnOk X.prog X.w X.K X.mg X.base CX k f fd ps sp) (hr:Room k X.A) (hg:Gl X x) (hm:X.mg x=some (.ref f)) (hk:PySem.W.keepIn X.K (.ref f)=true) (hb:Binds X.K fd ps ds) (hd:Vals dvs ds) (hx:fq CX X E)
  (ha:PA X (e :: es) t) (hdb:(x == ("__debug__" : Str))=false:=by decide) (he:starEach (e :: es) X.env=(false,eval e X.env) :: starEach es X.env:=by rfl) (hpl:(backTo pos (starEach es X.env)).any (·.1)=false:=by rfl):
  PE X (.Call (.Name x p) (e :: es) [] pos) (DW sp dvs E t):=by
 intro Xj s σ H Q I h;refine wpAny_Call_Name_kw (i8 I hg hm ?_ hdb);refine PySem.W.callWith_K (h₀:=X.base) I.ok.mod.kin hk (thn (ha pos Xj s σ H _ I h) λus s1 ⟨vs,H1,I1,r,q⟩=>⟨I1.kIn,?_⟩) he hpl;exact DZ F hr hb hd hx I1 r q
theorem aL {pl:Sem Bool}(he:PE X o ta) (c:Cls X.K C) (hm:Meth X.K C m f) (F:FnOk X.prog X.w X.K X.mg X.base CX k f fd ps sp) (hr:Room k X.A) (hb:Binds X.K fd ps ds) (hd:Vals dvs ds) (hx:fq CX X E) (ha:PA X (e :: es) t)
  (hst:starEach (e :: es) X.env=(false,eval e X.env) :: starEach es X.env:=by rfl) (hpl:(backTo pos (starEach es X.env)).any (·.1)=false:=by rfl)
  (ht:eval (.Call (.Attribute o m apos) (e :: es) [] pos) X.env=(do
   let ov ←eval o X.env
   standAt apos.atName
   let (f,first) ←holding [ov] (getMethod ov m pl)
   callWith pos f first (backTo pos (starEach (e :: es) X.env)) (backToKw pos (keywordEach [] X.env))):=by rfl):
  PE X (.Call (.Attribute o m apos) (e :: es) [] pos) (DX C m sp dvs E ta t):=by
 intro Xj s σ H Q I h;refine PySem.W.methodCall_KW (pl:=pl) (thn (he Xj s σ H _ I h) λu s1 ⟨x,H1,I1,rx,a,dx,fs,ex,ea,l,q⟩=>?_) ht;subst ex;obtain rfl:u=Value.ref a:=rx;refine DO I1 ea c hm l ?_;refine PySem.W.callWith_K (first:=[.ref a]) (h₀:=X.base) I.ok.mod.kin hm.kp (thn (ha pos Xj s1 σ H1 _ I1 q) λus s2 ⟨vs,H2,I2,r,q2⟩=>⟨I2.kIn,?_⟩) hst hpl;exact DZ (us:=.ref a :: us) (vs:=.ref a :: vs) F hr hb hd hx I2 (.cons rfl r) q2
structure Mk (K:W.Frag)(C f:Addr):Prop where
 makes:PySem.W.makesIn K C=true
 init:PySem.W.findIn K (.ref C) "__init__" = some (some (.ref f))
 fn:PySem.W.isFn K (.ref f)=true
 kp:PySem.W.keepIn K (.ref C)=true
theorem JX {Xj:List (Addr×Obj)}{σ:St}{H:Hp}{s:Shared}{Q:VK}{us:List Value}{vs:List V}(M:Mk X.K C f) (F:FnOk X.prog X.w X.K X.mg X.base CX k f fd ps sp) (hr:Room (k+1) X.A) (hb:Binds X.K fd ps ds) (hd:Vals dvs ds)
  (hx:fq CX X E) (I:Inv X Xj σ H s) (r:Vals vs us)
  (h:∀x dx,H x=none->H dx=none->dx≠x->sp (.ref x :: (vs++dvs)) (upd (upd H dx (.own x)) x (.ins C dx [])) (λv H2=>v=.non∧Q (.ref x) H2) E):
  wpAny (model X.prog X.w) X.A (call (.ref C) us) (EP X Xj σ Q) X.xe s:=by
 have hq:=h (s.heap.objs.size+1) s.heap.objs.size (I.hok.fresh (Ai _)) (I.hok.fresh (aw _)) (aO (gU _));have I2:=Inv.made (C:=C) I;have r2:Vals (V.ref (s.heap.objs.size+1) :: (vs++dvs)) (Value.ref (s.heap.objs.size+1) :: (us++ds)):=.cons rfl (r.append hd);have hl:(Value.ref (s.heap.objs.size+1) :: us++ds).length=ps.length:=by
  have e:=r2.length;rw[F.len _ _ _ _ hq]at e;exact e.symm
 refine wpAny_call (JP (f:=f) I.kIn M.makes M.init (beq_iff_eq.mp M.fn) (codeAny_mono (F.run _ X.stack _ _ ⟨Value.ref (s.heap.objs.size+1) :: us,[]⟩ (Value.ref (s.heap.objs.size+1) :: (us++ds)) _ _ E (hr.make C us [])
  (I2.env0.make C us []) (hb _ (Value.ref (s.heap.objs.size+1) :: us) I2.kIn hl) r2 hq) λr s' hq'=>?_))
 cases r with
 | error e=>exact hx Xj σ _ _ e s' I2 hq'
 | ok fl=>
  cases fl with
  | ret u=>
   obtain⟨v,H',I3,rv,ev,q3⟩:=I2.after hq';subst ev;exact⟨rv,⟨V.ref (s.heap.objs.size+1),H',I3,rfl,q3⟩⟩
  | next=>exact False.elim hq'
  | brk=>exact False.elim hq'
  | cont=>exact False.elim hq'
theorem eg (M:Mk X.K C f) (F:FnOk X.prog X.w X.K X.mg X.base CX k f fd ps sp) (hr:Room (k+1) X.A) (hg:Gl X x) (hm:X.mg x=some (.ref C)) (hb:Binds X.K fd ps ds) (hd:Vals dvs ds) (hx:fq CX X E)
  (ha:PA X (e :: es) t) (hdb:(x == ("__debug__" : Str))=false:=by decide) (he:starEach (e :: es) X.env=(false,eval e X.env) :: starEach es X.env:=by rfl) (hpl:(backTo pos (starEach es X.env)).any (·.1)=false:=by rfl):
  PE X (.Call (.Name x p) (e :: es) [] pos) (DY C sp dvs E t):=by
 intro Xj s σ H Q I h;refine wpAny_Call_Name_kw (i8 I hg hm ?_ hdb);refine PySem.W.callWith_K (h₀:=X.base) I.ok.mod.kin M.kp (thn (ha pos Xj s σ H _ I h) λus s1 ⟨vs,H1,I1,r,q⟩=>⟨I1.kIn,?_⟩) he hpl;exact JX M F hr hb hd hx I1 r q
end
structure FnScope (N P:List Str)(sc:Scope):Prop where
 kind:sc.kind=.function
 co:sc.isCoroutine=false
 gen:sc.isGenerator=false
 nd:N.Nodup
 pre:N.take P.length=P
 par:∀x∈P,sc.names.lookup x=some .local∨sc.names.lookup x=some .cell
 nofree:∀y∈sc.names,y.2≠.free
theorem D5 {kindOf:Str->Option NameKind}{x:Str}:∀{binds:List (Str×Value)}{m:Str->Option Value},(∀v,(x,v)∉binds)->bindL kindOf binds m x=m x
 | [],_,_=>rfl
 |(n,v) :: r,m,h=>by
  unfold bindL;rw[D5 λw hw=>h w (b7 _ hw)]
  split
  ·have:x≠n:=by rintro rfl;exact h v cN
   simp[this]
  ·rfl
theorem D6 {kindOf:Str->Option NameKind}{x:Str}:∀{binds:List (Str×Value)}{m:Str->Option Value},(∀v,(x,v)∉binds)->bindC kindOf binds m x=m x
 | [],_,_=>rfl
 |(n,v) :: r,m,h=>by
  unfold bindC;rw[D6 λw hw=>h w (b7 _ hw)]
  split
  ·rfl
  ·have:x≠n:=by rintro rfl;exact h v cN
   simp[this]
theorem D7 {kindOf:Str->Option NameKind}{x:Str}{v:Value}:∀{P:List Str}{vs:List Value}{i:Nat}{m:Str->Option Value},P.Nodup->P[i]?=some x->vs[i]?=some v->kindOf x=some .local->
  bindL kindOf (P.zip vs) m x=some v
 | [],_,_,_,_,h,_,_=>by simp at h
 | _ :: _,[],_,_,_,_,h,_=>by simp at h
 | p :: P,w :: vs,0,m,nd,h1,h2,hk=>by
  simp at h1 h2;subst h1;subst h2;show bindL kindOf ((p,w) :: P.zip vs) m p=_;unfold bindL;rw[D5 λv hv=>(eV.mp nd).1 (Il hv).1,if_pos hk];simp
 | p :: P,w :: vs,i+1,m,nd,h1,h2,hk=>by
  show bindL kindOf ((p,w) :: P.zip vs) m x=_;unfold bindL;exact D7 (i:=i) (eV.mp nd).2 (by simpa using h1) (by simpa using h2) hk
theorem D8 {kindOf:Str->Option NameKind}{x:Str}{v:Value}:∀{P:List Str}{vs:List Value}{i:Nat}{m:Str->Option Value},P.Nodup->P[i]?=some x->vs[i]?=some v->kindOf x≠some .local->
  bindC kindOf (P.zip vs) m x=some v
 | [],_,_,_,_,h,_,_=>by simp at h
 | _ :: _,[],_,_,_,_,h,_=>by simp at h
 | p :: P,w :: vs,0,m,nd,h1,h2,hk=>by
  simp at h1 h2;subst h1;subst h2;show bindC kindOf ((p,w) :: P.zip vs) m p=_;unfold bindC;rw[D6 λv hv=>(eV.mp nd).1 (Il hv).1,if_neg hk];simp
 | p :: P,w :: vs,i+1,m,nd,h1,h2,hk=>by
  show bindC kindOf ((p,w) :: P.zip vs) m x=_;unfold bindC;exact D8 (i:=i) (eV.mp nd).2 (by simpa using h1) (by simpa using h2) hk
def dM (N:List Str)(vs:List V):St:=vs.map some++bK (N.length-vs.length) none
noncomputable def cz (CX:CXT) (P:Program) (w:World) (K:W.Frag) (mg:Str->Option Value) (base:Heap) (N:List Str) (qual:Str) (scope:Scope) (f:Addr) (cd:Value) (A:Around) (outer:List Env) (s:Shared) (H:Hp) (E:XK):Cx where
 prog:=P
 w:=w
 K:=K
 mg:=mg
 base:=base
 A:=A.deeper (envOfC qual scope s.heap.objs.size f cd)
 N:=N
 s₀:=s
 H₀:=H
 env:=envOfC qual scope s.heap.objs.size f cd
 outer:=outer
 stack:=envOfC qual scope s.heap.objs.size f cd :: outer
 ex:=[]
 calm:=true
 fn:=λ_=>true
 pn:=[]
 xe:=λe s'=>wpAny (model P w) (A.deeper (envOfC qual scope s.heap.objs.size f cd)) (leaving (envOfC qual scope s.heap.objs.size f cd) e) (λ_ s''=>CX outer H s E e s'') (λe' s''=>CX outer H s E e' s'') s'
theorem D9 {sc:Scope}{n:Nat}{x:Str}(h:sc.names.lookup x=some .cell):∃c,(cellsFrom n sc.names []).lookup x=some c:=by
 have q:=PySem.W.cellsFrom_some sc.names n [] (.inl h);exact Im.mp q
theorem JY {CX:CXT}{P:Program}{w:World}{K:W.Frag}{mg:Str->Option Value}{base:Heap}{N ps:List Str}{qual:Str}{scope:Scope}{f:Addr}{cd:Value}{A:Around}{outer:List Env}{s s1:Shared}{H:Hp}{E:XK}{us:List Value}{vs:List V}
  (S:FnScope N ps scope) (hd:A.handled=none) (e0:Env0 P w K mg base A outer s H) (hl:vs.length=ps.length) (r:Vals vs us)
  (x:InCallC s s.heap.objs.size (bindL (envOfC qual scope s.heap.objs.size f cd).kindOf (ps.zip us) λ_=>none) (cellsFrom (s.heap.objs.size+1) scope.names []) (bindC (envOfC qual scope s.heap.objs.size f cd).kindOf (ps.zip us) λ_=>none) s1):
  Inv (cz CX P w K mg base N qual scope f cd A outer s H E) [] (dM N vs) H s1:=by
 have hpl:ps.length<=N.length:=by have:=congrArg Io S.pre;rw[cB]at this;omega
 obtain⟨h1,tk,rfl,hk⟩:=x.done;have noA:∀b:Addr,b∉(cz CX P w K mg base N qual scope f cd A outer s H E).ex:=λb z=>absurd (show b∈([]:List Addr) from z) (by simp);refine⟨⟨e0.mod,S.kind,rfl,rfl,aw _,λy z c h1 h2=>?_,λy hy=>?_,λy c _ h=>?_,λ_=>hd,Around.frames_deeper e0.frames,.inr ⟨rfl,rfl⟩,λb z=>absurd z (noA b),e0.bs,e0.bsz,λb _ _=>noA b,λb z=>absurd z (noA b),e0.funs,e0.frf⟩,
  rfl,e0.bare,Un.kept hk,⟨_,x.toInCall.ns,λi y v h1 h2 h3=>?_⟩,λy c h=>⟨_,x.cell y c h⟩,e0.hok.fresh (aw _),λy c h=>?_,λp hp=>absurd (show p∈([]:List (Addr×Obj)) from hp) (by simp),e0.hok.kept hk,?_⟩
 ·exact name_of_addr x.apart (PySem.mem_of_lookup h1) (PySem.mem_of_lookup h2)
 ·have hy:scope.names.lookup y=some .cell∨scope.names.lookup y=some .free:=hy;rcases hy with hy|hy
  ·exact D9 hy
  ·exact absurd rfl (S.nofree _ (PySem.mem_of_lookup hy))
 ·exact cJ (x.above y c (PySem.mem_of_lookup h))
 ·have hi:i<vs.length:=by
   unfold dM at h2;by_cases hi:i<vs.length
   ·exact hi
   ·rw[cO (by simpa using hi)]at h2;rw[List.getElem?_replicate]at h2
    split at h2 <;> cases h2
  have ha:vs[i]?=some v:=by
   unfold dM at h2;rw[cK (by simpa using hi),aQ]at h2
   cases e:vs[i]? with
   | none=>rw[e]at h2;cases h2
   | some a=>rw[e]at h2;cases h2;rfl
  obtain⟨u,hu,rv⟩:=r.get ha;have hp:ps[i]?=some y:=by
   rw[←S.pre,List.getElem?_take_of_lt (by omega)];exact h1
  have ndP:ps.Nodup:=by rw[←S.pre];exact S.nd.sublist (List.take_sublist _ _)
  refine⟨u,rv,?_⟩;rcases S.par y (ci hp) with k|k
  ·exact .inl ⟨k,D7 ndP hp hu k⟩
  ·obtain⟨c,e⟩:=D9 (n:=s.heap.objs.size+1) k;refine .inr ⟨.inl k,c,e,?_⟩;have q:=x.cell y c e;rw[D8 ndP hp hu (by show scope.names.lookup y≠_;rw[k];decide)]at q;exact q
 ·exact e0.hok.fresh (cJ (x.above y c (PySem.mem_of_lookup h)))
 ·unfold dM;show _=N.length;rw[b8,aB,Aj];omega
theorem D_ {CX:CXT}{P:Program}{w:World}{K:W.Frag}{mg:Str->Option Value}{base:Heap}{k:Nat}{f:Addr}{name qual:Str}{params:Arguments}{body:List Stmt}{scope:Scope}{dV kV doc pm cdv ct oc:Value}{an od:Option Addr}
  {osl:Array (Option Value)}{N ps:List Str}{sp:Sp}(lk:K.lookup f=some ⟨oc,od,.func (PySem.W.fnOf name qual params body scope dV kV doc pm an cdv ct),osl⟩) (hcd:PySem.W.codeIn K cdv qual=true) (S:FnScope N ps scope)
  (len:∀vs H Q E,sp vs H Q E->vs.length=ps.length)
  (hbody:∀(A:Around) (outer:List Env) (s:Shared) (H:Hp) (vs:List V) (Q:VK) (E:XK),Room k (A.deeper (envOfC qual scope s.heap.objs.size f cdv))->sp vs H Q E->
   ∃t,PSs (cz CX P w K mg base N qual scope f cdv A outer s H E) body t∧t { nx:=λ_ H'=>Q .non H',rt:=Q } (dM N vs) H):
  FnOk P w K mg base CX (k+1) f (PySem.W.fnOf name qual params body scope dV kV doc pm an cdv ct) ps sp:=by
 refine⟨len,λA outer s H args us vs Q E hr e0 hb r hsp=>?_⟩;have hl:=len _ _ _ _ hsp;have KX:K.In s.heap:=e0.mod.kin.keeps λb o e=>(e0.bs b o e).1;have lim:s.heap.NoLimit:=e0.mod.nolimit.keeps λb o e=>(e0.bs b o e).1;have hkind:∀y∈ps.zip us,scope.names.lookup y.1=some .local∨(scope.names.lookup y.1=some .cell∧((cellsFrom (s.heap.objs.size+1) scope.names []).lookup y.1).isSome=true):=λ⟨n,v⟩ hy=>by
  rcases S.par n (Il hy).1 with q|q
  ·exact .inl q
  ·exact .inr ⟨q,PySem.W.cellsFrom_some _ _ _ (.inl q)⟩
 refine codeAny_call_function hr.depth (KX _ _ lk) rfl S.co S.gen rfl (PySem.W.codeRec_of KX hcd) (hb _ _ _ _ ?_);refine wpAny_newFunctionEnv_cells S.kind hkind λenv he s1 x=>?_;subst he;refine⟨lim.keeps x.toInCall.keep,codeAny_func ?_⟩;obtain⟨t,ht,hq⟩:=hbody A outer s H vs Q E (hr.deeper _) hsp;have I:Inv (cz CX P w K mg base N qual scope f cdv A outer s H E) [] (dM N vs) H s1:=JY S hr.hd e0 hl r x;refine wpAny_mono (ht [] s1 (dM N vs) H _ I hq) (λfl s' hs=>?_) λe s' hs=>hs;have fin:∀{σ':St}{H':Hp}{v:V}{u:Value},Inv (cz CX P w K mg base N qual scope f cdv A outer s H E) [] σ' H' s'->RelV v u->Q v H'->CE outer P w H s Q u s':=
  λ{σ' H' v u} J rv q=>⟨v,H',J.os,J.bare,J.base,J.hok,rv,q⟩
 cases fl with
 | ret u=>
  obtain⟨v,σ',H',J,rv,q⟩:=hs;exact fin J rv q
 | next=>
  obtain⟨σ',H',J,q⟩:=hs;exact fin (v:=V.non) (u:=Value.none) J rfl q
 | brk=>
  obtain⟨_,_,_,q⟩:=hs;exact False.elim q
 | cont=>
  obtain⟨_,_,_,q⟩:=hs;exact False.elim q
section
variable {X:Cx}{x:Str}{p pos:Pos}{e:Expr}{es:List Expr}{t:TA}{id T:String}{r:List V->Hp->VK->Prop}
def tCB (r:List V->Hp->VK->Prop)(t:TA):TE:=λσ H Q=>t σ H λvs H1=>r vs H1 Q
theorem a0 (hc:cL X (.builtin id) r) (hg:Gl X x) (hm:X.mg x=none) (hv:bootBuiltins x=some (.builtin id)) (ha:PA X (e :: es) t) (hn:x ≠ "__name__" := by decide) (hdb:(x == ("__debug__" : Str))=false:=by decide)
  (he:starEach (e :: es) X.env=(false,eval e X.env) :: starEach es X.env:=by rfl) (hpl:(backTo pos (starEach es X.env)).any (·.1)=false:=by rfl):PE X (.Call (.Name x p) (e :: es) [] pos) (tCB r t):=by
 intro Xj s σ H Q I h;refine wpAny_Call_Name_kw (e_ I hg hm hv ?_ hn hdb);exact PyProof.Rows.callWith_builtin1 (thn (ha pos Xj s σ H _ I h) λus s1 ⟨vs,H1,I1,r1,q1⟩=>hc Xj s1 σ H1 vs us Q I1 r1 q1) he hpl
theorem ft (hc:cL X (.type T) r) (hg:Gl X x) (hm:X.mg x=none) (hv:bootBuiltins x=some (.type T)) (ha:PA X (e :: es) t) (hn:x ≠ "__name__" := by decide) (hdb:(x == ("__debug__" : Str))=false:=by decide)
  (he:starEach (e :: es) X.env=(false,eval e X.env) :: starEach es X.env:=by rfl) (hpl:(backTo pos (starEach es X.env)).any (·.1)=false:=by rfl):PE X (.Call (.Name x p) (e :: es) [] pos) (tCB r t):=by
 intro Xj s σ H Q I h;refine wpAny_Call_Name_kw (e_ I hg hm hv ?_ hn hdb);exact PyProof.Rows.callWith_type1 (thn (ha pos Xj s σ H _ I h) λus s1 ⟨vs,H1,I1,r1,q1⟩=>hc Xj s1 σ H1 vs us Q I1 r1 q1) he hpl
end
end L2
namespace HT
open PySem PyProof.Rows
section
variable {prog:Program}{w:World}{A:Around}{E:Value->Shared->Prop}{s:Shared}
def sIx (n d:Nat):Option Int->Nat
 | none=>d
 | some v=>if v<0 then (v+(n:Int)).toNat else min v.toNat n
end
end HT
namespace L2
open PySem PySem.Spec PyProof.Rows
abbrev TO:=St->Hp->(Option Int->Hp->Prop)->Prop
def PO (X:Cx)(e:Option Expr)(t:TO):Prop:=
 ∀(Xj:List (Addr×Obj)) (s:Shared) (σ:St) (H:Hp) (Q:Option Int->Hp->Prop),Inv X Xj σ H s->t σ H Q->
  wpAny (model X.prog X.w) X.A (evalPart e X.env) (λu s'=>∃o H',Inv X Xj σ H' s'∧IsPart u o∧Q o H') X.xe s
def Ea:TO:=λ_ H Q=>Q none H
def Eb (t:TE):TO:=λσ H Q=>t σ H λx H1=>∃i,x=.int i∧Q (some i) H1
section
variable {X:Cx}{e:Expr}{te:TE}{lo hi:Option Expr}{tl th:TO}{pos p2:Pos}
theorem JZ:PO X none Ea:=by
 intro Xj s σ H Q I h;rw[evalPart_none];exact wpAny_pure ⟨none,H,I,.none,h⟩
theorem yV (h:PE X e te):PO X (some e) (Eb te):=by
 intro Xj s σ H Q I hw;rw[evalPart_some];refine thn (h Xj s σ H _ I hw) λu s1 ⟨x,H1,I1,r1,q1⟩=>?_;obtain⟨i,rfl,q⟩:=q1;obtain⟨t,rfl⟩:=r1;exact⟨some i,H1,I1,.int i t,q⟩
def SlR (X:Cx)(r:V->Option Int->Option Int->Hp->VK->Prop):Prop:=
 ∀(Xj:List (Addr×Obj)) (s:Shared) (σ:St) (H:Hp) (x:V) (v vl vu:Value) (lo hi:Option Int) (sl:Addr) (Q:VK),Inv X Xj σ H s->RelV x v->s.heap.IsSliceOf sl vl vu .none->IsPart vl lo->IsPart vu hi->r x lo hi H Q->
  ∃T id,typeLookup (.type T) "__getitem__" = pure (some (.builtin id))∧s.TypeIs v T∧wpAny (model X.prog X.w) X.A (getItem v (.ref sl)) (EP X Xj σ Q) X.xe s
def tSl (r:V->Option Int->Option Int->Hp->VK->Prop)(te:TE)(tl th:TO):TE:=λσ H Q=>te σ H λx H1=>tl σ H1 λl H2=>th σ H2 λu H3=>r x l u H3 Q
theorem Ec {r:V->Option Int->Option Int->Hp->VK->Prop}(hr:SlR X r)(he:PE X e te)(hl:PO X lo tl)(hu:PO X hi th):PE X (.Subscript e (.Slice lo hi none p2) pos) (tSl r te tl th):=by
 intro Xj s σ H Q I h;refine Subscript_ (thn (he Xj s σ H _ I h) λv s1 ⟨x,H1,I1,r1,q1⟩=>?_);refine wpAny_Slice (thn (hl Xj s1 σ H1 _ I1 q1) λvl s2 ⟨l,H2,I2,pl,q2⟩=>thn (hu Xj s2 σ H2 _ I2 q2) λvu s3 ⟨u,H3,I3,pu,q3⟩=>?_);rw[evalPart_none];refine wpAny_pure ?_;have I4:Inv X Xj σ H3 { s3 with heap:=s3.heap.push { cls:=.type "slice",data:=.fields #[vl,vu,.none] } }:=I3.kept (t':=s3.toks) λb ob q=>Heap.get?_push_of_some _ q;obtain⟨T,id,hT,ht,hg⟩:=hr Xj { s3 with heap:=s3.heap.push { cls:=.type "slice",data:=.fields #[vl,vu,.none] } } σ H3 x v vl vu l u s3.heap.objs.size Q I4 r1 (Heap.IsSliceOf.new ..) pl pu q3;show wpAny (model X.prog X.w) X.A (subscriptTail e (.Slice lo hi none p2) v (.ref s3.heap.objs.size)) (EP X Xj σ Q) X.xe { s3 with heap:=s3.heap.push { cls:=.type "slice",data:=.fields #[vl,vu,.none] } };exact tail_any (ops:=[.ref s3.heap.objs.size,v]) ht hT hg (by with_unfolding_all rfl)
def ej (xs:List V)(lo hi:Option Int):List V:=(xs.drop (HT.sIx xs.length 0 lo)).take (HT.sIx xs.length xs.length hi-HT.sIx xs.length 0 lo)
theorem J0 (xs:List V)(lo hi:Option Int):(ej xs lo hi).length<=xs.length:=by
 unfold ej;rw[cB,List.length_drop];omega
end
def ixN (n:Nat)(i:Int):Option Nat:=if 0<=i then (if i<n then some i.toNat else none) else if -(n:Int)<=i then some (i+n).toNat else none
def atI {α:Type}(xs:List α)(i:Int):Option α:=(ixN xs.length i).bind λj=>xs[j]?
theorem J1 {n:Nat}{i:Int}{j:Nat}(h:ixN n i=some j):seqIndex? i n=some j∧j<n∧-(n:Int)<=i∧i<n:=by
 unfold ixN at h;by_cases h0:0<=i
 ·rw[if_pos h0]at h;by_cases h1:i<n
  ·rw[if_pos h1]at h;have e:i.toNat=j:=Option.some.inj h;exact⟨by rw[seqIndex_of h0 h1,e],by omega,by omega,h1⟩
  ·rw[if_neg h1]at h;cases h
 ·rw[if_neg h0]at h;by_cases h1:-(n:Int)<=i
  ·rw[if_pos h1]at h;have e:(i+n).toNat=j:=Option.some.inj h;exact⟨by rw[seqIndex_neg (by omega) h1,e],by omega,h1,by omega⟩
  ·rw[if_neg h1]at h;cases h
theorem Ed {α:Type}{xs:List α}{i:Int}{v:α}(h:atI xs i=some v):∃j,seqIndex? i xs.length=some j∧xs[j]?=some v∧j<xs.length∧-(xs.length:Int)<=i∧i<xs.length:=by
 unfold atI at h
 cases e:ixN xs.length i with
 | none=>rw[e]at h;cases h
 | some j=>
  rw[e]at h;obtain⟨h1,h2,h3,h4⟩:=J1 e;exact⟨j,h1,h,h2,h3,h4⟩
theorem gr {α:Type}{xs:List α}{j:Nat}{v:α}(h:xs[j]?=some v):atI xs (j:Int)=some v:=by
 have hj:j<xs.length:=(be.mp h).1;have e:ixN xs.length (j:Int)=some j:=by
  unfold ixN;rw[if_pos (by omega),if_pos (by omega)];simp
 unfold atI;rw[e];exact h
theorem Ee {α:Type}(xs:List α)(v:α):atI (xs++[v]) (-1)=some v:=by
 have hl:(xs++[v]).length=xs.length+1:=by simp
 have e:ixN (xs++[v]).length (-1)=some xs.length:=by
  unfold ixN;rw[hl,if_neg (by decide),if_pos (by omega)];congr 1;omega
 unfold atI;rw[e];show (xs++[v])[xs.length]?=some v;simp
def J2 (b:Expr):Prop:=∀o i,subscripted b false o i=operate [o,i] (getItem o i)
def IxR (X:Cx)(r:R2):Prop:=
 ∀(value slice:Expr) (Xj:List (Addr×Obj)) (s:Shared) (σ:St) (H:Hp) (x y:V) (v u:Value) (Q:VK),Inv X Xj σ H s->RelV x v->RelV y u->r x y H Q->
  subscripted slice false v u=operate [v,u] (getItem v u)->wpAny (model X.prog X.w) X.A (subscriptTail value slice v u) (EP X Xj σ Q) X.xe s
def MtR (X:Cx)(id:String)(r:V->List V->Hp->VK->Prop):Prop:=
 ∀(Xj:List (Addr×Obj)) (s:Shared) (σ:St) (H:Hp) (x:V) (xs:List V) (v:Value) (us:List Value) (Q:VK),Inv X Xj σ H s->RelV x v->Vals xs us->r x xs H Q->
  wpAny (model X.prog X.w) X.A (call (.builtin id) (v :: us)) (EP X Xj σ Q) X.xe s
section
variable {X:Cx}{a b:Expr}{ta tb:TE}{pos:Pos}
theorem ah {r:R2}(hr:IxR X r)(ha:PE X a ta)(hb:PE X b tb)(hs:J2 b):PE X (.Subscript a b pos) (tOp r ta tb):=by
 intro Xj s σ H Q I h;exact Subscript_ (yP ha hb I h λv u s2 x y H2 I2 rx ry q=>hr a b Xj s2 σ H2 x y v u Q I2 rx ry q (hs _ _))
def Ef (K:W.Frag):R2:=λx y H Q=>∃p xs i v,x=.ref p∧y=.int i∧SqL K H p xs∧atI xs i=some v∧Q v H
def yW (K:W.Frag):R2:=λx y H Q=>∃p xs i v,x=.ref p∧y=.int i∧SqT K H p xs∧atI xs i=some v∧Q v H
theorem bA:IxR X (Ef X.K):=by
 intro value slice Xj s σ H x y v u Q I rx ry h hs;obtain⟨p,xs,i,z,rfl,rfl,hq,he,q⟩:=h
 cases rx
 obtain⟨t,rfl⟩:=ry;obtain⟨its,r,pl,hz⟩:=I.list hq;obtain⟨j,h1,h2,h3,h4,h5⟩:=Ed he;obtain⟨w,ew,rw'⟩:=r.get h2;have hl:=r.length;have hn:=yS;have fin:EP X Xj σ Q w s:=⟨z,H,I,rw',q⟩
 by_cases h0:0<=i
 ·have hj:i.toNat=j:=by
   rw[seqIndex_of h0 h5]at h1;exact Option.some.inj h1
  exact item_listR pl.isList h0 (by omega) (by rw[hj];simpa using ew) fin hs
 ·have hj:(i+(its.toArray.size:Int)).toNat=j:=by
   rw[seqIndex_neg (by omega) h4]at h1;rw[bW,←hl];exact Option.some.inj h1
  exact subscriptTail_builtinR (x:=w) pl.isList.typeIs slot_list_getitem.lookup
   (wpAny_getItem_list_neg (Q:=λr s'=>r=w∧EP X Xj σ Q r s') pl.isList (by omega) (by rw[bW] <;> omega) (by omega) (by rw[hj];simpa using ew) ⟨rfl,fin⟩) hs
theorem aj:IxR X (yW X.K):=by
 intro value slice Xj s σ H x y v u Q I rx ry h hs;obtain⟨p,xs,i,z,rfl,rfl,hq,he,q⟩:=h
 cases rx
 obtain⟨t,rfl⟩:=ry;obtain⟨its,r,pl,hz⟩:=I.tuple hq;obtain⟨j,h1,h2,h3,h4,h5⟩:=Ed he;obtain⟨w,ew,rw'⟩:=r.get h2;have hl:=r.length;have hn:=yS;have fin:EP X Xj σ Q w s:=⟨z,H,I,rw',q⟩
 exact subscriptTail_builtinR (x:=w) pl.typeIs slot_tuple_getitem.lookup
  (getItem_tuple (j:=j) (Q:=λr s'=>r=w∧EP X Xj σ Q r s') pl (by omega) (by omega) (by rw[bW,←hl];exact h1) (by simpa using ew) ⟨rfl,fin⟩) hs
def J3:V->V->V->Hp->(Hp->Prop)->Prop:=λo i v H Q=>∃p xs k j,o=.ref p∧i=.int k∧H p=some (.lst xs)∧ixN xs.length k=some j∧Q (upd H p (.lst (xs.set j v)))
theorem J4 (lo hi:Option Int)(n:Nat):(sliceBounds lo hi none n).1=((HT.sIx n 0 lo:Nat):Int)∧(sliceBounds lo hi none n).2.1=((HT.sIx n n hi:Nat):Int)∧(sliceBounds lo hi none n).2.2=1:=by
 refine⟨?_,?_,rfl⟩
 ·cases lo with
  | none=>simp[sliceBounds,HT.sIx]
  | some i=>
   simp only[sliceBounds,HT.sIx,Option.getD_none,show (1:Int) > 0 by decide,if_true];by_cases h:i<0
   ·simp only[h,if_true] <;> omega
   ·simp only[h,if_false] <;> omega
 ·cases hi with
  | none=>simp[sliceBounds,HT.sIx]
  | some i=>
   simp only[sliceBounds,HT.sIx,Option.getD_none,show (1:Int) > 0 by decide,if_true];by_cases h:i<0
   ·simp only[h,if_true] <;> omega
   ·simp only[h,if_false] <;> omega
theorem J5 (its:List Value)(lo hi:Option Int):slicePick its.toArray lo hi none=((its.drop (HT.sIx its.length 0 lo)).take (HT.sIx its.length its.length hi-HT.sIx its.length 0 lo)).toArray:=by
 obtain⟨h1,h2,h3⟩:=J4 lo hi its.toArray.size;unfold slicePick;rw[h1,h2,h3];simp only[sliceRange_one,pick_run,bW] <;> rfl
def Eg (K:W.Frag):V->Option Int->Option Int->Hp->VK->Prop:=λx lo hi H Q=>∃a xs,x=.ref a∧SqL K H a xs∧∀p,H p=none->Q (.ref p) (upd H p (.lst (ej xs lo hi)))
theorem Eh:SlR X (Eg X.K):=by
 intro Xj s σ H x v vl vu lo hi sl Q I rx hs pl pu h;obtain⟨a,xs,rfl,hx,q⟩:=h
 cases rx
 obtain⟨its,r,ht,hz⟩:=I.list hx;have hlen:=r.length;refine⟨"list",_,slot_list_getitem.lookup,ht.isList.typeIs,?_⟩;refine wpAny_getItem_list_slice ht.isList hs pl pu .none (by simp) ?_ (by rw[bW] <;> omega);rw[J5,←hlen];refine⟨.ref s.heap.objs.size,_,I.laid (t':=s.toks) (o:=.lst (ej xs lo hi)) (λb ob q=>Heap.get?_push_of_some _ q) (aw _) ?_,rfl,q _ (I.hok.fresh (aw _))⟩;exact⟨aP (J0 xs lo hi) hz,_,0,(r.drop (HT.sIx xs.length 0 lo)).take (HT.sIx xs.length xs.length hi-HT.sIx xs.length 0 lo),Heap.get?_push_size _ rfl⟩
def pF:V->Bool
 | .non=>true
 | .bl _=>true
 | .int _=>true
 | .str _=>true
 | _=>false
def eqV:V->V->Bool
 | .non,.non=>true
 | .bl a,.bl b=>a == b
 | .bl a,.int b=>(if a then 1 else 0) == b
 | .int a,.bl b=>a == (if b then 1 else 0)
 | .int a,.int b=>a == b
 | .str a,.str b=>a == b
 | _,_=>false
def inV (x:V)(xs:List V):Bool:=xs.any λy=>eqV y x
def rIn (K:W.Frag)(neg:Bool):R2:=λx y H Q=>∃p xs,y=.ref p∧(SqL K H p xs∨SqT K H p xs)∧pF x=true∧xs.all pF=true∧Q (.bl (if neg then !inV x xs else inV x xs)) H
theorem fu:cL X (.builtin "len") (λxs H Q=>∃p ys,xs=[.ref p]∧(SqL X.K H p ys∨SqT X.K H p ys)∧Q (.int ys.length) H):=by
 intro Xj s σ H xs us Q I r h;obtain⟨p,ys,rfl,hq,q⟩:=h;obtain⟨u,rfl,rx⟩:=d_ r
 cases rx
 have hn:=yS;rcases hq with hq|hq
 ·obtain⟨its,r',pl,hz⟩:=I.list hq;have hlen:=r'.length;exact Calls.call_len_list pl.isList (by simp only[bW] <;> omega) ⟨.int ys.length,H,I.tok _,⟨s.toks+1,by rw[bW,hlen]⟩,q⟩
 ·obtain⟨its,r',pl,hz⟩:=I.tuple hq;have hlen:=r'.length;exact len_tuple pl (by simp only[bW] <;> omega) ⟨.int ys.length,H,I.tok _,⟨s.toks+1,by rw[bW,hlen]⟩,q⟩
theorem J7:cL X (.type "list") (λxs H Q=>∃p ys,xs=[.ref p]∧(SqL X.K H p ys∨SqT X.K H p ys)∧∀l,H l=none->Q (.ref l) (upd H l (.lst ys))):=by
 intro Xj s σ H xs us Q I r h;obtain⟨p,ys,rfl,hq,q⟩:=h;obtain⟨u,rfl,rx⟩:=d_ r
 cases rx
 have fin:∀(its:List Value),Vals ys its->ys.length<=sizeLine->∀(h':Heap) (c':Nat),(∀b o',s.heap.get? b=some o'->h'.get? b=some o')->
   h'.get? s.heap.objs.size=some { cls:=.type "list",dict:=none,data:=.seq its.toArray c',slots:=#[] }->EP X Xj σ Q (.ref s.heap.objs.size) { s with heap:=h' }:=λits r' hz h' c' kp e=>
  ⟨.ref s.heap.objs.size,_,I.laid (t':=s.toks) kp (aw _) (show ObjOk X.prog X.w _ h' _ (.lst ys) from ⟨hz,its,c',r',e⟩),rfl,q _ (I.hok.fresh (aw _))⟩
 rcases hq with hq|hq
 ·obtain⟨its,r',pl,hz⟩:=I.list hq;have hlen:=r'.length;obtain⟨o,ho,hc,n,hd⟩:=pl.isList;exact call_list_seq p (.inl rfl) ho hc hd (λh' c' kp e=>fin its r' hz h' c' kp e) (by simp only[bW] <;> omega)
 ·obtain⟨its,r',pl,hz⟩:=I.tuple hq;have hlen:=r'.length;obtain⟨o,ho,hc,n,hd⟩:=pl;exact call_list_seq p (.inr rfl) ho hc hd (λh' c' kp e=>fin its r' hz h' c' kp e) (by simp only[bW] <;> omega)
theorem yX:cL X (.type "tuple") (λxs H Q=>∃p ys,xs=[.ref p]∧((SqL X.K H p ys∧∀l,H l=none->Q (.ref l) (upd H l (.tup ys)))∨(SqT X.K H p ys∧Q (.ref p) H))):=by
 intro Xj s σ H xs us Q I r h;obtain⟨p,ys,rfl,h⟩:=h;obtain⟨u,rfl,rx⟩:=d_ r
 cases rx
 rcases h with ⟨hq,q⟩|⟨hq,q⟩
 ·obtain⟨its,r',pl,hz⟩:=I.list hq;have hlen:=r'.length;refine call_tuple_list pl.isList (λh' kp=>?_) (by simp only[bW] <;> omega);have I1:Inv X Xj σ H { s with heap:=h' }:=I.kept (t':=s.toks) kp;have I2:Inv X Xj σ (upd H h'.objs.size (.tup ys)) { s with heap:=h'.push { cls:=.type "tuple",data:=.seq its.toArray } }:=
   I1.laid (t':=s.toks) (λb o e=>Heap.get?_push_of_some _ e) (aw _) (show ObjOk X.prog X.w _ _ _ (.tup ys) from ⟨hz,its,r',IsTup.new _ _⟩)
  exact⟨.ref h'.objs.size,_,I2,rfl,q _ (I1.hok.fresh (aw _))⟩
 ·obtain⟨its,r',pl,hz⟩:=I.tuple hq;exact call_tuple_same pl ⟨.ref p,H,I,rfl,q⟩
def tyV (K:W.Frag)(T:String)(x:V)(H:Hp):Prop:=match x with
 | .str _=>T = "str"
 | .int _=>T = "int"
 | .ref p=>(T = "list" ∧ ∃xs,SqL K H p xs)∨(T = "tuple" ∧ ∃o,K.lookup p=some o∧o.cls=.type "tuple" ∧ o.dict=none)∨
   (T = "dict" ∧ ((∃kvs,H p=some (.dK kvs))∨∃kvs,H p=some (.dT kvs)))∨(T = "set" ∧ ∃S n,H p=some (.set S n))
 | _=>False
theorem Ei {Xj:List (Addr×Obj)}{σ:St}{H:Hp}{s:Shared}{T:String}{x:V}{v:Value}(I:Inv X Xj σ H s)(r:RelV x v)(ty:tyV X.K T x H):
  s.TypeIs v T∧∀a,v=.ref a->∃ob,s.heap.get? a=some ob∧ob.dict=none:=by
 cases x with
 | str z=>
  obtain⟨t,rfl⟩:=r
  cases (show T = "str" from ty)
  exact⟨typeIs_str s z t,λ_ e=>nomatch e⟩
 | int i=>
  obtain⟨t,rfl⟩:=r
  cases (show T = "int" from ty)
  exact⟨typeIs_int s i t,λ_ e=>nomatch e⟩
 | ref p=>
  cases r
  rcases ty with ⟨rfl,xs,hq⟩|⟨rfl,o,hk,hc,hd⟩|⟨rfl,hk⟩|⟨rfl,S,n,hk⟩
  ·obtain⟨its,_,pl,_⟩:=I.list hq;refine⟨pl.isList.typeIs,λa e=>?_⟩
   cases e
   obtain⟨o,n,e,c,hd,_⟩:=pl;exact⟨o,e,hd⟩
  ·refine⟨⟨o,I.kIn p o hk,hc⟩,λa e=>?_⟩
   cases e
   exact⟨o,I.kIn _ o hk,hd⟩
  ·have z:∃o,s.heap.get? p=some o∧o.ExactDict:=by
    rcases hk with ⟨kvs,hk⟩|⟨kvs,hk⟩
    ·obtain⟨_,_,_,_,o,_,_,e,ex,_⟩:=I.hok p _ hk;exact⟨o,e,ex⟩
    ·obtain⟨_,_,_,_,o,_,_,e,ex,_⟩:=I.hok p _ hk;exact⟨o,e,ex⟩
   obtain⟨o,e,ex⟩:=z;refine⟨⟨o,e,ex.1⟩,λa e2=>?_⟩
   cases e2
   exact⟨o,e,ex.2.1⟩
  ·obtain⟨o,_,_,_,e,ex,_⟩:=I.hok p _ hk;refine⟨⟨o,e,ex.1⟩,λa e2=>?_⟩
   cases e2
   exact⟨o,e,ex.2.1⟩
 | _=>exact False.elim ty
def Ej (K:W.Frag)(T:String)(r:V->List V->Hp->VK->Prop)(to:TE):TE:=λσ H Q=>to σ H λx H1=>tyV K T x H1∧r x [] H1 Q
def tBM (K:W.Frag)(T:String)(r:V->List V->Hp->VK->Prop)(to:TE)(t:TA):TE:=λσ H Q=>to σ H λx H1=>tyV K T x H1∧t σ H1 λxs H2=>r x xs H2 Q
variable {o e:Expr}{es:List Expr}{to:TE}{t:TA}{name:Str}{apos cpos:Pos}{T id:String}{r:V->List V->Hp->VK->Prop}
theorem yY (pa:PlainAttrs T) (slot:Slot T name id) (hty:typeOf (.builtin id)=pure (.type "method_descriptor")) (hm:MtR X id r) (ho:PE X o to)
  (hbase:attributeBase o name X.env (eval o X.env)=eval o X.env:=by rfl) (hline:(apos.endLine == cpos.line)=true:=by rfl):PE X (.Call (.Attribute o name apos) [] [] cpos) (Ej X.K T r to):=by
 intro Xj s σ H Q I h;refine wpAny_Call_method0_late hbase hline (thn (ho Xj s σ H _ I h) λv s1 ⟨x,H1,I1,r1,ty,q1⟩=>?_);obtain⟨h1,h2⟩:=Ei I1 r1 ty;exact⟨T,id,pa,slot,hty,h1,h2,Calls.callWith_builtin rfl (PySem.evalArgs_none (hm Xj s1 σ H1 x [] v [] Q I1 r1 .nil q1))⟩
theorem fZ (pa:PlainAttrs T) (slot:Slot T name id) (hty:typeOf (.builtin id)=pure (.type "method_descriptor")) (hm:MtR X id r) (ho:PE X o to) (ha:PA X (e :: es) t)
  (hbase:attributeBase o name X.env (eval o X.env)=eval o X.env:=by rfl)
  (hfew:((backTo cpos (starEach (e :: es) X.env)).all (λx=>!x.1) && (backToKw cpos (keywordEach [] X.env)).all (λx=>x.1.isSome)
   && decide ((e :: es).length+([]:List Keyword).length+(if ([]:List Keyword).isEmpty then 0 else 1)<30))=true:=by rfl)
  (hline:(apos.endLine == cpos.line)=true:=by rfl) (hs:starEach (e :: es) X.env=(false,eval e X.env) :: starEach es X.env:=by rfl) (hplain:(backTo cpos (starEach es X.env)).any (·.1)=false:=by rfl):
  PE X (.Call (.Attribute o name apos) (e :: es) [] cpos) (tBM X.K T r to t):=by
 intro Xj s σ H Q I h;refine wpAny_Call_method_late hbase hfew hline rfl (thn (ho Xj s σ H _ I h) λv s1 ⟨x,H1,I1,r1,ty,q1⟩=>?_);obtain⟨h1,h2⟩:=Ei I1 r1 ty;refine⟨T,id,pa,slot,hty,h1,h2,?_⟩;have hA:=ha cpos Xj s1 σ H1 _ I1 q1;rw[hs]at hA ⊢;refine Calls.callWith_builtin (by show (false || (backTo cpos (starEach es X.env)).any (·.1))=false;rw[hplain] <;> rfl) (Calls.evalArgs_plain ?_);exact thn hA λus s2 ⟨vs,H2,I2,r2,q2⟩=>hm Xj s2 σ H2 x vs v us Q I2 r1 r2 q2
/- xs.append(e),list.index on a module's tuple .. are MtR facts of 06m -/
end
def MtM (X:Cx)(id:String)(r:V->List V->Hp->VK->Prop):Prop:=
 ∀(Xj:List (Addr×Obj)) (s:Shared) (σ:St) (H:Hp) (x:V) (xs:List V) (v:Value) (us:List Value) (Q:VK),Inv X Xj σ H s->RelV x v->Vals xs us->r x xs H Q->
  wpAny (model X.prog X.w) X.A (call (.builtin id) (v :: us)) (EP X Xj σ Q) X.xe s
theorem Vals.one:∀{x:V}{us:List Value},Vals [x] us->∃u,us=[u]∧RelV x u
 | _,_,.cons r .nil=>⟨_,rfl,r⟩
theorem Vals.zero:∀{us:List Value},Vals [] us->us=[]
 | _,.nil=>rfl
theorem Vals.dropLast {xs:List V}{us:List Value}(h:Vals xs us):Vals xs.dropLast us.dropLast:=by
 induction h with
 | nil=>exact .nil
 | cons r t ih=>
  cases t with
  | nil=>exact .nil
  | cons q t'=>exact .cons r ih
theorem Vals.rep {xs:List V}{us:List Value}(h:Vals xs us):∀k:Nat,Vals (bK k xs).flatten (bK k us).flatten
 | 0=>.nil
 | k+1=>by
  rw[d0,d0,sX,sX];exact Vals.append h (Vals.rep h k)
theorem J8 {α:Type}(l:List α):l.eraseIdx (l.length-1)=l.dropLast:=by
 induction l with
 | nil=>rfl
 | cons a r ih=>
  cases r with
  | nil=>rfl
  | cons b r=>
   have e:(a :: b :: r).length-1=((b :: r).length-1)+1:=by
    have h1:(a :: b :: r).length=r.length+2:=rfl;have h2:(b :: r).length=r.length+1:=rfl;omega
   rw[e,List.eraseIdx_cons_succ,ih]
   all_goals rfl
theorem Ek (its:List Value):∀(k:Nat) (acc:List Value),
  List.foldl (λx1 x2=>x1++x2) acc.toArray (bK k its.toArray)=(acc++(bK k its).flatten).toArray
 | 0,acc=>by simp
 | k+1,acc=>by
  have e:acc.toArray++its.toArray=(acc++its).toArray:=by simp
  have e2:(acc++its)++(bK k its).flatten=acc++(bK (k+1) its).flatten:=by
   rw[d0,sX,jK]
  rw[←e2,←Ek its k (acc++its),←e,d0,d5]
section
variable {X:Cx}{Xj:List (Addr×Obj)}{σ:St}{H:Hp}{s:Shared}{l b:Addr}{xs ys zs:List V}
theorem Inv.lset {its its':List Value}{n:Nat}{f:Array Value->Array Value}{t':Nat}(I:Inv X Xj σ H s) (hH:H l=some (.lst xs))
  (e:s.heap.get? l=some { cls:=.type "list",data:=.seq its.toArray n }) (hf:f its.toArray=its'.toArray) (hv:Vals ys its') (hz:ys.length<=sizeLine):
  Inv X Xj σ (upd H l (.lst ys)) { s with heap:=s.heap.update l (Obj.mapSeq f),toks:=t' }:=by
 have q:=PySem.IsL.update e f;rw[hf]at q;refine I.write (x:=l) (e:=l) (by rw[hH];exact trivial) (.inl rfl) (λb' u hb hu=>(Heap.get?_update_other s.heap (Obj.mapSeq f) (Ne.symm hb)).trans hu) ⟨_,q⟩ ?_;exact⟨hz,its',_,hv,q⟩
theorem Inv.lnew {its:List Value}{t':Nat}(I:Inv X Xj σ H s)(hv:Vals ys its)(hz:ys.length<=sizeLine):
  Inv X Xj σ (upd H s.heap.objs.size (.lst ys)) { s with heap:=s.heap.push { cls:=.type "list",data:=.seq its.toArray },toks:=t' }:=
 I.laid (λ_ _ q=>Heap.get?_push_of_some _ q) (aw _) ⟨hz,its,0,hv,Heap.get?_push_size _ rfl⟩
theorem Inv.fresh (I:Inv X Xj σ H s):H s.heap.objs.size=none:=I.hok.fresh (aw _)
theorem Inv.lstM (I:Inv X Xj σ H s)(hH:H l=some (.lst xs)):xs.length<=sizeLine∧∃(its:List Value) (n:Nat),Vals xs its∧xs.length=its.length∧s.heap.get? l=some { cls:=.type "list",data:=.seq its.toArray n }:=by
 obtain⟨z,its,n,r,e⟩:=I.hok l _ hH;exact⟨z,its,n,r,r.length,e⟩
theorem El {n:Nat}(h:n<=sizeLine):Builtin.List.listTooLong n=false:=by
 unfold Builtin.List.listTooLong;exact decide_eq_false (by omega)
end
section
variable {X:Cx}
def Em:V->List V->Hp->VK->Prop:=λx vs H Q=>∃l xs y,x=.ref l∧vs=[y]∧H l=some (.lst xs)∧xs.length<sizeLine∧Q .non (upd H l (.lst (xs++[y])))
theorem el:MtM X "list.append" Em:=by
 intro Xj s σ H x vs v us Q I rx rv h;obtain⟨l,xs,y,rfl,rfl,hH,hz,q⟩:=h
 cases rx
 obtain⟨u,rfl,ru⟩:=rv.one;obtain⟨z,its,n,r,hl,e⟩:=I.lstM hH;refine call_meets F.slot_list_append ⟨_,e,rfl⟩ F.entry_list_append (F.args_list_append_2 _ _) (PySem.list_append l its.toArray n u (by rw[bW];omega)) ⟨e,?_⟩;refine⟨.non,_,I.lset (its':=its++[u]) hH e (by simp) (r.append (.cons ru .nil)) ?_,rfl,q⟩;rw[b8,jL];omega
def En:V->List V->Hp->VK->Prop:=λx vs H Q=>∃l b xs zs,x=.ref l∧vs=[.ref b]∧H l=some (.lst xs)∧H b=some (.lst zs)∧xs.length+zs.length<=sizeLine∧Q .non (upd H l (.lst (xs++zs)))
theorem yZ:MtM X "list.extend" En:=by
 intro Xj s σ H x vs v us Q I rx rv h;obtain⟨l,b,xs,zs,rfl,rfl,hH,hB,hz,q⟩:=h
 cases rx
 obtain⟨u,rfl,ru⟩:=rv.one
 cases ru
 obtain⟨z,its,n,r,hl,e⟩:=I.lstM hH;obtain⟨z2,its2,n2,r2,hl2,e2⟩:=I.lstM hB;have hsz:its.toArray.size+its2.toArray.size<=sizeLine:=by rw[bW,bW];omega
 have hlong:¬(!its.toArray.isEmpty && Builtin.List.listTooLong (its.toArray.size+its2.toArray.size))=true:=by
  rw[El hsz,Bool.and_false];exact Bool.false_ne_true
 refine call_meets F.slot_list_extend ⟨_,e,rfl⟩ F.entry_list_extend (F.args_list_extend_2 _ _)
  (AutoSeq1.list_extend_list_list_0 l its.toArray n b its2.toArray n2 hlong (by rw[bW];omega) (by omega)) ⟨e,e2,?_⟩
 refine⟨.non,_,I.lset (its':=its++its2) hH e (by simp) (r.append r2) ?_,rfl,q⟩;rw[b8];omega
def Eo:V->List V->Hp->VK->Prop:=λx vs H Q=>∃l xs y,x=.ref l∧vs=[]∧H l=some (.lst xs)∧xs[xs.length-1]?=some y∧Q y (upd H l (.lst xs.dropLast))
theorem Qb:MtM X "list.pop" Eo:=by
 intro Xj s σ H x vs v us Q I rx rv h;obtain⟨l,xs,y,rfl,rfl,hH,hy,q⟩:=h
 cases rx
 have hus:=rv.zero;subst hus;obtain⟨z,its,n,r,hl,e⟩:=I.lstM hH;obtain⟨u,hu,ru⟩:=r.get hy;have hy':its.toArray[its.toArray.size-1]?=some u:=by
  show its.toArray[its.length-1]?=some u;rw[←Array.getElem?_toList,←hl];exact hu
 refine call_meets F.slot_list_pop ⟨_,e,rfl⟩ F.entry_list_pop (F.args_list_pop_1 _) (MeetsSeq.list_pop_last l its.toArray n u hy' (by rw[bW];omega)) ⟨e,?_⟩;refine⟨y,_,I.lset (its':=its.dropLast) hH e ?_ r.dropLast ?_,ru,q⟩
 ·show its.toArray.eraseIdxIfInBounds (its.toArray.size-1)=its.dropLast.toArray;rw[bW,List.eraseIdxIfInBounds_toArray,J8]
 ·rw[List.length_dropLast];omega
def Ep:V->List V->Hp->VK->Prop:=λx vs H Q=>∃l xs,x=.ref l∧vs=[]∧H l=some (.lst xs)∧Q .non (upd H l (.lst []))
theorem J9:MtM X "list.clear" Ep:=by
 intro Xj s σ H x vs v us Q I rx rv h;obtain⟨l,xs,rfl,rfl,hH,q⟩:=h
 cases rx
 have hus:=rv.zero;subst hus;obtain⟨z,its,n,r,hl,e⟩:=I.lstM hH;refine call_meets F.slot_list_clear ⟨_,e,rfl⟩ F.entry_list_clear (F.args_list_clear_1 _) (AutoSeq1.list_clear_list_0 l its.toArray n (by rw[bW];omega)) ⟨e,?_⟩;exact⟨.non,_,I.lset (its':=[]) (ys:=[]) hH e rfl .nil (aY _),rfl,q⟩
def Er:R2:=λx y H Q=>∃l b xs zs,x=.ref l∧y=.ref b∧H l=some (.lst xs)∧H b=some (.lst zs)∧xs.length+zs.length<=sizeLine∧∀p,H p=none->Q (.ref p) (upd H p (.lst (xs++zs)))
theorem fw:OpR X (binaryOp .Add) Er:=by
 intro Xj s σ H x y v u Q I rx ry h;obtain⟨l,b,xs,zs,rfl,rfl,hH,hB,hz,q⟩:=h
 cases rx
 cases ry
 obtain⟨z,its,n,r,hl,e⟩:=I.lstM hH;obtain⟨z2,its2,n2,r2,hl2,e2⟩:=I.lstM hB;refine PySem.P.add_list e e2 ?_ (by rw[bW,bW];omega);have ea:its.toArray++its2.toArray=(its++its2).toArray:=by simp
 rw[ea];exact⟨.ref _,_,I.lnew (t':=s.toks) (r.append r2) (by rw[b8];omega),rfl,q _ I.fresh⟩
def Es:R2:=λx y H Q=>∃l k xs,x=.ref l∧y=.int k∧H l=some (.lst xs)∧-(2 ^ 63)<=k∧k<2 ^ 63∧xs.length*k.toNat<=sizeLine∧
 ∀p,H p=none->Q (.ref p) (upd H p (.lst (bK k.toNat xs).flatten))
theorem J_ {α:Type}(xs:List α)(k:Nat):(bK k xs).flatten.length=k*xs.length:=by
 induction k with
 | zero=>simp
 | succ k ih=>rw[d0,sX,b8,ih,Nat.succ_mul,Nat.add_comm]
theorem Et:OpR X (binaryOp .Mult) Es:=by
 intro Xj s σ H x y v u Q I rx ry h;obtain⟨l,k,xs,rfl,rfl,hH,h1,h2,hz,q⟩:=h
 cases rx
 obtain⟨t,rfl⟩:=ry;obtain⟨z,its,n,r,hl,e⟩:=I.lstM hH;have hlen:its.toArray.size*k.toNat<=sizeLine:=by rw[bW,←hl];exact hz
 have hcap:¬its.toArray.size*k.toNat > (2 ^ 63-1) / 8:=by
  have:(sizeLine:Nat)<=(2 ^ 63-1) / 8:=by decide
  omega
 have hfit:¬(!Builtin.List.listFitsIndex k)=true:=by
  rw[fitsIndex_both h1 h2];exact Bool.false_ne_true
 have hlong:¬Builtin.List.listTooLong (its.toArray.size*k.toNat)=true:=by
  rw[El hlen];exact Bool.false_ne_true
 have hnew:List.foldl (λx1 x2=>x1++x2) #[] (bK (if its.toArray.isEmpty=true then 0 else k.toNat) its.toArray)=(bK k.toNat its).flatten.toArray:=by
  have f0:∀m:Nat,List.foldl (λx1 x2=>x1++x2) #[] (bK m its.toArray)=(bK m its).flatten.toArray:=λm=>by
   have:=Ek its m [];rw[Ip]at this;exact this
  rw[f0]
  cases its with
  | nil=>simp
  | cons a r'=>rw[if_neg (by simp)]
 refine wpAny_binaryOp_repeat_ref (T := "list") (U := "int") (by decide) ⟨_,e,rfl⟩ (λs'=>typeIs_int s' k t) noFill_list_mul F.fills_int_mul F.slot_int_rmul repeat_list F.slot_int_index.lookup
  (call_meets F.slot_int_rmul (typeIs_int s k t) F.entry_int_rmul (F.args_int_rmul_2 _ _) (int___rmul___int_list k t l its.toArray n)
   ⟨e,rfl,⟨_,e,rfl⟩,call_meets F.slot_list_mul ⟨_,e,rfl⟩ F.entry_list_mul (F.args_list_mul_2 _ _) (AutoListH.list___mul___list_int_3 l its.toArray n k t hfit hcap hlong) ⟨e,?_⟩⟩)
 rw[hnew];exact⟨.ref _,_,I.lnew (t':=s.toks) (r.rep k.toNat) (by rw[J_,Nat.mul_comm];exact hz),rfl,q _ I.fresh⟩
end
end L2
namespace Att
open PySem PySem.W PySem.Calls PyProof.Rows
theorem Ka {P:Params}{h:Heap}:∀(ns:List Int) (vs:List Value),WellAll P h vs (ns.map WData.int)->IntsAre vs ns:=by
 intro ns
 induction ns with
 | nil=>
  intro vs w;rw[gW]at w
  cases w
  exact .nil
 | cons n ns ih=>
  intro vs w;rw[bF]at w
  cases w with
  | cons a b=>
   cases a
   exact .cons _ _ (ih _ b)
theorem Kb {l:OpenLaw}{n:Nat}(hn:l.most=some n){P:Params}{h:Heap}{args:List WData}{vals:List Value}
  (hpre:l.row.toRowW.claim.pre args=true) (hwl:WellAll P h vals args):
  ∃a vs ns,vals=[Value.ref a]∧args=[WData.list (ns.map WData.int)]∧h.get? a=some { cls:=.type "list",data:=.seq vs.toArray }∧IntsAre vs ns∧ns.length<=n:=by
 have hsh:WShape.hasAll [] args [.list .int]=true:=(pre_splitW hpre).1;have hc:l.pre.holds [] { args:=args }=true:=(pre_splitW hpre).2;obtain⟨d,r,rfl,h1,h2⟩:=hasAllW_cons hsh;obtain rfl:=hasAllW_nil h2;obtain⟨xs,rfl,h3⟩:=hasW_list h1;obtain⟨ns,rfl⟩:=items_int h3;have hlen:ns.length<=n:=by
  unfold OpenLaw.pre at hc;have h4:(WTm.not (.lt (.lit (.int (n:Int))) (.len (.arg 0)))).holds [] { args:=[.list (ns.map .int)] }=true:=by
   have h4:=(holds_andW hc).1;rw[hn]at h4;exact h4
  have h5:=condW_of h4 (w_not (w_lt w_lit (w_len_list (w_arg rfl))));rw[aB]at h5;refine Nat.le_of_not_lt λq=>?_;have q':(n:Int)<((ns.length:Nat):Int):=by omega
  first
   |(rw[decide_eq_true q']at h5;exact absurd h5 (by decide))
   |(simp at h5;omega)
 cases hwl with
 | cons w1 w2=>
  cases w2
  cases w1 with
  | list ho hall=>exact⟨_,_,ns,rfl,rfl,ho,Ka ns _ hall,hlen⟩
theorem Kc (l:OpenLaw)(args:List WData):l.row.toRowW.claim.post args (.bool true) args=true:=
 postW_of (r:=l.row.toRowW) (X:=(true == true))
  (show WShape.has [] (.bool true) .bool=true by first|rfl|decide|simp[WShape.has,WShape.arms,WShape.armsAll])
  (show (WTm.eq .res (.lit (.bool true))).value [] { args:=args,res:=some (.bool true),after:=args }=some (.bool (true == true)) from w_eq_bool (w_res rfl) w_lit) rfl
theorem attach_call {l:OpenLaw}{n:Nat}{q:Program}{loose:List Str}{XP:(Str->Option Value)->Heap->Prop}{YP:World->Heap->Prop}{d:DefRec}
  (hn:l.most=some n) (hdf:d.params.defaults=[])
  (call:∀(w:World) (s₀ s₁:Shared) (mg mb:Str->Option Value) (fa:Addr) (o:Obj) (pm cd doc:Value) (a:Addr) (vs:List Value) (ns:List Int),
   Ground q loose [] XP w s₀ mg mb s₁.heap->YP w s₁.heap->
   s₁.heap.get? fa=some o->o.data=.func (docDef d.name d.params d.body d.scope pm cd doc)->s₁.heap.CodeRec cd d.name->mg d.name=some (.ref fa)->
   s₁.heap.get? a=some { cls:=.type "list",data:=.seq vs.toArray }->IntsAre vs ns->ns.length<=n->s₁.gens=#[]->
   codeAny (model l.prog w) callerA (.call (.ref fa) ⟨[.ref a],[]⟩) (λr s'=>r=.ok (.ret (.bool true))∧OldK s₁.heap s'.heap∧s'.os=s₁.os∧AllBare s'.gens) s₁):
  WalkO q loose XP YP l.row.toRowW d [] (λf vs=>PySem.call f vs):=by
 intro w s₀ s₁ mg mb G Y fa o pm cd doc dV kV ho hd hcd hD hmg hg args vals as hpre hlay hrd hwl hlo;obtain rfl:dV=.none:=Dflts.none hD hdf;obtain rfl:kV=.none:=Dflts.noKw hD;obtain⟨a,vs,ns,rfl,rfl,hobj,hints,hlen⟩:=Kb hn hpre hwl;refine enter_call (codeAny_mono (call w s₀ s₁ mg mb fa o pm cd doc a vs ns G Y ho (fd_plain hd) hcd hmg hobj hints hlen hg) λr s' hq=>?_);obtain⟨rfl,h2,h3,h4⟩:=hq;exact⟨.inl ⟨.bool true,.bool true,[],rfl,λ_=>rfl,.bool true,Kc l _,λ_=>⟨List.Pairwise.nil,λ_ hm=>(nomatch hm)⟩⟩,h2,h3,h4⟩
section
variable {prog:Program}{w:World}{A:Around}{E:Value->Shared->Prop}{s:Shared}{K:Frag}
def y0 (h:Heap):Heap:={ h with objs:=#[] }
theorem Kd (h:Heap)(b:Addr):(y0 h).get? b=none:=by
 cases e:(y0 h).get? b with
 | none=>rfl
 | some o=>exact absurd (Heap.lt_size e) (Nat.not_lt_zero _)
def Qc (h:Heap)(L d:Addr):List (Addr×Obj):=(aR h.objs.size).filterMap λa=>if a=L∨a=d then none else (h.get? a).map λo=>(a,o)
theorem fr_all {h:Heap}{L:Addr}{m:Str->Option Value}(n:h.Ns L m):Fr (y0 h) L h m:=
 ⟨n,λb o e=>(by rw[Kd]at e;cases e),aY _⟩
end
end Att
namespace L2
open PySem PySem.Spec PyProof.Rows
theorem Eu:∀{vs:List Value}{ns:List Int},IntsAre vs ns->Vals (ns.map V.int) vs
 | _,_,.nil=>.nil
 | _,_,.cons n t h=>.cons ⟨t,rfl⟩ (Eu h)
def y4 (H:Hp):Prop:=∀b,H b=none∨∃o xs,H b=some (.frz o (.lst xs))
theorem Ke {P:Program}{w:World}{K:W.Frag}{mg mb:Str->Option Value}{CX:CXT}{k:Nat}{fa a:Addr}{fd:FuncData}{x:Str}{sp:Sp}{s₁:Shared}{vs:List Value}{ns:List Int}
  (KX:K.In s₁.heap) (hns:s₁.heap.Ns mainGlobals mg) (hb:s₁.heap.Ns builtinsNs mb) (hbb:∀x:Str,x ≠ "__name__" -> mb x=bootBuiltins x) (hlim:s₁.heap.NoLimit) (hg:s₁.gens=#[])
  (ha:s₁.heap.get? a=some { cls:=.type "list",data:=.seq vs.toArray }) (hi:IntsAre vs ns) (hl:ns.length<=sizeLine) (hr:Room k callerA)
  (F:∀base:Heap,K.In base->base.Ns mainGlobals mg->FnOk P w K mg base CX k fa fd [x] sp) (hbind:∀(s:Shared) (u:Value),BindsTo s fd ⟨[u],[]⟩ [(x,u)])
  (hsp:∀H:Hp,y4 H->SqL K H a (ns.map V.int)->sp [.ref a] H (λv _=>v=.bl true) λ_ _ _=>False)
  (hCX:∀H e s',CX [] H s₁ (λ_ _ _=>False) e s'->False):
  codeAny (model P w) callerA (.call (.ref fa) ⟨[.ref a],[]⟩) (λr s'=>r=.ok (.ret (.bool true))∧OldK s₁.heap s'.heap∧s'.os=s₁.os∧AllBare s'.gens) s₁:=by
 have rv:=Eu hi;have lenV:=hi.length;have core:∀H:Hp,y4 H->SqL K H a (ns.map V.int)->HOk P w H s₁.heap->(∀b,H b≠none->b=a)->(H a≠none->K.lookup a=none)->
   codeAny (model P w) callerA (.call (.ref fa) ⟨[.ref a],[]⟩) (λr s'=>r=.ok (.ret (.bool true))∧OldK s₁.heap s'.heap∧s'.os=s₁.os∧AllBare s'.gens) s₁:=by
  intro H hO hS hok hA hK;have base_of:∀{b:Addr}{o:Obj},s₁.heap.get? b=some o->H b=none->(d9 s₁.heap H).get? b=some o:=λe n=>Jo e n;have noA:∀{b:Addr}{o:Obj}{es:Array DictEntry}{ep:Nat},s₁.heap.get? b=some o->o.data=.dict es ep->H b=none:=λ{b o es ep} e d=>by
   cases q:H b with
   | none=>rfl
   | some u=>
    have e':b=a:=hA b (by rw[q];simp);subst e';rw[ha]at e;cases e;have d':Data.seq vs.toArray _=Data.dict es ep:=d
    cases d'
  have nsK:∀{b:Addr}{m:Str->Option Value},s₁.heap.Ns b m->(d9 s₁.heap H).Ns b m:=λ{b m} ⟨o,es,ep,e,d,r⟩=>⟨o,es,ep,base_of e (noA e d),d,r⟩
  have hKb:K.In (d9 s₁.heap H):=λb o e=>base_of (KX b o e) (by
   cases q:H b with
   | none=>rfl
   | some u=>
    have e':b=a:=hA b (by rw[q];simp);subst e';rw[hK (by rw[q];simp)]at e;cases e)
  have hM:Mod K mg (d9 s₁.heap H):=⟨hKb,nsK hns,⟨mb,nsK hb,hbb⟩,let ⟨mc,h1,h2⟩:=hlim;⟨mc,nsK h1,h2⟩⟩
  have e0:Env0 P w K mg (d9 s₁.heap H) callerA [] s₁ H:=⟨rfl,hM,λb o e=>Jp e,Nat.le_of_eq (Jn _ _),trivial,λb hb=>absurd (show b∈([]:List Addr) from hb) (by simp),hok,.of_eq hg⟩
  refine codeAny_mono ((F _ hKb (nsK hns)).run callerA [] s₁ H ⟨[.ref a],[]⟩ [.ref a] [.ref a] _ _ hr e0 (hbind s₁ (.ref a)) (.cons rfl .nil) (hsp H hO hS)) λr s' h=>?_
  cases r with
  | error e=>exact (hCX H e s' h).elim
  | ok fl=>
   cases fl with
   | next=>exact False.elim h
   | brk=>exact False.elim h
   | cont=>exact False.elim h
   | ret u=>
    obtain⟨v,H',os,bare,un,hok',r',q⟩:=h;have q':v=.bl true:=q;subst q';obtain rfl:u=Value.bool true:=r';refine⟨rfl,OldK.of_keep λb o e=>?_,os,bare⟩
    cases q:H b with
    | none=>exact un.keep b o e q (by intro z;exact absurd (show b∈([]:List Addr) from z) (by simp)) (by simp)
    | some u=>
     rcases hO b with z|⟨ob,xs,z⟩
     ·rw[q]at z;cases z
     ·have z2:=un.frzs b ob _ z;obtain⟨e1,_⟩:=hok b _ z;obtain⟨e2,_⟩:=hok' b _ z2;rw[e]at e1;cases e1;exact e2
 cases hk:K.lookup a with
 | some o=>
  have e:=KX a o hk;rw[ha]at e
  cases e
  refine core (λ_=>none) (λ_=>.inl rfl) (.inr ⟨_,vs.toArray,_,hk,rfl,rfl,rfl,by rw[bW,lenV];exact hl,by simpa using rv⟩) (λb u z=>by have z':(none:Option HO)=some u:=z;cases z') (λb z=>absurd rfl z) λz=>absurd rfl z
 | none=>
  refine core (λb=>if b=a then some (.frz { cls:=.type "list",data:=.seq vs.toArray } (.lst (ns.map V.int))) else none) (λb=>?_) (.inl (.inr ⟨{ cls:=.type "list",data:=.seq vs.toArray },if_pos rfl⟩)) (λb u z=>?_) (λb z=>?_) λ_=>hk
  ·by_cases hb:b=a
   ·exact .inr ⟨_,_,if_pos hb⟩
   ·exact .inl (if_neg hb)
  ·by_cases hb:b=a
   ·have z':=(if_pos hb).symm.trans z
    cases z'
    subst hb;exact⟨ha,by rw[aB];exact hl,vs,_,rv,ha⟩
   ·have z':=(if_neg hb).symm.trans z
    cases z'
  ·by_cases hb:b=a
   ·exact hb
   ·exact absurd (if_neg hb) z
theorem Kf {l:PySem.W.OpenLaw}{n k:Nat}{q:Program}{loose:List Str}{XP:(Str->Option Value)->Heap->Prop}{YP:World->Heap->Prop}{d:DefRec}{K:Params->W.Frag}{CX:World->CXT}{sp:World->Sp}{x:Str}
  (hn:l.most=some n) (hn2:n<=sizeLine) (hdf:d.params.defaults=[]) (hr:Room k callerA)
  (hY:∀(w:World) (h:Heap),YP w h->(K w.params).In h)
  (F:∀(w:World) (mg:Str->Option Value) (fa:Addr) (h:Heap),(K w.params).In h->h.Ns mainGlobals mg->mg d.name=some (.ref fa)->
   ∃fd:FuncData,(∀(s:Shared) (u:Value),BindsTo s fd ⟨[u],[]⟩ [(x,u)])∧
    ∀base:Heap,(K w.params).In base->base.Ns mainGlobals mg->FnOk l.prog w (K w.params) mg base (CX w) k fa fd [x] (sp w))
  (hsp:∀(w:World) (H:Hp) (a:Addr) (ns:List Int),ns.length<=n->y4 H->SqL (K w.params) H a (ns.map V.int)->sp w [.ref a] H (λv _=>v=.bl true) λ_ _ _=>False)
  (hCX:∀(w:World) (H:Hp) (s:Shared) (e:Value) (s':Shared),CX w [] H s (λ_ _ _=>False) e s'->False):
  PySem.W.WalkO q loose XP YP l.row.toRowW d [] (λf vs=>PySem.call f vs):=by
 refine Att.attach_call hn hdf λw s₀ s₁ mg mb fa o pm cd doc a vs ns G Y ho hd hcd hmg hobj hints hlen hg=>?_;have KX:=hY w _ Y;obtain⟨fd,hb,hF⟩:=F w mg fa _ KX G.T.g hmg;exact Ke KX G.T.g G.T.b G.T.builtins G.T.nolimit hg hobj hints (aP hlen hn2) hr hF hb (λH hO hS=>hsp w H a ns hlen hO hS) λH e s'=>hCX w H s₁ e s'
def i9 (s:Stmt):Arguments:=match s with
 | .FunctionDef _ a _ _ _ _ _ _ _ _=>a
 | _=>{ posonlyargs:=[],args:=[],vararg:=none,kwonlyargs:=[],kw_defaults:=[],kwarg:=none,defaults:=[] }
def f6 (s:Stmt):List Stmt:=match s with
 | .FunctionDef _ _ b _ _ _ _ _ _ _=>b
 | _=>[]
def aA (s:Stmt):Scope:=match s with
 | .FunctionDef _ _ _ _ _ _ sc _ _ _=>sc
 | _=>{ kind:=.function,names:=[],isGenerator:=false,isCoroutine:=false }
abbrev CX0:CXT:=λ_ _ _ _ _ _=>False
abbrev E0:XK:=λ_ _ _=>False
theorem ai {X:Cx}:fq CX0 X E0:=λ_ _ _ _ _ _ _ h=>h.elim
structure Fun (K:W.Frag)(x qual:Str)(st:Stmt)(f:Addr)(fd:FuncData):Prop where
 ex:∃(oc:Value) (od:Option Addr) (kV doc pm:Value) (an:Option Addr) (cdv ct:Value) (osl:Array (Option Value)),
  fd=PySem.W.fnOf x qual (i9 st) (f6 st) (aA st) .none kV doc pm an cdv ct∧K.lookup f=some ⟨oc,od,.func fd,osl⟩∧PySem.W.codeIn K cdv qual=true
 kp:PySem.W.keepIn K (.ref f)=true
section
variable {P:Program}{w:World}{K:W.Frag}{mg:Str->Option Value}{base:Heap}
theorem Fun.ok {x qual:Str}{st:Stmt}{f:Addr}{fd:FuncData}{N ps:List Str}{k:Nat}{sp:Sp}(F:Fun K x qual st f fd) (S:FnScope N ps (aA st)) (len:∀vs H Q E,sp vs H Q E->vs.length=ps.length)
  (hbody:∀(cdv:Value) (A:Around) (outer:List Env) (s:Shared) (H:Hp) (vs:List V) (Q:VK) (E:XK),Room k (A.deeper (envOfC qual (aA st) s.heap.objs.size f cdv))->sp vs H Q E->
   ∃t,PSs (cz CX0 P w K mg base N qual (aA st) f cdv A outer s H E).nox (f6 st) t∧t { nx:=λ_ H'=>Q .non H',rt:=Q } (dM N vs) H):FnOk P w K mg base CX0 (k+1) f fd ps sp:=by
 obtain⟨oc,od,kV,doc,pm,an,cdv,ct,osl,rfl,lk,hcd⟩:=F.ex;refine D_ lk hcd S len λA outer s H vs Q E hr hsp=>?_;obtain⟨t,h,q⟩:=hbody cdv A outer s H vs Q E hr hsp;exact⟨t,h.nox,q⟩
theorem Fun.binds {x qual:Str}{st:Stmt}{f:Addr}{fd:FuncData}{ps:List Str}(F:Fun K x qual st f fd)
  (h:∀(kV doc pm:Value) (an:Option Addr) (cdv ct:Value) (us:List Value),us.length=ps.length->bindArgs (PySem.W.fnOf x qual (i9 st) (f6 st) (aA st) .none kV doc pm an cdv ct) ⟨us,[]⟩=pure (ps.zip us)):Binds K fd ps []:=by
 obtain⟨oc,od,kV,doc,pm,an,cdv,ct,osl,rfl,lk,hcd⟩:=F.ex;exact .all (h kV doc pm an cdv ct)
theorem Kg {x qual:Str}{st:Stmt}{f:Addr}{oc:Value}{od an:Option Addr}{osl:Array (Option Value)}{kV doc pm cdv ct:Value}(l:K.lookup f=some ⟨oc,od,.func (PySem.W.fnOf x qual (i9 st) (f6 st) (aA st) .none kV doc pm an cdv ct),osl⟩)
  (c:PySem.W.codeIn K cdv qual=true) (k:PySem.W.keepIn K (.ref f)=true):Fun K x qual st f (PySem.W.fnOf x qual (i9 st) (f6 st) (aA st) .none kV doc pm an cdv ct):=⟨⟨oc,od,kV,doc,pm,an,cdv,ct,osl,rfl,l,c⟩,k⟩
end
theorem bB {n:Nat}(h:n<=1000):n<sizeLine:=cr h (by decide)
section
variable {X:Cx}
theorem pv (i:Nat){x:Str}{pos:Pos}(hN:X.N[i]?=some x:=by rfl) (hv:Vis X.env.scope x:=by first|exact Or.inl rfl|exact Or.inr (Or.inl rfl)|exact Or.inr (Or.inr rfl)) (hd:(x == ("__debug__" : Str))=false:=by decide)
  (hcd:(x == ("__classdict__" : Str))=false:=by decide):PE X (.Name x pos) (yK i):=Js hN hv hd hcd
end
theorem bC {c A B:Prop}[Decidable c](h1:c->A)(h2:¬c->B):if c then A else B:=by
 by_cases h:c
 ·rw[if_pos h];exact h1 h
 ·rw[if_neg h];exact h2 h
def Same (H H':Hp):Prop:=∀b o,H b=some o->H' b=some o
theorem Same.refl (H:Hp):Same H H:=λ_ _ h=>h
theorem Same.trans {H H1 H2:Hp}(a:Same H H1)(b:Same H1 H2):Same H H2:=λc o h=>b c o (a c o h)
theorem Same.free {H H':Hp}(e:Same H H'){l:Addr}(h:H' l=Option.none):H l=Option.none:=by
 cases q:H l with
 | none=>rfl
 | some o=>
  rw[e l o q]at h
  cases h
theorem Same.seq {K:W.Frag}{H H':Hp}{a:Addr}{xs:List V}(e:Same H H')(h:SqL K H a xs):SqL K H' a xs:=by
 rcases h with (h|⟨o,h⟩)|h
 ·exact .inl (.inl (e _ _ h))
 ·exact .inl (.inr ⟨o,e _ _ h⟩)
 ·exact .inr h
@[reducible] def blk (X:Cx) (x:Str) (fv:List (Nat×Str)) (scope:Scope) (cl:List (Str×Addr)) (C:Addr) (s:Shared) (H:Hp) (fp:List Addr):Cx where
 prog:=X.prog
 w:=X.w
 K:=X.K
 mg:=X.mg
 base:=X.base
 A:=X.A
 N:=x :: fv.map (·.2)
 s₀:=s
 H₀:=H
 env:=compEnvC scope cl C X.env
 outer:=X.stack
 stack:=X.stack
 ex:=fp
 fn:=λ_=>false
 calm:=X.calm
 pn:=[]
 xe:=λ_ _=>False
def bst (fv:List (Nat×Str))(σ:St)(v:Option V):St:=v :: fv.map λp=>(σ[p.1]?).getD none
structure BlkOk (X:Cx)(x:Str)(fv:List (Nat×Str))(scope:Scope)(cl:List (Str×Addr)):Prop where
 clos:closureFor scope X.env=pure cl
 nocell:∀y∈scope.names,y.2≠.cell
 kind:scope.kind=.function
 names:∀y∈scope.names,y.2=.local->scope.names.lookup y.1=some .local
 here:scope.names.lookup x=some .local
 sub:∀y c,cl.lookup y=some c->X.env.cells.lookup y=some c
 has:∀y,((relabel scope X.env).names.lookup y=some .cell∨(relabel scope X.env).names.lookup y=some .free)->∃c,cl.lookup y=some c
 fvs:∀p∈fv,p.2≠x∧X.N[p.1]?=some p.2∧(X.env.scope.names.lookup p.2=some .cell∨X.env.scope.names.lookup p.2=some .free)∧
  ((relabel scope X.env).names.lookup p.2=some .cell∨(relabel scope X.env).names.lookup p.2=some .free)∧∃c,cl.lookup p.2=some c
theorem pG {prog:Program}{w:World}{A:Around}{R:Result->Shared->Prop}{s:Shared}{elt target iter:Expr}{scope:Scope}{pos:Pos}{it acc:Value}{env:Env}(I:Nat->Shared->Prop)
  (turn:∀n s (E:Value->Shared->Prop),I n s->wpAny (model prog w) A (pyNext it) (λr s₁=>match r with
   | none=>R (.ok .next) s₁
   | some v=>wpAny (model prog w) A (letOwnedTupleGo target it v) (λ_ s₂=>wpAny (model prog w) A (assign target env v) (λ_ s₃=>wpAny (model prog w) A (eval elt env) (λx s₄=>
     wpAny (model prog w) A (call (.builtin "list.append") [acc,x]) (λ_ s₅=>∃m,m<n∧I m s₅) E s₄) E s₃) E s₂) E s₁) E s)
  (n:Nat) (h:I n s):
  codeAny (model prog w) A (.compLoop (.ListComp elt [⟨target,iter,[],0⟩] scope pos) 0 it acc env) R s:=by
 refine codeAny_loop rfl I (λn s hI=>?_) n h;show wpAny _ _ ((compTurn (.ListComp elt [⟨target,iter,[],0⟩] scope pos) 0 it acc env).onRaise (λx=>do noteFrame x env;theTreesLotGoes x)) _ _ s;refine wpAny_noted ?_;rw[PySem.compTurn_list1];refine wpAny_bind (wpAny_standAt (wpAny_bind (wpAny_mono (turn n s _ hI) (λr s₁ h₁=>?_) λ_ _ h'=>h')))
 cases r with
 | none=>exact wpAny_pure h₁
 | some v=>
  exact wpAny_bind (thn h₁ λ_ s₂ h₂=>wpAny_bind (thn h₂ λ_ s₃ h₃=>wpAny_bind (wpAny_bind (thn h₃ λx s₄ h₄=>wpAny_bind (thn h₄ λ_ s₅ h₅=>wpAny_pure (wpAny_pure ⟨rfl,h₅⟩))))))
section
variable {X:Cx}{elt iter:Expr}{x:Str}{px:Pos}{fv:List (Nat×Str)}{scope:Scope}{cl:List (Str×Addr)}{pos:Pos}{te:TE}{wi:TI}
def pH (fv:List (Nat×Str))(wi:TI)(te:TE):TE:=λσ H Q=>wi σ H λJ H1=>∀D,H1 D=none->∃W:Nat->Nat->Hp->Prop,(∃m,W 0 m (upd H1 D (.lst [])))∧∀i m H,W i m H->
 (J.stop i H∧Q (.ref D) H)∨(J.go i H∧∃N:Hp->Prop,(∀H',N H'->∃m',m'<m∧W (i+1) m' H')∧∀v H',J.yld i H v H'->te (bst fv σ (some v)) H' λy H2=>∃ys,H2 D=some (.lst ys)∧ys.length<sizeLine∧N (upd H2 D (.lst (ys++[y]))))
theorem Kh {Xj:List (Addr×Obj)}{σ:St}{H:Hp}{s:Shared}{fp:List Addr}{C:Addr}(B:BlkOk X x fv scope cl)(I:Inv X Xj σ H s)(hf:∀b∈fp,a8 X Xj H b)(hC:s.heap.objs.size<=C)(hfC:∀b∈fp,b≠C):
  (blk X x fv scope cl C s H fp).Ok where
 mod:=I.ok.mod
 kind:=B.kind
 glob:=I.ok.glob
 blt:=I.ok.blt
 above:=hC
 inj:=λy z c h1 h2=>I.ok.inj y z c (B.sub y c h1) (B.sub z c h2)
 has:=λy hy=>B.has y hy
 cab:=λy c h=>nomatch h
 hd:=I.ok.hd
 frames:=I.ok.frames
 stk:=.inl rfl
 exf:=λb hb=>⟨hfC b hb,λy c e=>(hf b hb).2.2.2.2.1 y c (B.sub y c e)⟩
 bs:=I.bs
 bsz:=aP I.ok.bsz I.sz
 noex:=λb o e hb=>by
  obtain⟨_,_,_,f3,_⟩:=hf b hb;rcases f3 with z|z
  ·exact I.ok.noex b o e z
  ·exact absurd (a_ (Heap.lt_size e) (aP I.ok.bsz z)) (eT _)
 exfs:=λb hb hs=>by
  obtain⟨_,f1,f2,_⟩:=hf b hb;rcases aH.mp (I.stkSub b hs) with z|z
  ·exact f1 z
  ·exact f2 z
 funs:=I.stack
 frf:=I.stkFree
theorem y6 {fv:List (Nat×Str)}{σ:St}{o:Option V}{j:Nat}{y:Str}{v:V}(h1:(x :: fv.map (·.2))[j+1]?=some y)(h2:(bst fv σ o)[j+1]?=some (some v)):∃p∈fv,p.2=y∧σ[p.1]?=some (some v):=by
 have e1:(fv.map (·.2))[j]?=some y:=by simpa using h1
 have e2:(fv.map λp=>(σ[p.1]?).getD none)[j]?=some (some v):=by simpa [bst] using h2
 rw[aQ]at e1 e2
 cases q:fv[j]? with
 | none=>rw[q]at e1;cases e1
 | some p=>
  rw[q]at e1 e2;refine⟨p,ci q,Option.some.inj e1,?_⟩;have e3:(σ[p.1]?).getD none=some v:=Option.some.inj e2
  cases r:σ[p.1]? with
  | none=>rw[r]at e3;cases e3
  | some w=>rw[r]at e3;exact congrArg some e3
theorem Ki {Xj:List (Addr×Obj)}{σ:St}{H:Hp}{s s4:Shared}{fp:List Addr}{C:Addr}{m:Str->Option Value}(B:BlkOk X x fv scope cl) (I:Inv X Xj σ H s) (hf:∀b∈fp,a8 X Xj H b) (hC:C=s.heap.objs.size)
  (hfC:∀b∈fp,b≠C) (os:s4.os=s.os) (gens:s4.gens=s.gens) (keep:∀b o,s.heap.get? b=some o->s4.heap.get? b=some o) (ns:s4.heap.Ns C m):
  Inv (blk X x fv scope cl C s H fp) [] (bst fv σ none) H s4:=by
 subst hC;refine⟨Kh B I hf (aw _) hfC,os,by rw[gens];exact I.bare,Un.kept keep,⟨m,ns,λi y v h1 h2 h3=>?_⟩,λy c e=>?_,I.hok.fresh (aw _),λy c e=>I.freeC y c (B.sub y c e),λp hp=>absurd (show p∈([]:List (Addr×Obj)) from hp) (by simp),I.hok.kept keep,by simp[bst]⟩
 ·cases i with
  | zero=>simp[bst]at h2
  | succ j=>
   obtain⟨p,hp,rfl,hv⟩:=y6 h1 h2;obtain⟨_,hN,hk,hk2,c,hc⟩:=B.fvs p hp;obtain⟨m0,_,hl⟩:=I.loc;have vis:Vis X.env.scope p.2:=hk.elim (λz=>.inr (.inl z)) λz=>.inr (.inr z);obtain⟨u,r,l⟩:=hl p.1 p.2 v hN hv vis;refine⟨u,r,.inr ⟨hk2,c,hc,?_⟩⟩;rcases l with ⟨z,_⟩|⟨_,c',hc',o,ho,hd⟩
   ·have z':X.env.scope.names.lookup p.2=some .local:=z;rcases hk with k|k <;> (rw[k]at z';cases z')
   ·have:=B.sub p.2 c hc;rw[hc']at this;cases this;exact⟨o,keep _ o ho,hd⟩
 ·obtain⟨v,o,ho,hd⟩:=I.cell y c (B.sub y c e);exact⟨v,o,keep c o ho,hd⟩
theorem Kj {pins':List (Addr×Obj)}{σ:St}{H H0:Hp}{s s5:Shared}{fp:List Addr}{C:Addr}{o:Option V}{v:V}{u:Value}{E:Value->Shared->Prop}{Q:Unit->Shared->Prop}(B:BlkOk X x fv scope cl)
  (I:Inv (blk X x fv scope cl C s H0 fp) pins' (bst fv σ o) H s5) (r:RelV v u) (h:∀s6,Inv (blk X x fv scope cl C s H0 fp) pins' (bst fv σ (some v)) H s6->Q () s6):
  wpAny (model X.prog X.w) X.A (assign (.Name x px) (compEnvC scope cl C X.env) u) Q E s5:=by
 obtain⟨m,hn,hl⟩:=id I.loc;have hk:(relabel scope X.env).names.lookup x=some .local:=lookup_relabel_local B.here;have hcls:((compEnvC scope cl C X.env).scope.kind == .class || ((compEnvC scope cl C X.env).scope.kind == .module && (compEnvC scope cl C X.env).locals != (compEnvC scope cl C X.env).globals))=false:=by
  have:(compEnvC scope cl C X.env).scope.kind=.function:=B.kind;rw[this];rfl
 refine wpAny_assign_Name (wpAny_storeName_local hk hn (λh' hn' hs=>?_) hcls);have cne:=I.cne;obtain⟨oL,_,_,hoL,_⟩:=id hn;have tracked:HOk X.prog X.w H h':=λb ob e=>by
  refine (I.hok b ob e).stay (λc w' hc q=>(hs.2 c ?_).trans q) (λ_ q=>q) λ_ _ q=>q;intro z;have z':c=C:=z;have fr:H C=none:=I.free;rcases hc with hc|hc
  ·rw[←hc,z',fr]at e;cases e
  ·rw[z',fr]at hc;cases hc
 refine h _ ⟨I.ok,I.os,I.bare,⟨λb o e n hb hx=>?_,λb o e n hb hx=>?_,I.base.free,λb o e hx=>?_,I.base.tups,I.base.frzs,I.base.tbls⟩,⟨_,hn',λj y v' e1 e2 e3=>?_⟩,λy c e=>?_,I.free,I.freeC,λp hp=>?_,tracked,by simp[bst]⟩
 ·exact (hs.2 b (aO (a_ (Heap.lt_size e) I.ok.above))).trans (I.base.keep b o e n hb hx)
 ·obtain⟨sl,e1⟩:=I.base.slot b o e n hb hx;exact⟨sl,(hs.2 b (aO (a_ (Heap.lt_size e) I.ok.above))).trans e1⟩
 ·obtain⟨o',e1⟩:=I.base.there b o e hx;exact⟨o',(hs.2 b (aO (a_ (Heap.lt_size e) I.ok.above))).trans e1⟩
 ·cases j with
  | zero=>
   have e1':x=y:=by simpa using e1
   subst e1';have e2':v=v':=by simpa [bst] using e2
   subst e2';exact⟨u,r,.inl ⟨hk,by simp⟩⟩
  | succ j=>
   have e2':(bst fv σ o)[j+1]?=some (some v'):=by simpa [bst] using e2
   obtain⟨u',r',q⟩:=hl (j+1) y v' e1 e2' e3;refine⟨u',r',?_⟩;obtain⟨p,hp,rfl,_⟩:=y6 e1 e2;rcases q with ⟨k,e⟩|⟨k,c,e,z⟩
   ·exact .inl ⟨k,by simp[(B.fvs p hp).1,e]⟩
   ·exact .inr ⟨k,c,e,z.sameBut hs (cne _ c e)⟩
 ·obtain⟨w',z⟩:=I.cell y c e;exact⟨w',z.sameBut hs (cne y c e)⟩
 ·obtain⟨e,n,ne,nf,d⟩:=I.pin p hp;exact⟨(hs.2 p.1 ne).trans e,n,ne,nf,d⟩
theorem Ev {Xj:List (Addr×Obj)}{σ:St}{H:Hp}{s2:Shared}{it:Addr}{fp:List Addr}{tn:Nat->Heap->Prop}{J:It}{Q:VK}{E:Value->Shared->Prop}{RR:Value->Addr->Result->Shared->Prop}
  (hc:X.calm=true) (B:BlkOk X x fv scope cl) (he:∀C s H fp,PE (blk X x fv scope cl C s H fp) elt te) (I:Inv X Xj σ H s2) (T:Turn X.prog X.w X.K (.Name x px) J fp it tn) (st:tn 0 s2.heap) (hf:∀b∈fp,a8 X Xj H b)
  (rd:∀D,H D=none->∃W:Nat->Nat->Hp->Prop,(∃m,W 0 m (upd H D (.lst [])))∧∀i m H,W i m H->
   (J.stop i H∧Q (.ref D) H)∨(J.go i H∧∃N:Hp->Prop,(∀H',N H'->∃m',m'<m∧W (i+1) m' H')∧∀v H',J.yld i H v H'->te (bst fv σ (some v)) H' λy H2=>∃ys,H2 D=some (.lst ys)∧ys.length<sizeLine∧N (upd H2 D (.lst (ys++[y])))))
  (hRR:∀D C s' H' m',Inv X Xj σ H' s'->a8 X Xj H' C->s'.heap.Ns C m'->Q (.ref D) H'->RR (.ref D) C (.ok .next) s'):
  wpAny (model X.prog X.w) X.A (newList []) (λacc s₃=>wpAny (model X.prog X.w) X.A (newFunctionEnv scope X.env.globals cl [] X.env.qual none .none (some X.env)) (λcenv s₄=>
   codeAny (model X.prog X.w) X.A (.compStart (.ListComp elt [⟨.Name x px,iter,[],0⟩] scope pos) 0 (.ref it) acc { cenv with scope:=relabel scope X.env }) (RR acc cenv.locals) s₄) E s₃) E s2:=by
 refine wpAny_newObj_type ?_ (by show 0<=sizeLine;exact aY _);have hD:H s2.heap.objs.size=none:=I.hok.fresh (aw _);have I3:=I.lnew (ys:=[]) (its:=[]) (t':=s2.toks) .nil (aY _);generalize hs3:({ s2 with heap:=s2.heap.push { cls:=.type "list",data:=.seq ([]:List Value).toArray },toks:=s2.toks }:Shared)=s3 at I3;have sz3:s3.heap.objs.size=s2.heap.objs.size+1:=by rw[←hs3];exact Heap.size_push ..
 have up3:∀b o,s2.heap.get? b=some o->s3.heap.get? b=some o:=λb o e=>by rw[←hs3];exact Heap.get?_push_of_some _ e
 have hf3:∀b∈fp,a8 X Xj (upd H s2.heap.objs.size (.lst [])) b:=λb hb=>by
  obtain⟨f0,r⟩:=hf b hb;refine⟨?_,r⟩;obtain⟨o,e,_⟩:=T.obj 0 _ st b hb;rw[aq (aO (Heap.lt_size e))];exact f0
 have ltf:∀b∈fp,b<s2.heap.objs.size:=λb hb=>by
  obtain⟨o,e,_⟩:=T.obj 0 _ st b hb;exact Heap.lt_size e
 have st3:tn 0 s3.heap:=T.keep 0 _ _ st λb _ o e=>up3 b o e;obtain⟨W,⟨m0,w0⟩,turn⟩:=rd _ hD;refine wpAny_newFunctionEnv B.nocell (by intro y hy;simp at hy) (λh₁ hns₁ hsb₁=>?_) B.kind;have hfC:∀b∈fp,b≠s3.heap.objs.size:=λb hb=>aO (by rw[sz3];exact gh (ltf b hb));have up4:∀b o,s3.heap.get? b=some o->h₁.get? b=some o:=λb o e=>hsb₁.extBut b o (aO (Heap.lt_size e)) (Heap.get?_push_of_some _ e);generalize hs4:({ s3 with heap:=h₁,toks:=s3.toks+([]:List (Str×Value)).length }:Shared)=s4;have h4:s4.heap=h₁:=by rw[←hs4]
 have I4:Inv (blk X x fv scope cl s3.heap.objs.size s3 (upd H s2.heap.objs.size (.lst [])) fp) [] (bst fv σ none) (upd H s2.heap.objs.size (.lst [])) s4:=
  Ki B I3 hf3 rfl hfC (by rw[←hs4]) (by rw[←hs4]) (λb o e=>by rw[h4];exact up4 b o e) (by rw[h4];exact hns₁)
 have st4:tn 0 s4.heap:=by rw[h4];exact T.keep 0 _ _ st3 λb _ o e=>up4 b o e
 have stat:∀{H':Hp},(∀b∈fp,H' b=none)->∀b∈fp,a8 (blk X x fv scope cl s3.heap.objs.size s3 (upd H s2.heap.objs.size (.lst [])) fp) [] H' b:=λ{H'} hn b hb=>by
  obtain⟨_,f1,f2,f3,f4,f5⟩:=hf b hb;refine⟨hn b hb,hfC b hb,λz=>?_,.inl hb,λy c e=>f4 y c (B.sub y c e),λp hp=>absurd (show p∈([]:List (Addr×Obj)) from hp) (by simp)⟩;rcases aH.mp (I.stkSub b z) with q|q
  ·exact f1 q
  ·exact f2 q
 have loop:codeAny (model X.prog X.w) X.A (.compLoop (.ListComp elt [⟨.Name x px,iter,[],0⟩] scope pos) 0 (.ref it) (.ref s2.heap.objs.size) (compEnvC scope cl s3.heap.objs.size X.env)) (RR (.ref s2.heap.objs.size) s3.heap.objs.size) s4:=by
  refine pG (λn s'=>∃i H' o,Inv (blk X x fv scope cl s3.heap.objs.size s3 (upd H s2.heap.objs.size (.lst [])) fp) [] (bst fv σ o) H' s'∧tn i s'.heap∧(∀b∈fp,H' b=none)∧W i n H') ?_ m0
   ⟨0,_,none,I4,st4,λb hb=>(hf3 b hb).1,w0⟩
  rintro n s5 E' ⟨i,H5,o5,I5,st5,fr5,w5⟩
  rcases turn i n H5 w5 with ⟨stop,q⟩|⟨go,N,hN,step⟩
  ·refine thn (T.done (blk X x fv scope cl s3.heap.objs.size s3 (upd H s2.heap.objs.size (.lst [])) fp) rfl rfl rfl hc i [] s5 _ H5 _ I5 (stat fr5) st5 stop) λr s6 ⟨hr,I6⟩=>?_;subst hr;obtain⟨m6,hn6,_⟩:=I6.loc;have un:Un (frs X.stack) fp H H5 s2.heap s6.heap:=by
    have u1:Un (frs X.stack) fp H (upd H s2.heap.objs.size (.lst [])) s2.heap s3.heap:=Un.laid up3 (aw _) hD;exact u1.trans I6.base
   have J6:Inv X Xj σ H5 s6:=by
    refine I.call' ?_ un I6.hok I6.bare λb hb=>?_
    ·have:=I6.os;rw[show (blk X x fv scope cl s3.heap.objs.size s3 (upd H s2.heap.objs.size (.lst [])) fp).s₀.os=s2.os by rw[←hs3]]at this;exact this
    ·obtain⟨_,f1,f2,f3,f4,f5⟩:=hf b hb;exact⟨f3,f1,f4,f5⟩
   refine hRR _ _ s6 H5 m6 J6 ?_ hn6 q;exact I3.fpOk (aw _) I6.free
  ·refine thn (T.item (blk X x fv scope cl s3.heap.objs.size s3 (upd H s2.heap.objs.size (.lst [])) fp) rfl rfl rfl hc i [] s5 _ H5 _ I5 (stat fr5) st5 go) λr s6 ⟨u,hr,h6⟩=>?_;subst hr;refine thn h6 λ_ s7 ⟨v,H7,I7,r7,y7,st7,fr7⟩=>?_;have I7':=I7.pinned (stat fr7) (T.obj _ _ st7);refine Kj B I7' r7 λs8 I8=>?_;have e8:=he _ _ _ _ _ s8 _ H7 _ I8 (step v H7 y7);refine wpAny_mono e8 (λy s9 ⟨yv,H9,I9,r9,ys,hD9,hz,n9⟩=>?_) λ_ _ z=>False.elim z;have a9:=el (X:=blk X x fv scope cl s3.heap.objs.size s3 (upd H s2.heap.objs.size (.lst [])) fp) _ s9 _ H9 (.ref s2.heap.objs.size) [yv] (.ref s2.heap.objs.size) [y] (λ_ H10=>H10=upd H9 s2.heap.objs.size (.lst (ys++[yv]))) I9 rfl (.cons r9 .nil)
    ⟨_,ys,yv,rfl,rfl,hD9,hz,rfl⟩
   refine wpAny_mono a9 (λ_ s10 ⟨_,H10,I10,_,e10⟩=>?_) λ_ _ z=>False.elim z;subst e10;obtain⟨m',hm,w9⟩:=hN _ n9;refine⟨m',hm,i+1,_,some v,I10.unpinned,T.keep _ _ _ st7 λb hb o e=>(I10.pin (b,o) (bE _ (bE _ (cS hb e)))).1,λb hb=>?_,w9⟩;obtain⟨o,e,_⟩:=T.obj _ _ st7 b hb;exact (I10.pin (b,o) (bE _ (bE _ (cS hb e)))).2.1
 exact codeAny_compStart_list loop (T.self _ 0 _ _ _ st4 loop)
end
section
variable {X:Cx}{elt iter:Expr}{x:Str}{px:Pos}{fv:List (Nat×Str)}{scope:Scope}{cl:List (Str×Addr)}{pos:Pos}{te:TE}{wi:TI}
theorem cD (hc:X.calm=true) (B:BlkOk X x fv scope cl) (hi:PI X (.Name x px) iter wi) (he:∀C s H fp,PE (blk X x fv scope cl C s H fp) elt te)
  (hs:∀v,foldedSetIterable iter X.env v=pure v:=by intro _;rfl):PE X (.ListComp elt [⟨.Name x px,iter,[],0⟩] scope pos) (pH fv wi te):=by
 intro Xj s σ H Q I h;rw[eval_ListComp];refine wpAny_comprehension_free (use:=none) rfl hs B.clos B.kind B.names (thn (hi Xj s σ H _ I h) λv s1 h1=>thn h1 λitv s2 h2=>?_);obtain⟨it,fp,tn,J,H2,e,I2,T,st2,f2,rd⟩:=h2;subst e;refine Ev (RR:=λacc C=>compPost (model X.prog X.w) X.A X.xe none (EP X Xj σ Q) acc C) hc B he I2 T st2 f2 rd ?_;intro D C s' H' m' I' fC hn q;exact⟨m',hn,λh' sb=>⟨.ref D,H',I'.turned (t':=s'.toks) (λb o hb e=>(sb.2 b hb).trans e) fC.1 fC.2.1 fC.2.2.2.1 fC.2.2.2.2.1 fC.2.2.2.2.2,rfl,q⟩⟩
theorem Ew {i:Nat}{y:Str}{py spos:Pos}(hc:X.calm=true) (B:BlkOk X x fv scope cl) (hi:PI X (.Name x px) iter wi) (he:∀C s H fp,PE (blk X x fv scope cl C s H fp) elt te)
  (hN:X.N.Nodup) (hiy:X.N[i]?=some y) (hy:X.env.scope.names.lookup y=some .local)
  (hsw:swapsWith (.ListComp elt [⟨.Name x px,iter,[],0⟩] scope pos) (some (.Name y py)) spos.line X.env=pure true:=by rfl)
  (hs:∀v,foldedSetIterable iter X.env v=pure v:=by intro _;rfl):
  PS X (.Assign [.Name y py] (.ListComp elt [⟨.Name x px,iter,[],0⟩] scope pos) spos) (gq (pH fv wi te) (cQ i)):=by
 intro Xj s σ H D I h;rw[exec_Assign_Name_used _ _ _ _ hsw];refine wpAny_bind (wpAny_standAt (wpAny_bind ?_));show wpAny _ X.A (do let _ ←comprehension (.ListComp elt [⟨.Name x px,iter,[],0⟩] scope pos) scope X.env _ (newList []) false (eval iter X.env) (some (assign (.Name y py) X.env))) _ _ s;refine wpAny_bind (wpAny_mono (wpAny_comprehension_free (use:=some (assign (.Name y py) X.env)) (Q:=λ_ s'=>SP X Xj D .next s') rfl hs B.clos B.kind B.names
  (thn (hi Xj s σ H _ I h) λv s1 h1=>thn h1 λitv s2 h2=>?_)) (λ_ s' hq=>wpAny_pure (wpAny_pure hq)) λ_ _ e=>e)
 obtain⟨it,fp,tn,J,H2,e,I2,T,st2,f2,rd⟩:=h2;subst e;refine Ev (Q:=λx H1=>cQ i x σ H1 D.nx) (RR:=λacc C=>compPost (model X.prog X.w) X.A X.xe (some (assign (.Name y py) X.env)) (λ_ s'=>SP X Xj D .next s') acc C) hc B he I2 T st2 f2 rd ?_;intro Dl C s' H' m' I' fC hn q;show wpAny _ X.A (assign (.Name y py) X.env (.ref Dl)) _ _ _;refine wpAny_assign_Name (o9 I' hN hiy (.inl hy) (v:=.ref Dl) rfl (λs'' I'' hab=>?_) (.inr hy));obtain⟨a,sb,ha⟩:=hab;have hCa:C≠a:=by
  rcases ha with rfl|e
  ·exact fC.2.1
  ·exact Ne.symm (fC.2.2.2.2.1 _ _ e)
 exact⟨m',hn.sameBut sb hCa,λh' sb'=>⟨_,H',I''.turned (t':=s''.toks) (λb o hb e=>(sb'.2 b hb).trans e) fC.1 fC.2.1 fC.2.2.2.1 fC.2.2.2.2.1 fC.2.2.2.2.2,q⟩⟩
end
def Ex (lo c:Int)(n:Nat):It:=⟨λi _=>i<n,λi H x H'=>H'=H∧x=.int (lo+i*c),λi _=>n<=i⟩
section
variable {X:Cx}{tg:Expr}
def Kk (ta:TA):TI:=λσ H R=>ta σ H λvs H1=>∃(i j k:Int) (n:Nat),vs=[.int i,.int j,.int k]∧k≠0∧k.natAbs<1073741824∧Builtin.Range.small i j k=true∧Builtin.Range.rangeSize i j k=n∧R (Ex i k n) H1
end
theorem Kl {K:W.Frag}{a:Addr}{xs:List V}{fv:List (Nat×Str)}{te:TE}{Q:VK}{σ:St}{H1:Hp}{D:Addr}(Pv:Nat->Hp->Prop) (h0:Pv 0 (upd H1 D (.lst []))) (hl:∀i H,i<=xs.length->Pv i H->SqL K H a xs)
  (hs:∀i v H,xs[i]?=some v->Pv i H->te (bst fv σ (some v)) H λy H2=>∃ys,H2 D=some (.lst ys)∧ys.length<sizeLine∧Pv (i+1) (upd H2 D (.lst (ys++[y])))) (hd:∀H,Pv xs.length H->Q (.ref D) H):
  ∃W:Nat->Nat->Hp->Prop,(∃m,W 0 m (upd H1 D (.lst [])))∧∀i m H,W i m H->
   ((Itl K a).stop i H∧Q (.ref D) H)∨((Itl K a).go i H∧∃N:Hp->Prop,(∀H',N H'->∃m',m'<m∧W (i+1) m' H')∧∀v H',(Itl K a).yld i H v H'->te (bst fv σ (some v)) H' λy H2=>∃ys,H2 D=some (.lst ys)∧ys.length<sizeLine∧N (upd H2 D (.lst (ys++[y])))):=by
 refine⟨λi m H=>m=xs.length-i∧i<=xs.length∧Pv i H,⟨xs.length,by simp,aY _,h0⟩,?_⟩
 rintro i m H ⟨rfl,hi,p⟩
 have q:=hl i H hi p;by_cases hlt:i<xs.length
 ·refine .inr ⟨⟨xs,xs[i],q,aJ hlt⟩,Pv (i+1),λH' p'=>⟨xs.length-(i+1),by omega,rfl,hlt,p'⟩,λv H' y=>?_⟩;obtain⟨e,y⟩:=y;subst e;exact hs i v _ (y xs q) p
 ·have e:i=xs.length:=by omega
  subst e;exact .inl ⟨⟨xs,q,aw _⟩,hd H p⟩
theorem Km {lo:Int}{n:Nat}{fv:List (Nat×Str)}{te:TE}{Q:VK}{σ:St}{H1:Hp}{D:Addr}(Pv:Nat->Hp->Prop) (h0:Pv 0 (upd H1 D (.lst [])))
  (hs:∀i H,i<n->Pv i H->te (bst fv σ (some (.int (lo+i)))) H λy H2=>∃ys,H2 D=some (.lst ys)∧ys.length<sizeLine∧Pv (i+1) (upd H2 D (.lst (ys++[y])))) (hd:∀H,Pv n H->Q (.ref D) H):
  ∃W:Nat->Nat->Hp->Prop,(∃m,W 0 m (upd H1 D (.lst [])))∧∀i m H,W i m H->
   ((Itr lo n).stop i H∧Q (.ref D) H)∨((Itr lo n).go i H∧∃N:Hp->Prop,(∀H',N H'->∃m',m'<m∧W (i+1) m' H')∧∀v H',(Itr lo n).yld i H v H'->te (bst fv σ (some v)) H' λy H2=>∃ys,H2 D=some (.lst ys)∧ys.length<sizeLine∧N (upd H2 D (.lst (ys++[y])))):=by
 refine⟨λi m H=>m=n-i∧i<=n∧Pv i H,⟨n,by simp,aY _,h0⟩,?_⟩
 rintro i m H ⟨rfl,hi,p⟩
 by_cases hlt:i<n
 ·refine .inr ⟨hlt,Pv (i+1),λH' p'=>⟨n-(i+1),by omega,rfl,hlt,p'⟩,λv H' y=>?_⟩;obtain⟨e,y⟩:=y;subst e y;exact hs i _ hlt p
 ·have e:i=n:=by omega
  subst e;exact .inl ⟨aw _,hd H p⟩
theorem bZ {cells:List (Str×Addr)}:∀y c,([]:List (Str×Addr)).lookup y=some c->cells.lookup y=some c:=λ_ _ h=>nomatch h
theorem bu {n:Str}{c0:Addr}{r cells:List (Str×Addr)}(h0:cells.lookup n=some c0)(h:∀y c,r.lookup y=some c->cells.lookup y=some c):∀y c,((n,c0) :: r).lookup y=some c->cells.lookup y=some c:=λy c q=>by
 rw[Ak]at q
 cases e:y == n with
 | true=>
  rw[e]at q
  cases q
  rw[eq_of_beq e];exact h0
 | false=>
  rw[e]at q;exact h y c q
theorem pI {l:List (Str×NameKind)}{cl:List (Str×Addr)}(h:(l.all λp=>(p.2 != .cell && p.2 != .free) || (cl.lookup p.1).isSome)=true):∀y,(l.lookup y=some .cell∨l.lookup y=some .free)->∃c,cl.lookup y=some c:=λy hy=>by
 have key:∀k,l.lookup y=some k->(k=.cell∨k=.free)->∃c,cl.lookup y=some c:=λk e hk=>by
  have q:=List.all_eq_true.mp h (y,k) (PySem.mem_of_lookup e);have z:(k != .cell && k != .free)=false:=by rcases hk with rfl|rfl <;> rfl
  rw[show ((y,k).2 != .cell && (y,k).2 != .free)=false from z,Bool.false_or]at q;exact Im.mp q
 rcases hy with e|e
 ·exact key _ e (.inl rfl)
 ·exact key _ e (.inr rfl)
def i_ (X:Cx)(x:Str)(scope:Scope)(cl:List (Str×Addr))(fv:List (Nat×Str)):Prop:=
 ∀p∈fv,p.2≠x∧X.N[p.1]?=some p.2∧(X.env.scope.names.lookup p.2=some .cell∨X.env.scope.names.lookup p.2=some .free)∧
  ((relabel scope X.env).names.lookup p.2=some .cell∨(relabel scope X.env).names.lookup p.2=some .free)∧∃c,cl.lookup p.2=some c
theorem cq {X:Cx}{x:Str}{scope:Scope}{cl:List (Str×Addr)}:i_ X x scope cl []:=λ_ h=>nomatch h
theorem bG {X:Cx}{x:Str}{scope:Scope}{cl:List (Str×Addr)}{fv:List (Nat×Str)}(i:Nat) (y:Str) (h1:y≠x) (h2:X.N[i]?=some y) (h3:X.env.scope.names.lookup y=some .cell∨X.env.scope.names.lookup y=some .free)
  (h4:(relabel scope X.env).names.lookup y=some .cell∨(relabel scope X.env).names.lookup y=some .free) (h5:∃c,cl.lookup y=some c) (r:i_ X x scope cl fv):i_ X x scope cl ((i,y) :: fv):=λp hp=>by
 rcases aH.mp hp with rfl|hp
 ·exact⟨h1,h2,h3,h4,h5⟩
 ·exact r p hp
theorem cu {X:Cx}{x:Str}{fv:List (Nat×Str)}{scope:Scope}{cl:List (Str×Addr)}(clos:closureFor scope X.env=pure cl) (sub:∀y c,cl.lookup y=some c->X.env.cells.lookup y=some c) (fvs:i_ X x scope cl fv)
  (kind:scope.kind=.function:=by rfl) (here:scope.names.lookup x=some .local:=by rfl) (nocell:∀y∈scope.names,y.2≠.cell:=by decide +kernel)
  (names:∀y∈scope.names,y.2=.local->scope.names.lookup y.1=some .local:=by decide +kernel)
  (has:((relabel scope X.env).names.all λp=>(p.2 != .cell && p.2 != .free) || (cl.lookup p.1).isSome)=true:=by rfl):BlkOk X x fv scope cl:=
 ⟨clos,nocell,kind,names,here,sub,pI has,fvs⟩
section
variable {X:Cx}
theorem f7:cL X (.builtin "isinstance") (λxs H Q=>∃x n t b,xs=[x,.ty n]∧TyOf X.K H x t∧PySem.W.kitOne X.K t (.type n)=some b∧Q (.bl b) H):=by
 intro Xj s σ H xs us Q I rv h;obtain⟨x,n,t,b,rfl,ty,e,q⟩:=h
 cases rv with
 | cons r rr=>
  cases rr with
  | cons r' rr=>
   cases rr
   cases r'
   exact DQ I r ty e λtk=>⟨.bl b,H,I.tok _,rfl,q⟩
theorem Ko:MtR X "int.bit_length" (λx xs H Q=>∃i,x=.int i∧xs=[]∧Q (.int (Builtin.Int.intBits i:Nat)) H):=by
 intro Xj s σ H x xs v us Q I rx rv h;obtain⟨i,rfl,rfl,q⟩:=h
 cases rv
 obtain⟨t,rfl⟩:=rx;exact call_gives F.slot_int_bit_length (typeIs_int s i t) F.entry_int_bit_length (F.args_int_bit_length_1 _) (PySem.AutoIntG2.int_bit_length_int_0 i t) ⟨.int _,H,I.tok _,⟨_,rfl⟩,q⟩
end
theorem y8 {i:Int}{k:Nat}(h:i.natAbs<2 ^ k):Builtin.Int.intBits i<=k:=by
 unfold Builtin.Int.intBits
 split
 ·exact aY _
 ·rename_i hz;have hz':i≠0:=by simpa using hz
  have:i.natAbs.log2<k:=(Iq (by omega)).mpr h;omega
theorem Kq {i j:Int}{k l:Nat}(h1:i.natAbs<2 ^ k)(h2:j.natAbs<2 ^ l)(h:k+l<=134217728):IntMulOk i j:=IntMulOk.of_le (y8 h1) (y8 h2) h
theorem eo {X:Cx}:OpR X (binaryOp .FloorDiv) (rI (λ_ j=>j≠0∧j.natAbs<2 ^ 9000) λi j=>.int (i.fdiv j)):=
 opI λ_ j _ _ _ _ _ hc q=>floordiv_int hc.1 q (.inl (PyProof.noPylong_of_log2 ((Iq (by have:=hc.1;omega)).mpr hc.2)))
section
variable {σ:St}{H:Hp}{Q:VK}{D:Ends}{t u:TS}{te ta tb tc to ti:TE}{tt:TT}{tA:TA}{i:Nat}{x y v:V}{r r':R2}{QT:Bool->Hp->Prop}{QA:List V->Hp->Prop}
theorem az:Dq t u D σ H=t { D with nx:=u D } σ H:=rfl
theorem pJ:Dp D σ H=D.nx σ H:=rfl
theorem pK:Jx D σ H=D.bk σ H:=rfl
theorem pL:Jy D σ H=D.ct σ H:=rfl
theorem pM:Dr te D σ H=te σ H λ_ H1=>D.nx σ H1:=rfl
theorem pN:Ds te D σ H=te σ H D.rt:=rfl
theorem pO:Jz D σ H=D.rt .non H:=rfl
theorem pP:Dt tt t u D σ H=tt σ H λb H1=>if b=true then t D σ H1 else u D σ H1:=rfl
theorem pQ {g:TG}:gq te g D σ H=te σ H λx H1=>g x σ H1 D.nx:=rfl
theorem pR {Q:St->Hp->Prop}:cQ i v σ H Q=Q (σ.set i (some v)) H:=rfl
theorem pS {ts:pi}{Q:St->Hp->Prop}:JB to ti ts v σ H Q=to σ H λo H1=>ti σ H1 λi H2=>ts o i v H2 λH3=>Q σ H3:=rfl
theorem pT {K:W.Frag}{n:Nat}{ts:TGs}{Q:St->Hp->Prop}:pk K n ts v σ H Q=∃a xs,v=.ref a∧SqT K H a xs∧xs.length=n∧ts xs σ H Q:=rfl
theorem pU {vs:List V}{Q:St->Hp->Prop}:pj vs σ H Q=(vs=[]∧Q σ H):=rfl
theorem pV {g:TG}{gs:TGs}{vs:List V}{Q:St->Hp->Prop}:fU g gs vs σ H Q=∃v r,vs=v :: r∧g v σ H λσ' H'=>gs r σ' H' Q:=rfl
theorem pW {ip:TIp}:Dv i te ip D σ H=∃x,σ[i]?=some (some x)∧te σ H λy H1=>ip x y H1 λz H2=>D.nx (σ.set i (some z)) H2:=rfl
theorem pX {tget:V->V->Hp->VK->Prop}{tip:TIp}{tset:pi}:JD to ti te tget tip tset D σ H=to σ H λo H1=>ti σ H1 λi H2=>tget o i H2 λx H3=>te σ H3 λy H4=>tip x y H4 λz H5=>tset o i z H5 λH6=>D.nx σ H6:=rfl
theorem pY {f:Int->Int->Int}:ipI f x y H Q=∃i j,x=.int i∧y=.int j∧Q (.int (f i j)) H:=rfl
theorem pZ:yK i σ H Q=∃v,σ[i]?=some (some v)∧Q v H:=rfl
theorem a_c:tC v σ H Q=Q v H:=rfl
theorem p4:tOp r ta tb σ H Q=ta σ H λx H1=>tb σ H1 λy H2=>r x y H2 Q:=rfl
theorem p6 {r:V->Hp->VK->Prop}:tUn r ta σ H Q=ta σ H λx H1=>r x H1 Q:=rfl
theorem p7 {C:Int->Int->Prop}{g:Int->Int->V}:rI C g x y H Q=∃i j,x=.int i∧y=.int j∧C i j∧Q (g i j) H:=rfl
theorem p8 {g:Int->Int->V}:rI0 g x y H Q=∃i j,x=.int i∧y=.int j∧Q (g i j) H:=rfl
theorem p9 {g:Int->V}:rU g x H Q=∃i,x=.int i∧Q (g i) H:=rfl
theorem p_ {i j:Int}:rEq (.int i) (.int j) H Q=Q (.bl (decide (i=j))) H:=by
 show (true=true∧Q (.bl (decide (V.int i=V.int j))) H)=_;rw[show decide (V.int i=V.int j)=decide (i=j) by rw[pC];exact Bool.beq_eq_decide_eq i j];simp
theorem qa {i j:Int}:rNe (.int i) (.int j) H Q=Q (.bl (!decide (i=j))) H:=by
 show (true=true∧Q (.bl (!decide (V.int i=V.int j))) H)=_;rw[show decide (V.int i=V.int j)=decide (i=j) by rw[pC];exact Bool.beq_eq_decide_eq i j];simp
theorem qc {i j:Bool}:rEq (.bl i) (.bl j) H Q=Q (.bl (decide (i=j))) H:=by
 show (true=true∧Q (.bl (decide (V.bl i=V.bl j))) H)=_
 cases i <;> cases j <;> simp
theorem qd {i j:Bool}:rNe (.bl i) (.bl j) H Q=Q (.bl (!decide (i=j))) H:=by
 show (true=true∧Q (.bl (!decide (V.bl i=V.bl j))) H)=_
 cases i <;> cases j <;> simp
theorem qe:tB te σ H QT=te σ H λx H1=>∃c,x=.bl c∧QT c H1:=rfl
theorem qf:DI te σ H QT=te σ H λx H'=>∃k,x=.bl k∧QT k H':=rfl
theorem qg {tt':TT}:Di tt tt' σ H QT=tt σ H λc H1=>if c=true then tt' σ H1 QT else QT false H1:=rfl
theorem qh {tt':TT}:tOr tt tt' σ H QT=tt σ H λc H1=>if c=true then QT true H1 else tt' σ H1 QT:=rfl
theorem qi:Dj tt σ H QT=tt σ H λc H1=>QT (!c) H1:=rfl
theorem qj:Dk ta tb σ H Q=ta σ H λx H1=>∃c,x=.bl c∧if c=true then tb σ H1 Q else Q (.bl false) H1:=rfl
theorem qk:Ju ta tb σ H Q=ta σ H λx H1=>∃c,x=.bl c∧if c=true then Q (.bl true) H1 else tb σ H1 Q:=rfl
theorem ql:Dm ta σ H Q=ta σ H λx H1=>∃c,x=.bl c∧Q (.bl (!c)) H1:=rfl
theorem qm:tIf tt ta tb σ H Q=tt σ H λc H1=>if c=true then ta σ H1 Q else tb σ H1 Q:=rfl
theorem qo:DJ r r' ta tb tc σ H Q=ta σ H λx H1=>tb σ H1 λy H2=>r x y H2 λz H3=>∃k,z=.bl k∧(if k=true then tc σ H3 λw' H4=>r' y w' H4 Q else Q (.bl false) H3):=rfl
theorem qp:DR σ H QA=QA [] H:=rfl
theorem qq:DS ta tA σ H QA=ta σ H λx H1=>tA σ H1 λxs H2=>QA (x :: xs) H2:=rfl
theorem qr:DU tA σ H Q=tA σ H λxs H1=>xs.length<=sizeLine∧∀p,H1 p=none->Q (.ref p) (upd H1 p (.lst xs)):=rfl
theorem qt:DT tA σ H Q=tA σ H λxs H1=>xs.length<=sizeLine∧∀p,H1 p=none->Q (.ref p) (upd H1 p (.tup xs)):=rfl
theorem qu {sp:Sp}{dvs:List V}{E:XK}:DW sp dvs E tA σ H Q=tA σ H λvs H1=>sp (vs++dvs) H1 Q E:=rfl
theorem qw {r:List V->Hp->VK->Prop}:tCB r tA σ H Q=tA σ H λvs H1=>r vs H1 Q:=rfl
theorem qx {K:W.Frag}{T:String}{r:V->List V->Hp->VK->Prop}:Ej K T r to σ H Q=to σ H λx H1=>tyV K T x H1∧r x [] H1 Q:=rfl
theorem qy {K:W.Frag}{T:String}{r:V->List V->Hp->VK->Prop}:tBM K T r to tA σ H Q=to σ H λx H1=>tyV K T x H1∧tA σ H1 λxs H2=>r x xs H2 Q:=rfl
theorem qz {r:V->Option Int->Option Int->Hp->VK->Prop}{tl th:TO}:tSl r te tl th σ H Q=te σ H λx H1=>tl σ H1 λl H2=>th σ H2 λu H3=>r x l u H3 Q:=rfl
theorem qA {Q:Option Int->Hp->Prop}:Ea σ H Q=Q none H:=rfl
theorem qB {Q:Option Int->Hp->Prop}:Eb te σ H Q=te σ H λx H1=>∃i,x=.int i∧Q (some i) H1:=rfl
theorem qC {K:W.Frag}{T:String}{i:Int}:tyV K T (.int i) H=(T = "int"):=rfl
theorem fx {K:W.Frag}{p:Addr}{xs:List V}(h:SqL K H p xs):tyV K "list" (.ref p) H:=.inl ⟨rfl,xs,h⟩
end
def f8 (J:It)(g:TG)(tb:TS)(D:Ends)(σ:St)(H:Hp):Prop:=∃W:Nat->Nat->St->Hp->Prop,(∃m,W 0 m σ H)∧∀i m σ H,W i m σ H->
 (J.stop i H∧D.nx σ H)∨(J.go i H∧∃N:St->Hp->Prop,(∀σ' H',N σ' H'->∃m',m'<m∧W (i+1) m' σ' H')∧∀x H',J.yld i H x H'->g x σ H' λσ2 H2=>tb { D with nx:=N,ct:=N,bk:=D.nx } σ2 H2)
theorem qD {wi:TI}{g:TG}{tb:TS}{D:Ends}{σ:St}{H:Hp}:pq wi g tb D σ H=wi σ H λJ H1=>f8 J g tb D σ H1:=rfl
def fy (J:It)(fv:List (Nat×Str))(te:TE)(Q:VK)(σ:St)(H1:Hp)(D:Addr):Prop:=∃W:Nat->Nat->Hp->Prop,(∃m,W 0 m (upd H1 D (.lst [])))∧∀i m H,W i m H->
 (J.stop i H∧Q (.ref D) H)∨(J.go i H∧∃N:Hp->Prop,(∀H',N H'->∃m',m'<m∧W (i+1) m' H')∧∀v H',J.yld i H v H'->te (bst fv σ (some v)) H' λy H2=>∃ys,H2 D=some (.lst ys)∧ys.length<sizeLine∧N (upd H2 D (.lst (ys++[y]))))
theorem qE {fv:List (Nat×Str)}{wi:TI}{te:TE}{σ:St}{H:Hp}{Q:VK}:pH fv wi te σ H Q=wi σ H λJ H1=>∀D,H1 D=none->fy J fv te Q σ H1 D:=rfl
theorem qF {K:W.Frag}{tl:TE}{σ:St}{H:Hp}{R:It->Hp->Prop}:yN K tl σ H R=tl σ H λx H1=>∃a,x=.ref a∧(∃xs,SqL K H1 a xs)∧R (Itl K a) H1:=rfl
theorem qG {K:W.Frag}{tl:TE}{σ:St}{H:Hp}{R:It->Hp->Prop}:JG K tl σ H R=tl σ H λx H1=>∃a,x=.ref a∧(∃xs,SqT K H1 a xs)∧R (Itt K a) H1:=rfl
theorem qH {ta:TA}{σ:St}{H:Hp}{R:It->Hp->Prop}:Dz ta σ H R=ta σ H λvs H1=>∃j:Int,vs=[.int j]∧-(2 ^ 62)<=j∧j<2 ^ 62∧R (Itr 0 j.toNat) H1:=rfl
theorem qI {ta:TA}{σ:St}{H:Hp}{R:It->Hp->Prop}:DA ta σ H R=ta σ H λvs H1=>∃i j:Int,vs=[.int i,.int j]∧(-(2 ^ 62)<=i∧i<2 ^ 62∧-(2 ^ 62)<=j∧j<2 ^ 62)∧R (Itr i (j-i).toNat) H1:=rfl
theorem qJ {ta:TA}{σ:St}{H:Hp}{R:It->Hp->Prop}:Kk ta σ H R=ta σ H λvs H1=>∃(i j k:Int) (n:Nat),vs=[.int i,.int j,.int k]∧k≠0∧k.natAbs<1073741824∧Builtin.Range.small i j k=true∧Builtin.Range.rangeSize i j k=n∧R (Ex i k n) H1:=rfl
theorem y9 {c:TT}{tb:TS}{D:Ends}{σ:St}{H:Hp}(Pv:Nat->St->Hp->Prop) (m:Nat) (h0:Pv m σ H)
  (hs:∀m σ H,Pv m σ H->c σ H λb H1=>if b=true then ∃N:St->Hp->Prop,(∀σ' H',N σ' H'->∃m',m'<m∧Pv m' σ' H')∧tb { D with nx:=N,ct:=N,bk:=D.nx } σ H1 else D.nx σ H1):Dx c tb D σ H:=⟨Pv,⟨m,h0⟩,hs⟩
section
variable {σ:St}{H:Hp}{Q:VK}{x y v:V}{K:W.Frag}
theorem qK {lo hi:Option Int}:Eg K x lo hi H Q=∃a xs,x=.ref a∧SqL K H a xs∧∀p,H p=none->Q (.ref p) (upd H p (.lst (ej xs lo hi))):=rfl
theorem qL:Ef K x y H Q=∃p xs i v,x=.ref p∧y=.int i∧SqL K H p xs∧atI xs i=some v∧Q v H:=rfl
theorem qM:yW K x y H Q=∃p xs i v,x=.ref p∧y=.int i∧SqT K H p xs∧atI xs i=some v∧Q v H:=rfl
theorem qN {Q:Hp->Prop}:J3 x y v H Q=∃p xs k j,x=.ref p∧y=.int k∧H p=some (.lst xs)∧ixN xs.length k=some j∧Q (upd H p (.lst (xs.set j v))):=rfl
theorem qO {vs:List V}:Em x vs H Q=∃l xs y,x=.ref l∧vs=[y]∧H l=some (.lst xs)∧xs.length<sizeLine∧Q .non (upd H l (.lst (xs++[y]))):=rfl
theorem Kr (ns:List Int)(lo hi:Option Int):ej (ns.map V.int) lo hi=((ns.drop (HT.sIx ns.length 0 lo)).take (HT.sIx ns.length ns.length hi-HT.sIx ns.length 0 lo)).map V.int:=by
 unfold ej;rw[aB,List.map_take,List.map_drop]
end
theorem fB:bootBuiltins "len" = some (.builtin "len"):=by decide +kernel
theorem f9:bootBuiltins "abs" = some (.builtin "abs"):=by decide +kernel
theorem fD:bootBuiltins "isinstance" = some (.builtin "isinstance"):=by decide +kernel
theorem qP:bootBuiltins "min" = some (.builtin "min"):=by decide +kernel
theorem f_:bootBuiltins "max" = some (.builtin "max"):=by decide +kernel
theorem Ks:bootBuiltins "int" = some (.type "int"):=by decide +kernel
theorem Kt:bootBuiltins "bool" = some (.type "bool"):=by decide +kernel
theorem Ey:bootBuiltins "list" = some (.type "list"):=by decide +kernel
theorem gt:bootBuiltins "tuple" = some (.type "tuple"):=by decide +kernel
def Ez (t u:TS):TS:=λD σ H=>∃M:St->Hp->Prop,t { D with nx:=M } σ H∧∀σ' H',M σ' H'->u D σ' H'
theorem ez {X:Cx}{st:Stmt}{rest:List Stmt}{t u:TS}(h1:PS X st t)(h2:PSs X rest u):PSs X (st :: rest) (Ez t u):=by
 intro Xj s σ H D I h;obtain⟨M,h,hM⟩:=h;refine wpAny_execs_cons (thn (h1 Xj s σ H { D with nx:=M } I h) λf s1 q=>?_)
 cases f with
 | next=>
  obtain⟨σ',H',I',q⟩:=q;exact h2 Xj s1 σ' H' D I' (hM σ' H' q)
 | ret v=>exact q
 | brk=>exact q
 | cont=>exact q
theorem eA {t u:TS}{D:Ends}{σ:St}{H:Hp}(M:St->Hp->Prop)(h1:t { D with nx:=M } σ H)(h2:∀σ' H',M σ' H'->u D σ' H'):Ez t u D σ H:=⟨M,h1,h2⟩
theorem qQ {CX:CXT}{P:Program}{w:World}{K:W.Frag}{mg:Str->Option Value}{base:Heap}{N:List Str}{qual:Str}{scope:Scope}{f:Addr}{cd:Value}{A:Around}{outer:List Env}{s:Shared}{H:Hp}{E:XK}:
  (cz CX P w K mg base N qual scope f cd A outer s H E).K=K:=rfl
section
variable {K:W.Frag}{a:Addr}{xs:List V}{g:TG}{tb:TS}{D:Ends}{σ:St}{H H1:Hp}{fv:List (Nat×Str)}{te:TE}{Q:VK}{L:Addr}{lo c:Int}{n:Nat}
theorem eE (Pv:Nat->Hp->Prop) (h0:Pv 0 (upd H1 L (.lst []))) (hl:∀i H,i<=xs.length->Pv i H->SqL K H a xs)
  (hs:∀i v H,xs[i]?=some v->Pv i H->te (bst fv σ (some v)) H λy H2=>∃ys,H2 L=some (.lst ys)∧ys.length<sizeLine∧Pv (i+1) (upd H2 L (.lst (ys++[y])))) (hd:∀H,Pv xs.length H->Q (.ref L) H):
  fy (Itl K a) fv te Q σ H1 L:=Kl Pv h0 hl hs hd
theorem qR (Pv:Nat->Hp->Prop) (h0:Pv 0 (upd H1 L (.lst [])))
  (hs:∀i H,i<n->Pv i H->te (bst fv σ (some (.int (lo+i)))) H λy H2=>∃ys,H2 L=some (.lst ys)∧ys.length<sizeLine∧Pv (i+1) (upd H2 L (.lst (ys++[y])))) (hd:∀H,Pv n H->Q (.ref L) H):
  fy (Itr lo n) fv te Q σ H1 L:=Km Pv h0 hs hd
theorem dA (Pv:Nat->St->Hp->Prop) (h0:Pv 0 σ H) (hl:∀i σ H,i<=xs.length->Pv i σ H->SqL K H a xs)
  (hs:∀i v σ H,xs[i]?=some v->Pv i σ H->g v σ H λσ2 H2=>tb { D with nx:=Pv (i+1),ct:=Pv (i+1),bk:=D.nx } σ2 H2) (hd:∀σ H,Pv xs.length σ H->D.nx σ H):f8 (Itl K a) g tb D σ H:=JI Pv h0 hl hs hd
theorem eI (Pv:Nat->St->Hp->Prop) (h0:Pv 0 σ H)
  (hs:∀i σ H,i<n->Pv i σ H->g (.int (lo+i)) σ H λσ2 H2=>tb { D with nx:=Pv (i+1),ct:=Pv (i+1),bk:=D.nx } σ2 H2) (hd:∀σ H,Pv n σ H->D.nx σ H):f8 (Itr lo n) g tb D σ H:=JJ Pv h0 hs hd
theorem Ku {p:Addr}{o:HO}(h:upd H p o L=none):L≠p∧H L=none:=by
 by_cases e:L=p
 ·subst e;rw[af]at h;cases h
 ·rw[aq e]at h;exact⟨e,h⟩
end
section
variable {X:Cx}
mutual
inductive DV (K:W.Frag) (H:Hp):V->PyData->Prop
 | non:DV K H .non .none
 | bl (b):DV K H (.bl b) (.bool b)
 | int (i):DV K H (.int i) (.int i)
 | str (x):DV K H (.str x) (.str x)
 | lst {a xs ds}:SqL K H a xs->DVs K H xs ds->DV K H (.ref a) (.list ds)
 | tup {a xs ds}:SqT K H a xs->DVs K H xs ds->DV K H (.ref a) (.tuple ds)
inductive DVs (K:W.Frag) (H:Hp):List V->List PyData->Prop
 | nil:DVs K H [] []
 | cons {x xs d ds}:DV K H x d->DVs K H xs ds->DVs K H (x :: xs) (d :: ds)
end
theorem DVs.ints {K:W.Frag}{H:Hp}:∀ns:List Int,DVs K H (ns.map V.int) (ns.map PyData.int)
 | []=>.nil
 | n :: r=>.cons (.int n) (DVs.ints r)
theorem DV.ints {K:W.Frag}{H:Hp}{a:Addr}{ns:List Int}(h:SqL K H a (ns.map V.int)):DV K H (.ref a) (.list (ns.map PyData.int)):=.lst h (DVs.ints ns)
mutual
theorem DV.reads {Xj:List (Addr×Obj)}{σ:St}{H:Hp}{s:Shared}(I:Inv X Xj σ H s):∀{x:V}{d:PyData}{v:Value},DV X.K H x d->RelV x v->∃as,Reads s.heap v d as
 | _,_,_,.non,r=>by cases r;exact⟨_,.none⟩
 | _,_,_,.bl b,r=>by cases r;exact⟨_,.bool b⟩
 | _,_,_,.int i,r=>by obtain⟨t,rfl⟩:=r;exact⟨_,.int i t⟩
 | _,_,_,.str x,r=>by obtain⟨t,rfl⟩:=r;exact⟨_,.str x t⟩
 | _,_,_,.lst hq hs,r=>by
  cases r
  obtain⟨its,rv,⟨o,n,e,c,_,hd⟩,_⟩:=I.list hq;obtain⟨as,ra⟩:=DVs.reads I hs rv;exact⟨_,.list e c hd (by simpa using ra)⟩
 | _,_,_,.tup hq hs,r=>by
  cases r
  obtain⟨its,rv,⟨o,e,c,n,hd⟩,_⟩:=I.tuple hq;obtain⟨as,ra⟩:=DVs.reads I hs rv;exact⟨_,.tuple e c hd (by simpa using ra)⟩
theorem DVs.reads {Xj:List (Addr×Obj)}{σ:St}{H:Hp}{s:Shared}(I:Inv X Xj σ H s):∀{xs:List V}{ds:List PyData}{vs:List Value},DVs X.K H xs ds->Vals xs vs->∃as,ReadsAll s.heap vs ds as
 | _,_,_,.nil,r=>by cases r;exact⟨_,.nil⟩
 | _,_,_,.cons h t,r=>by
  cases r with
  | cons r1 r2=>
   obtain⟨as,ra⟩:=DV.reads I h r1;obtain⟨bs,rb⟩:=DVs.reads I t r2;exact⟨_,.cons ra rb⟩
end
theorem Qd (hu:X.A.units+64<cLine):OpR X (compareOp .Eq) (λx y H Q=>∃da db,DV X.K H x da∧DV X.K H y db∧da.canLay0=true∧db.canLay0=true∧da.depth<=64∧Q (.bl (PyData.eqv da db)) H):=by
 intro Xj s σ H x y v u Q I rx ry h;obtain⟨da,db,hx,hy,c1,c2,hd,q⟩:=h;obtain⟨as,ra⟩:=hx.reads I rx;obtain⟨bs,rb⟩:=hy.reads I ry;exact PySem.SeqAt.eqOverData _ _ _ _ _ _ _ _ _ _ _ _ ra rb c1 c2 (by omega) ⟨.bl _,H,I,rfl,q⟩
theorem EA (hu:X.A.units+64<cLine):OpR X (compareOp .NotEq) (λx y H Q=>∃da db,DV X.K H x da∧DV X.K H y db∧da.canLay0=true∧db.canLay0=true∧da.depth<=64∧Q (.bl (!PyData.eqv da db)) H):=by
 intro Xj s σ H x y v u Q I rx ry h;obtain⟨da,db,hx,hy,c1,c2,hd,q⟩:=h;obtain⟨as,ra⟩:=hx.reads I rx;obtain⟨bs,rb⟩:=hy.reads I ry;exact PySem.SeqAt.neOverData _ _ _ _ _ _ _ _ _ _ _ _ ra rb c1 c2 (by omega) ⟨.bl _,H,I,rfl,q⟩
end
theorem EB:∀xs ys:List Int,PyData.eqvAll (xs.map PyData.int) (ys.map PyData.int)=decide (xs=ys)
 | [],[]=>by simp[PyData.eqvAll]
 | [],_ :: _=>by simp[PyData.eqvAll]
 | _ :: _,[]=>by simp[PyData.eqvAll]
 | x :: xs,y :: ys=>by
  have ih:=EB xs ys;simp only[bF,PyData.eqvAll,PyData.eqv,ih];by_cases h:x=y
  ·subst h;simp
  ·simp[h]
theorem EC:∀xs:List Int,PyData.canLayAll0 (xs.map PyData.int)=true
 | []=>rfl
 | _ :: r=>by simp[PyData.canLayAll0,PyData.canLay0,EC r]
theorem ED:∀xs:List Int,PyData.depthAll (xs.map PyData.int)=0
 | []=>rfl
 | _ :: r=>by simp[PyData.depthAll,PyData.depth,ED r]
def Ite (K:W.Frag)(a:Addr):It:=
 ⟨λi H=>∃xs x,SqL K H a xs∧xs[i]?=some x,λi H v H'=>∃p x,H p=none∧v=.ref p∧H'=upd H p (.tup [.int i,x])∧∀xs,SqL K H a xs->xs[i]?=some x,λi H=>∃xs,SqL K H a xs∧xs.length<=i⟩
theorem Kv {P:Program}{w:World}{K:W.Frag}{elts:List Expr}{tk:Nat}{tpos:Pos}(a e it:Addr)(hne:e≠it):
  Turn P w K (.Tuple elts tk tpos) (Ite K a) [e,it] e (λi h=>(∃old,IsEnum h e it i old)∧h.IsListIter it a i) where
 mem:=by simp
 obj:=λi h st b hb=>by
  obtain⟨⟨old,he⟩,o,ho,c,d⟩:=st;rcases aH.mp hb with rfl|hb
  ·exact⟨_,he,λv z=>by
    have z':Data.fields _=Data.cell v:=z
    cases z'⟩
  ·rw[bR.mp hb];exact⟨o,ho,λv z=>by rw[d]at z;cases z⟩
 keep:=λi h h' st k=>by
  obtain⟨⟨old,he⟩,hit⟩:=st;exact⟨⟨old,k e (by simp) _ he⟩,hit.at λo q=>k it (by simp) o q⟩
 item:=by
  intro X hP hw hK hc i Xj s σ H E I hf st hg;subst hP hw hK;obtain⟨xs,x,hq,hx⟩:=hg;obtain⟨its,rv,pl,hz⟩:=I.list hq;obtain⟨u,hu,ru⟩:=rv.get hx;obtain⟨⟨old,he⟩,hit⟩:=st;have fe:=hf e (by simp);have fi:=hf it (by simp);refine wpAny_pyNext_enum_item he hit pl.isList (x:=u) (by simpa using hu) hne λh1 ho hit1 hT hsz hk=>?_;refine⟨_,rfl,wpAny_letOwnedTupleGo_enum ho λh2 he2 hs2=>?_⟩;have hp:H s.heap.objs.size=none:=I.hok.fresh (aw _);have hpe:s.heap.objs.size≠e:=gg (Heap.lt_size he);have k2:∀b o,b∉[e,it]->s.heap.get? b=some o->h2.get? b=some o:=λb o hb q=>
   (hs2.2 b λz=>hb (by simp[z])).trans (hk b o (λz=>hb (by simp[z])) (λz=>hb (by simp[z])) q)
  have hT2:h2.get? s.heap.objs.size=some { cls:=.type "tuple",data:=.seq #[.int i s.toks,u] }:=(hs2.2 _ hpe).trans hT;have nch:∀b u,H b=some u->b∉[e,it]:=λb u q hb=>by
   rcases aH.mp hb with rfl|hb
   ·rw[fe.1]at q;cases q
   ·rw[bR.mp hb,fi.1]at q;cases q
  have up:∀b,b<s.heap.objs.size->b≠s.heap.objs.size:=λb hb=>aO hb;have I2:Inv X Xj σ (upd H s.heap.objs.size (.tup [.int i,x])) { s with heap:=h2,toks:=s.toks+1 }:=by
   refine I.step (g':=s.gens) (d':=s.drawn) (t':=s.toks+1) (ch:=[e,it]) (λb hb=>?_) (λb o _ _ hc q _=>k2 b o hc q) (λb o _ _ hc q _=>⟨o.slots,k2 b o hc q⟩)
    (λb o _ q n=>by rw[aq (up b (Heap.lt_size q))];exact n) (λb o hc q=>⟨o,k2 b o hc q⟩) (λb ys q=>by rw[aq (aV q hp)];exact q) (λb o v q=>by rw[aq (aV q hp)];exact q)
    (λb ps q=>⟨#[],by rw[aq (aV q hp),q];simp⟩) (λm hm=>?_) (λb v q=>?_) I.bare
   ·rcases aH.mp hb with rfl|hb
    ·exact⟨fe.2.2.2.1,fe.2.1,fe.2.2.2.2.1,fe.2.2.2.2.2⟩
    ·rw[bR.mp hb];exact⟨fi.2.2.2.1,fi.2.1,fi.2.2.2.2.1,fi.2.2.2.2.2⟩
   ·obtain⟨o,es,ep,q,r⟩:=hm;refine⟨o,es,ep,k2 _ o (λz=>?_) q,r⟩;rcases aH.mp z with z|z
    ·exact fe.2.1 z.symm
    ·exact fi.2.1 (bR.mp z).symm
   ·by_cases hb:b=s.heap.objs.size
    ·subst hb;rw[af]at q;cases q;exact⟨by show 2<=sizeLine;decide,[.int i s.toks,u],.cons ⟨_,rfl⟩ (.cons ru .nil),⟨_,hT2,rfl,_,rfl⟩⟩
    ·rw[aq hb]at q;refine (I.hok b v q).stay (λc o hc r=>k2 c o ?_ r) (λc r=>by rw[aq (aV r hp)];exact r) λc ys r=>by rw[aq (aV r hp)];exact r
     rcases hc with z|z
     ·rw[z];exact nch b v q
     ·exact nch c _ z
  refine⟨.ref s.heap.objs.size,_,I2,rfl,⟨_,x,hp,rfl,rfl,λys hy=>by rw[I.list_inj hy hq];exact hx⟩,⟨⟨_,by simpa using he2⟩,hit1.at λo q=>(hs2.2 it (Ne.symm hne)).trans q⟩,λb hb=>?_⟩;have lb:b<s.heap.objs.size:=by
   rcases aH.mp hb with rfl|hb
   ·exact Heap.lt_size he
   ·rw[bR.mp hb];obtain⟨_,q,_⟩:=hit;exact Heap.lt_size q
  rw[aq (up b lb)];exact (hf b hb).1
 done:=by
  intro X hP hw hK hc i Xj s σ H E I hf st hg;subst hP hw hK;obtain⟨xs,hq,hx⟩:=hg;obtain⟨its,rv,pl,hz⟩:=I.list hq;obtain⟨⟨old,he⟩,hit⟩:=st;obtain⟨f0,f1,f2,f3,f4,f5⟩:=hf it (by simp);have hl:=rv.length;exact wpAny_pyNext_enum_end (I.ok.hd hc) he hit pl.isList (by simp;omega) λh' eb=>⟨rfl,I.turned (t':=s.toks) (λb o hb q=>eb b o hb q) f0 f1 f3 f4 f5⟩
 self:=λ_ _ _ _ _ st h=>by
  obtain⟨⟨old,he⟩,_⟩:=st;exact wpAny_pyIter_enum he h
section
variable {X:Cx}
def EE (K:W.Frag)(ta:TA):TI:=λσ H R=>ta σ H λvs H1=>∃a xs,vs=[.ref a]∧SqL K H1 a xs∧R (Ite K a) H1
theorem EF {elts:List Expr}{tk:Nat}{tpos:Pos}{a:Expr}{ta:TA}{p pos:Pos}(hg:Gl X "enumerate") (hm:X.mg "enumerate" = none) (ha:PA X [a] ta) (hs:starEach [a] X.env=[(false,eval a X.env)]:=by rfl):
  PI X (.Tuple elts tk tpos) (.Call (.Name "enumerate" p) [a] [] pos) (EE X.K ta):=by
 intro Xj s σ H R I h;refine Call_ (e_ I hg hm boot_enumerate (PyProof.Rows.callWith_type1 (thn (ha pos Xj s σ H _ I h) λus s1 ⟨vs,H1,I1,r1,q1⟩=>?_) hs rfl));obtain⟨a,xs,e,hq,q⟩:=q1;subst e
 cases r1 with
 | cons r rr=>
  cases rr
  cases r
  obtain⟨its,rv,pl,hz⟩:=I1.list hq;refine call_enumerate_list pl.isList λh1 he hit hsz hk=>?_;have I2:Inv X Xj σ H1 { s1 with heap:=h1 }:=I1.kept (t':=s1.toks) hk;refine wpAny_pyIter_enum he ?_;refine⟨s1.heap.objs.size+1,[s1.heap.objs.size+1,s1.heap.objs.size],_,_,H1,rfl,I2,Kv a _ _ (Nat.succ_ne_self _),⟨⟨_,he⟩,hit⟩,λb hb=>?_,q⟩;have hb':s1.heap.objs.size<=b:=by
   rcases aH.mp hb with rfl|hb
   ·exact Ai _
   ·rw[bR.mp hb];exact aw _
  exact I1.fpOk hb' (I1.hok.fresh hb')
end
theorem qS {K:W.Frag}{ta:TA}{σ:St}{H:Hp}{R:It->Hp->Prop}:EE K ta σ H R=ta σ H λvs H1=>∃a xs,vs=[.ref a]∧SqL K H1 a xs∧R (Ite K a) H1:=rfl
theorem Kw {K:W.Frag}{a:Addr}{xs:List V}{g:TG}{tb:TS}{D:Ends}{σ:St}{H:Hp}(Pv:Nat->St->Hp->Prop) (h0:Pv 0 σ H) (hl:∀i σ H,i<=xs.length->Pv i σ H->SqL K H a xs)
  (hs:∀i v p σ H,xs[i]?=some v->Pv i σ H->H p=none->g (.ref p) σ (upd H p (.tup [.int i,v])) λσ2 H2=>tb { D with nx:=Pv (i+1),ct:=Pv (i+1),bk:=D.nx } σ2 H2) (hd:∀σ H,Pv xs.length σ H->D.nx σ H):f8 (Ite K a) g tb D σ H:=by
 refine⟨λi m σ H=>m=xs.length-i∧i<=xs.length∧Pv i σ H,⟨xs.length,by simp,aY _,h0⟩,?_⟩
 rintro i m σ H ⟨rfl,hi,p⟩
 have q:=hl i σ H hi p;by_cases hlt:i<xs.length
 ·refine .inr ⟨⟨xs,xs[i],q,aJ hlt⟩,Pv (i+1),λσ' H' p'=>⟨xs.length-(i+1),by omega,rfl,hlt,p'⟩,λx H' y=>?_⟩;obtain⟨pa,z,hn,e1,e2,y⟩:=y;subst e1 e2;exact hs i z pa σ H (y xs q) p hn
 ·have e:i=xs.length:=by omega
  subst e;exact .inl ⟨⟨xs,q,aw _⟩,hd σ H p⟩
def Itv (K:W.Frag)(a:Addr)(n:Nat):It:=
 ⟨λi H=>i<n∧∃xs,SqL K H a xs∧xs.length=n,λi H x H'=>H'=H∧∀xs,SqL K H a xs->xs[n-1-i]?=some x,λi _=>i=n⟩
section
variable {X:Cx}{tg:Expr}
def Kx (K:W.Frag)(ta:TA):TI:=λσ H R=>ta σ H λvs H1=>∃a xs,vs=[.ref a]∧SqL K H1 a xs∧R (Itv K a xs.length) H1
end
theorem qT {K:W.Frag}{ta:TA}{σ:St}{H:Hp}{R:It->Hp->Prop}:Kx K ta σ H R=ta σ H λvs H1=>∃a xs,vs=[.ref a]∧SqL K H1 a xs∧R (Itv K a xs.length) H1:=rfl
section
variable {σ:St}{H:Hp}{Q:VK}{x y v:V}{vs:List V}
theorem qU:Er x y H Q=∃l b xs zs,x=.ref l∧y=.ref b∧H l=some (.lst xs)∧H b=some (.lst zs)∧xs.length+zs.length<=sizeLine∧∀p,H p=none->Q (.ref p) (upd H p (.lst (xs++zs))):=rfl
theorem qV:Es x y H Q=∃l k xs,x=.ref l∧y=.int k∧H l=some (.lst xs)∧-(2 ^ 63)<=k∧k<2 ^ 63∧xs.length*k.toNat<=sizeLine∧∀p,H p=none->Q (.ref p) (upd H p (.lst (bK k.toNat xs).flatten)):=rfl
theorem qW:Eo x vs H Q=∃l xs y,x=.ref l∧vs=[]∧H l=some (.lst xs)∧xs[xs.length-1]?=some y∧Q y (upd H l (.lst xs.dropLast)):=rfl
theorem qX:Ep x vs H Q=∃l xs,x=.ref l∧vs=[]∧H l=some (.lst xs)∧Q .non (upd H l (.lst [])):=rfl
end
theorem aT {X:Cx}:OpR X (binaryOp .Mult) (rI IntMulOk λi j=>.int (i*j)):=opI λ_ _ _ _ _ _ _ hc q=>mul_int q hc
def Bd (k:Nat)(x:Int):Prop:=x.natAbs<2 ^ k
theorem Bd.mono {k l:Nat}{x:Int}(h:Bd k x)(hl:k<=l):Bd l x:=a_ h (d6 (by decide) hl)
theorem Bd.zero (k:Nat):Bd k 0:=Nat.two_pow_pos k
theorem Bd.one {k:Nat}(h:0<k):Bd k 1:=by
 have:Bd 1 1:=by show (1:Nat)<2 ^ 1;decide
 exact this.mono h
theorem Bd.neg {k:Nat}{x:Int}(h:Bd k x):Bd k (-x):=by unfold Bd;rw[Int.natAbs_neg];exact h
theorem Bd.mul {k l:Nat}{x y:Int}(h:Bd k x)(g:Bd l y):Bd (k+l) (x*y):=by
 unfold Bd at *;rw[cP,sY];exact Nat.mul_lt_mul_of_lt_of_lt h g
theorem Bd.add {k:Nat}{x y:Int}(h:Bd k x)(g:Bd k y):Bd (k+1) (x+y):=by
 unfold Bd at *;rw[Ir];have:=Int.natAbs_add_le x y;omega
theorem Bd.fits {k l:Nat}{x y:Int}(h:Bd k x)(g:Bd l y)(hz:k+l<=134217728):IntMulOk x y:=Kq h g hz
theorem Bd.of_lt {k:Nat}{x:Int}{m:Nat}(h:x.natAbs<m)(hm:m<=2 ^ k):Bd k x:=a_ h hm
def gw (H:Hp)(Q:VK)(ys:List V):Prop:=∀r H',Same H H'->H r=none->H' r=some (.lst ys)->Q (.ref r) H'
theorem ao {H:Hp}{p:Addr}(h:H p=none)(o:HO):Same H (upd H p o):=λb u q=>by rw[aq (aV q h)];exact q
theorem Same.seqT {K:W.Frag}{H H':Hp}{a:Addr}{xs:List V}(e:Same H H')(h:SqT K H a xs):SqT K H' a xs:=by
 rcases h with (h|⟨o,h⟩)|h
 ·exact .inl (.inl (e _ _ h))
 ·exact .inl (.inr ⟨o,e _ _ h⟩)
 ·exact .inr h
theorem Ky {xs:List Int}{i:Nat}(h:i<xs.length):atI (xs.map V.int) (i:Int)=some (V.int xs[i]):=gr (by rw[aQ,aJ h];rfl)
theorem Same.more {H H':Hp}{p:Addr}{o:HO}(e:Same H H')(h:H p=none):Same H (L2.upd H' p o):=λb u q=>by rw[aq (aV q h)];exact e b u q
section
variable {κ:Type}[DecidableEq κ]
noncomputable def cT (kvs:List (κ×V)) (k:κ):Option V:=(kvs.find? λkv=>decide (kv.1=k)).map (·.2)
noncomputable def bD (kvs:List (κ×V)) (k:κ) (v:V):List (κ×V):=
 if (kvs.any λkv=>decide (kv.1=k))=true then kvs.map (λkv=>if kv.1=k then (kv.1,v) else kv) else kvs++[(k,v)]
theorem qY {p:κ×V}{r:List (κ×V)}{k:κ}(e:p.1=k):cT (p :: r) k=some p.2:=by simp[cT,d7,e]
theorem qZ {p:κ×V}{r:List (κ×V)}{k:κ}(e:¬p.1=k):cT (p :: r) k=cT r k:=by simp[cT,d7,e]
theorem y_ (k:κ):∀kvs:List (κ×V),(kvs.any λkv=>decide (kv.1=k))=(cT kvs k).isSome
 | []=>rfl
 | p :: r=>by
  rw[jM];by_cases e:p.1=k
  ·simp only[qY e,decide_eq_true e,Bool.true_or,Option.isSome_some]
  ·rw[qZ e,decide_eq_false e,Bool.false_or];exact y_ k r
theorem ja (kvs:List (κ×V))(k:κ)(v:V):(bD kvs k v).length<=kvs.length+1:=by
 unfold bD
 split
 ·rw[aB];omega
 ·rw[b8,cb,dE];omega
theorem RelO.isSome_eq {o:Option V}{u:Option Value}(r:RelO o u):o.isSome=u.isSome:=by
 cases o with
 | none=>cases u with
  | none=>rfl
  | some _=>exact (show False from r).elim
 | some _=>cases u with
  | none=>exact (show False from r).elim
  | some _=>rfl
theorem RelO.getD {o:Option V}{u:Option Value}{d:V}{d':Value}(r:RelO o u)(rd:RelV d d'):RelV (o.getD d) (u.getD d'):=by
 cases o with
 | none=>cases u with
  | none=>exact rd
  | some _=>exact (show False from r).elim
 | some _=>cases u with
  | none=>exact (show False from r).elim
  | some _=>exact r
theorem KV.val {kvs:List (κ×V)}{vs:List (κ×Value)}(r:KV kvs vs)(k:κ):RelO (cT kvs k) (valueAt vs k):=by
 unfold KV at r
 induction r with
 | nil=>exact True.intro
 | @cons p q ps qs h t ih=>
  obtain⟨h1,h2⟩:=h;by_cases e:p.1=k
  ·have e':q.1=k:=h1.symm.trans e;have b:valueAt (q :: qs) k=some q.2:=by simp[valueAt,d7,e']
   rw[qY e,b];exact h2
  ·have e':¬q.1=k:=λz=>e (h1.trans z);have b:valueAt (q :: qs) k=valueAt qs k:=by simp[valueAt,d7,e']
   rw[qZ e,b];exact ih
theorem KV.any {kvs:List (κ×V)}{vs:List (κ×Value)}(r:KV kvs vs)(k:κ):(kvs.any λkv=>decide (kv.1=k))=vs.any λkv=>decide (kv.1=k):=by
 unfold KV at r
 induction r with
 | nil=>rfl
 | cons h t ih=>rw[jM,jM,ih,h.1]
theorem KV.repl {kvs:List (κ×V)}{vs:List (κ×Value)}(r:KV kvs vs)(k:κ){y:V}{u:Value}(ry:RelV y u):
  KV (kvs.map λkv=>if kv.1=k then (kv.1,y) else kv) (vs.map λkv=>if kv.1=k then (kv.1,u) else kv):=by
 unfold KV at r ⊢
 induction r with
 | nil=>exact .nil
 | @cons p q ps qs h t ih=>
  rw[bF,bF];refine .cons ?_ ih;obtain⟨h1,h2⟩:=h;by_cases e:p.1=k
  ·rw[if_pos e,if_pos (h1.symm.trans e)];exact⟨h1,ry⟩
  ·rw[if_neg e,if_neg (λz=>e (h1.trans z))];exact⟨h1,h2⟩
theorem KV.put {kvs:List (κ×V)}{vs:List (κ×Value)}(r:KV kvs vs)(k:κ){y:V}{u:Value}(ry:RelV y u):KV (bD kvs k y) (stored vs k u):=by
 unfold bD stored;rw[r.any k];by_cases e:(vs.any λkv=>decide (kv.1=k))=true
 ·rw[if_pos e,if_pos e];exact r.repl k ry
 ·rw[if_neg e,if_neg e];exact Paired.snoc r ⟨rfl,ry⟩
theorem KV.length {kvs:List (κ×V)}{vs:List (κ×Value)}(r:KV kvs vs):kvs.length=vs.length:=Paired.length r
end
theorem zc {P:Program}{w:World}{k:Key}{u:Value}(r:RelV (kV k) u):(bj P w).is k u=true:=by
 cases k with
 | inl i=>obtain⟨t,e⟩:=(show ∃t,u=Value.int i t from r);subst e;exact Jk P w i t
 | inr x=>obtain⟨t,e⟩:=(show ∃t,u=Value.str x t from r);subst e;exact Jl P w x t
theorem EG {P:Program}{w:World}:∀{ks:List Key}{us:List Value},Vals (ks.map kV) us->ItemsAre (bj P w) ks us
 | [],_,r=>by rw[gW]at r;cases r;exact .nil
 | k :: ks,_,r=>by
  rw[bF]at r
  cases r with
  | cons h t=>exact .cons (zc h) (EG t)
abbrev KT (H:Hp):List (List Key×V)->List (List Key×Addr×Value)->Prop:=Paired λp q=>p.1=q.1∧H q.2.1=some (.tup (p.1.map kV))∧RelV p.2 q.2.2
theorem KT.val {H:Hp}{kvs:List (List Key×V)}{xs:List (List Key×Addr×Value)}(r:KT H kvs xs)(k:List Key):RelO (cT kvs k) ((atKey xs k).map (·.2)):=by
 induction r with
 | nil=>exact True.intro
 | @cons p q ps qs h t ih=>
  obtain⟨h1,_,h2⟩:=h;by_cases e:p.1=k
  ·have e':q.1=k:=h1.symm.trans e;have b:atKey (q :: qs) k=some q.2:=by simp[atKey,d7,e']
   rw[qY e,b];exact h2
  ·have e':¬q.1=k:=λz=>e (h1.trans z);have b:atKey (q :: qs) k=atKey qs k:=by simp[atKey,d7,e']
   rw[qZ e,b];exact ih
theorem KT.repl {H:Hp}{kvs:List (List Key×V)}{xs:List (List Key×Addr×Value)}(r:KT H kvs xs)(k:List Key){y:V}{u:Value}(ry:RelV y u):
  KT H (kvs.map λkv=>if kv.1=k then (kv.1,y) else kv) (xs.map (putAt k u)):=by
 induction r with
 | nil=>exact .nil
 | @cons p q ps qs h t ih=>
  rw[bF,bF];refine .cons ?_ ih;obtain⟨h1,h2,h3⟩:=h;unfold putAt;by_cases e:p.1=k
  ·rw[if_pos e,if_pos (h1.symm.trans e)];exact⟨h1,h2,ry⟩
  ·rw[if_neg e,if_neg (λz=>e (h1.trans z))];exact⟨h1,h2,h3⟩
theorem KT.put {H:Hp}{kvs:List (List Key×V)}{xs:List (List Key×Addr×Value)}(r:KT H kvs xs)(k:List Key){b:Addr}{y:V}{u:Value}(hb:H b=some (.tup (k.map kV)))(ry:RelV y u):
  KT H (bD kvs k y) (storedH xs k b u):=by
 have e:(kvs.any λkv=>decide (kv.1=k))=(atKey xs k).isSome:=by
  rw[y_,(r.val k).isSome_eq,Option.isSome_map]
 unfold bD storedH;rw[e];by_cases q:(atKey xs k).isSome=true
 ·rw[if_pos q,if_pos q];exact r.repl k ry
 ·rw[if_neg q,if_neg q];exact Paired.snoc r ⟨rfl,hb,ry⟩
theorem KT.keeps {H H':Hp}{kvs:List (List Key×V)}{xs:List (List Key×Addr×Value)}(r:KT H kvs xs)(ht:∀b ys,H b=some (.tup ys)->H' b=some (.tup ys)):KT H' kvs xs:=
 Paired.mapP r λ_ _ z=>⟨z.1,ht _ _ z.2.1,z.2.2⟩
section
variable {P:Program}{w:World}{H:Hp}{h:Heap}{a:Addr}
theorem q9 {u:HO}(ok:HOk P w H h)(e:Rd H a u):ObjOk P w H h a u:=e.ok ok
theorem zd {kvs:List (Key×V)}(ok:HOk P w H h)(e:Rd H a (.dK kvs)):kvs.length<=sizeLine∧(a == sysModules)=false∧∃vs,KV kvs vs∧h.DictOf (bj P w) a vs:=
 show ObjOk P w H h a (.dK kvs) from q9 ok e
theorem Kz {kvs:List (Key×V)}(ok:HOk P w H h)(e:H a=some (.dK kvs)):kvs.length<=sizeLine∧(a == sysModules)=false∧∃vs,KV kvs vs∧h.DictOf (bj P w) a vs:=zd ok (.inl e)
theorem gy {ks:List Key}(ok:HOk P w H h)(e:H a=some (.tup (ks.map kV))):(tupleKind (bj P w)).is h ks a:=by
 obtain⟨_,its,r,o,h1,h2,n,h3⟩:=(show ObjOk P w H h a (.tup (ks.map kV)) from ok a _ e)
 exact⟨o,its.toArray,n,h1,h2,h3,by simpa using EG r⟩
theorem ze {kvs:List (List Key×V)}(ok:HOk P w H h)(e:Rd H a (.dT kvs)):kvs.length<=sizeLine∧(a == sysModules)=false∧
  ∃xs,KT H kvs xs∧h.DictOfH (tupleKind (bj P w)) a xs:=by
 obtain⟨z,y,xs,r,o,es,ep,h1,h2,h3,h4,h5⟩:=(show ObjOk P w H h a (.dT kvs) from q9 ok e)
 refine⟨z,y,xs,r,o,es,ep,h1,h2,h3,h4,λx hx=>?_,h5⟩;have all:∀{l:List (List Key×V)}{m:List (List Key×Addr×Value)},KT H l m->∀x∈m,(tupleKind (bj P w)).is h x.1 x.2.1:=by
  intro l m q
  induction q with
  | nil=>intro x hx;exact nomatch hx
  | @cons p q ps qs hq t ih=>
   intro x hx;rcases aH.mp hx with e|hx
   ·subst e;exact gy ok (by rw[←hq.1];exact hq.2.1)
   ·exact ih x hx
 exact all r x hx
theorem EH {kvs:List (List Key×V)}(ok:HOk P w H h)(e:H a=some (.dT kvs)):kvs.length<=sizeLine∧(a == sysModules)=false∧
  ∃xs,KT H kvs xs∧h.DictOfH (tupleKind (bj P w)) a xs:=ze ok (.inl e)
end
def DGet (H:Hp)(a:Addr)(y:V)(r:Option V):Prop:=
 (∃kvs k,Rd H a (.dK kvs)∧y=kV k∧r=cT kvs k)∨∃kvs k b,Rd H a (.dT kvs)∧y=.ref b∧H b=some (.tup (k.map kV))∧r=cT kvs k
def DPut (H:Hp)(a:Addr)(y v:V)(H':Hp):Prop:=
 (∃kvs k,H a=some (.dK kvs)∧y=kV k∧kvs.length<sizeLine∧H'=upd H a (.dK (bD kvs k v)))∨
 ∃kvs k b,H a=some (.dT kvs)∧y=.ref b∧H b=some (.tup (k.map kV))∧kvs.length<sizeLine∧H'=upd H a (.dT (bD kvs k v))
theorem DGet.t {H:Hp}{a b:Addr}{kvs:List (List Key×V)}{k:List Key}(e:H a=some (.dT kvs))(eb:H b=some (.tup (k.map kV))):DGet H a (.ref b) (cT kvs k):=.inr ⟨kvs,k,b,.inl e,rfl,eb,rfl⟩
theorem DPut.t {H:Hp}{a b:Addr}{kvs:List (List Key×V)}{k:List Key}{v:V}(e:H a=some (.dT kvs))(eb:H b=some (.tup (k.map kV)))(hl:kvs.length<sizeLine):
  DPut H a (.ref b) v (upd H a (.dT (bD kvs k v))):=.inr ⟨kvs,k,b,e,rfl,eb,hl,rfl⟩
section
variable {X:Cx}{Xj:List (Addr×Obj)}{σ:St}{H:Hp}{s:Shared}{a:Addr}{y v:V}{u r:Value}{o:Option V}{A:Around}{E:Value->Shared->Prop}
theorem Inv.big (I:Inv X Xj σ H s):sysModules<s.heap.objs.size:=by
 have h:mainGlobals<s.heap.objs.size:=(I.mod.glob.keeps I.bk).lt;exact Nat.lt_trans (by decide) h
theorem q_ {h':Heap}{t':Nat}{ob:HO}(I:Inv X Xj σ H s)(mu:Mut (H a))(hs:Heap.SameBut a s.heap h')(he:∃q,h'.get? a=some q)(new:ObjOk X.prog X.w (upd H a ob) h' a ob):
  Inv X Xj σ (upd H a ob) { s with heap:=h',toks:=t' }:=
 I.write (x:=a) (e:=a) mu (.inl rfl) (λb q hb z=>(hs.2 b hb).trans z) he new
theorem KB {P:Program}{w:World}{H':Hp}{h':Heap}{kvs:List (Key×V)}{vs:List (Key×Value)}(z:kvs.length<=sizeLine)(hd:(a == sysModules)=false)(rel:KV kvs vs)(dd:h'.DictOf (bj P w) a vs):
  ObjOk P w H' h' a (.dK kvs):=⟨z,hd,vs,rel,dd⟩
theorem KC {H':Hp}{Q:Unit->Shared->Prop}(hu:A.units+1<cLine)(I:Inv X Xj σ H s)(g:DPut H a y v H')(ry:RelV y u)(rv:RelV v r)(h:∀s',Inv X Xj σ H' s'->Q () s'):
  wpAny (model X.prog X.w) A (setItem (.ref a) u r) Q E s:=by
 rcases g with ⟨kvs,k,e,ey,l,eH⟩|⟨kvs,k,b,e,ey,eb,l,eH⟩
 ·subst ey eH;obtain⟨z,hd,vs,rel,dd⟩:=Kz I.hok e;have hz:vs.length<=sizeLine:=by rw[←rel.length];exact z
  have hl:(bD kvs k v).length<=sizeLine:=by have:=ja kvs k v;omega
  refine wpAny_setItem_pairs (hsz:=hz) (zc ry) dd λh' dd' hs=>h _ ?_;have he:∃q,h'.get? a=some q:=let ⟨q,_,_,hq,_⟩:=dd';⟨q,hq⟩
  exact q_ I (by rw[e];exact True.intro) hs he (KB hl hd (rel.put k rv) dd')
 ·subst ey eH
  cases (show u=Value.ref b from ry)
  obtain⟨z,hd,xs,rel,dd⟩:=EH I.hok e;have hz:xs.length<=sizeLine:=by rw[←Paired.length rel];exact z
  have hl:(bD kvs k v).length<=sizeLine:=by have:=ja kvs k v;omega
  refine wpAny_setItem_heap (hsz:=hz) (tupleKind_room_in1 hu) (gy I.hok eb) dd λh' dd' hs=>h _ ?_;obtain⟨q,es,ep,hq,h2,h3,h4,_,h5⟩:=dd';refine q_ I (by rw[e];exact True.intro) hs ⟨q,hq⟩ ⟨hl,hd,_,(rel.put k eb rv).keeps λc ys ec=>?_,q,es,ep,hq,h2,h3,h4,h5⟩;rw[aq (aW ec e (λz=>nomatch z))];exact ec
end
def KD (td ty:TE):TE:=λσ H Q=>td σ H λx H1=>ty σ H1 λy H2=>∃a v,x=.ref a∧DGet H2 a y (some v)∧Q v H2
def KE (ty td:TE):TE:=λσ H Q=>ty σ H λy H1=>td σ H1 λx H2=>∃a o,x=.ref a∧DGet H2 a y o∧Q (.bl (!o.isSome)) H2
def EI (td ty tv:TE):TS:=λD σ H=>tv σ H λv H1=>td σ H1 λx H2=>ty σ H2 λy H3=>∃a H4,x=.ref a∧DPut H3 a y v H4∧D.nx σ H4
section
variable {X:Cx}{o i e value:Expr}{pos pos' tpos:Pos}{td ty tv:TE}
theorem KF (hu:X.A.units+1<cLine)(ho:PE X o td)(hi:PE X i ty)(hv:PE X value tv)(hs:swapsWith value (some (.Subscript o i pos')) pos.line X.env=pure false):
  PS X (.Assign [.Subscript o i pos'] value pos) (EI td ty tv):=by
 intro Xj s σ H D I h;refine wpAny_Assign_Subscript (thn (hv Xj s σ H _ I h) λr s1 ⟨v,H1,I1,rv,q1⟩=>thn (ho Xj s1 σ H1 _ I1 q1) λu s2 ⟨x,H2,I2,rx,q2⟩=>thn (hi Xj s2 σ H2 _ I2 q2) λiv s3 ⟨y,H3,I3,ry,a,H4,ex,g,q3⟩=>?_) hs;subst ex;obtain rfl:u=Value.ref a:=rx;exact KC hu I3 g ry rv λs4 I4=>⟨σ,H4,I4,q3⟩
end
theorem EJ {P:Program}{w:World}{H:Hp}(h:Heap)(hb:sysModules<h.objs.size):ObjOk P w H (h.push { cls:=.type "dict",data:=.dict #[] }) h.objs.size (.dT []):=
 ⟨aY _,beq_eq_false_iff_ne.mpr (Ne.symm (aO hb)),[],.nil,_,#[],0,Heap.get?_push_size _ rfl,⟨rfl,rfl,rfl⟩,rfl,rfl,gX⟩
def EK:TE:=λ_ H Q=>∀p,H p=none->Q (.ref p) (upd H p (.dT []))
section
variable {X:Cx}{pos:Pos}
theorem KG:PE X (.Dict [] [] pos) EK:=λXj s σ H Q I h=>
 wpAny_Dict_empty ⟨.ref s.heap.objs.size,_,I.laid (a:=s.heap.objs.size) (o:=.dT []) (t':=s.toks) (λ_ _ q=>Heap.get?_push_of_some _ q) (aw _) (EJ s.heap I.big),rfl,h _ (I.hok.fresh (aw _))⟩
end
def ga:List (TE×TE)->St->Hp->(List (V×V)->Hp->Prop)->Prop
 | [],_,H,Q=>Q [] H
 |(tk,tv) :: r,σ,H,Q=>tk σ H λx H1=>tv σ H1 λy H2=>ga r σ H2 λps H3=>Q ((x,y) :: ps) H3
abbrev VV:List (V×V)->List (Value×Value)->Prop:=Paired λp q=>RelV p.1 q.1∧RelV p.2 q.2
def PPs (X:Cx)(pos:Pos)(keys:List (Option Expr))(values:List Expr)(trs:List (TE×TE)):Prop:=
 ∀(Xj:List (Addr×Obj)) (s:Shared) (σ:St) (H:Hp) (Q:List (V×V)->Hp->Prop),Inv X Xj σ H s->ga trs σ H Q->
  wpAny (model X.prog X.w) X.A (evalPairs (pairTrees keys values X.env pos)) (λvs s'=>∃ps H',Inv X Xj σ H' s'∧VV ps vs∧Q ps H') X.xe s
theorem dB {X:Cx}{pos:Pos}:PPs X pos [] [] []:=λXj s σ H Q I h=>pairTrees_nil_walk ⟨[],H,I,.nil,h⟩
theorem cU {X:Cx}{pos:Pos}{k v:Expr}{ks:List (Option Expr)}{vs:List Expr}{tk tv:TE}{trs:List (TE×TE)}(hk:PE X k tk)(hv:PE X v tv)(hr:PPs X pos ks vs trs):
  PPs X pos (some k :: ks) (v :: vs) ((tk,tv) :: trs):=λXj s σ H Q I h=>
 pairTrees_cons_walk (thn (hk Xj s σ H _ I h) λu s1 ⟨x,H1,I1,rx,q1⟩=>thn (hv Xj s1 σ H1 _ I1 q1) λw2 s2 ⟨y,H2,I2,ry,q2⟩=>
  thn (hr Xj s2 σ H2 _ I2 q2) λws s3 ⟨ps,H3,I3,rel,q3⟩=>⟨(x,y) :: ps,H3,I3,.cons ⟨rx,ry⟩ rel,q3⟩)
structure M1 (X:Cx)(o:Expr)(m:Str)(apos:Pos)(e:Expr)(cpos:Pos):Prop where
 base:attributeBase o m X.env (eval o X.env)=eval o X.env
 few:((backTo cpos (starEach [e] X.env)).all (λx=>!x.1) && (backToKw cpos (keywordEach [] X.env)).all (λx=>x.1.isSome)
  && decide (([e]:List Expr).length+([]:List Keyword).length+(if ([]:List Keyword).isEmpty then 0 else 1)<30))=true
 line:(apos.endLine == cpos.line)=true
 trees:backTo cpos (starEach [e] X.env)=[(false,eval e X.env)]
structure M2 (X:Cx)(o:Expr)(m:Str)(apos:Pos)(e f:Expr)(cpos:Pos):Prop where
 base:attributeBase o m X.env (eval o X.env)=eval o X.env
 few:((backTo cpos (starEach [e,f] X.env)).all (λx=>!x.1) && (backToKw cpos (keywordEach [] X.env)).all (λx=>x.1.isSome)
  && decide (([e,f]:List Expr).length+([]:List Keyword).length+(if ([]:List Keyword).isEmpty then 0 else 1)<30))=true
 line:(apos.endLine == cpos.line)=true
 trees:backTo cpos (starEach [e,f] X.env)=[(false,eval e X.env),(false,eval f X.env)]
def IsD (H:Hp)(a:Addr):Prop:=(∃kvs,Rd H a (.dK kvs))∨∃kvs,Rd H a (.dT kvs)
theorem KH {X:Cx}{Xj:List (Addr×Obj)}{σ:St}{H:Hp}{s:Shared}{a:Addr}(I:Inv X Xj σ H s)(d:IsD H a):
  s.TypeIs (.ref a) "dict" ∧ (∀b,Value.ref a=.ref b->∃ob,s.heap.get? b=some ob∧ob.dict=none)∧(a == sysModules)=false:=by
 rcases d with ⟨kvs,e⟩|⟨kvs,e⟩
 ·obtain⟨_,hd,vs,_,dd⟩:=zd I.hok e;refine⟨dd.typeIs,λb q=>?_,hd⟩
  cases q
  obtain⟨ob,_,_,h1,h2,_⟩:=dd;exact⟨ob,h1,h2.2.1⟩
 ·obtain⟨_,hd,xs,_,dd⟩:=ze I.hok e;refine⟨dd.typeIs,λb q=>?_,hd⟩
  cases q
  obtain⟨ob,_,_,h1,h2,_⟩:=dd;exact⟨ob,h1,h2.2.1⟩
section
variable {X:Cx}{Xj:List (Addr×Obj)}{σ:St}{H:Hp}{s:Shared}{a:Addr}{y d:V}{u r:Value}{o:Option V}{A:Around}{E:Value->Shared->Prop}
theorem KI {Q:Value->Shared->Prop}(hu:A.units+1<cLine)(I:Inv X Xj σ H s)(g:DGet H a y o)(ry:RelV y u)(rd:RelV d r)(h:∀w' s',Inv X Xj σ H s'->RelV (o.getD d) w'->Q w' s'):
  wpAny (model X.prog X.w) A (call (.builtin "dict.get") [.ref a,u,r]) Q E s:=by
 rcases g with ⟨kvs,k,e,ey,l⟩|⟨kvs,k,b,e,ey,eb,l⟩
 ·subst ey;obtain⟨z,hd,vs,rel,dd⟩:=zd I.hok e;refine call_meetsIn PySem.F.slot_dict_get dd.typeIs PySem.F.entry_dict_get (PySem.F.args_dict_get_3 _ _ _) (meets_dict_get_default (bj X.prog X.w) a (zc ry) hd r) ⟨_,dd.mapOf,h _ _ (I.tok _) ?_⟩;rw[l];exact (rel.val k).getD rd
 ·subst ey
  cases (show u=Value.ref b from ry)
  obtain⟨z,hd,xs,rel,dd⟩:=ze I.hok e;refine call_meetsIn PySem.F.slot_dict_get dd.typeIs PySem.F.entry_dict_get (PySem.F.args_dict_get_3 _ _ _) (meetsH_dict_get_default (tupleKind (bj X.prog X.w)) a b hd r) ⟨tupleKind_room_in1 hu,k,xs,gy I.hok eb,dd,h _ _ (I.tok _) ?_⟩;rw[l];exact (rel.val k).getD rd
end
def EL (td ty tx:TE):TE:=λσ H Q=>td σ H λx H1=>∃a,x=.ref a∧IsD H1 a∧ty σ H1 λy H2=>tx σ H2 λz H3=>∃o,DGet H3 a y o∧Q (o.getD z) H3
section
variable {X:Cx}{o e f:Expr}{apos cpos:Pos}{td ty tx:TE}
theorem KJ (hu:X.A.units+1<cLine) (ho:PE X o td) (he:PE X e ty) (hf:PE X f tx) (m:M2 X o "get" apos e f cpos):PE X (.Call (.Attribute o "get" apos) [e,f] [] cpos) (EL td ty tx):=by
 intro Xj s σ H Q I h;refine wpAny_Call_method m.base m.few m.line PySem.F.plainAttrs_dict PySem.F.slot_dict_get PySem.F.type_dict_get (thn (ho Xj s σ H _ I h) λu s1 ⟨x,H1,I1,rx,a,ex,d,q1⟩=>?_);subst ex;obtain rfl:u=Value.ref a:=rx;obtain⟨t1,t2,_⟩:=KH I1 d;refine⟨t1,t2,?_⟩;rw[m.trees];refine Calls.callWith_builtin rfl (Calls.evalArgs_plain (Calls.spliced_cons (thn (he Xj s1 σ H1 _ I1 q1) λiv s2 ⟨y,H2,I2,ry,q2⟩=>
  Calls.spliced_cons (thn (hf Xj s2 σ H2 _ I2 q2) λfv s3 ⟨z,H3,I3,rz,ov,g,q3⟩=>Calls.spliced_nil ?_))))
 exact KI hu I3 g ry rz λw' s4 I4 rw'=>⟨_,H3,I4,rw',q3⟩
end
structure Grd (P:Program)(w:World)(fs:List Addr)(H H':Hp)(h B:Heap):Prop where
 keep:∀b o,h.get? b=some o->H b=none->b∉fs->B.get? b=some o
 there:∀b o,h.get? b=some o->b∉fs->∃o',B.get? b=some o'
 free:∀b o,h.get? b=some o->H b=none->H' b=none
 tups:∀b xs,H b=some (.tup xs)->H' b=some (.tup xs)
 frzs:∀b o u,H b=some (.frz o u)->H' b=some (.frz o u)
 tbls:∀b ps,H b=some (.tbl ps)->∃more,H' b=some (.tbl (ps++more))
 hok:HOk P w H' B
def Slt (fs:List Addr)(h h':Heap):Prop:=∀b o,h.get? b=some o->b∈fs->∃sl,h'.get? b=some { o with slots:=sl }
def CXE (P:Program)(w:World):CXT:=λouter H s E e s'=>∃(a t C:Addr) (H':Hp) (B:Heap),e=.ref a∧s'.os=s.os∧AllBare s'.gens∧Heap.FlyingW B outer a (.ref C) (.ref t) s'.heap∧
 Grd P w (frs outer) H H' s.heap B∧Slt (frs outer) s.heap s'.heap∧E (.ref C) none H'
theorem zf {P:Program}{w:World}{X:Cx}:fq (CXE P w) X E0:=λ_ _ _ _ _ _ _ h=>by
 obtain⟨_,_,_,_,_,_,_,_,_,_,_,q⟩:=h;exact q.elim
section
variable {X:Cx}{Xj:List (Addr×Obj)}{σ:St}{H H':Hp}{s:Shared}
theorem HOk.hide {P:Program}{w:World}{h:Heap}{fs:List Addr}(x:HOk P w H h)(hf:∀b∈fs,H b=none):HOk P w H (PySem.W.hideAll h fs):=λa o e=>
 (x a o e).stay (λb u hb q=>PySem.W.hideAll_get _ q λz=>by
  have n:=hf b z;rcases hb with hb|hb
  ·rw[hb,e]at n;cases n
  ·rw[hb]at n;cases n) (λ_ q=>q) λ_ _ q=>q
end
section
variable {P:Program}{w:World}{K:W.Frag}{mg:Str->Option Value}{base:Heap}{N:List Str}{qual:Str}{scope:Scope}{f:Addr}{cd:Value}{A:Around}{outer:List Env}{s0:Shared}{H0:Hp}{E:XK}
theorem re {Xj:List (Addr×Obj)}{σ:St}{H:Hp}{s:Shared}(I:Inv (cz (CXE P w) P w K mg base N qual scope f cd A outer s0 H0 E) Xj σ H s){b:Addr}{o:Obj}(q:s0.heap.get? b=some o)(hb:b∉frs outer):
  b∉frs (envOfC qual scope s0.heap.objs.size f cd :: outer):=λz=>by
 rcases aH.mp (I.stkSub b z) with e|e
 ·exact absurd (Heap.lt_size q) (by rw[e];exact Nat.not_lt.mpr I.ok.above)
 ·exact hb e
theorem KL {Xj:List (Addr×Obj)}{σ:St}{H:Hp}{s:Shared}{h':Heap}{a C:Addr}{args:List Value}(I:Inv (cz (CXE P w) P w K mg base N qual scope f cd A outer s0 H0 E) Xj σ H s)
  (hx:Heap.MadeExcOf s.heap h' a (.ref C) args) (q:E (.ref C) none H):(cz (CXE P w) P w K mg base N qual scope f cd A outer s0 H0 E).xe (.ref a) { s with heap:=h' }:=by
 have hfs:∀b∈frs (envOfC qual scope s0.heap.objs.size f cd :: outer),H b=none:=I.stkFree;have hin:∀env∈(envOfC qual scope s0.heap.objs.size f cd :: outer),∀b,env.frame=some b->b∈frs (envOfC qual scope s0.heap.objs.size f cd :: outer):=λenv he b hb=>Ik.mpr ⟨env,he,hb⟩;have hst:s.heap.FunFrames base (envOfC qual scope s0.heap.objs.size f cd :: outer):=I.stack;have noE:∀b:Addr,b∉(cz (CXE P w) P w K mg base N qual scope f cd A outer s0 H0 E).ex:=λb z=>absurd (show b∈([]:List Addr) from z) (by simp);refine wpAny_leaves_madeW (base:=PySem.W.hideAll s.heap (frs (envOfC qual scope s0.heap.objs.size f cd :: outer))) I.ok.frames rfl (λb o z=>PySem.W.of_hideAll _ z) (PySem.W.funFrames_hide hst hin) hx λh2 t fl _ _ up=>?_;refine⟨a,t,C,H,_,rfl,I.os,I.bare,fl,⟨λb o e n hb=>?_,λb o e hb=>?_,λb o e n=>I.base.free b o e n (noE b),I.base.tups,I.base.frzs,I.base.tbls,I.hok.hide hfs⟩,λb o e hb=>?_,q⟩
 ·exact PySem.W.hideAll_get _ (I.base.keep b o e n hb (noE b)) (re I e hb)
 ·obtain⟨o',e'⟩:=I.base.there b o e (noE b);exact⟨o',PySem.W.hideAll_get _ e' (re I e hb)⟩
 ·obtain⟨_,o',ho',hd⟩:=I.ok.funs.mem hb;rw[show (cz (CXE P w) P w K mg base N qual scope f cd A outer s0 H0 E).s₀.heap.get? b=some o from e]at ho';cases ho';obtain⟨sl,e1⟩:=I.base.slot b o e (I.ok.frf b hb) hb (noE b);obtain⟨sl',e2⟩:=up b _ (hx.keeps _ _ e1) hd;exact⟨sl',e2⟩
theorem zg:fq (CXE P w) (cz (CXE P w) P w K mg base N qual scope f cd A outer s0 H0 E) E:=λXj σ H s e s' I c=>by
 obtain⟨a,t,C,H',B,rfl,os,bare,fl,G,sl,q⟩:=c;have noE:∀b:Addr,b∉(cz (CXE P w) P w K mg base N qual scope f cd A outer s0 H0 E).ex:=λb z=>absurd (show b∈([]:List Addr) from z) (by simp);refine wpAny_leaves_onW I.ok.frames rfl fl λh2 fl2 up=>?_;refine⟨a,t,C,H',B,rfl,os.trans I.os,bare,fl2,⟨λb o e n hb=>?_,λb o e hb=>?_,λb o e n=>?_,λb xs z=>G.tups b xs (I.base.tups b xs z),λb o u z=>G.frzs b o u (I.base.frzs b o u z),λb ps z=>?_,G.hok⟩,λb o e hb=>?_,q⟩
 ·exact G.keep b o (I.base.keep b o e n hb (noE b)) (I.base.free b o e n (noE b)) (re I e hb)
 ·obtain⟨o',e'⟩:=I.base.there b o e (noE b);exact G.there b o' e' (re I e hb)
 ·obtain⟨o',e'⟩:=I.base.there b o e (noE b);exact G.free b o' e' (I.base.free b o e n (noE b))
 ·obtain⟨m1,e1⟩:=I.base.tbls b ps z;obtain⟨m2,e2⟩:=G.tbls b _ e1;exact⟨m1++m2,by rw[e2,Array.append_assoc]⟩
 ·obtain⟨_,o',ho',hd⟩:=I.ok.funs.mem hb;rw[show (cz (CXE P w) P w K mg base N qual scope f cd A outer s0 H0 E).s₀.heap.get? b=some o from e]at ho';cases ho';obtain⟨_,e1⟩:=I.base.slot b o e (I.ok.frf b hb) hb (noE b);obtain⟨_,e2⟩:=sl b _ e1 (by show b∈frs (envOfC qual scope s0.heap.objs.size f cd :: outer);exact b7 _ hb);obtain⟨sl',e3⟩:=up b _ e2 hd;exact⟨sl',e3⟩
theorem Fun.okE {x:Str}{st:Stmt}{fd:FuncData}{ps:List Str}{k:Nat}{sp:Sp}(F:Fun K x qual st f fd) (S:FnScope N ps (aA st)) (len:∀vs H Q E,sp vs H Q E->vs.length=ps.length)
  (hbody:∀(cdv:Value) (A:Around) (outer:List Env) (s:Shared) (H:Hp) (vs:List V) (Q:VK) (E:XK),Room k (A.deeper (envOfC qual (aA st) s.heap.objs.size f cdv))->sp vs H Q E->
   ∃t,PSs (cz (CXE P w) P w K mg base N qual (aA st) f cdv A outer s H E) (f6 st) t∧t { nx:=λ_ H'=>Q .non H',rt:=Q } (dM N vs) H):FnOk P w K mg base (CXE P w) (k+1) f fd ps sp:=by
 obtain⟨oc,od,kV,doc,pm,an,cdv,ct,osl,rfl,lk,hcd⟩:=F.ex;exact D_ lk hcd S len λA outer s H vs Q E hr hsp=>hbody cdv A outer s H vs Q E hr hsp
end
theorem PS.nox {X:Cx}{st:Stmt}{t:TS}(h:PS X.nox st t):PS X st t:=λXj s σ H D I hw=>
 wpAny_mono (h Xj s σ H D (I.wish _) hw) (λ_ _ q=>q.unwish) λ_ _ z=>False.elim z
abbrev bmV:List Value:=[.type "ValueError",.type "Exception",.type "BaseException",.type "object"]
theorem KM {K:W.Frag}{C:Addr}(q:PySem.W.excIn K C bmV "ValueError.__new__" = true):∃bm N nm qn bs hd sn sub ab col dd k0 k1 k2 k3 k5,
  K.lookup C=some (excClassObj nm qn C N bs bm hd sn sub ab col dd k0 k1 k2 k3 k5 "ValueError.__new__")∧PySem.W.tailIn K bmV bm=true∧PySem.W.nsOkIn K N=true∧PySem.W.nsIn K N "__init__" = some none:=by
 unfold PySem.W.excIn at q
 split at q
 ·rename_i dd cd sl ho
  split at q
  ·rename_i C1 bm k0 k1 k2 k3 n k5 hm hs;rw[Bool.and_eq_true,Bool.and_eq_true,Bool.and_eq_true,Bool.and_eq_true,Bool.and_eq_true]at q;obtain⟨⟨⟨⟨⟨q1,q2⟩,q3⟩,q4⟩,q5⟩,q6⟩:=q;have r1:=beq_iff_eq.mp q1;have r2:=beq_iff_eq.mp q2;have r6:=beq_iff_eq.mp q6;subst r1 r2;obtain⟨nm,bs,mro,ns,qn,hd,sn,sub,ab,col,del⟩:=cd;simp only at hm q3 q5 r6;have q3':del=false:=by cases del <;> simp at q3 ⊢
   subst hm q3';obtain⟨l⟩:=sl;simp only at hs;subst hs;exact⟨bm,ns,nm,qn,bs,hd,sn,sub,ab,col,dd,k0,k1,k2,k3,k5,ho,q4,q5,r6⟩
  ·cases q
 ·cases q
def EM (X:Cx)(E:XK):Prop:=∀(Xj:List (Addr×Obj)) (σ:St) (H:Hp) (s:Shared) (h':Heap) (a C:Addr) (args:List Value),Inv X Xj σ H s->Heap.MadeExcOf s.heap h' a (.ref C) args->E (.ref C) none H->X.xe (.ref a) { s with heap:=h' }
theorem jb {P:Program}{w:World}{K:W.Frag}{mg:Str->Option Value}{base:Heap}{N:List Str}{qual:Str}{scope:Scope}{f:Addr}{cd:Value}{A:Around}{outer:List Env}{s0:Shared}{H0:Hp}{E:XK}:
  EM (cz (CXE P w) P w K mg base N qual scope f cd A outer s0 H0 E) E:=λ_ _ _ _ _ _ _ _ I hx q=>KL I hx q
def EN (C:Addr)(ta:TA)(E:XK):TS:=λ_ σ H=>ta σ H λvs H1=>vs.length<=sizeLine∧E (.ref C) none H1
theorem rf {C:Addr}{ta:TA}{E:XK}{D:Ends}{σ:St}{H:Hp}:EN C ta E D σ H=ta σ H λvs H1=>vs.length<=sizeLine∧E (.ref C) none H1:=rfl
theorem jc {X:Cx}{E:XK}{x:Str}{C:Addr}{e0:Expr}{ta:TA}{np cpos pos:Pos}(hc:X.calm=true) (hr:EM X E) (hg:Gl X x) (hm:X.mg x=some (.ref C)) (hx:PySem.W.excIn X.K C bmV "ValueError.__new__" = true) (ha:PA X [e0] ta)
  (he:starEach [e0] X.env=[(false,eval e0 X.env)]:=by rfl) (hpl:(backTo cpos (starEach [e0] X.env)).any (·.1)=false:=by rfl) (hd:(x == ("__debug__" : Str))=false:=by decide):
  PS X (.Raise (some (.Call (.Name x np) [e0] [] cpos)) none pos) (EN C ta E):=by
 intro Xj s σ H D I h;obtain⟨bm,N,nm,qn,bs,hdc,sn,sub,ab,col,dd,k0,k1,k2,k3,k5,lk,tl,ok,ni⟩:=KM hx;have T0:OwnTail s.heap bmV bm:=PySem.W.tail_of_in I.kIn tl;refine wpAny_Raise_call_subT (C:=C) (nm:=nm) (q:=qn) (N:=N) (bs:=bs) (bm:=bm) (hdct:=hdc) (sn:=sn) (sub:=sub) (ab:=ab) (col:=col) (dd:=dd) (k0:=k0) (k1:=k1) (k2:=k2) (k3:=k3) (k5:=k5)
  PySem.F.excBase_ValueError (mN:=s.heap.nsMap N) (T0.hasType PySem.F.excBase_ValueError.hasBase) (I.ok.hd hc) hpl (PySem.W.nsMap_none_of_in I.kIn ok ni) (i8 I hg hm ⟨rfl,?_⟩ hd)
 have ns0:s.heap.Ns N (s.heap.nsMap N):=.of_isNs (PySem.W.isNs_of_in I.kIn ok);have h2:=ha cpos Xj s σ H _ I h;rw[he]at h2 ⊢;refine Calls.evalArgs_plain (wpAny_mono h2 (λvs s2 z=>?_) λ_ _ y=>y);obtain⟨xs,H1,I1,r1,q1,q2⟩:=z;have eN:s.heap.nsMap N=s2.heap.nsMap N:=by
  obtain⟨o,es,ep,ho,hdt,_⟩:=id ns0;unfold PySem.W.nsOkIn at ok
  split at ok
  ·rename_i z;unfold Heap.nsMap;rw[I.kIn _ _ z,I1.kIn _ _ z]
  ·cases ok
 refine⟨rfl,by rw[←r1.length];exact q1,I1.kIn _ _ lk,?_,PySem.W.tail_of_in I1.kIn tl,λh' a hm'=>hr Xj σ H1 s2 h' a C vs I1 hm' q2⟩;rw[eN];exact .of_isNs (PySem.W.isNs_of_in I1.kIn ok)
def rg (a C:Addr):HO:=.ext λh=>∃oe vs,h.get? a=some oe∧oe.cls=.ref C∧oe.data=.fields vs
structure Catches (K:W.Frag)(C D:Addr):Prop where
 c:PySem.W.excIn K C bmV "ValueError.__new__" = true
 d:PySem.W.excIn K D bmV "ValueError.__new__" = true
 base:PySem.W.mroIn K D (.type "BaseException")=some true
 sub:PySem.W.mroIn K C (.ref D)=some true
def KN (K:W.Frag)(Dc:Addr)(t:XK->TS)(th:TS):TS:=λD σ H=>t (λc _ H1=>∃C,c=.ref C∧Catches K C Dc∧∀a,H1 a=none->th D σ (upd H1 a (rg a C))) D σ H
theorem rh {K:W.Frag}{Dc:Addr}{t:XK->TS}{th:TS}{D:Ends}{σ:St}{H:Hp}:KN K Dc t th D σ H=t (λc _ H1=>∃C,c=.ref C∧Catches K C Dc∧∀a,H1 a=none->th D σ (upd H1 a (rg a C))) D σ H:=rfl
def Ends.drop (D:Ends)(i:Nat):Ends:={ nx:=λσ H=>D.nx (σ.set i none) H,rt:=D.rt,bk:=λσ H=>D.bk (σ.set i none) H,ct:=λσ H=>D.ct (σ.set i none) H }
def KO (K:W.Frag)(Dc:Addr)(i:Nat)(t:XK->TS)(th:TS):TS:=λD σ H=>t (λc _ H1=>∃C,c=.ref C∧Catches K C Dc∧∀a,H1 a=none->th (D.drop i) (σ.set i (some (.ref a))) (upd H1 a (rg a C))) D σ H
theorem ri {K:W.Frag}{Dc:Addr}{i:Nat}{t:XK->TS}{th:TS}{D:Ends}{σ:St}{H:Hp}:KO K Dc i t th D σ H=t (λc _ H1=>∃C,c=.ref C∧Catches K C Dc∧∀a,H1 a=none->th (D.drop i) (σ.set i (some (.ref a))) (upd H1 a (rg a C))) D σ H:=rfl
theorem rj {D:Ends}{i:Nat}{σ:St}{H:Hp}:(D.drop i).nx σ H=D.nx (σ.set i none) H:=rfl
open PySem PySem.Spec PySem.W PyProof.Rows Builtin Builtin.ObjectAttr Builtin.Getset_descriptor
theorem KP {K:W.Frag}{a:Addr}{xs:List V}{g:TG}{tb:TS}{D:Ends}{σ:St}{H:Hp}(Pv:Nat->St->Hp->Prop) (h0:Pv 0 σ H) (hl:∀i σ H,i<=xs.length->Pv i σ H->SqL K H a xs)
  (hs:∀i v p σ H,xs[i]?=some v->Pv i σ H->H p=none->g (.ref p) σ (upd H p (.tup [.int i,v])) λσ2 H2=>tb { D with nx:=Pv (i+1),ct:=Pv (i+1),bk:=D.nx } σ2 H2) (hd:∀σ H,Pv xs.length σ H->D.nx σ H):f8 (Ite K a) g tb D σ H:=Kw Pv h0 hl hs hd
theorem KQ {prog:Program}{w:World}{A:Around}{R:Result->Shared->Prop}{s:Shared}{elt target iter cnd:Expr}{scope:Scope}{pos:Pos}{it acc:Value}{env:Env}(I:Nat->Shared->Prop)
  (turn:∀n s (E:Value->Shared->Prop),I n s->wpAny (model prog w) A (pyNext it) (λr s₁=>match r with
   | none=>R (.ok .next) s₁
   | some v=>wpAny (model prog w) A (letOwnedTupleGo target it v) (λ_ s₂=>wpAny (model prog w) A (assign target env v) (λ_ s₃=>wpAny (model prog w) A (isTrue cnd env (eval cnd env)) (λb s₄=>if b=true then wpAny (model prog w) A (eval elt env) (λx s₅=>
     wpAny (model prog w) A (call (.builtin "list.append") [acc,x]) (λ_ s₆=>∃m,m<n∧I m s₆) E s₅) E s₄ else ∃m,m<n∧I m s₄) E s₃) E s₂) E s₁) E s)
  (n:Nat) (h:I n s):
  codeAny (model prog w) A (.compLoop (.ListComp elt [⟨target,iter,[cnd],0⟩] scope pos) 0 it acc env) R s:=by
 refine codeAny_loop rfl I (λn s hI=>?_) n h;show wpAny _ _ ((compTurn (.ListComp elt [⟨target,iter,[cnd],0⟩] scope pos) 0 it acc env).onRaise (λx=>do noteFrame x env;theTreesLotGoes x)) _ _ s;refine wpAny_noted ?_;unfold compTurn;dsimp only[Is];refine wpAny_bind (wpAny_standAt (wpAny_bind (wpAny_mono (turn n s _ hI) (λr s₁ h₁=>?_) λ_ _ h'=>h')))
 cases r with
 | none=>exact wpAny_pure h₁
 | some v=>
  refine wpAny_bind (thn h₁ λ_ s₂ h₂=>wpAny_bind (thn h₂ λ_ s₃ h₃=>wpAny_bind ?_));rw[Al,if_pos rfl];refine wpAny_bind (wpAny_bind (thn h₃ λb s₄ h₄=>wpAny_pure ?_));dsimp only;rw[sZ];refine wpAny_pure ?_
  cases b with
  | true=>
   rw[if_pos rfl]at h₄ ⊢;exact wpAny_bind (wpAny_bind (thn h₄ λx s₅ h₅=>wpAny_bind (thn h₅ λ_ s₆ h₆=>wpAny_pure (wpAny_pure ⟨rfl,h₆⟩))))
  | false=>
   rw[if_neg (by decide)]at h₄ ⊢;exact wpAny_pure ⟨rfl,h₄⟩
section
variable {X:Cx}{elt iter cnd:Expr}{x:Str}{px:Pos}{fv:List (Nat×Str)}{scope:Scope}{cl:List (Str×Addr)}{pos:Pos}{te:TE}{tt:TT}{wi:TI}
def EO (J:It)(fv:List (Nat×Str))(tt:TT)(te:TE)(Q:VK)(σ:St)(H1:Hp)(D:Addr):Prop:=∃W:Nat->Nat->Hp->Prop,(∃m,W 0 m (upd H1 D (.lst [])))∧∀i m H,W i m H->
 (J.stop i H∧Q (.ref D) H)∨(J.go i H∧∃N:Hp->Prop,(∀H',N H'->∃m',m'<m∧W (i+1) m' H')∧∀v H',J.yld i H v H'->tt (bst fv σ (some v)) H' λb Hb=>if b=true then te (bst fv σ (some v)) Hb λy H2=>∃ys,H2 D=some (.lst ys)∧ys.length<sizeLine∧N (upd H2 D (.lst (ys++[y]))) else N Hb)
def KR (fv:List (Nat×Str))(wi:TI)(tt:TT)(te:TE):TE:=λσ H Q=>wi σ H λJ H1=>∀D,H1 D=none->EO J fv tt te Q σ H1 D
end
theorem rk {fv:List (Nat×Str)}{wi:TI}{tt:TT}{te:TE}{σ:St}{H:Hp}{Q:VK}:KR fv wi tt te σ H Q=wi σ H λJ H1=>∀D,H1 D=none->EO J fv tt te Q σ H1 D:=rfl
theorem EQ:∀{ns:List Int}{us:List Value},Vals (ns.map V.int) us->IntsAre us ns
 | [],us,h=>by
  cases h;exact .nil
 | n :: ns,us,h=>by
  cases h with
  | cons r rr=>
   obtain⟨t,rfl⟩:=r;exact .cons n t (EQ rr)
theorem KS {zs:Array (Int×Tok)}{ns:List Int}(e:ns=zs.toList.map (·.1)){j:Nat}(hj:j<zs.size):numAt zs j∈ns:=by
 rw[e,numAt_eq];exact PySem.getD_mem (by simpa using hj)
theorem KU {zs:Array (Int×Tok)}{ns:List Int}(e:ns=zs.toList.map (·.1)){x:Int}(hx:x∈ns):∃j,j<zs.size∧numAt zs j=x:=by
 rw[e]at hx;obtain⟨i,hi,h⟩:=mem_getD hx;exact⟨i,by simpa using hi,by rw[numAt_eq];exact h⟩
theorem KW {X:Cx}(hc:X.calm=true):cL X (.builtin "min") (λxs H Q=>∃p ns,xs=[.ref p]∧SqL X.K H p (ns.map V.int)∧ns≠[]∧∀M,M∈ns->(∀a,a∈ns->M<=a)->Q (.int M) H):=by
 intro Xj s σ H xs us Q I r h;obtain⟨p,ns,rfl,hq,hne,q⟩:=h;obtain⟨u,rfl,rx⟩:=d_ r
 cases rx
 obtain⟨its,r',pl,hz⟩:=I.list hq;have hi:=EQ r';obtain⟨zs,e⟩:=hi.allInts.items;have hns:ns=zs.toList.map (·.1):=by rw[←hi.numsOf,←nums_intItems,←e]
 have hsz:0<zs.size:=by
  have h3:=List.length_pos_iff.mpr hne;rw[hns,aB,Array.length_toList]at h3;exact h3
 have hl:=pl.isList;rw[e]at hl;refine min_intList (I.ok.hd hc) hl hsz λv h' tk hv hk=>?_;obtain⟨tv,rfl⟩:=intItems_at hv;obtain⟨g1,g2⟩:=argBest_lt (numAt zs) (zs.size-1);refine⟨.int _,H,I.kept hk,⟨tv,rfl⟩,q _ (KS hns (by omega)) λx hx=>?_⟩;obtain⟨i,hi,rfl⟩:=KU hns hx;exact g2 i (by omega)
def KY (x:Str)(te:TE):TE:=λσ H Q=>(Str.empty++x).length<=sizeLine∧te σ H λv H1=>∃i,v=.int i∧i.natAbs.log2<1920∧(Str.empty++x++Str.ofString (toString i)).length<=sizeLine∧Q (.str (Str.empty++x++Str.ofString (toString i))) H1
theorem rl {x:Str}{te:TE}{σ:St}{H:Hp}{Q:VK}:KY x te σ H Q=((Str.empty++x).length<=sizeLine∧te σ H λv H1=>∃i,v=.int i∧i.natAbs.log2<1920∧(Str.empty++x++Str.ofString (toString i)).length<=sizeLine∧Q (.str (Str.empty++x++Str.ofString (toString i))) H1):=rfl
@[reducible] def bV (X:Cx) (x z:Str) (fv:List (Nat×Str)) (scope:Scope) (cl:List (Str×Addr)) (C:Addr) (s:Shared) (H:Hp) (fp:List Addr):Cx where
 prog:=X.prog
 w:=X.w
 K:=X.K
 mg:=X.mg
 base:=X.base
 A:=X.A
 N:=x :: z :: fv.map (·.2)
 s₀:=s
 H₀:=H
 env:=compEnvC scope cl C X.env
 outer:=X.stack
 stack:=X.stack
 ex:=fp
 fn:=λ_=>false
 calm:=X.calm
 pn:=[]
 xe:=λ_ _=>False
def bN (fv:List (Nat×Str))(σ:St)(v v2:Option V):St:=v :: v2 :: fv.map λp=>(σ[p.1]?).getD none
structure BlkOk2 (X:Cx)(x z:Str)(fv:List (Nat×Str))(scope:Scope)(cl:List (Str×Addr)):Prop where
 clos:closureFor scope X.env=pure cl
 nocell:∀y∈scope.names,y.2≠.cell
 kind:scope.kind=.function
 names:∀y∈scope.names,y.2=.local->scope.names.lookup y.1=some .local
 here:scope.names.lookup x=some .local
 here2:scope.names.lookup z=some .local
 nd:(x :: z :: fv.map (·.2)).Nodup
 sub:∀y c,cl.lookup y=some c->X.env.cells.lookup y=some c
 has:∀y,((relabel scope X.env).names.lookup y=some .cell∨(relabel scope X.env).names.lookup y=some .free)->∃c,cl.lookup y=some c
 fvs:∀p∈fv,X.N[p.1]?=some p.2∧(X.env.scope.names.lookup p.2=some .cell∨X.env.scope.names.lookup p.2=some .free)∧
  ((relabel scope X.env).names.lookup p.2=some .cell∨(relabel scope X.env).names.lookup p.2=some .free)∧∃c,cl.lookup p.2=some c
section
variable {X:Cx}{elt iter:Expr}{x z:Str}{px pz:Pos}{tk:Nat}{tpos:Pos}{fv:List (Nat×Str)}{scope:Scope}{cl:List (Str×Addr)}{pos:Pos}{te:TE}{wi:TI}
theorem KZ {Xj:List (Addr×Obj)}{σ:St}{H:Hp}{s:Shared}{fp:List Addr}{C:Addr}(B:BlkOk2 X x z fv scope cl)(I:Inv X Xj σ H s)(hf:∀b∈fp,a8 X Xj H b)(hC:s.heap.objs.size<=C)(hfC:∀b∈fp,b≠C):
  (bV X x z fv scope cl C s H fp).Ok where
 mod:=I.ok.mod
 kind:=B.kind
 glob:=I.ok.glob
 blt:=I.ok.blt
 above:=hC
 inj:=λy y' c h1 h2=>I.ok.inj y y' c (B.sub y c h1) (B.sub y' c h2)
 has:=λy hy=>B.has y hy
 cab:=λy c h=>nomatch h
 hd:=I.ok.hd
 frames:=I.ok.frames
 stk:=.inl rfl
 exf:=λb hb=>⟨hfC b hb,λy c e=>(hf b hb).2.2.2.2.1 y c (B.sub y c e)⟩
 bs:=I.bs
 bsz:=aP I.ok.bsz I.sz
 noex:=λb o e hb=>by
  obtain⟨_,_,_,f3,_⟩:=hf b hb;rcases f3 with z'|z'
  ·exact I.ok.noex b o e z'
  ·exact absurd (a_ (Heap.lt_size e) (aP I.ok.bsz z')) (eT _)
 exfs:=λb hb hs=>by
  obtain⟨_,f1,f2,_⟩:=hf b hb;rcases aH.mp (I.stkSub b hs) with z|z
  ·exact f1 z
  ·exact f2 z
 funs:=I.stack
 frf:=I.stkFree
theorem K0 {fv:List (Nat×Str)}{σ:St}{o o2:Option V}{j:Nat}{y:Str}{v:V}(h1:(x :: z :: fv.map (·.2))[j+2]?=some y)(h2:(bN fv σ o o2)[j+2]?=some (some v)):∃p∈fv,p.2=y∧σ[p.1]?=some (some v):=by
 have e1:(fv.map (·.2))[j]?=some y:=by simpa using h1
 have e2:(fv.map λp=>(σ[p.1]?).getD none)[j]?=some (some v):=by simpa [bN] using h2
 rw[aQ]at e1 e2
 cases q:fv[j]? with
 | none=>rw[q]at e1;cases e1
 | some p=>
  rw[q]at e1 e2;refine⟨p,ci q,Option.some.inj e1,?_⟩;have e3:(σ[p.1]?).getD none=some v:=Option.some.inj e2
  cases r:σ[p.1]? with
  | none=>rw[r]at e3;cases e3
  | some w=>rw[r]at e3;exact congrArg some e3
theorem ER {Xj:List (Addr×Obj)}{σ:St}{H:Hp}{s s4:Shared}{fp:List Addr}{C:Addr}{m:Str->Option Value}(B:BlkOk2 X x z fv scope cl) (I:Inv X Xj σ H s) (hf:∀b∈fp,a8 X Xj H b) (hC:C=s.heap.objs.size)
  (hfC:∀b∈fp,b≠C) (os:s4.os=s.os) (gens:s4.gens=s.gens) (keep:∀b o,s.heap.get? b=some o->s4.heap.get? b=some o) (ns:s4.heap.Ns C m):
  Inv (bV X x z fv scope cl C s H fp) [] (bN fv σ none none) H s4:=by
 subst hC;refine⟨KZ B I hf (aw _) hfC,os,by rw[gens];exact I.bare,Un.kept keep,⟨m,ns,λi y v h1 h2 h3=>?_⟩,λy c e=>?_,I.hok.fresh (aw _),λy c e=>I.freeC y c (B.sub y c e),λp hp=>absurd (show p∈([]:List (Addr×Obj)) from hp) (by simp),I.hok.kept keep,by simp[bN]⟩
 ·cases i with
  | zero=>simp[bN]at h2
  | succ j=>
   cases j with
   | zero=>simp[bN]at h2
   | succ j=>
   obtain⟨p,hp,rfl,hv⟩:=K0 h1 h2;obtain⟨hN,hk,hk2,c,hc⟩:=B.fvs p hp;obtain⟨m0,_,hl⟩:=I.loc;have vis:Vis X.env.scope p.2:=hk.elim (λz=>.inr (.inl z)) λz=>.inr (.inr z);obtain⟨u,r,l⟩:=hl p.1 p.2 v hN hv vis;refine⟨u,r,.inr ⟨hk2,c,hc,?_⟩⟩;rcases l with ⟨z,_⟩|⟨_,c',hc',o,ho,hd⟩
   ·have z':X.env.scope.names.lookup p.2=some .local:=z;rcases hk with k|k <;> (rw[k]at z';cases z')
   ·have:=B.sub p.2 c hc;rw[hc']at this;cases this;exact⟨o,keep _ o ho,hd⟩
 ·obtain⟨v,o,ho,hd⟩:=I.cell y c (B.sub y c e);exact⟨v,o,keep c o ho,hd⟩
theorem ES {s:Shared}{H0:Hp}{fp:List Addr}{C:Addr}(hc:X.calm=true)(B:BlkOk2 X x z fv scope cl):
  PG (bV X x z fv scope cl C s H0 fp) (.Tuple [.Name x px,.Name z pz] tk tpos) (pk X.K 2 (fU (cQ 0) (fU (cQ 1) pj))):=by
 have h1:(relabel scope X.env).names.lookup x=some .local:=lookup_relabel_local B.here;have h2:(relabel scope X.env).names.lookup z=some .local:=lookup_relabel_local B.here2;exact fj (X:=bV X x z fv scope cl C s H0 fp) hc (cy (aS (i:=0) B.nd rfl (.inl h1) (.inr h1)) (cy (aS (i:=1) B.nd rfl (.inl h2) (.inr h2)) fh))
theorem K1 {Xj:List (Addr×Obj)}{σ:St}{H:Hp}{s2:Shared}{it:Addr}{fp:List Addr}{tn:Nat->Heap->Prop}{J:It}{Q:VK}{E:Value->Shared->Prop}{RR:Value->Addr->Result->Shared->Prop}
  (hc:X.calm=true) (B:BlkOk2 X x z fv scope cl) (he:∀C s H fp,PE (bV X x z fv scope cl C s H fp) elt te) (I:Inv X Xj σ H s2) (T:Turn X.prog X.w X.K (.Tuple [.Name x px,.Name z pz] tk tpos) J fp it tn) (st:tn 0 s2.heap) (hf:∀b∈fp,a8 X Xj H b)
  (rd:∀D,H D=none->∃W:Nat->Nat->Hp->Prop,(∃m,W 0 m (upd H D (.lst [])))∧∀i m H,W i m H->
   (J.stop i H∧Q (.ref D) H)∨(J.go i H∧∃N:Hp->Prop,(∀H',N H'->∃m',m'<m∧W (i+1) m' H')∧∀v H',J.yld i H v H'->∃q x1 x2,v=.ref q∧SqT X.K H' q [x1,x2]∧te (bN fv σ (some x1) (some x2)) H' λy H2=>∃ys,H2 D=some (.lst ys)∧ys.length<sizeLine∧N (upd H2 D (.lst (ys++[y])))))
  (hRR:∀D C s' H' m',Inv X Xj σ H' s'->a8 X Xj H' C->s'.heap.Ns C m'->Q (.ref D) H'->RR (.ref D) C (.ok .next) s'):
  wpAny (model X.prog X.w) X.A (newList []) (λacc s₃=>wpAny (model X.prog X.w) X.A (newFunctionEnv scope X.env.globals cl [] X.env.qual none .none (some X.env)) (λcenv s₄=>
   codeAny (model X.prog X.w) X.A (.compStart (.ListComp elt [⟨(.Tuple [.Name x px,.Name z pz] tk tpos),iter,[],0⟩] scope pos) 0 (.ref it) acc { cenv with scope:=relabel scope X.env }) (RR acc cenv.locals) s₄) E s₃) E s2:=by
 refine wpAny_newObj_type ?_ (by show 0<=sizeLine;exact aY _);have hD:H s2.heap.objs.size=none:=I.hok.fresh (aw _);have I3:=I.lnew (ys:=[]) (its:=[]) (t':=s2.toks) .nil (aY _);generalize hs3:({ s2 with heap:=s2.heap.push { cls:=.type "list",data:=.seq ([]:List Value).toArray },toks:=s2.toks }:Shared)=s3 at I3;have sz3:s3.heap.objs.size=s2.heap.objs.size+1:=by rw[←hs3];exact Heap.size_push ..
 have up3:∀b o,s2.heap.get? b=some o->s3.heap.get? b=some o:=λb o e=>by rw[←hs3];exact Heap.get?_push_of_some _ e
 have hf3:∀b∈fp,a8 X Xj (upd H s2.heap.objs.size (.lst [])) b:=λb hb=>by
  obtain⟨f0,r⟩:=hf b hb;refine⟨?_,r⟩;obtain⟨o,e,_⟩:=T.obj 0 _ st b hb;rw[aq (aO (Heap.lt_size e))];exact f0
 have ltf:∀b∈fp,b<s2.heap.objs.size:=λb hb=>by
  obtain⟨o,e,_⟩:=T.obj 0 _ st b hb;exact Heap.lt_size e
 have st3:tn 0 s3.heap:=T.keep 0 _ _ st λb _ o e=>up3 b o e;obtain⟨W,⟨m0,w0⟩,turn⟩:=rd _ hD;refine wpAny_newFunctionEnv B.nocell (by intro y hy;simp at hy) (λh₁ hns₁ hsb₁=>?_) B.kind;have hfC:∀b∈fp,b≠s3.heap.objs.size:=λb hb=>aO (by rw[sz3];exact gh (ltf b hb));have up4:∀b o,s3.heap.get? b=some o->h₁.get? b=some o:=λb o e=>hsb₁.extBut b o (aO (Heap.lt_size e)) (Heap.get?_push_of_some _ e);generalize hs4:({ s3 with heap:=h₁,toks:=s3.toks+([]:List (Str×Value)).length }:Shared)=s4;have h4:s4.heap=h₁:=by rw[←hs4]
 have I4:Inv (bV X x z fv scope cl s3.heap.objs.size s3 (upd H s2.heap.objs.size (.lst [])) fp) [] (bN fv σ none none) (upd H s2.heap.objs.size (.lst [])) s4:=
  ER B I3 hf3 rfl hfC (by rw[←hs4]) (by rw[←hs4]) (λb o e=>by rw[h4];exact up4 b o e) (by rw[h4];exact hns₁)
 have st4:tn 0 s4.heap:=by rw[h4];exact T.keep 0 _ _ st3 λb _ o e=>up4 b o e
 have stat:∀{H':Hp},(∀b∈fp,H' b=none)->∀b∈fp,a8 (bV X x z fv scope cl s3.heap.objs.size s3 (upd H s2.heap.objs.size (.lst [])) fp) [] H' b:=λ{H'} hn b hb=>by
  obtain⟨_,f1,f2,f3,f4,f5⟩:=hf b hb;refine⟨hn b hb,hfC b hb,λz'=>?_,.inl hb,λy c e=>f4 y c (B.sub y c e),λp hp=>absurd (show p∈([]:List (Addr×Obj)) from hp) (by simp)⟩;rcases aH.mp (I.stkSub b z') with q|q
  ·exact f1 q
  ·exact f2 q
 have loop:codeAny (model X.prog X.w) X.A (.compLoop (.ListComp elt [⟨(.Tuple [.Name x px,.Name z pz] tk tpos),iter,[],0⟩] scope pos) 0 (.ref it) (.ref s2.heap.objs.size) (compEnvC scope cl s3.heap.objs.size X.env)) (RR (.ref s2.heap.objs.size) s3.heap.objs.size) s4:=by
  refine pG (λn s'=>∃i H' o o2,Inv (bV X x z fv scope cl s3.heap.objs.size s3 (upd H s2.heap.objs.size (.lst [])) fp) [] (bN fv σ o o2) H' s'∧tn i s'.heap∧(∀b∈fp,H' b=none)∧W i n H') ?_ m0
   ⟨0,_,none,none,I4,st4,λb hb=>(hf3 b hb).1,w0⟩
  rintro n s5 E' ⟨i,H5,o5,o6,I5,st5,fr5,w5⟩
  rcases turn i n H5 w5 with ⟨stop,q⟩|⟨go,N,hN,step⟩
  ·refine thn (T.done (bV X x z fv scope cl s3.heap.objs.size s3 (upd H s2.heap.objs.size (.lst [])) fp) rfl rfl rfl hc i [] s5 _ H5 _ I5 (stat fr5) st5 stop) λr s6 ⟨hr,I6⟩=>?_;subst hr;obtain⟨m6,hn6,_⟩:=I6.loc;have un:Un (frs X.stack) fp H H5 s2.heap s6.heap:=by
    have u1:Un (frs X.stack) fp H (upd H s2.heap.objs.size (.lst [])) s2.heap s3.heap:=Un.laid up3 (aw _) hD;exact u1.trans I6.base
   have J6:Inv X Xj σ H5 s6:=by
    refine I.call' ?_ un I6.hok I6.bare λb hb=>?_
    ·have:=I6.os;rw[show (bV X x z fv scope cl s3.heap.objs.size s3 (upd H s2.heap.objs.size (.lst [])) fp).s₀.os=s2.os by rw[←hs3]]at this;exact this
    ·obtain⟨_,f1,f2,f3,f4,f5⟩:=hf b hb;exact⟨f3,f1,f4,f5⟩
   refine hRR _ _ s6 H5 m6 J6 ?_ hn6 q;exact I3.fpOk (aw _) I6.free
  ·refine thn (T.item (bV X x z fv scope cl s3.heap.objs.size s3 (upd H s2.heap.objs.size (.lst [])) fp) rfl rfl rfl hc i [] s5 _ H5 _ I5 (stat fr5) st5 go) λr s6 ⟨u,hr,h6⟩=>?_;subst hr;refine thn h6 λ_ s7 ⟨v,H7,I7,r7,y7,st7,fr7⟩=>?_;have I7':=I7.pinned (stat fr7) (T.obj _ _ st7);obtain⟨q7,x1,x2,ev,sq7,rd7⟩:=step v H7 y7;refine wpAny_mono (ES (px:=px) (pz:=pz) (tk:=tk) (tpos:=tpos) hc B _ s7 _ H7 v u (λσ' H'=>σ'=bN fv σ (some x1) (some x2)∧H'=H7) I7' r7 ⟨q7,[x1,x2],ev,sq7,rfl,x1,[x2],rfl,x2,[],rfl,rfl,rfl,rfl⟩) (λ_ s8 ⟨σ8,H8,I8,e8a,e8b⟩=>?_) λ_ _ z=>False.elim z;subst e8a e8b;have e8:=he _ _ _ _ _ s8 _ _ _ I8 rd7;refine wpAny_mono e8 (λy s9 ⟨yv,H9,I9,r9,ys,hD9,hz,n9⟩=>?_) λ_ _ z=>False.elim z;have a9:=el (X:=bV X x z fv scope cl s3.heap.objs.size s3 (upd H s2.heap.objs.size (.lst [])) fp) _ s9 _ H9 (.ref s2.heap.objs.size) [yv] (.ref s2.heap.objs.size) [y] (λ_ H10=>H10=upd H9 s2.heap.objs.size (.lst (ys++[yv]))) I9 rfl (.cons r9 .nil)
    ⟨_,ys,yv,rfl,rfl,hD9,hz,rfl⟩
   refine wpAny_mono a9 (λ_ s10 ⟨_,H10,I10,_,e10⟩=>?_) λ_ _ z=>False.elim z;subst e10;obtain⟨m',hm,w9⟩:=hN _ n9;refine⟨m',hm,i+1,_,some x1,some x2,I10.unpinned,T.keep _ _ _ st7 λb hb o e=>(I10.pin (b,o) (bE _ (bE _ (cS hb e)))).1,λb hb=>?_,w9⟩;obtain⟨o,e,_⟩:=T.obj _ _ st7 b hb;exact (I10.pin (b,o) (bE _ (bE _ (cS hb e)))).2.1
 exact codeAny_compStart_list loop (T.self _ 0 _ _ _ st4 loop)
def jd (K:W.Frag)(J:It)(fv:List (Nat×Str))(te:TE)(Q:VK)(σ:St)(H1:Hp)(D:Addr):Prop:=∃W:Nat->Nat->Hp->Prop,(∃m,W 0 m (upd H1 D (.lst [])))∧∀i m H,W i m H->
 (J.stop i H∧Q (.ref D) H)∨(J.go i H∧∃N:Hp->Prop,(∀H',N H'->∃m',m'<m∧W (i+1) m' H')∧∀v H',J.yld i H v H'->∃q x1 x2,v=.ref q∧SqT K H' q [x1,x2]∧te (bN fv σ (some x1) (some x2)) H' λy H2=>∃ys,H2 D=some (.lst ys)∧ys.length<sizeLine∧N (upd H2 D (.lst (ys++[y]))))
def ET (K:W.Frag)(fv:List (Nat×Str))(wi:TI)(te:TE):TE:=λσ H Q=>wi σ H λJ H1=>∀D,H1 D=none->jd K J fv te Q σ H1 D
theorem rm {K:W.Frag}{σ:St}{H:Hp}{Q:VK}:ET K fv wi te σ H Q=wi σ H λJ H1=>∀D,H1 D=none->jd K J fv te Q σ H1 D:=rfl
def je (X:Cx)(scope:Scope)(cl:List (Str×Addr))(fv:List (Nat×Str)):Prop:=∀p∈fv,X.N[p.1]?=some p.2∧(X.env.scope.names.lookup p.2=some .cell∨X.env.scope.names.lookup p.2=some .free)∧
  ((relabel scope X.env).names.lookup p.2=some .cell∨(relabel scope X.env).names.lookup p.2=some .free)∧∃c,cl.lookup p.2=some c
theorem rn {X:Cx}{scope:Scope}{cl:List (Str×Addr)}:je X scope cl []:=λ_ h=>nomatch h
theorem zh {X:Cx}{scope:Scope}{cl:List (Str×Addr)}{fv:List (Nat×Str)}(i:Nat) (y:Str) (h2:X.N[i]?=some y) (h3:X.env.scope.names.lookup y=some .cell∨X.env.scope.names.lookup y=some .free)
  (h4:(relabel scope X.env).names.lookup y=some .cell∨(relabel scope X.env).names.lookup y=some .free) (h5:∃c,cl.lookup y=some c) (r:je X scope cl fv):je X scope cl ((i,y) :: fv):=λp hp=>by
 rcases aH.mp hp with rfl|hp
 ·exact⟨h2,h3,h4,h5⟩
 ·exact r p hp
theorem zi {X:Cx}{x z:Str}{fv:List (Nat×Str)}{scope:Scope}{cl:List (Str×Addr)}(clos:closureFor scope X.env=pure cl) (sub:∀y c,cl.lookup y=some c->X.env.cells.lookup y=some c) (fvs:je X scope cl fv)
  (nd:(x :: z :: fv.map (·.2)).Nodup:=by decide) (kind:scope.kind=.function:=by rfl) (here:scope.names.lookup x=some .local:=by rfl) (here2:scope.names.lookup z=some .local:=by rfl) (nocell:∀y∈scope.names,y.2≠.cell:=by decide +kernel)
  (names:∀y∈scope.names,y.2=.local->scope.names.lookup y.1=some .local:=by decide +kernel)
  (has:((relabel scope X.env).names.all λp=>(p.2 != .cell && p.2 != .free) || (cl.lookup p.1).isSome)=true:=by rfl):BlkOk2 X x z fv scope cl:=
 ⟨clos,nocell,kind,names,here,here2,nd,sub,pI has,fvs⟩
end
def Itz (K:W.Frag)(a b:Addr):It:=
 ⟨λi H=>∃xs ys x y,SqL K H a xs∧SqL K H b ys∧xs[i]?=some x∧ys[i]?=some y,λi H v H'=>∃p x y,H p=none∧v=.ref p∧H'=upd H p (.tup [x,y])∧(∀xs,SqL K H a xs->xs[i]?=some x)∧∀ys,SqL K H b ys->ys[i]?=some y,
  λi H=>∃xs ys,SqL K H a xs∧SqL K H b ys∧(xs.length<=i∨ys.length<=i)⟩
theorem K2 {P:Program}{w:World}{K:W.Frag}{elts:List Expr}{tk:Nat}{tpos:Pos}(a b z TI TO i1 i2:Addr)(D:ZipApart z TI TO i1 i2 a b):
  Turn P w K (.Tuple elts tk tpos) (Itz K a b) [z,TI,TO,i1,i2] z (λi h=>IsZip h z TI TO .none∧IsPair h TI (.ref i1) (.ref i2)∧(∃u v,IsPair h TO u v)∧h.IsListIter i1 a i∧h.IsListIter i2 b i) where
 mem:=by simp
 obj:=λi h st c hb=>by
  obtain⟨hz,hTI,⟨u,v,hTO⟩,⟨o1,e1,c1,d1⟩,⟨o2,e2,c2,d2⟩⟩:=st;simp only[aH,ck,or_false]at hb;rcases hb with rfl|rfl|rfl|rfl|rfl
  ·exact⟨_,hz,λv z=>by
    have z':Data.fields _=Data.cell v:=z
    cases z'⟩
  ·exact⟨_,hTI,λv z=>by
    have z':Data.seq _=Data.cell v:=z
    cases z'⟩
  ·exact⟨_,hTO,λv z=>by
    have z':Data.seq _=Data.cell v:=z
    cases z'⟩
  ·exact⟨o1,e1,λv z=>by rw[d1]at z;cases z⟩
  ·exact⟨o2,e2,λv z=>by rw[d2]at z;cases z⟩
 keep:=λi h h' st k=>by
  obtain⟨hz,hTI,⟨u,v,hTO⟩,h1,h2⟩:=st;exact⟨k z (by simp) _ hz,k TI (by simp) _ hTI,⟨u,v,k TO (by simp) _ hTO⟩,h1.at λo q=>k i1 (by simp) o q,h2.at λo q=>k i2 (by simp) o q⟩
 item:=by
  intro X hP hw hK hc i Xj s σ H E I hf st hg;subst hP hw hK;obtain⟨xs,ys,x,y,hq1,hq2,hx,hy⟩:=hg;obtain⟨its1,rv1,pl1,hz1⟩:=I.list hq1;obtain⟨its2,rv2,pl2,hz2⟩:=I.list hq2;obtain⟨u1,hu1,ru1⟩:=rv1.get hx;obtain⟨u2,hu2,ru2⟩:=rv2.get hy;obtain⟨hz,hTI,⟨_,_,hTO⟩,hit1,hit2⟩:=st;refine wpAny_pyNext_zip_item D hz hTI hTO hit1 hit2 pl1.isList pl2.isList (x:=u1) (y:=u2) (by simpa using hu1) (by simpa using hu2) λh1 ho hTO1 hi1 hi2 hT hsz hk=>?_;refine⟨_,rfl,wpAny_letOwnedTupleGo_zip ho λh2 he2 hs2=>?_⟩;have hp:H s.heap.objs.size=none:=I.hok.fresh (aw _);have hpz:s.heap.objs.size≠z:=gg (Heap.lt_size hz);have k2:∀c o,c∉[z,TI,TO,i1,i2]->s.heap.get? c=some o->h2.get? c=some o:=λc o hb q=>
   (hs2.2 c λe=>hb (by simp[e])).trans (hk c o (λe=>hb (by simp[e])) (λe=>hb (by simp[e])) (λe=>hb (by simp[e])) (λe=>hb (by simp[e])) q)
  have hT2:h2.get? s.heap.objs.size=some { cls:=.type "tuple",data:=.seq #[u1,u2] }:=(hs2.2 _ hpz).trans hT;have nch:∀c u,H c=some u->c∉[z,TI,TO,i1,i2]:=λc u q hb=>by
   rw[(hf c hb).1]at q;cases q
  have up:∀c,c<s.heap.objs.size->c≠s.heap.objs.size:=λc hb=>aO hb;have I2:Inv X Xj σ (upd H s.heap.objs.size (.tup [x,y])) { s with heap:=h2 }:=by
   refine I.step (g':=s.gens) (d':=s.drawn) (t':=s.toks) (ch:=[z,TI,TO,i1,i2]) (λc hb=>?_) (λc o _ _ hc q _=>k2 c o hc q) (λc o _ _ hc q _=>⟨o.slots,k2 c o hc q⟩)
    (λc o _ q n=>by rw[aq (up c (Heap.lt_size q))];exact n) (λc o hc q=>⟨o,k2 c o hc q⟩) (λc ys q=>by rw[aq (aV q hp)];exact q) (λc o v q=>by rw[aq (aV q hp)];exact q)
    (λc ps q=>⟨#[],by rw[aq (aV q hp),q];simp⟩) (λm hm=>?_) (λc v q=>?_) I.bare
   ·obtain⟨f0,f1,f2,f3,f4,f5⟩:=hf c hb;exact⟨f3,f1,f4,f5⟩
   ·obtain⟨o,es,ep,q,r⟩:=hm;refine⟨o,es,ep,k2 _ o (λe=>?_) q,r⟩;exact (hf _ e).2.1 rfl
   ·by_cases hb:c=s.heap.objs.size
    ·subst hb;rw[af]at q;cases q;exact⟨by show 2<=sizeLine;decide,[u1,u2],.cons ru1 (.cons ru2 .nil),⟨_,hT2,rfl,_,rfl⟩⟩
    ·rw[aq hb]at q;refine (I.hok c v q).stay (λc' o hc r=>k2 c' o ?_ r) (λc' r=>by rw[aq (aV r hp)];exact r) λc' ys r=>by rw[aq (aV r hp)];exact r
     rcases hc with e|e
     ·rw[e];exact nch c v q
     ·exact nch c' _ e
  refine⟨.ref s.heap.objs.size,_,I2,rfl,⟨_,x,y,hp,rfl,rfl,λzs hz'=>by rw[I.list_inj hz' hq1];exact hx,λzs hz'=>by rw[I.list_inj hz' hq2];exact hy⟩,
   ⟨he2,(hs2.2 TI D.TIz).trans (hk TI _ D.TIz D.TITO D.TIi1 D.TIi2 hTI),⟨_,_,(hs2.2 TO D.TOz).trans hTO1⟩,hi1.at λo q=>(hs2.2 i1 D.i1z).trans q,hi2.at λo q=>(hs2.2 i2 D.i2z).trans q⟩,λc hb=>?_⟩
  have lb:c<s.heap.objs.size:=by
   simp only[aH,ck,or_false]at hb;rcases hb with rfl|rfl|rfl|rfl|rfl
   ·exact Heap.lt_size hz
   ·exact Heap.lt_size hTI
   ·exact Heap.lt_size hTO
   ·obtain⟨_,q,_⟩:=hit1;exact Heap.lt_size q
   ·obtain⟨_,q,_⟩:=hit2;exact Heap.lt_size q
  rw[aq (up c lb)];exact (hf c hb).1
 done:=by
  intro X hP hw hK hc i Xj s σ H E I hf st hg;subst hP hw hK;obtain⟨xs,ys,hq1,hq2,hx⟩:=hg;obtain⟨its1,rv1,pl1,hz1⟩:=I.list hq1;obtain⟨its2,rv2,pl2,hz2⟩:=I.list hq2;obtain⟨hz,hTI,⟨_,_,hTO⟩,hit1,hit2⟩:=st;have hl1:=rv1.length;have hl2:=rv2.length;refine wpAny_pyNext_zip_end (I.ok.hd hc) D hz hTI hTO hit1 hit2 pl1.isList pl2.isList (by rcases hx with e|e;exact .inl (by simp;omega);exact .inr (by simp;omega)) λh' eb=>⟨rfl,?_⟩
  have k2:∀c o,c∉[z,TI,TO,i1,i2]->s.heap.get? c=some o->h'.get? c=some o:=λc o hb q=>eb c o (λe=>hb (by simp[e])) (λe=>hb (by simp[e])) (λe=>hb (by simp[e])) (λe=>hb (by simp[e])) q;refine I.step (g':=s.gens) (d':=s.drawn) (t':=s.toks) (ch:=[z,TI,TO,i1,i2]) (λc hb=>?_) (λc o _ _ hc q _=>k2 c o hc q) (λc o _ _ hc q _=>⟨o.slots,k2 c o hc q⟩)
   (λc o _ q n=>n) (λc o hc q=>⟨o,k2 c o hc q⟩) (λc ys q=>q) (λc o v q=>q) (λc ps q=>⟨#[],by rw[q];simp⟩) (λm hm=>?_) (λc v q=>?_) I.bare
  ·obtain⟨f0,f1,f2,f3,f4,f5⟩:=hf c hb;exact⟨f3,f1,f4,f5⟩
  ·obtain⟨o,es,ep,q,r⟩:=hm;exact⟨o,es,ep,k2 _ o (λe=>(hf _ e).2.1 rfl) q,r⟩
  ·refine (I.hok c v q).stay (λc' o hc r=>k2 c' o ?_ r) (λc' r=>r) λc' ys r=>r;have nch:∀c u,H c=some u->c∉[z,TI,TO,i1,i2]:=λc u q hb=>by
    rw[(hf c hb).1]at q;cases q
   rcases hc with e|e
   ·rw[e];exact nch c v q
   ·exact nch c' _ e
 self:=λ_ _ _ _ _ st h=>wpAny_pyIter_zip st.1 h
section
variable {X:Cx}
def EU (K:W.Frag)(ta:TA):TI:=λσ H R=>ta σ H λvs H1=>∃a b xs ys,vs=[.ref a,.ref b]∧SqL K H1 a xs∧SqL K H1 b ys∧R (Itz K a b) H1
theorem K3 {elts:List Expr}{tk:Nat}{tpos:Pos}{a b:Expr}{ta:TA}{p pos:Pos}(hg:Gl X "zip") (hm:X.mg "zip" = none) (ha:PA X [a,b] ta) (hs:starEach [a,b] X.env=[(false,eval a X.env),(false,eval b X.env)]:=by rfl)
  (hs2:starEach [b] X.env=[(false,eval b X.env)]:=by rfl):
  PI X (.Tuple elts tk tpos) (.Call (.Name "zip" p) [a,b] [] pos) (EU X.K ta):=by
 intro Xj s σ H R I h;refine Call_ (e_ I hg hm boot_zip (PyProof.Rows.callWith_type1 (thn (ha pos Xj s σ H _ I h) λus s1 ⟨vs,H1,I1,r1,q1⟩=>?_) (by rw[hs,hs2]) (by rw[hs2];rfl)));obtain⟨a,b,xs,ys,e,hq1,hq2,q⟩:=q1;subst e
 cases r1 with
 | cons r rr=>
  cases rr with
  | cons r' rr=>
  cases rr
  cases r
  cases r'
  obtain⟨its1,rv1,pl1,hz1⟩:=I1.list hq1;obtain⟨its2,rv2,pl2,hz2⟩:=I1.list hq2;have a1:a<s1.heap.objs.size:=by obtain⟨_,e,_⟩:=pl1.isList;exact Heap.lt_size e
  have a2:b<s1.heap.objs.size:=by obtain⟨_,e,_⟩:=pl2.isList;exact Heap.lt_size e
  refine call_zip_2 pl1.isList pl2.isList λh1 hz hTI hTO hi1 hi2 hsz hk=>?_;have I2:Inv X Xj σ H1 { s1 with heap:=h1 }:=I1.kept (t':=s1.toks) hk;refine wpAny_pyIter_zip hz ?_;refine⟨s1.heap.objs.size+4,[s1.heap.objs.size+4,s1.heap.objs.size+2,s1.heap.objs.size+3,s1.heap.objs.size,s1.heap.objs.size+1],_,_,H1,rfl,I2,K2 a b _ _ _ _ _ (zipApart_new a1 a2),⟨hz,hTI,⟨_,_,hTO⟩,hi1,hi2⟩,λc hb=>?_,q⟩;have hb':s1.heap.objs.size<=c:=by
   simp only[aH,ck,or_false]at hb;rcases hb with rfl|rfl|rfl|rfl|rfl <;> omega
  exact I1.fpOk hb' (I1.hok.fresh hb')
end
theorem ro {K:W.Frag}{ta:TA}{σ:St}{H:Hp}{R:It->Hp->Prop}:EU K ta σ H R=ta σ H λvs H1=>∃a b xs ys,vs=[.ref a,.ref b]∧SqL K H1 a xs∧SqL K H1 b ys∧R (Itz K a b) H1:=rfl
theorem K4 {K:W.Frag}{a b:Addr}{xs ys:List V}{fv:List (Nat×Str)}{te:TE}{Q:VK}{σ:St}{H1:Hp}{D:Addr}(Pv:Nat->Hp->Prop) (h0:Pv 0 (upd H1 D (.lst []))) (hl:∀i H,i<=xs.length->i<=ys.length->Pv i H->SqL K H a xs∧SqL K H b ys)
  (hs:∀i v1 v2 p H,xs[i]?=some v1->ys[i]?=some v2->Pv i H->H p=none->te (bN fv σ (some v1) (some v2)) (upd H p (.tup [v1,v2])) λy H2=>∃zs,H2 D=some (.lst zs)∧zs.length<sizeLine∧Pv (i+1) (upd H2 D (.lst (zs++[y]))))
  (hd:∀H,Pv (min xs.length ys.length) H->Q (.ref D) H):jd K (Itz K a b) fv te Q σ H1 D:=by
 refine⟨λi m H=>m=min xs.length ys.length-i∧i<=min xs.length ys.length∧Pv i H,⟨_,rfl,aY _,h0⟩,?_⟩
 rintro i m H ⟨rfl,hi,p⟩
 obtain⟨q1,q2⟩:=hl i H (by omega) (by omega) p;by_cases hlt:i<min xs.length ys.length
 ·have l1:i<xs.length:=by omega
  have l2:i<ys.length:=by omega
  refine .inr ⟨⟨xs,ys,xs[i],ys[i],q1,q2,aJ l1,aJ l2⟩,Pv (i+1),λH' p'=>⟨min xs.length ys.length-(i+1),by omega,rfl,hlt,p'⟩,λv H' y=>?_⟩;obtain⟨pa,x1,x2,hn,e1,e2,y1,y2⟩:=y;subst e1 e2;exact⟨pa,x1,x2,rfl,.inl (.inl af),hs i x1 x2 pa H (y1 xs q1) (y2 ys q2) p hn⟩
 ·have e:i=min xs.length ys.length:=by omega
  refine .inl ⟨⟨xs,ys,q1,q2,by omega⟩,?_⟩;rw[e]at p;exact hd H p
section
variable {X:Cx}
def ipC (C:Int->Int->Prop)(f:Int->Int->Int):TIp:=λx y H Q=>∃i j,x=.int i∧y=.int j∧C i j∧Q (.int (f i j)) H
theorem rq {C:Int->Int->Prop}{f:Int->Int->Int}{x y:V}{H:Hp}{Q:VK}:ipC C f x y H Q=∃i j,x=.int i∧y=.int j∧C i j∧Q (.int (f i j)) H:=rfl
theorem EV:PIp X .Mult (ipC IntMulOk λi j=>i*j):=by
 intro Xj s σ H x y v u Q I r1 r2 h;obtain⟨i,j,e1,e2,hm,q⟩:=h;subst e1;subst e2;obtain⟨t,rfl⟩:=r1;obtain⟨t',rfl⟩:=r2;exact imul_int ⟨.int _,H,I.tok _,⟨_,rfl⟩,q⟩ hm
end
def K5 (K:W.Frag)(t tk:TA):TE:=λσ H Q=>t σ H λvs H1=>tk σ H1 λzs H2=>∃p ns d,vs=[.ref p]∧zs=[.int d]∧SqL K H2 p (ns.map V.int)∧∀M,(ns=[]∧M=d)∨(M∈ns∧∀a∈ns,a<=M)->Q (.int M) H2
theorem rA {K:W.Frag}{t tk:TA}{σ:St}{H:Hp}{Q:VK}:K5 K t tk σ H Q=t σ H λvs H1=>tk σ H1 λzs H2=>∃p ns d,vs=[.ref p]∧zs=[.int d]∧SqL K H2 p (ns.map V.int)∧∀M,(ns=[]∧M=d)∨(M∈ns∧∀a∈ns,a<=M)->Q (.int M) H2:=rfl
theorem rB {K:W.Frag}{neg:Bool}{x y:V}{H:Hp}{Q:VK}:rIn K neg x y H Q=∃p xs,y=.ref p∧(SqL K H p xs∨SqT K H p xs)∧pF x=true∧xs.all pF=true∧Q (.bl (if neg then !inV x xs else inV x xs)) H:=rfl
open PySem
def EnAt (h:Heap)(d:Addr)(es:Array DictEntry)(ep:Nat):Prop:=∃o,h.get? d=some o∧o.ExactDict∧o.data=.dict es ep
theorem EnAt.ty {s:Shared}{d:Addr}{es:Array DictEntry}{ep:Nat}(x:EnAt s.heap d es ep):s.TypeIs (.ref d) "dict" := let ⟨o,ho,hc,_⟩:=x;⟨o,ho,hc.1⟩
theorem EnAt.at {h h':Heap}{d:Addr}{es:Array DictEntry}{ep:Nat}(x:EnAt h d es ep)(k:∀o,h.get? d=some o->h'.get? d=some o):EnAt h' d es ep:=let ⟨o,ho,r⟩:=x;⟨o,k o ho,r⟩
section
variable {prog:Program}{w:World}{A:Around}{E:Value->Shared->Prop}{s:Shared}{d:Addr}{es:Array DictEntry}{ep:Nat}
theorem zj {nm:String}{Q:Addr->Shared->Prop}(hm:EnAt s.heap d es ep)(q:Q d s):wpAny (model prog w) A (Builtin.Dict.noArgs nm ⟨[.ref d],[]⟩) Q E s:=by
 unfold Builtin.Dict.noArgs;refine wpAny_bind (wpAny_notOrdered_dict hm.ty ?_);exact wpAny_pure q
theorem gz {Q:Unit->Shared->Prop}(hd:(d == sysModules)=false)(q:Q () s):wpAny (model prog w) A (Builtin.Dict.showsAll d) Q E s:=by
 unfold Builtin.Dict.showsAll;rw[if_neg (λz=>Bool.false_ne_true (hd.symm.trans z))];exact wpAny_pure q
theorem K6 {Q:Value->Shared->Prop}(hd:(d == sysModules)=false) (hm:EnAt s.heap d es ep)
  (q:Q (.ref s.heap.objs.size) { s with heap:=s.heap.push { cls:=.type "dict_items",data:=.fields #[.ref d] } }):wpAny (model prog w) A (call (.builtin "dict.items") [.ref d]) Q E s:=by
 refine wpAny_call_entry F.slot_dict_items hm.ty F.entry_dict_items ?_ (F.args_dict_items_1 _);unfold Builtin.«dict.items»;refine wpAny_bind (zj hm (wpAny_bind (gz hd ?_)));exact wpAny_bind (wpAny_newObj_type (wpAny_pure ⟨_,rfl,q⟩))
theorem K7 {Q:Value->Shared->Prop}(hd:(d == sysModules)=false) (hm:EnAt s.heap d es ep)
  (q:Q (.ref s.heap.objs.size) { s with heap:=s.heap.push { cls:=.type "dict_keys",data:=.fields #[.ref d] } }):wpAny (model prog w) A (call (.builtin "dict.keys") [.ref d]) Q E s:=by
 refine wpAny_call_entry F.slot_dict_keys hm.ty F.entry_dict_keys ?_ (F.args_dict_keys_1 _);show wpAny _ _ ((Builtin.Dict.noArgs _ _) >>= _) _ _ _;refine wpAny_bind (zj hm (wpAny_bind (gz hd ?_)));exact wpAny_bind (wpAny_newObj_type (wpAny_pure ⟨_,rfl,q⟩))
theorem K8 {v:Addr}{Q:Value->Shared->Prop}(hv:s.heap.IsItemsView v d) (hm:EnAt s.heap d es ep)
  (q:Q (.ref s.heap.objs.size) { s with heap:=s.heap.push { cls:=.type "dict_itemiterator",data:=.fields #[.none,.bool false,.ref d,.int 0 0,.int es.size 0,.int ep 0,.none,.none] } }):
  wpAny (model prog w) A (pyIter (.ref v)) Q E s:=by
 obtain⟨ov,a1,a2,a3⟩:=id hv;obtain⟨o,b1,b2,b3⟩:=id hm;refine wpAny_pyIter_slot hv.typeIs F.slot_dict_items_iter (wpAny_call_entry F.slot_dict_items_iter hv.typeIs F.entry_dict_items_iter ?_ (F.args_dict_items_iter_1 _));unfold Builtin.«dict_items.__iter__» Builtin.Dict_items.dictOf Builtin.Dict_items.newIterator;have own:Builtin.Dict_items.ownsTuple "dict_itemiterator" = true:=by decide
 refine wpAny_bind (wpAny_pure (wpAny_bind (wpAny_bind (wpAny_field a1 a3 (x:=.ref d) rfl (wpAny_pure (wpAny_bind (wpAny_bind (wpAny_dictEntries b1 b3 (wpAny_bind (wpAny_dictEpoch b1 b3 ?_))))))))));simp only[own,if_true];refine wpAny_newObj_type (wpAny_pure ⟨_,rfl,"dict_itemiterator",_,⟨_,Heap.get?_push_size _ rfl,rfl⟩,F.slot_dict_itemiterator_next.lookup,?_⟩) ?_
 ·simpa [rawInt,Builtin.Dict_items.ownedTupleFields] using q
 ·simp only[sizeOk,Builtin.Dict_items.ownedTupleFields,bW,b8,cb,dE,sizeLine_eq];omega
end
open PySem
section
variable {prog:Program}{w:World}{A:Around}{E:Value->Shared->Prop}{s:Shared}{d it:Addr}{es:Array DictEntry}{ep i:Nat}{ok ov:Value}
theorem K9 {e:DictEntry}{Q:Option Value->Shared->Prop}(hi:IsItemIter s.heap it d i es.size ep ok ov) (hm:EnAt s.heap d es ep) (he:es[i]?=some e)
  (q:∀h',IsItemIterOut h' it d (i+1) es.size ep e.key e.val s.heap.objs.size->h'.get? s.heap.objs.size=some { cls:=.type "tuple",data:=.seq #[e.key,e.val] }->h'.objs.size=s.heap.objs.size+1->
   (∀b o,b≠it->s.heap.get? b=some o->h'.get? b=some o)->Q (some (.ref s.heap.objs.size)) { s with heap:=h' }):wpAny (model prog w) A (pyNext (.ref it)) Q E s:=by
 obtain⟨hp,g,dr,tk,os⟩:=s;obtain⟨od,o1,o2,o3⟩:=id hm;have ty:∀h':Heap,IsItemIter h' it d i es.size ep ok ov->Shared.TypeIs ⟨h',g,dr,tk,os⟩ (.ref it) "dict_itemiterator" := λh' z=>⟨_,z,rfl⟩
 obtain⟨lt,ee⟩:=Array.getElem?_eq_some_iff.mp he;have own:Builtin.Dict_items.ownsTuple "dict_itemiterator" = true:=by decide
 unfold pyNext;refine wpAny_bind (wpAny_attempt (wpAny_callSpecial?_slot (name:=Str.ofString "__next__") (ty _ hi) F.slot_dict_itemiterator_next (wpAny_call_entry F.slot_dict_itemiterator_next (ty _ hi) F.entry_dict_itemiterator_next ?_ (F.args_dict_itemiterator_next_1 _))));refine wpAny_bind (wpAny_pure (wpAny_bind (wpAny_bind ?_)))
 first
  | refine wpAny_bind (wpAny_typeNameOfWhole_itemiter (ty _ hi) (wpAny_pure ?_))
  | refine wpAny_bind (wpAny_typeNameOf_itemiter (ty _ hi) (wpAny_pure ?_))
 refine wpAny_bind (wpAny_fieldsOf hi rfl ?_);simp only[own,if_true];show wpAny _ _ (ite ((Value.ref d == Value.none)=true) _ _) _ _ _;rw[if_neg (show ¬(Value.ref d == Value.none)=true from λz=>nomatch z)];refine wpAny_bind (wpAny_pure (wpAny_bind (wpAny_dictEntries o1 o3 ?_)));rw[if_neg (by simp)];refine wpAny_bind (wpAny_pure (wpAny_bind (wpAny_dictEpoch o1 o3 ?_)));rw[if_neg (by simp)];refine wpAny_pure ?_;have nn:¬((i:Int)<0):=by omega
 simp only[nn,if_false,dk,he];refine wpAny_bind ?_
 first
  | refine wpAny_bind (wpAny_typeNameOfWhole_itemiter (ty _ hi) (wpAny_pure ?_))
  | refine wpAny_bind (wpAny_typeNameOf_itemiter (ty _ hi) (wpAny_pure ?_))
 refine wpAny_bind (wpAny_isOneOf_itemiter (ty _ hi) ?_);show wpAny _ _ (setField (.ref it) 3 (rawInt ((i:Int)+1)) >>= _) _ _ (⟨hp,g,dr,tk,os⟩:Shared);refine wpAny_bind (wpAny_setField_rec hi (by simp) λh1 x1 s1=>?_);have x1:IsItemIter h1 it d (i+1) es.size ep ok ov:=by
  unfold IsItemIter;rw[show ((i+1:Nat):Int)=(i:Int)+1 by omega]
  simpa [rawInt] using x1
 have s1:Heap.SameBut it hp h1:=s1;have t1:Shared.TypeIs ⟨h1,g,dr,tk,os⟩ (.ref it) "dict_itemiterator" := ⟨_,x1,rfl⟩
 refine wpAny_bind (wpAny_holding (wpAny_bind (wpAny_isOneOf_itemiter t1 (wpAny_bind (wpAny_isOneOf_itemiter t1 ?_)))));show wpAny _ _ (Builtin.Dict_items.pairFromOwner (.ref it) 6 e.key e.val) _ _ (⟨h1,g,dr,tk,os⟩:Shared);unfold Builtin.Dict_items.pairFromOwner;refine wpAny_bind (wpAny_newTuple ?_);obtain⟨h2,e2⟩:∃h2,h2=h1.push { cls:=.type "tuple",data:=.seq #[e.key,e.val] }:=⟨_,rfl⟩
 have x2:IsItemIter h2 it d (i+1) es.size ep ok ov:=by rw[e2];exact Heap.get?_push_of_some _ x1
 have z1:h1.objs.size=hp.objs.size:=s1.1;have lt1:it<hp.objs.size:=Heap.lt_size hi;have t2:h2.get? hp.objs.size=some { cls:=.type "tuple",data:=.seq #[e.key,e.val] }:=by rw[e2,←z1];exact Heap.get?_push_size _ rfl
 have z2:h2.objs.size=hp.objs.size+1:=by rw[e2,Heap.size_push,z1]
 have k2:∀b o,b≠it->hp.get? b=some o->h2.get? b=some o:=λb o hb y=>by rw[e2];exact Heap.get?_push_of_some _ (s1.extBut b o hb y)
 rw[z1,show h1.push { cls:=.type "tuple",data:=.seq #[e.key,e.val] }=h2 from e2.symm];show wpAny _ _ (Builtin.Dict_items.ownedTupleIsFree (.ref it) >>= _) _ _ (⟨h2,g,dr,tk,os⟩:Shared);unfold Builtin.Dict_items.ownedTupleIsFree;refine wpAny_bind (wpAny_bind (wpAny_field x2 rfl (x:=.none) rfl (wpAny_pure ?_)));simp only[if_true];refine wpAny_bind (wpAny_field x2 rfl (x:=ok) rfl (wpAny_bind (wpAny_field x2 rfl (x:=ov) rfl ?_)));refine wpAny_bind (wpAny_setField_rec x2 (by simp) λh3 x3 s3=>?_);have x3:IsItemIter h3 it d (i+1) es.size ep e.key ov:=x3;have s3:Heap.SameBut it h2 h3:=s3;refine wpAny_bind (wpAny_setField_rec x3 (by simp) λh4 x4 s4=>?_);have x4:IsItemIter h4 it d (i+1) es.size ep e.key e.val:=x4;have s4:Heap.SameBut it h3 h4:=s4;refine wpAny_bind (wpAny_setField_rec x4 (by simp) λh5 x5 s5=>?_);have x5:IsItemIterOut h5 it d (i+1) es.size ep e.key e.val hp.objs.size:=x5;have s5:Heap.SameBut it h4 h5:=s5;refine wpAny_bind (wpAny_setField_rec x5 (by simp) λh6 x6 s6=>?_);have x6:IsItemIterOut h6 it d (i+1) es.size ep e.key e.val hp.objs.size:=x6;have s6:Heap.SameBut it h5 h6:=s6;have up:∀b o,b≠it->h2.get? b=some o->h6.get? b=some o:=λb o hb y=>s6.extBut b o hb (s5.extBut b o hb (s4.extBut b o hb (s3.extBut b o hb y)));refine wpAny_bind (wpAny_letGo (wpAny_pure (wpAny_pure ⟨_,rfl,wpAny_pure (q h6 x6 (up _ _ (gg lt1) t2) ?_ λb o hb y=>up b o hb (k2 b o hb y))⟩)));show h6.objs.size=hp.objs.size+1;rw[s6.1,s5.1,s4.1,s3.1,z2]
theorem K_ {Q:Option Value->Shared->Prop}(hh:A.handled=none) (hi:IsItemIter s.heap it d i es.size ep ok ov) (hm:EnAt s.heap d es ep) (he:es.size<=i)
  (q:∀h',Heap.ExtBut it s.heap h'->Q none { s with heap:=h' }):wpAny (model prog w) A (pyNext (.ref it)) Q E s:=by
 obtain⟨od,o1,o2,o3⟩:=id hm;have ty:s.TypeIs (.ref it) "dict_itemiterator" := ⟨_,hi,rfl⟩
 have own:Builtin.Dict_items.ownsTuple "dict_itemiterator" = true:=by decide
 unfold pyNext;refine wpAny_bind (wpAny_attempt (wpAny_callSpecial?_slot (name:=Str.ofString "__next__") ty F.slot_dict_itemiterator_next (wpAny_call_entry F.slot_dict_itemiterator_next ty F.entry_dict_itemiterator_next ?_ (F.args_dict_itemiterator_next_1 _))));refine wpAny_bind (wpAny_pure (wpAny_bind (wpAny_bind ?_)))
 first
  | refine wpAny_bind (wpAny_typeNameOfWhole_itemiter ty (wpAny_pure ?_))
  | refine wpAny_bind (wpAny_typeNameOf_itemiter ty (wpAny_pure ?_))
 refine wpAny_bind (wpAny_fieldsOf hi rfl ?_);simp only[own,if_true];show wpAny _ _ (ite ((Value.ref d == Value.none)=true) _ _) _ _ _;rw[if_neg (show ¬(Value.ref d == Value.none)=true from λz=>nomatch z)];refine wpAny_bind (wpAny_pure (wpAny_bind (wpAny_dictEntries o1 o3 ?_)));rw[if_neg (by simp)];refine wpAny_bind (wpAny_pure (wpAny_bind (wpAny_dictEpoch o1 o3 ?_)));rw[if_neg (by simp)];refine wpAny_pure ?_;have nn:¬((i:Int)<0):=by omega
 simp only[nn,if_false,dk,Array.getElem?_eq_none he];refine wpAny_bind ?_
 first
  | refine wpAny_bind (wpAny_typeNameOfWhole_itemiter ty (wpAny_pure ?_))
  | refine wpAny_bind (wpAny_typeNameOf_itemiter ty (wpAny_pure ?_))
 show wpAny _ _ (setField (.ref it) 2 .none >>= _) _ _ s;refine wpAny_bind (wpAny_setField hi rfl (by simp) ?_);show wpAny _ _ (newExc (.type "StopIteration") [] >>= _) _ _ _;simp only[newExc,newTuple];refine wpAny_bind (wpAny_bind (wpAny_newObj_type ?_ (by size_fits)));refine wpAny_bind (m:=firstArgMember _ _) (wpAny_of_eq (a:=Value.none) (by first|rfl|(simp only[firstArgMember];rfl)) (wpAny_newObj_type ?_ (by size_fits)));simp only[raiseNew];refine wpAny_bind (wpAny_handled ?_);rw[show A.in1.handled=none from hh];refine wpAny_bind (wpAny_pure (wpAny_throw (wpAny_bind ?_)));refine wpAny_isInstance (T := "StopIteration") (b:=true) ⟨_,Heap.get?_push_size _ rfl,rfl⟩ isSubtype_stop ?_;exact wpAny_pure (q _ (((Heap.SameBut.update ..).extBut.push _).push _))
theorem La {Q:Value->Shared->Prop}(hm:EnAt s.heap d es ep) (hz:es.size<=sizeLine)
  (q:∀h' ep',EnAt h' d #[] ep'->Heap.SameBut d s.heap h'->Q .none { s with heap:=h' }):wpAny (model prog w) A (call (.builtin "dict.clear") [.ref d]) Q E s:=by
 obtain⟨o,o1,o2,o3⟩:=id hm;refine wpAny_call_entry F.slot_dict_clear hm.ty F.entry_dict_clear ?_ (F.args_dict_clear_1 _);unfold Builtin.«dict.clear» bearsInstanceDictMark;refine wpAny_bind (zj hm (wpAny_bind (wpAny_dictEntries o1 o3 (wpAny_bind (wpAny_bind (wpAny_load o1 (wpAny_pure ?_)))))));refine wpAny_bind (wpAny_updateDictKeys (hz:=hz) o1 o3 ?_);have new:EnAt (s.heap.update d (Obj.mapDictKeys λ_=>#[])) d #[] (ep+1):=⟨_,Heap.get?_update_self _ o1 (Obj.isFreed_of_dict (Obj.data_mapDictKeys o3 _)),o2.mapDictKeys _,Obj.data_mapDictKeys o3 _⟩
 split
 ·exact wpAny_bind (wpAny_letGo (wpAny_pure ⟨.none,rfl,q _ _ new (Heap.SameBut.update ..)⟩))
 ·exact wpAny_bind (wpAny_pure (wpAny_pure ⟨.none,rfl,q _ _ new (Heap.SameBut.update ..)⟩))
end
open PySem
section
variable {prog:Program}{w:World}{A:Around}{E:Value->Shared->Prop}{s:Shared}{d o:Addr}{es:Array DictEntry}{ep epd:Nat}
structure Tks (s:Shared)(es:Array DictEntry):Prop where
 tup:∀e∈es.toList,∃b,e.key=.ref b∧s.TypeIs (.ref b) "tuple"
 one:∀e∈es.toList,¬(es.filter (λx=>x.hash == e.hash)).size > 1
theorem Lb {nm:String}{Q:Array DictEntry->Shared->Prop}(hm:EnAt s.heap o es ep)(t:Tks s es)(q:Q es s):wpAny (model prog w) A (Builtin.Dict.entriesForEmpty nm o) Q E s:=by
 obtain⟨ob,o1,o2,o3⟩:=id hm;unfold Builtin.Dict.entriesForEmpty;refine wpAny_bind (wpAny_dictEntries o1 o3 (wpAny_bind ?_));rw[←Array.forIn_toList];refine wpAny_forIn_list _ (λrest _ s'=>s'=s∧∀e∈rest,e∈es.toList) _ ?_ ?_ _ _ ⟨rfl,λ_ h=>h⟩
 ·rintro e rest b s' ⟨rfl,hr⟩
  obtain⟨k,ek,tk⟩:=t.tup e (hr e cN);rw[ek];unfold Builtin.Dict.quietEq;refine wpAny_bind (wpAny_bind (wpAny_specialOf tk F.slot_tuple_eq.lookup (wpAny_pure ?_)));rw[if_pos (by decide),if_neg (t.one e (hr e cN))];exact wpAny_pure ⟨rfl,λe' h'=>hr e' (b7 _ h')⟩
 ·rintro b s' ⟨rfl,_⟩
  exact wpAny_pure q
theorem Lc {nm:String}{Q:Unit->Shared->Prop}(ne:d≠o) (hs:(o == sysModules)=false) (hd:EnAt s.heap d #[] epd) (hm:EnAt s.heap o es ep) (t:Tks s es) (hz:es.size<=sizeLine)
  (q:∀h' ep',EnAt h' d es ep'->Heap.SameBut d s.heap h'->Q () { s with heap:=h' }):wpAny (model prog w) A (Builtin.Dict.mergeDict nm d o) Q E s:=by
 obtain⟨ob,o1,o2,o3⟩:=id hm;obtain⟨od,d1,d2,d3⟩:=id hd;unfold Builtin.Dict.mergeDict;rw[if_neg (λz=>ne (eq_of_beq z))];refine wpAny_bind (gz hs (wpAny_bind (wpAny_dictEntries o1 o3 ?_)));by_cases h0:es.toList=[]
 ·have e0:es=#[]:=by cases es;simp at h0;rw[h0]
  subst e0;rw[if_neg (by simp)];refine wpAny_bind (wpAny_dictEpoch o1 o3 (wpAny_bind (wpAny_dictEntries o1 o3 (wpAny_bind ?_))));rw[Std.Legacy.Range.forIn_eq_forIn_range'];refine wpAny_forIn_list _ (λrest _ s'=>s'=s∧rest=[]) _ ?_ ?_ _ _ ⟨rfl,rfl⟩
  ·rintro x rest b s' ⟨_,hr⟩
   cases hr
  ·rintro b s' ⟨rfl,_⟩
   exact wpAny_pure (q _ _ hd (Heap.SameBut.refl _ _))
 ·obtain⟨e,rest,h1⟩:∃e rest,es.toList=e :: rest:=by
   cases h:es.toList with
   | nil=>exact absurd h h0
   | cons e rest=>exact⟨e,rest,rfl⟩
  obtain⟨k,ek,tk⟩:=t.tup e (by rw[h1];exact cN);have few:(es.all λe=>(keyPart e.key).isSome)=false:=by
   rw[←Array.all_toList,h1,List.all_cons,ek];rfl
  rw[few,Bool.and_false,if_pos (by rfl)];refine wpAny_bind (wpAny_dictEntries d1 d3 ?_);rw[if_pos (by rfl)];refine wpAny_bind (Lb hm t ?_);have ne0:es.isEmpty=false:=by
   cases es with
   | mk l=>cases l with
    | nil=>exact absurd rfl h0
    | cons _ _=>rfl
  rw[if_pos (by rw[ne0];rfl)];refine wpAny_bind (wpAny_updateDictKeysTo d1 d3 (wpAny_pure (q _ _ ⟨_,Heap.get?_update_self _ d1 (Obj.isFreed_of_dict (Obj.data_mapDictKeys d3 _)),d2.mapDictKeys _,Obj.data_mapDictKeys d3 _⟩ (Heap.SameBut.update ..))) (Iu hz))
end
open PySem
theorem fE {h:Heap}{b c:Addr}{o p:Obj}{T U:String}(h1:h.get? b=some o)(c1:o.cls=.type T)(h2:h.get? c=some p)(c2:p.cls=.type U)(ne:T≠U):b≠c:=λz=>by
 subst z;rw[h1]at h2;have e:o=p:=Option.some.inj h2;rw[←e,c1]at c2;exact ne (Value.type.inj c2)
theorem EW:entryFor table "dict.update.loop" = some Builtin.«dict.update.loop»:=entryFor_of_tree (by kernel_rfl)
theorem rC:plainId "dict.update.loop" = true:=by decide +kernel
section
variable {prog:Program}{w:World}{K:Type}[DecidableEq K]{kn:KeyKind prog w K}{A:Around}{E:Value->Shared->Prop}
abbrev Prs (K:Type):=List (Addr×List K×Addr×Value)
def df (ps:Prs K):List (List K×Addr×Value):=ps.foldl (λa x=>storedH a x.2.1 x.2.2.1 x.2.2.2) []
theorem Ld (ps:Prs K)(x:Addr×List K×Addr×Value):df (ps++[x])=storedH (df ps) x.2.1 x.2.2.1 x.2.2.2:=by unfold df;rw[gY];rfl
theorem Le (ps:Prs K):(df ps).length<=ps.length:=by
 unfold df;have h:∀(l:Prs K) (a:List (List K×Addr×Value)),(l.foldl (λa x=>storedH a x.2.1 x.2.2.1 x.2.2.2) a).length<=a.length+l.length:=by
  intro l
  induction l with
  | nil=>intro a;exact aw _
  | cons x l ih=>
   intro a;have h1:=ih (storedH a x.2.1 x.2.2.1 x.2.2.2);have h2:(storedH a x.2.1 x.2.2.1 x.2.2.2).length<=a.length+1:=by unfold storedH;split <;> simp
   rw[d5,cb];omega
 have:=h ps [];rw[dE]at this;omega
def PairAt (kn:KeyKind prog w K)(h:Heap)(x:Addr×List K×Addr×Value):Prop:=h.IsTuple x.1 #[.ref x.2.2.1,x.2.2.2]∧IsTupleKey kn h x.2.1 x.2.2.1
theorem PairAt.keep {h h':Heap}{x:Addr×List K×Addr×Value}{d it:Addr}{es:Array DictEntry}{ep:Nat}{l:Addr}{i:Nat}(p:PairAt kn h x) (hd:EnAt h d es ep) (hi:h.IsListIter it l i)
  (k:∀b o,b≠it->b≠d->h.get? b=some o->h'.get? b=some o):PairAt kn h' x:=by
 obtain⟨⟨o,h1,h2,h3⟩,o2,items,n,g1,g2,g3⟩:=p;obtain⟨od,d1,d2,_⟩:=hd;obtain⟨oi,i1,i2,_⟩:=hi;have ne:∀b (ob:Obj),h.get? b=some ob->ob.cls=.type "tuple" -> b≠it∧b≠d:=λb ob q c=>⟨fE q c i1 i2 (by decide),fE q c d1 d2.1 (by decide)⟩
 exact⟨⟨o,k _ o (ne _ o h1 h2).1 (ne _ o h1 h2).2 h1,h2,h3⟩,o2,items,n,k _ o2 (ne _ o2 g1 g2).1 (ne _ o2 g1 g2).2 g1,g2,g3⟩
theorem zk {h:Heap}{d:Addr}{xs:List (List K×Addr×Value)}(x:h.DictOfH (tupleKind kn) d xs):∃es ep,EnAt h d es ep:=let ⟨o,es,ep,h1,h2,h3,_⟩:=x;⟨es,ep,o,h1,h2,h3⟩
theorem Lf {R:Result->Shared->Prop}(hh:A.handled=none)(hu:A.in1.units<cLine)(d it L:Addr)(ps:Prs K)(hz:ps.length<=sizeLine):∀(n i:Nat) (s:Shared),ps.length-i=n->i<=ps.length->s.heap.IsListIter it L i->s.heap.IsList L (ps.map λx=>Value.ref x.1).toArray->
  (∀x∈ps,PairAt kn s.heap x)->s.heap.DictOfH (tupleKind kn) d (df (ps.take i))->
  (∀h' tk,h'.DictOfH (tupleKind kn) d (df ps)->(∀b o,b≠it->b≠d->s.heap.get? b=some o->h'.get? b=some o)->R (.ok (.ret .none)) { s with heap:=h',toks:=tk })->
  codeAny (model prog w) A (.builtin "dict.update.loop" ⟨[.ref d,.ref it,rawInt i,.none],[]⟩) R s:=by
 intro n
 induction n with
 | zero=>
  intro i s hn hi hit hl hp hd hR;have e:i=ps.length:=by omega
  subst e;refine codeAny_builtin EW ?_;rw[Around.under_plainId rC _];show wpAny _ A.in1 (pyNext (.ref it) >>= _) _ _ s;refine wpAny_bind (wpAny_pyNext_list_end hh hit hl (by simp) λh1 eb=>?_);rw[c_]at hd;obtain⟨es,ep,en⟩:=zk hd;have nd:d≠it:=by
   obtain⟨oi,i1,i2,_⟩:=hit;obtain⟨od,d1,d2,_⟩:=en;exact fE d1 d2.1 i1 i2 (by decide)
  show wpAny _ A.in1 (Builtin.Dict.addKeywords d [] >>= _) _ _ _;refine wpAny_bind (wpAny_pure (wpAny_pure (hR h1 s.toks ?_ λb o hb _ q=>eb b o hb q)));obtain⟨o,es,ep,g1,g2,g3,g4,g5,g6⟩:=hd;refine⟨o,es,ep,eb d o nd g1,g2,g3,g4,λx hx=>?_,g6⟩;obtain⟨ok,items,m,k1,k2,k3⟩:=(show IsTupleKey kn s.heap x.1 x.2.1 from g5 x hx)
  have:x.2.1≠it:=by
   obtain⟨oi,i1,i2,_⟩:=hit;exact fE k1 k2 i1 i2 (by decide)
  exact⟨ok,items,m,eb _ ok this k1,k2,k3⟩
 | succ n ih=>
  intro i s hn hi hit hl hp hd hR;have lt:i<ps.length:=by omega
  obtain⟨x,hx⟩:∃x,ps[i]?=some x:=⟨_,aJ lt⟩
  have hm:=ci hx;obtain⟨es,ep,en⟩:=zk hd;refine codeAny_builtin EW ?_;rw[Around.under_plainId rC _];show wpAny _ A.in1 (pyNext (.ref it) >>= _) _ _ s;refine wpAny_bind (wpAny_pyNext_list_item hit hl (x:=.ref x.1) (by simp[hx]) λh1 hit1 sb=>?_);have k1:∀b o,b≠it->b≠d->s.heap.get? b=some o->h1.get? b=some o:=λb o hb _ q=>(sb.2 b hb).trans q;have nd:d≠it:=by
   obtain⟨oi,i1,i2,_⟩:=hit;obtain⟨od,d1,d2,_⟩:=en;exact fE d1 d2.1 i1 i2 (by decide)
  have hp1:∀x∈ps,PairAt kn h1 x:=λx hx=>(hp x hx).keep en hit k1;have hd1:h1.DictOfH (tupleKind kn) d (df (ps.take i)):=by
   obtain⟨o,es,ep,g1,g2,g3,g4,g5,g6⟩:=hd;refine⟨o,es,ep,(sb.2 d nd).trans g1,g2,g3,g4,λy hy=>?_,g6⟩;obtain⟨ok,items,m,q1,q2,q3⟩:=(show IsTupleKey kn s.heap y.1 y.2.1 from g5 y hy)
   have:y.2.1≠it:=by
    obtain⟨oi,i1,i2,_⟩:=hit;exact fE q1 q2 i1 i2 (by decide)
   exact⟨ok,items,m,(sb.2 _ this).trans q1,q2,q3⟩
  obtain⟨⟨ot,t1,t2,m,t3⟩,hk⟩:=hp1 x hm;refine wpAny_bind (wpAny_holding (wpAny_bind (wpAny_tryCatch ?_)));unfold Builtin.Dict.pairItems;refine wpAny_bind (wpAny_typeOf (T := "tuple") ⟨ot,t1,t2⟩ ?_);rw[if_pos (by decide)];refine wpAny_bind (wpAny_seqItems t1 t3 (wpAny_pure ?_));show wpAny _ A.in1 (holding [Value.ref x.2.2.1,x.2.2.2] (dictSet d (.ref x.2.2.1) x.2.2.2)) _ _ _;have hz2:(df (ps.take i)).length<=sizeLine:=by
   have h1:=Le (ps.take i);rw[cB]at h1;omega
  refine wpAny_holding (wpAny_dictSet_heap (hsz:=hz2) hu hk hd1 λh2 hd2 sb2=>?_);obtain⟨es1,ep1,en1⟩:=zk hd1;have k2:∀b o,b≠it->b≠d->h1.get? b=some o->h2.get? b=some o:=λb o _ hb q=>(sb2.2 b hb).trans q;have hit2:h2.IsListIter it L (i+1):=by
   obtain⟨oi,q⟩:=hit1;exact⟨oi,(sb2.2 it (Ne.symm nd)).trans q.1,q.2⟩
  have hl2:h2.IsList L (ps.map λx=>Value.ref x.1).toArray:=by
   obtain⟨ol,l1,l2,l3⟩:=hl;obtain⟨oi,i1,i2,_⟩:=hit;obtain⟨od,d1,d2,_⟩:=en;have n1:L≠it:=fE l1 l2 i1 i2 (by decide);have n2:L≠d:=fE l1 l2 d1 d2.1 (by decide);exact⟨ol,k2 _ _ n1 n2 (k1 _ _ n1 n2 l1),l2,l3⟩
  have et:ps.take (i+1)=ps.take i++[x]:=by rw[List.take_succ,hx];rfl
  refine wpAny_pure ⟨plainId_quiet rC _,?_⟩;have er:rawInt ((i:Int)+1)=rawInt ((i+1:Nat):Int):=by rw[Int.natCast_add];rfl
  show codeAny _ A (.builtin "dict.update.loop" ⟨[.ref d,.ref it,rawInt ((i:Int)+1),.none],[]⟩) R _;rw[er];refine ih (i+1) _ (by omega) lt hit2 hl2 (λy hy=>(hp1 y hy).keep en1 hit1 k2) (by rw[et,Ld];exact hd2) λh' tk hd' k3=>?_;exact hR h' tk hd' λb o b1 b2 q=>k3 b o b1 b2 (k2 b o b1 b2 (k1 b o b1 b2 q))
end
section
variable {prog:Program}{w:World}{A:Around}{E:Value->Shared->Prop}{s:Shared}
theorem Lg {o:Addr}{es:Array DictEntry}{ep:Nat}{Q:Value->Shared->Prop}(hs:(o == sysModules)=false) (hm:EnAt s.heap o es ep) (t:Tks s es) (hz:es.size<=sizeLine)
  (q:∀h' ep',EnAt h' s.heap.objs.size es ep'->Heap.SameBut s.heap.objs.size (s.heap.push { cls:=.type "dict",data:=.dict #[] }) h'->Q (.ref s.heap.objs.size) { s with heap:=h' }):wpAny (model prog w) A (call (.type "dict") [.ref o]) Q E s:=by
 refine callType_codes (Q₁:=λv s1=>v=.ref s.heap.objs.size∧s1={ s with heap:=s.heap.push { cls:=.type "dict",data:=.dict #[] } }) F.kt_called_dict (F.kt_typeCall_dict_1 _) F.entry_dict_init (kt_code_dict_new _ ⟨rfl,rfl⟩) ?_
 rintro v s1 ⟨rfl,rfl⟩
 obtain⟨ob,o1,o2,o3⟩:=id hm;have new:EnAt (s.heap.push { cls:=.type "dict",data:=.dict #[] }) s.heap.objs.size #[] 0:=⟨_,Heap.get?_push_size _ rfl,⟨rfl,rfl,rfl⟩,rfl⟩
 have hm1:EnAt (s.heap.push { cls:=.type "dict",data:=.dict #[] }) o es ep:=hm.at λ_=>Heap.get?_push_of_some _;have ne:s.heap.objs.size≠o:=gg (Heap.lt_size o1);have t1:Tks { s with heap:=s.heap.push { cls:=.type "dict",data:=.dict #[] } } es:=⟨λe he=>by
  obtain⟨b,eb,ob,ty⟩:=t.tup e he;exact⟨b,eb,ob,Heap.get?_push_of_some _ ty.1,ty.2⟩,t.one⟩
 refine⟨new.ty,F.args_dict_init_2 _ _,?_⟩;unfold Builtin.«dict.__init__» Builtin.Dict.selfAndRest;refine wpAny_bind (wpAny_bind (wpAny_notOrdered_dict new.ty (wpAny_pure ?_)));show wpAny _ A.in1.in1 (Builtin.Dict.updateFrom "dict.__init__" s.heap.objs.size (.ref o) [] .none) _ _ _;unfold Builtin.Dict.updateFrom Builtin.Dict.merge Builtin.Dict.readDirectly;refine wpAny_bind (wpAny_typeOf hm1.ty ?_);rw[if_neg (by decide)];refine wpAny_bind (wpAny_bind (wpAny_bind (wpAny_isInstance hm1.ty isSubtype_dict_dict ?_)));rw[if_neg (by decide)];refine wpAny_bind (wpAny_specialOf hm1.ty F.slot_dict_iter.lookup (wpAny_pure ?_));rw[if_pos (by decide)];refine wpAny_bind (wpAny_pure (Lc ne hs new hm1 t1 hz λh' ep' en sb=>?_));show wpAny _ _ (Builtin.Dict.addKeywords s.heap.objs.size [] >>= _) _ _ _;exact wpAny_bind (wpAny_pure (wpAny_pure ⟨rfl,q h' ep' en sb⟩))
end
open PySem
theorem Lh:typeLookup (.type "list") "keys" = pure none:=by rw[typeLookup_type,builtinLookup_eq_fast];kernel_rfl
theorem Li {prog:Program}{w:World}{A:Around}{E:Value->Shared->Prop}{s:Shared}{a:Addr}{o:Obj}{xs:Array Value}{k:Nat}{Q:Option Value->Shared->Prop}
  (hx:s.heap.get? a=some o) (hc:o.cls=.type "list") (hdat:o.data=.seq xs k) (hd:o.dict=none) (hA:A.handled=none)
  (h:∀h' tk,(∀b ob,s.heap.get? b=some ob->h'.get? b=some ob)->Q none { s with heap:=h',toks:=tk }):wpAny (model prog w) A (getAttr? (.ref a) "keys") Q E s:=by
 obtain⟨c,dct,dat,sl⟩:=o;simp only at hc hdat hd;subst hc hdat hd;obtain⟨hp,g,d,tk,os⟩:=s;have ty:∀tk',(⟨hp,g,d,tk',os⟩:Shared).TypeIs (.ref a) "list" := λ_=>⟨_,hx,rfl⟩
 have f1:=sub_AttributeError;have f3:=F.slot_list_getattribute.lookup;have f4:=F.slot_list_getattribute.bind (.ref a);have f5:=am_list_getattr_none;unfold getAttr? getAttrBy? getAttrBy
 repeat (any_goals (first|assumption|exact ty _|((with_reducible show wpAny _ _ (call (Value.builtin "list.__getattribute__") _ _) _ _ _);refine call_meets F.slot_list_getattribute (ty _) am_entry_list_getattribute (F.args_list_getattribute_2 _ _) (meets_getattribute_miss_list a xs k sl "keys" _ Lh (by decide +kernel)) ⟨hx,hA,λh' tk' e hx'=>?_⟩)|wp_step))
 obtain⟨t',u',he⟩:=hx'.there;show wpAny _ _ (getattributeRaised _ _ _ _ _ _ _) _ _ _;unfold getattributeRaised
 repeat (any_goals (first|assumption|wp_step))
 exact h h' tk' hx'.keeps
open PySem
section
variable {prog:Program}{w:World}{K:Type}[DecidableEq K]{kn:KeyKind prog w K}{A:Around}{E:Value->Shared->Prop}{s:Shared}
theorem PairAt.up {h h':Heap}{x:Addr×List K×Addr×Value}(p:PairAt kn h x)(k:∀b o,h.get? b=some o->h'.get? b=some o):PairAt kn h' x:=by
 obtain⟨⟨o,h1,h2⟩,o2,items,n,g1,g2⟩:=p;exact⟨⟨o,k _ _ h1,h2⟩,o2,items,n,k _ _ g1,g2⟩
theorem Lj {L:Addr}{ps:Prs K}{ol:Obj}{c:Nat}{Q:Value->Shared->Prop}(hh:A.handled=none) (hu:A.units+2<cLine) (hz:ps.length<=sizeLine) (l1:s.heap.get? L=some ol) (l2:ol.cls=.type "list") (l3:ol.dict=none)
  (l4:ol.data=.seq (ps.map λx=>Value.ref x.1).toArray c) (hp:∀x∈ps,PairAt kn s.heap x)
  (q:∀h' tk,h'.DictOfH (tupleKind kn) s.heap.objs.size (df ps)->(∀b o,s.heap.get? b=some o->h'.get? b=some o)->Q (.ref s.heap.objs.size) { s with heap:=h',toks:=tk }):wpAny (model prog w) A (call (.type "dict") [.ref L]) Q E s:=by
 refine callType_codes (Q₁:=λv s1=>v=.ref s.heap.objs.size∧s1={ s with heap:=s.heap.push { cls:=.type "dict",data:=.dict #[] } }) F.kt_called_dict (F.kt_typeCall_dict_1 _) F.entry_dict_init (kt_code_dict_new _ ⟨rfl,rfl⟩) ?_
 rintro v s1 ⟨rfl,rfl⟩
 have new:EnAt (s.heap.push { cls:=.type "dict",data:=.dict #[] }) s.heap.objs.size #[] 0:=⟨_,Heap.get?_push_size _ rfl,⟨rfl,rfl,rfl⟩,rfl⟩
 have up1:∀b o,s.heap.get? b=some o->(s.heap.push { cls:=.type "dict",data:=.dict #[] }).get? b=some o:=λ_ _=>Heap.get?_push_of_some _;refine⟨new.ty,F.args_dict_init_2 _ _,?_⟩;unfold Builtin.«dict.__init__» Builtin.Dict.selfAndRest;refine wpAny_bind (wpAny_bind (wpAny_notOrdered_dict new.ty (wpAny_pure ?_)));show wpAny _ A.in1.in1 (Builtin.Dict.updateFrom "dict.__init__" s.heap.objs.size (.ref L) [] .none) _ _ _;unfold Builtin.Dict.updateFrom;refine wpAny_bind (wpAny_typeOf (T := "list") ⟨ol,up1 _ _ l1,l2⟩ ?_);rw[if_pos (by decide)];refine wpAny_bind (Li (up1 _ _ l1) l2 l4 l3 hh λh2 tk2 up2=>?_);have up12:∀b o,s.heap.get? b=some o->h2.get? b=some o:=λb o e=>up2 b o (up1 b o e);rw[if_pos (by rfl)];refine wpAny_bind (wpAny_rule (wpAny_bind (wpAny_pyIter_list (items:=(ps.map λx=>Value.ref x.1).toArray) ⟨ol,up12 _ _ l1,l2,c,l4⟩ ?_)));refine wpAny_pure ⟨plainId_quiet rC _,?_⟩;have up3:∀b o,h2.get? b=some o->(h2.push { cls:=.type "list_iterator",data:=.fields #[.ref L,.int 0 0] }).get? b=some o:=λ_ _=>Heap.get?_push_of_some _;have newd:(h2.push { cls:=.type "list_iterator",data:=.fields #[.ref L,.int 0 0] }).DictOfH (tupleKind kn) s.heap.objs.size (df (ps.take 0)):=by
  obtain⟨o,h1,h2,h3⟩:=new;exact⟨o,#[],0,up3 _ _ (up2 _ _ h1),h2,h3,rfl,⟨λx hx=>absurd (show x∈([]:List (List K×Addr×Value)) from hx) ck,gX⟩⟩
 refine Lf (kn:=kn) (A:=A.in1) hh hu s.heap.objs.size _ L ps hz ps.length 0 _ (Nat.sub_zero _) (aY _) ⟨_,Heap.get?_push_size _ rfl,rfl,rfl⟩ ⟨ol,up3 _ _ (up12 _ _ l1),l2,c,l4⟩ (λx hx=>(hp x hx).up λb o e=>up3 b o (up12 b o e)) newd λh' tk hd k=>?_;refine⟨rfl,q h' tk hd λb o e=>?_⟩;have lt:=Heap.lt_size e;have lt2:=Heap.lt_size (up12 b o e);exact k b o (aO lt2) (aO lt) (up3 b o (up12 b o e))
end
open PySem
section
variable {prog:Program}{w:World}{K:Type}[DecidableEq K]{knd:HeapKind prog w K}{A:Around}{E:Value->Shared->Prop}{s:Shared}
theorem EX {nm:String}{a b:Addr}{xs ys:List (K×Addr×Value)}{Q:Bool->Shared->Prop}(sa:(a == sysModules)=false) (sb:(b == sysModules)=false) (hu:knd.room A) (ha:s.heap.DictOfH knd a xs) (hb:s.heap.DictOfH knd b ys) (hl:xs.length=ys.length)
  (he:∀x∈xs,∃p,atKey ys x.1=some p∧SeqAt.EqAt A s x.2.2 p.2 true) (q:Q true s):wpAny (model prog w) A (Builtin.Dict.samePairs nm a b) Q E s:=by
 obtain⟨oa,ea,pa,a1,a2,a3,a4,a5,a6⟩:=id ha;obtain⟨ob,eb,pb,b1,b2,b3,b4,b5,b6⟩:=id hb;have za:=size_of_entries a4;have zb:=size_of_entries b4;unfold Builtin.Dict.samePairs;refine wpAny_bind (gz sa (wpAny_bind (gz sb (wpAny_bind (wpAny_dictEntries a1 a3 (wpAny_bind (wpAny_dictEntries b1 b3 ?_)))))));rw[if_neg (by rw[za,zb,hl];simp)];refine wpAny_bind (wpAny_dictEpoch a1 a3 (wpAny_bind ?_));rw[Std.Legacy.Range.forIn_eq_forIn_range'];refine wpAny_forIn_list _ (λrest r s'=>s'=s∧r=(none,())∧∃i n,rest=List.range' i n∧i+n=ea.size) _ ?_ ?_ _ _ ⟨rfl,rfl,0,ea.size,by simp[Std.Legacy.Range.size],jN _⟩
 ·rintro x rest r s' ⟨rfl,rfl,i,n,hr,hin⟩
  cases n with
  | zero=>cases hr
  | succ n=>
   rw[List.range'_succ]at hr;injection hr with h1 h2;subst h1;have lt:x<xs.length:=by omega
   obtain⟨y,hy⟩:∃y,xs[x]?=some y:=⟨_,aJ lt⟩
   have hm:=ci hy;have e1:ea[x]?=some (entryOfKey knd y):=by rw[entry_at a4,hy];rfl
   obtain⟨p,hp,eq⟩:=he y hm;refine wpAny_bind (wpAny_dictEntries a1 a3 ?_);rw[e1];refine wpAny_bind (wpAny_holding (wpAny_bind (wpAny_dictFind_heap (k:=y.1) hu (a5 y hm) b1 b3 b4 b5 b6 (λno=>?_) λj p' hj=>?_)))
   ·rw[atKey_none_of_get no]at hp;cases hp
   ·rw[atKey_of_get b6 hj]at hp
    cases hp
    have e2:eb[j]?=some (entryOfKey knd (y.1,p)):=by rw[entry_at b4,hj];rfl
    refine wpAny_bind (wpAny_dictEntries b1 b3 ?_);rw[e2];refine wpAny_holding (eq _ _ _ _ ?_);rw[if_neg (by decide)];refine wpAny_bind (wpAny_dictEpoch a1 a3 ?_);rw[if_neg (by simp)];exact wpAny_pure ⟨rfl,rfl,_,n,h2,by omega⟩
 ·rintro r s' ⟨rfl,rfl,_⟩
  exact wpAny_pure q
end
open PySem
section
variable {K:Type}[DecidableEq K]
def eJ (kn:∀(prog:Program) (w:World),HeapKind prog w K)(h:Heap)(a:Addr)(xs:List (K×Addr×Value)):Prop:=∀prog w,h.DictOfH (kn prog w) a xs
theorem Lk (kn:∀(prog:Program) (w:World),HeapKind prog w K)(a b:Addr):Meets (Builtin.«dict.__eq__» ⟨[.ref a,.ref b],[]⟩) (λA R s=>∃xs ys,(a == sysModules)=false∧(b == sysModules)=false∧(∀prog w,(kn prog w).room A.in1)∧eJ kn s.heap a xs∧eJ kn s.heap b ys∧xs.length=ys.length∧
  (∀x∈xs,∃p,atKey ys x.1=some p∧SeqAt.EqAt A.in1 s x.2.2 p.2 true)∧R (.ok (.ret (.bool true))) s):=
 Meets.of_wp λprog w A R s hs=>by
  obtain⟨xs,ys,sa,sb,hu,ha,hb,hl,he,q⟩:=hs;have ta:=(ha prog w).typeIs;have tb:=(hb prog w).typeIs;show wpAny _ A.in1 (Builtin.Dict.dictSlotArgs "__eq__" ⟨[.ref a,.ref b],[]⟩ >>= _) _ _ s;unfold Builtin.Dict.dictSlotArgs;refine wpAny_bind (wpAny_bind (wpAny_notOrdered_dict ta ?_));refine wpAny_bind (wpAny_pure (wpAny_pure (wpAny_bind (wpAny_isInstance tb isSubtype_dict_dict ?_))));rw[if_neg (by decide)];refine wpAny_bind (wpAny_pure (wpAny_bind (wpAny_pure (wpAny_bind (EX sa sb (hu prog w) (ha prog w) (hb prog w) hl he (wpAny_pure ⟨_,rfl,q⟩))))))
theorem Ll (kn:∀(prog:Program) (w:World),HeapKind prog w K){A:Around}{s:Shared}{a b:Addr}{xs ys:List (K×Addr×Value)}(sa:(a == sysModules)=false) (sb:(b == sysModules)=false) (hu:∀prog w,(kn prog w).room A.in1) (hc:A.units<cLine) (ha:eJ kn s.heap a xs) (hb:eJ kn s.heap b ys) (hl:xs.length=ys.length)
  (he:∀x∈xs,∃p,atKey ys x.1=some p∧SeqAt.EqAt A.in1 s x.2.2 p.2 true):SeqAt.RcAt A s (.ref a) (.ref b) true:=λprog w E Q q=>
 richCompare_meets_room (op:=.Eq) (ha prog w).typeIs (hb prog w).typeIs F.slot_dict_eq F.entry_dict_eq (F.args_dict_eq_2 _ _) (Lk kn a b) ⟨xs,ys,sa,sb,hu,ha,hb,hl,he,⟨(λx=>nomatch x),q⟩⟩ hc
end
open PySem
section
variable {prog:Program}{w:World}{A:Around}{E:Value->Shared->Prop}{s:Shared}{d it:Addr}{es:Array DictEntry}{ep i:Nat}
theorem Lm {v:Addr}{Q:Value->Shared->Prop}(hv:PySem.W.KdlKeysView s.heap v d) (hm:EnAt s.heap d es ep)
  (q:Q (.ref s.heap.objs.size) { s with heap:=s.heap.push { cls:=.type "dict_keyiterator",data:=.fields #[.ref d,.int 0 0,.int es.size 0,.int ep 0] } }):wpAny (model prog w) A (pyIter (.ref v)) Q E s:=by
 obtain⟨ov,a1,a2,a3⟩:=id hv;obtain⟨o,b1,b2,b3⟩:=id hm;refine wpAny_pyIter_slot hv.typeIs PySem.W.kdl_slot_keys_iter (wpAny_call_entry PySem.W.kdl_slot_keys_iter hv.typeIs PySem.W.kdl_entry_keys_iter ?_ (PySem.W.kdl_args_keys_iter _));unfold Builtin.«dict_keys.__iter__» Builtin.Dict_items.dictOf Builtin.Dict_items.newIterator;have own:Builtin.Dict_items.ownsTuple "dict_keyiterator" = false:=by decide
 refine wpAny_bind (wpAny_pure (wpAny_bind (wpAny_bind (wpAny_field a1 a3 (x:=.ref d) rfl (wpAny_pure (wpAny_bind (wpAny_bind (wpAny_dictEntries b1 b3 (wpAny_bind (wpAny_dictEpoch b1 b3 ?_))))))))));simp only[own,Bool.false_eq_true,if_false];refine wpAny_newObj_type (wpAny_pure ⟨_,rfl,"dict_keyiterator",_,⟨_,Heap.get?_push_size _ rfl,rfl⟩,PySem.F.slot_dict_keyiterator_next.lookup,?_⟩)
 simpa [rawInt] using q
theorem Ln {e:DictEntry}{Q:Option Value->Shared->Prop}(hi:s.heap.IsKeyIter it d i es.size ep) (hm:EnAt s.heap d es ep) (he:es[i]?=some e)
  (q:∀h',h'.IsKeyIter it d (i+1) es.size ep->Heap.SameBut it s.heap h'->Q (some e.key) { s with heap:=h' }):wpAny (model prog w) A (pyNext (.ref it)) Q E s:=by
 obtain⟨oi,i1,i2,i3⟩:=id hi;obtain⟨od,o1,o2,o3⟩:=id hm;have own:Builtin.Dict_items.ownsTuple "dict_keyiterator" = false:=by decide
 unfold pyNext;refine wpAny_bind (wpAny_attempt (wpAny_callSpecial?_slot (name:=Str.ofString "__next__") hi.typeIs F.slot_dict_keyiterator_next (wpAny_call_entry F.slot_dict_keyiterator_next hi.typeIs F.entry_dict_keyiterator_next ?_ (F.args_dict_keyiterator_next_1 _))));refine wpAny_bind (wpAny_pure (wpAny_bind (wpAny_bind ?_)))
 first
  | refine wpAny_bind (wpAny_typeNameOfWhole_keyiter hi.typeIs (wpAny_pure ?_))
  | refine wpAny_bind (wpAny_typeNameOf_keyiter hi.typeIs (wpAny_pure ?_))
 refine wpAny_bind (wpAny_fieldsOf i1 i3 ?_);simp only[own,Bool.false_eq_true,if_false];show wpAny _ _ (ite ((Value.ref d == Value.none)=true) _ _) _ _ _;rw[if_neg (show ¬(Value.ref d == Value.none)=true from λz=>nomatch z)];refine wpAny_bind (wpAny_pure (wpAny_bind (wpAny_dictEntries o1 o3 ?_)));rw[if_neg (by simp)];refine wpAny_bind (wpAny_pure (wpAny_bind (wpAny_dictEpoch o1 o3 ?_)));rw[if_neg (by simp)];refine wpAny_pure ?_;have nn:¬((i:Int)<0):=by omega
 simp only[nn,if_false,dk,he];refine wpAny_bind ?_
 first
  | refine wpAny_bind (wpAny_typeNameOfWhole_keyiter hi.typeIs (wpAny_pure ?_))
  | refine wpAny_bind (wpAny_typeNameOf_keyiter hi.typeIs (wpAny_pure ?_))
 refine wpAny_bind (wpAny_isOneOf_keyiter hi.typeIs ?_);show wpAny _ _ (setField (.ref it) 1 (rawInt ((i:Int)+1)) >>= _) _ _ (s:Shared);refine wpAny_bind (wpAny_setField i1 i3 (by simp) ?_);obtain⟨h1,e1⟩:∃h1,h1=s.heap.update it (Obj.mapFields (·.setIfInBounds 1 (rawInt ((i:Int)+1)))):=⟨_,rfl⟩
 have x1:h1.IsKeyIter it d (i+1) es.size ep:=by
  rw[e1];exact⟨_,Heap.get?_update_self _ i1 (Obj.isFreed_of_fields (Obj.data_mapFields i3 _)),(Obj.cls_mapFields ..).trans i2,by rw[Obj.data_mapFields i3];simp[rawInt]⟩
 have sb:Heap.SameBut it s.heap h1:=by rw[e1];exact Heap.SameBut.update ..
 rw[←e1];have t1:Shared.TypeIs { s with heap:=h1 } (.ref it) "dict_keyiterator" := x1.typeIs (s:={ s with heap:=h1 });refine wpAny_bind (wpAny_holding (wpAny_bind (wpAny_isOneOf_keyiter t1 ?_)));show wpAny _ _ (pure e.key) _ _ _;exact wpAny_pure (wpAny_pure ⟨_,rfl,wpAny_pure (q h1 x1 sb)⟩)
theorem Lo {Q:Option Value->Shared->Prop}(hh:A.handled=none) (hi:s.heap.IsKeyIter it d i es.size ep) (hm:EnAt s.heap d es ep) (he:es.size<=i)
  (q:∀h',Heap.ExtBut it s.heap h'->Q none { s with heap:=h' }):wpAny (model prog w) A (pyNext (.ref it)) Q E s:=by
 obtain⟨oi,i1,i2,i3⟩:=id hi;obtain⟨od,o1,o2,o3⟩:=id hm;have own:Builtin.Dict_items.ownsTuple "dict_keyiterator" = false:=by decide
 unfold pyNext;refine wpAny_bind (wpAny_attempt (wpAny_callSpecial?_slot (name:=Str.ofString "__next__") hi.typeIs F.slot_dict_keyiterator_next (wpAny_call_entry F.slot_dict_keyiterator_next hi.typeIs F.entry_dict_keyiterator_next ?_ (F.args_dict_keyiterator_next_1 _))));refine wpAny_bind (wpAny_pure (wpAny_bind (wpAny_bind ?_)))
 first
  | refine wpAny_bind (wpAny_typeNameOfWhole_keyiter hi.typeIs (wpAny_pure ?_))
  | refine wpAny_bind (wpAny_typeNameOf_keyiter hi.typeIs (wpAny_pure ?_))
 refine wpAny_bind (wpAny_fieldsOf i1 i3 ?_);simp only[own,Bool.false_eq_true,if_false];show wpAny _ _ (ite ((Value.ref d == Value.none)=true) _ _) _ _ _;rw[if_neg (show ¬(Value.ref d == Value.none)=true from λz=>nomatch z)];refine wpAny_bind (wpAny_pure (wpAny_bind (wpAny_dictEntries o1 o3 ?_)));rw[if_neg (by simp)];refine wpAny_bind (wpAny_pure (wpAny_bind (wpAny_dictEpoch o1 o3 ?_)));rw[if_neg (by simp)];refine wpAny_pure ?_;have nn:¬((i:Int)<0):=by omega
 simp only[nn,if_false,dk,Array.getElem?_eq_none he];refine wpAny_bind ?_
 first
  | refine wpAny_bind (wpAny_typeNameOfWhole_keyiter hi.typeIs (wpAny_pure ?_))
  | refine wpAny_bind (wpAny_typeNameOf_keyiter hi.typeIs (wpAny_pure ?_))
 show wpAny _ _ (setField (.ref it) 0 .none >>= _) _ _ (s:Shared);refine wpAny_bind (wpAny_setField i1 i3 (by simp) ?_);show wpAny _ _ (newExc (.type "StopIteration") [] >>= _) _ _ _;simp only[newExc,newTuple];refine wpAny_bind (wpAny_bind (wpAny_newObj_type ?_ (by size_fits)));refine wpAny_bind (m:=firstArgMember _ _) (wpAny_of_eq (a:=Value.none) (by first|rfl|(simp only[firstArgMember];rfl)) (wpAny_newObj_type ?_ (by size_fits)));simp only[raiseNew];refine wpAny_bind (wpAny_handled ?_);rw[show A.in1.handled=none from hh];refine wpAny_bind (wpAny_pure (wpAny_throw (wpAny_bind ?_)));refine wpAny_isInstance (T := "StopIteration") (b:=true) ⟨_,Heap.get?_push_size _ rfl,rfl⟩ isSubtype_stop ?_;exact wpAny_pure (q _ (((Heap.SameBut.update ..).extBut.push _).push _))
end
open PySem
inductive Tr where|lf|nd (l:Tr) (k:Nat) (r:Tr)
def Tr.ins (k:Nat):Tr->Option Tr
 | .lf=>some (.nd .lf k .lf)
 | .nd l m r=>match Nat.blt k m with
  | true=>match Tr.ins k l with|some l'=>some (.nd l' m r)|none=>none
  | false=>match Nat.blt m k with
   | true=>match Tr.ins k r with|some r'=>some (.nd l m r')|none=>none
   | false=>none
def Tr.all:List Nat->Tr->Bool
 | [],_=>true
 | k :: ks,t=>match t.ins k with|some t'=>Tr.all ks t'|none=>false
def Tr.mem (x:Nat):Tr->Prop
 | .lf=>False
 | .nd l k r=>x=k∨l.mem x∨r.mem x
def Tr.ord:Tr->Prop
 | .lf=>True
 | .nd l k r=>(∀x,l.mem x->x<k)∧(∀x,r.mem x->k<x)∧l.ord∧r.ord
theorem Tr.ins_ok {k:Nat}:∀{t t':Tr},t.ord->t.ins k=some t'->t'.ord∧¬t.mem k∧∀x,t'.mem x↔x=k∨t.mem x
 | .lf,t',_,e=>by
  cases e
  exact⟨⟨λ_ h=>h.elim,λ_ h=>h.elim,trivial,trivial⟩,λh=>h,λx=>by simp[Tr.mem]⟩
 | .nd l m r,t',o,e=>by
  obtain⟨o1,o2,o3,o4⟩:=o;unfold Tr.ins at e
  cases h:Nat.blt k m with
  | true=>
   rw[h]at e;have lt:k<m:=by simpa [Nat.blt_eq] using h
   cases q:l.ins k with
   | none=>rw[q]at e;cases e
   | some l'=>
    rw[q]at e
    cases e
    obtain⟨p1,p2,p3⟩:=Tr.ins_ok o3 q;refine⟨⟨λx hx=>?_,o2,p1,o4⟩,?_,λx=>?_⟩
    ·rcases (p3 x).mp hx with z|z
     ·omega
     ·exact o1 x z
    ·rintro (z|z|z)
     ·omega
     ·exact p2 z
     ·have:=o2 k z;omega
    ·simp only[Tr.mem,p3];constructor
     ·rintro (z|(z|z)|z)
      ·exact .inr (.inl z)
      ·exact .inl z
      ·exact .inr (.inr (.inl z))
      ·exact .inr (.inr (.inr z))
     ·rintro (z|z|z|z)
      ·exact .inr (.inl (.inl z))
      ·exact .inl z
      ·exact .inr (.inl (.inr z))
      ·exact .inr (.inr z)
  | false=>
   rw[h]at e;have ge:¬k<m:=by intro z;have:=Nat.blt_eq.mpr z;rw[h]at this;cases this
   cases h2:Nat.blt m k with
   | false=>rw[h2]at e;cases e
   | true=>
    rw[h2]at e;have lt:m<k:=by simpa [Nat.blt_eq] using h2
    cases q:r.ins k with
    | none=>rw[q]at e;cases e
    | some r'=>
     rw[q]at e
     cases e
     obtain⟨p1,p2,p3⟩:=Tr.ins_ok o4 q;refine⟨⟨o1,λx hx=>?_,o3,p1⟩,?_,λx=>?_⟩
     ·rcases (p3 x).mp hx with z|z
      ·omega
      ·exact o2 x z
     ·rintro (z|z|z)
      ·omega
      ·have:=o1 k z;omega
      ·exact p2 z
     ·simp only[Tr.mem,p3];constructor
      ·rintro (z|z|z|z)
       ·exact .inr (.inl z)
       ·exact .inr (.inr (.inl z))
       ·exact .inl z
       ·exact .inr (.inr (.inr z))
      ·rintro (z|z|z|z)
       ·exact .inr (.inr (.inl z))
       ·exact .inl z
       ·exact .inr (.inl z)
       ·exact .inr (.inr (.inr z))
theorem Tr.all_ok:∀{l:List Nat}{t:Tr},t.ord->Tr.all l t=true->l.Nodup∧∀k∈l,¬t.mem k
 | [],_,_,_=>⟨gX,λ_ h=>nomatch h⟩
 | k :: l,t,o,e=>by
  unfold Tr.all at e
  cases q:t.ins k with
  | none=>rw[q]at e;cases e
  | some t'=>
   rw[q]at e;obtain⟨p1,p2,p3⟩:=Tr.ins_ok o q;obtain⟨h1,h2⟩:=Tr.all_ok p1 e;refine⟨eV.mpr ⟨λhm=>h2 k hm ((p3 k).mpr (.inl rfl)),h1⟩,λx hx=>?_⟩;rcases aH.mp hx with rfl|hx
   ·exact p2
   ·exact λz=>h2 x hx ((p3 x).mpr (.inr z))
def hkI (i j:Int):Int:=reduceHash (Builtin.Tuple.tupleHashOf [hashInt i,hashInt j])
def hkN (i j:Nat):Nat:=(hkI i j+9223372036854775808).toNat
def hkAll:List Nat:=(aR 61).flatMap λi=>(aR 61).map (hkN i)
set_option maxRecDepth 1000000 in
theorem Lp:hkAll.Nodup:=(Tr.all_ok (t:=.lf) trivial (by decide +kernel:Tr.all hkAll .lf=true)).1
theorem EY {f:Nat->List Nat}:∀{l:List Nat},(l.flatMap f).Nodup->(∀i∈l,(f i).Nodup)∧∀i∈l,∀k∈l,∀x,x∈f i->x∈f k->i=k
 | [],_=>by simp
 | a :: l,h=>by
  rw[List.flatMap_cons,List.nodup_append]at h;obtain⟨h1,h2,h3⟩:=h;obtain⟨g1,g2⟩:=EY h2;refine⟨λi hi=>?_,λi hi k hk x hx hy=>?_⟩
  ·rcases aH.mp hi with rfl|hi
   ·exact h1
   ·exact g1 i hi
  ·rcases aH.mp hi with e|hi2
   ·rcases aH.mp hk with e2|hk2
    ·rw[e,e2]
    ·subst e;exact absurd rfl (h3 x hx x (jO.mpr ⟨k,hk2,hy⟩))
   ·rcases aH.mp hk with e2|hk2
    ·subst e2;exact absurd rfl (h3 x hy x (jO.mpr ⟨i,hi2,hx⟩))
    ·exact g2 i hi2 k hk2 x hx hy
theorem Lq {i j k l:Nat}(hi:i<=60)(hj:j<=60)(hk:k<=60)(hl:l<=60)(e:hkI i j=hkI k l):i=k∧j=l:=by
 have e':hkN i j=hkN k l:=by unfold hkN;rw[e]
 obtain⟨n1,n2⟩:=EY Lp;have m:∀{x y:Nat},y<=60->hkN x y∈(aR 61).map (hkN x):=λ{x y} h=>bw.mpr ⟨y,cM.mpr (by omega),rfl⟩;have hik:i=k:=n2 i (cM.mpr (by omega)) k (cM.mpr (by omega)) (hkN i j) (m hj) (by rw[e'];exact m hl);subst hik;refine⟨rfl,?_⟩;have n3:=List.pairwise_iff_getElem.mp (n1 i (cM.mpr (by omega)));rcases Nat.lt_trichotomy j l with z|z|z
 ·have h:=n3 j l (by simp;omega) (by simp;omega) z;simp only[List.getElem_map,Am]at h;exact absurd e' h
 ·exact z
 ·have h:=n3 l j (by simp;omega) (by simp;omega) z;simp only[List.getElem_map,Am]at h;exact absurd e'.symm h
abbrev P2:=Int×Int
abbrev PD:=List (P2×Int)
def gtD (f:PD)(k:P2):Option Int:=(f.find? λx=>decide (x.1=k)).map (·.2)
def ptD (f:PD)(k:P2)(v:Int):PD:=
 if (f.any λx=>decide (x.1=k))=true then f.map (λx=>if x.1=k then (x.1,v) else x) else f++[(k,v)]
def cfD (f:PD)(k:P2):Int:=(gtD f k).getD 0
def ndD (f:PD):Prop:=(f.map (·.1)).Nodup
def nzD (f:PD):PD:=f.filter λx=>decide (x.2≠0)
def adD (f:PD)(k:P2)(v:Int):PD:=ptD f k (cfD f k+v)
def smD (l:PD)(k:P2):Int:=(l.map λx=>if x.1=k then x.2 else 0).sum
theorem gA (k:P2):gtD [] k=none:=rfl
theorem cV (x:P2×Int)(f:PD)(k:P2):gtD (x :: f) k=if x.1=k then some x.2 else gtD f k:=by
 unfold gtD;rw[d7];by_cases h:x.1=k
 ·rw[decide_eq_true h,if_pos h];rfl
 ·rw[decide_eq_false h,if_neg h]
theorem jf {f:PD}{k:P2}:gtD f k=none↔∀x∈f,x.1≠k:=by
 induction f with
 | nil=>rw[gA];simp
 | cons x f ih=>
  rw[cV];by_cases h:x.1=k
  ·rw[if_pos h];constructor
   ·intro z;cases z
   ·intro z;exact absurd h (z x cN)
  ·rw[if_neg h,ih];constructor
   ·intro z y hy;rcases aH.mp hy with e|hy
    ·subst e;exact h
    ·exact z y hy
   ·intro z y hy;exact z y (b7 _ hy)
theorem rD (f:PD)(k:P2):(f.any λx=>decide (x.1=k))=(gtD f k).isSome:=by
 induction f with
 | nil=>rfl
 | cons x f ih=>
  rw[jM,cV,ih];by_cases h:x.1=k
  ·rw[decide_eq_true h,if_pos h];rfl
  ·rw[decide_eq_false h,if_neg h];rfl
theorem EZ (f g:PD)(k:P2):gtD (f++g) k=(gtD f k).or (gtD g k):=by
 induction f with
 | nil=>rfl
 | cons x f ih=>
  rw[An,cV,cV,ih];by_cases h:x.1=k
  ·rw[if_pos h,if_pos h];rfl
  ·rw[if_neg h,if_neg h]
theorem Lr (f:PD)(k:P2)(v:Int)(j:P2):gtD (ptD f k v) j=if j=k then some v else gtD f j:=by
 unfold ptD;rw[rD];by_cases h:(gtD f k).isSome=true
 ·rw[if_pos h];have hm:∀g:PD,gtD (g.map λx=>if x.1=k then (x.1,v) else x) j=if j=k then (gtD g j).map (λ_=>v) else gtD g j:=by
   intro g
   induction g with
   | nil=>split <;> rfl
   | cons x g ih=>
    rw[bF,cV,cV,ih];by_cases e:x.1=k
    ·by_cases e2:j=k
     ·rw[if_pos e,if_pos e2,if_pos e2];have e3:x.1=j:=e.trans e2.symm;simp[e3]
     ·rw[if_pos e,if_neg e2,if_neg e2];have e3:¬x.1=j:=λz=>e2 (z.symm.trans e);rw[if_neg e3,if_neg e3]
    ·rw[if_neg e];by_cases e2:j=k
     ·rw[if_pos e2,if_pos e2];have e3:¬x.1=j:=λz=>e (z.trans e2);simp[e3]
     ·rw[if_neg e2,if_neg e2]
  rw[hm];by_cases e:j=k
  ·subst e;rw[if_pos rfl,if_pos rfl];obtain⟨y,hy⟩:=Im.mp h;rw[hy];rfl
  ·rw[if_neg e,if_neg e]
 ·rw[if_neg h,EZ,cV,gA];have hn:gtD f k=none:=by
   cases q:gtD f k with
   | none=>rfl
   | some y=>rw[q]at h;exact absurd rfl h
  by_cases e:j=k
  ·subst e;rw[if_pos rfl,hn,if_pos rfl];rfl
  ·rw[if_neg e,if_neg (λz=>e z.symm)]
   cases gtD f j <;> rfl
theorem Ls (f:PD)(k:P2)(v:Int)(j:P2):cfD (ptD f k v) j=if j=k then v else cfD f j:=by
 unfold cfD;rw[Lr]
 split <;> rfl
theorem Lt (f:PD)(k:P2)(v:Int)(j:P2):cfD (adD f k v) j=cfD f j+if k=j then v else 0:=by
 unfold adD;rw[Ls];by_cases e:j=k
 ·subst e;rw[if_pos rfl,if_pos rfl]
 ·rw[if_neg e,if_neg (λz=>e z.symm)];omega
theorem zl (f:PD)(k:P2)(v:Int):(ptD f k v).map (·.1)=if (gtD f k).isSome=true then f.map (·.1) else f.map (·.1)++[k]:=by
 unfold ptD;rw[rD]
 split
 ·rw[s_];apply jP;intro x _;show (if x.1=k then (x.1,v) else x).1=x.1
  split <;> rfl
 ·rw[aM];rfl
theorem Lu {f:PD}(h:ndD f)(k:P2)(v:Int):ndD (ptD f k v):=by
 unfold ndD at *;rw[zl]
 split
 ·exact h
 ·rename_i hn;have q:gtD f k=none:=by
   cases q:gtD f k with
   | none=>rfl
   | some y=>rw[q]at hn;exact absurd rfl hn
  rw[List.nodup_append];refine⟨h,eV.mpr ⟨ck,gX⟩,?_⟩;intro a ha b hb;rw[bR.mp hb];intro z;obtain⟨x,hx,e⟩:=bw.mp ha;exact jf.mp q x hx (e.trans z)
theorem E1 {f:PD}(h:ndD f)(k:P2)(v:Int):ndD (adD f k v):=Lu h k _
theorem jg:ndD []:=gX
theorem Lv (f:PD)(k:P2)(v:Int):(ptD f k v).length<=f.length+1:=by
 have h:=congrArg Io (zl f k v);rw[aB]at h;rw[h]
 split
 ·rw[aB];omega
 ·rw[b8,aB];exact aw _
theorem Lx (f:PD)(k:P2)(v:Int):(adD f k v).length<=f.length+1:=Lv f k _
theorem zm {x:P2×Int}{f:PD}:ndD (x :: f)↔gtD f x.1=none∧ndD f:=by
 unfold ndD;rw[bF,eV,jf];constructor
 ·rintro ⟨h1,h2⟩
  exact⟨λy hy e=>h1 (bw.mpr ⟨y,hy,e⟩),h2⟩
 ·rintro ⟨h1,h2⟩
  refine⟨λhm=>?_,h2⟩;obtain⟨y,hy,e⟩:=bw.mp hm;exact h1 y hy e
theorem E2 {f:PD}(h:ndD f){x:P2×Int}(hx:x∈f):gtD f x.1=some x.2:=by
 induction f with
 | nil=>exact nomatch hx
 | cons y f ih=>
  obtain⟨h1,h2⟩:=zm.mp h;rw[cV];rcases aH.mp hx with e|hx
  ·subst e;rw[if_pos rfl]
  ·rw[if_neg (λe=>jf.mp h1 x hx e.symm)];exact ih h2 hx
theorem Ly (x:P2×Int)(f:PD):nzD (x :: f)=if x.2=0 then nzD f else x :: nzD f:=by
 unfold nzD;rw[Iv];by_cases h:x.2=0
 ·rw[if_pos h,decide_eq_false (λz=>z h)];rfl
 ·rw[if_neg h,decide_eq_true h];rfl
theorem zn {f:PD}(h:ndD f):ndD (nzD f):=by
 unfold ndD nzD at *;exact List.Sublist.nodup (List.Sublist.map _ List.filter_sublist) h
theorem rE {f:PD}{x:P2×Int}(h:x∈nzD f):x∈f:=(Ah.mp h).1
theorem Lz (f:PD):(nzD f).length<=f.length:=List.length_filter_le _ _
theorem LA {f:PD}(h:ndD f):∀a:PD,(∀x∈f,gtD a x.1=none)->f.foldl (λa x=>ptD a x.1 x.2) a=a++f:=by
 induction f with
 | nil=>intro a _;rw[sW];rfl
 | cons x f ih=>
  intro a ha;obtain⟨h1,h2⟩:=zm.mp h;have e:ptD a x.1 x.2=a++[x]:=by
   unfold ptD;rw[rD,ha x cN];rfl
  rw[d5,e,ih h2 (a++[x]) λy hy=>?_]
  ·rw[jK];rfl
  ·rw[EZ,ha y (b7 _ hy),cV,gA,if_neg (λz=>jf.mp h1 y hy z.symm)];rfl
def foD (l:PD)(a:PD):PD:=l.foldl (λa x=>adD a x.1 x.2) a
theorem LB (a:PD):foD [] a=a:=rfl
theorem jh (x:P2×Int)(l a:PD):foD (x :: l) a=foD l (adD a x.1 x.2):=rfl
theorem LC (l:PD)(x:P2×Int)(a:PD):foD (l++[x]) a=adD (foD l a) x.1 x.2:=by
 unfold foD;rw[gY];rfl
theorem E3:∀(l a:PD) (k:P2),cfD (foD l a) k=cfD a k+smD l k
 | [],a,k=>by show cfD a k=cfD a k+0;omega
 | x :: l,a,k=>by
  rw[jh,E3 l,Lt];unfold smD;rw[bF,gi];omega
theorem ji:∀(l:PD){a:PD},ndD a->ndD (foD l a)
 | [],_,h=>h
 | x :: l,_,h=>by rw[jh];exact ji l (E1 h _ _)
theorem zo:∀(l a:PD),(foD l a).length<=a.length+l.length
 | [],a=>aw _
 | x :: l,a=>by
  rw[jh,cb];have h1:=zo l (adD a x.1 x.2);have h2:=Lx a x.1 x.2;omega
def cE (x:P2×Int)(g:PD):PD:=g.map λy=>((x.1.1+y.1.1,x.1.2+y.1.2),x.2*y.2)
def prD (f g:PD):PD:=f.flatMap λx=>cE x g
def dR (f g:PD):PD:=nzD (foD (prD f g) [])
theorem LD (l m a:PD):foD (l++m) a=foD m (foD l a):=by unfold foD;rw[gY]
theorem LF (f:PD)(x:P2×Int)(g:PD):prD (f++[x]) g=prD f g++cE x g:=by
 unfold prD;rw[List.flatMap_append];simp
theorem LG (x:P2×Int)(g:PD)(y:P2×Int):cE x (g++[y])=cE x g++[((x.1.1+y.1.1,x.1.2+y.1.2),x.2*y.2)]:=by
 unfold cE;rw[aM];rfl
theorem LH (x:P2×Int)(l:PD)(k:P2):smD (x :: l) k=(if x.1=k then x.2 else 0)+smD l k:=by
 unfold smD;rw[bF,gi]
def dX (f g:PD):Prop:=f.length=g.length∧∀x∈f,gtD g x.1=some x.2
theorem E4:∀{l m:List P2},l.Nodup->(∀x∈l,x∈m)->l.length<=m.length
 | [],m,_,_=>aY _
 | x :: l,m,h,hs=>by
  obtain⟨h1,h2⟩:=eV.mp h;have hx:=hs x cN;have e:=List.length_erase_of_mem hx;have r:=E4 (l:=l) (m:=m.erase x) h2 λy hy=>by
   refine (List.mem_erase_of_ne ?_).mpr (hs y (b7 _ hy));intro z;subst z;exact h1 hy
  have:0<m.length:=List.length_pos_of_mem hx;rw[cb];omega
def bkH (H:Hp)(a:Addr)(H':Hp):Hp:=λb=>if b=a then H a else H' b
theorem rF {H H':Hp}{a:Addr}:bkH H a H' a=H a:=by unfold bkH;rw[if_pos rfl]
theorem cj {H H':Hp}{a b:Addr}(h:b≠a):bkH H a H' b=H' b:=by unfold bkH;rw[if_neg h]
def Thw (X:Cx)(H:Hp)(a:Addr)(o:Obj)(kvs:List (List Key×V)):Prop:=H a=some (.frz o (.dT kvs))∨(H a=some (.dT kvs)∧∀o' u',X.H₀ a≠some (.frz o' u'))
theorem zp {α β:Type}{F:α->β->Prop}:∀{l:List α}{m:List β}{i:Nat}{p:α},Paired F l m->l[i]?=some p->∃q,m[i]?=some q∧F p q
 | _,_,_,_,.nil,e=>by simp at e
 | _,_,0,_,.cons r _,e=>by simp at e;subst e;exact⟨_,rfl,r⟩
 | _,_,i+1,p,.cons _ t,e=>by
  obtain⟨q,h1,h2⟩:=zp (i:=i) (p:=p) t (by simpa using e);exact⟨q,by simpa using h1,h2⟩
section
variable {X:Cx}{Xj:List (Addr×Obj)}{σ:St}{H H':Hp}{s:Shared}{a:Addr}{o:Obj}{kvs:List (List Key×V)}
theorem gB (ok:HOk X.prog X.w H s.heap)(e:H a=some (.frz o (.dT kvs))):kvs.length<=sizeLine∧(a == sysModules)=false∧∃(xs:List (List Key×Addr×Value)) (es:Array DictEntry) (ep:Nat),
  Paired (λ(p:List Key×V) (q:List Key×Addr×Value)=>p.1=q.1∧H q.2.1=some (.tup (p.1.map kV))∧RelV p.2 q.2.2) kvs xs∧s.heap.get? a=some o∧o.ExactDict∧o.data=.dict es ep∧es.toList=xs.map (entryOfKey (tupleKind (bj X.prog X.w)))∧(xs.map (·.1)).Nodup:=by
 obtain⟨g1,z,y,xs,rel,o',es,ep,h1,h2,h3,h4,h5⟩:=(show ObjOk X.prog X.w H s.heap a (.frz o (.dT kvs)) from ok a _ e)
 rw[g1]at h1
 cases h1
 exact⟨z,y,xs,es,ep,rel,g1,h2,h3,h4,h5⟩
theorem Inv.freeze (I:Inv X Xj σ H s)(r:Rd H a (.dT kvs)):∃o es ep,s.heap.get? a=some o∧o.ExactDict∧o.data=.dict es ep∧(a == sysModules)=false∧Thw X H a o kvs∧Inv X Xj σ (upd H a (.frz o (.dT kvs))) s:=by
 rcases r with e|⟨o,e⟩
 ·obtain⟨z,y,xs,rel,o,es,ep,h1,h2,h3,h4,h5⟩:=(show ObjOk X.prog X.w H s.heap a (.dT kvs) from I.hok a _ e)
  have nt:∀b ys,H b=some (.tup ys)->b≠a:=λb ys q=>aW q e (λz=>nomatch z);have no:∀b y,H b=some (.own y)->b≠a:=λb y q=>aW q e (λz=>nomatch z);refine⟨o,es,ep,h1,h2,h3,y,.inr ⟨e,λo' u' q=>?_⟩,?_⟩
  ·have:=I.base.frzs a o' u' q;rw[e]at this;cases this
  ·have hok:HOk X.prog X.w (upd H a (.frz o (.dT kvs))) s.heap:=λb u q=>by
    by_cases hb:b=a
    ·subst hb;rw[af]at q;cases q;exact⟨h1,z,y,xs,Paired.mapP rel λp q x=>⟨x.1,by rw[aq (nt _ _ x.2.1)];exact x.2.1,x.2.2⟩,o,es,ep,h1,h2,h3,h4,h5⟩
    ·rw[aq hb]at q;exact (I.hok b u q).stay (λ_ _ _ x=>x) (λc x=>by rw[aq (no _ _ x)];exact x) λc ys x=>by rw[aq (nt _ _ x)];exact x
   have un:Un X.fs [] H (upd H a (.frz o (.dT kvs))) s.heap s.heap:=
    ⟨λb ob q _ _ _=>q,λb ob q _ _ _=>⟨ob.slots,q⟩,λb ob q n _=>by rw[aq (Ne.symm (aV e n))];exact n,λb ob q _=>⟨ob,q⟩,
     λb xs q=>by rw[aq (nt _ _ q)];exact q,λb ob u q=>by rw[aq (aW q e (λz=>nomatch z))];exact q,λb ps q=>⟨#[],by rw[aq (aW q e (λz=>nomatch z)),q];simp⟩⟩
   exact I.un (h':=s.heap) (t':=s.toks) un hok
 ·obtain⟨z,y,xs,es,ep,rel,h1,h2,h3,h4,h5⟩:=gB I.hok e;have eq:upd H a (.frz o (.dT kvs))=H:=by
   funext b
   by_cases hb:b=a
   ·subst hb;rw[af,e]
   ·rw[aq hb]
  exact⟨o,es,ep,h1,h2,h3,y,.inl e,by rw[eq];exact I⟩
theorem Inv.thaw (I:Inv X Xj σ H' s)(h:H' a=some (.frz o (.dT kvs)))(t:Thw X H a o kvs):Inv X Xj σ (bkH H a H') s:=by
 rcases t with e|⟨e,n⟩
 ·have eq:bkH H a H'=H':=by
   funext b
   by_cases hb:b=a
   ·subst hb;rw[rF,e,h]
   ·rw[cj hb]
  rw[eq];exact I
 ·have ba:bkH H a H' a=some (.dT kvs):=by rw[rF,e]
  have nn:∀b,H' b=none->b≠a:=λb q z=>by subst z;rw[h]at q;cases q
  have nt:∀b ys,H' b=some (.tup ys)->b≠a:=λb ys q=>aW q h (λz=>nomatch z);have no:∀b y,H' b=some (.own y)->b≠a:=λb y q=>aW q h (λz=>nomatch z);obtain⟨z,y,xs,es,ep,rel,h1,h2,h3,h4,h5⟩:=gB I.hok h;refine⟨I.ok,I.os,I.bare,⟨I.base.keep,I.base.slot,λb ob q m x=>?_,I.base.there,λb xs q=>?_,λb ob u q=>?_,λb ps q=>?_⟩,I.loc,I.cell,?_,λx c q=>?_,λp hp=>?_,λb u q=>?_,I.len⟩
  ·have w:=I.base.free b ob q m x;rw[cj (nn b w)];exact w
  ·have w:=I.base.tups b xs q;rw[cj (nt b xs w)];exact w
  ·have w:=I.base.frzs b ob u q;rw[cj (λz=>n ob u (by rw[←z];exact q))];exact w
  ·obtain⟨m,w⟩:=I.base.tbls b ps q;exact⟨m,by rw[cj (aW w h (λz=>nomatch z))];exact w⟩
  ·rw[cj (nn _ I.free)];exact I.free
  ·rw[cj (nn _ (I.freeC x c q))];exact I.freeC x c q
  ·obtain⟨p1,p2,p3⟩:=I.pin p hp;exact⟨p1,by rw[cj (nn _ p2)];exact p2,p3⟩
  ·by_cases hb:b=a
   ·subst hb;rw[ba]at q;cases q;exact⟨z,y,xs,Paired.mapP rel λp q x=>⟨x.1,by rw[cj (nt _ _ x.2.1)];exact x.2.1,x.2.2⟩,o,es,ep,h1,h2,h3,h4,h5⟩
   ·rw[cj hb]at q;exact (I.hok b u q).stay (λ_ _ _ x=>x) (λc x=>by rw[cj (no _ _ x)];exact x) λc ys x=>by rw[cj (nt _ _ x)];exact x
end
def Itd (a:Addr)(o:Obj)(kvs:List (List Key×V)):It:=
 ⟨λi H=>H a=some (.frz o (.dT kvs))∧i<kvs.length,λi H v H'=>∃p b k x,H p=none∧v=.ref p∧kvs[i]?=some (k,x)∧H b=some (.tup (k.map kV))∧H'=upd H p (.tup [.ref b,x]),
  λi H=>H a=some (.frz o (.dT kvs))∧kvs.length<=i⟩
theorem LI {P:Program}{w:World}{K:W.Frag}{elts:List Expr}{tk:Nat}{tpos:Pos}{o:Obj}{kvs:List (List Key×V)}{es:Array DictEntry}{ep:Nat}(a it:Addr)(hod:o.data=.dict es ep):
  Turn P w K (.Tuple elts tk tpos) (Itd a o kvs) [it] it (λi h=>∃ok ov,IsItemIter h it a i es.size ep ok ov) where
 mem:=by simp
 obj:=λi h st c hb=>by
  obtain⟨ok,ov,hi⟩:=st;rw[bR.mp hb];exact⟨_,hi,λv z=>by
   have z':Data.fields _=Data.cell v:=z
   cases z'⟩
 keep:=λi h h' st k=>by
  obtain⟨ok,ov,hi⟩:=st;exact⟨ok,ov,k it (by simp) _ hi⟩
 item:=by
  intro X hP hw hK hc i Xj s σ H E I hf st hg;subst hP hw hK;obtain⟨ok,ov,hi⟩:=st;obtain⟨hfz,hlt⟩:=hg;obtain⟨z,y,xs,es',ep',rel,h1,h2,h3,h4,h5⟩:=gB I.hok hfz;rw[hod]at h3
  cases h3
  obtain⟨⟨k,x⟩,hk⟩:∃p,kvs[i]?=some p:=⟨_,aJ hlt⟩
  obtain⟨⟨k',b,u⟩,hq,e1,e2,e3⟩:=zp rel hk;have he:es[i]?=some (entryOfKey (tupleKind (bj X.prog X.w)) (k',b,u)):=by rw[entry_at h4,hq];rfl
  obtain⟨f0,f1,f2,f3,f4,f5⟩:=hf it (by simp);refine K9 hi ⟨o,h1,h2,hod⟩ he λg1 ho hT hsz hk1=>⟨_,rfl,wpAny_letOwnedTupleGo_items ho λg2 he2 hs2=>?_⟩
  have hp:H s.heap.objs.size=none:=I.hok.fresh (aw _);have hpi:s.heap.objs.size≠it:=gg (Heap.lt_size hi);have k2:∀c ob,c∉[it]->s.heap.get? c=some ob->g2.get? c=some ob:=λc ob hb q=>(hs2.2 c λe=>hb (by simp[e])).trans (hk1 c ob (λe=>hb (by simp[e])) q);have hT2:g2.get? s.heap.objs.size=some { cls:=.type "tuple",data:=.seq #[.ref b,u] }:=(hs2.2 _ hpi).trans hT;have nch:∀c v,H c=some v->c∉[it]:=λc v q hb=>by rw[(hf c hb).1]at q;cases q
  have up:∀c,c<s.heap.objs.size->c≠s.heap.objs.size:=λc hb=>aO hb;have I2:Inv X Xj σ (upd H s.heap.objs.size (.tup [.ref b,x])) { s with heap:=g2 }:=by
   refine I.step (g':=s.gens) (d':=s.drawn) (t':=s.toks) (ch:=[it]) (λc hb=>?_) (λc ob _ _ hc q _=>k2 c ob hc q) (λc ob _ _ hc q _=>⟨ob.slots,k2 c ob hc q⟩) (λc ob _ q n=>by rw[aq (up c (Heap.lt_size q))];exact n)
    (λc ob hc q=>⟨ob,k2 c ob hc q⟩) (λc ys q=>by rw[aq (aV q hp)];exact q) (λc ob v q=>by rw[aq (aV q hp)];exact q) (λc ps q=>⟨#[],by rw[aq (aV q hp),q];simp⟩) (λm hm=>?_) (λc v q=>?_) I.bare
   ·rw[bR.mp hb];exact⟨f3,f1,f4,f5⟩
   ·obtain⟨ob,es,ep,q,r⟩:=hm;exact⟨ob,es,ep,k2 _ ob (λe=>(hf _ e).2.1 rfl) q,r⟩
   ·by_cases hb:c=s.heap.objs.size
    ·subst hb;rw[af]at q;cases q;exact⟨by show 2<=sizeLine;decide,[.ref b,u],.cons rfl (.cons e3 .nil),⟨_,hT2,rfl,_,rfl⟩⟩
    ·rw[aq hb]at q;refine (I.hok c v q).stay (λc' ob hc r=>k2 c' ob ?_ r) (λc' r=>by rw[aq (aV r hp)];exact r) λc' ys r=>by rw[aq (aV r hp)];exact r
     rcases hc with e|e
     ·rw[e];exact nch c v q
     ·exact nch c' _ e
  refine⟨.ref s.heap.objs.size,_,I2,rfl,⟨_,b,k,x,hp,rfl,hk,e2,rfl⟩,⟨_,_,he2⟩,λc hb=>?_⟩;rw[bR.mp hb,aq (Ne.symm hpi)];exact f0
 done:=by
  intro X hP hw hK hc i Xj s σ H E I hf st hg;subst hP hw hK;obtain⟨ok,ov,hi⟩:=st;obtain⟨hfz,hge⟩:=hg;obtain⟨z,y,xs,es',ep',rel,h1,h2,h3,h4,h5⟩:=gB I.hok hfz;rw[hod]at h3
  cases h3
  have hl:=Paired.length rel;have hsz:=size_of_entries h4;obtain⟨f0,f1,f2,f3,f4,f5⟩:=hf it (by simp);exact K_ (I.ok.hd hc) hi ⟨o,h1,h2,hod⟩ (by omega) λh' eb=>⟨rfl,I.turned (t':=s.toks) (λb ob hb e=>eb b ob hb e) f0 f1 f3 f4 f5⟩
 self:=λA i s Q E st h=>by
  obtain⟨ok,ov,hi⟩:=st;exact PySem.W.kcp_self hi h
section
variable {X:Cx}
def E5 (X:Cx)(td:TE):TI:=λσ H R=>td σ H λx H1=>∃a kvs,x=.ref a∧Rd H1 a (.dT kvs)∧∀o,Thw X H1 a o kvs->R (Itd a o kvs) (upd H1 a (.frz o (.dT kvs)))
theorem jj {elts:List Expr}{tk:Nat}{tpos apos cpos:Pos}{e:Expr}{td:TE}(ho:PE X e td) (hbase:attributeBase e "items" X.env (eval e X.env)=eval e X.env:=by rfl) (hline:(apos.endLine == cpos.line)=true:=by rfl):
  PI X (.Tuple elts tk tpos) (.Call (.Attribute e "items" apos) [] [] cpos) (E5 X td):=by
 intro Xj s σ H R I h;refine wpAny_Call_method0_late hbase hline (thn (ho Xj s σ H _ I h) λv s1 ⟨x,H1,I1,r1,a,kvs,ex,rd,q⟩=>?_);subst ex
 cases r1
 obtain⟨o,es,ep,h1,h2,h3,hd,tw,I2⟩:=I1.freeze rd;have en:EnAt s1.heap a es ep:=⟨o,h1,h2,h3⟩
 refine⟨"dict","dict.items",PySem.F.plainAttrs_dict,PySem.F.slot_dict_items,PySem.F.type_dict_items,en.ty,λb eb=>?_,Calls.callWith_builtin rfl (PySem.evalArgs_none (K6 hd en ?_))⟩
 ·cases eb;exact⟨o,h1,h2.2.1⟩
 have I3:Inv X Xj σ (upd H1 a (.frz o (.dT kvs))) { s1 with heap:=s1.heap.push { cls:=.type "dict_items",data:=.fields #[.ref a] } }:=I2.kept (t':=s1.toks) λb ob q=>Heap.get?_push_of_some _ q;refine K8 (v:=s1.heap.objs.size) ⟨_,Heap.get?_push_size _ rfl,rfl,rfl⟩ (en.at λob q=>Heap.get?_push_of_some _ q) ?_;refine⟨_,[_],_,_,upd H1 a (.frz o (.dT kvs)),rfl,I3.kept (t':=s1.toks) λb ob q=>Heap.get?_push_of_some _ q,LI a _ h3,⟨.none,.none,Heap.get?_push_size _ rfl⟩,λb hb=>?_,q o tw⟩;rw[bR.mp hb];exact I3.fpOk (aw _) (I3.hok.fresh (aw _))
def thD (X:Cx)(D:Ends):Ends:={ D with nx:=λσ' H'=>∃H1 a o kvs,Thw X H1 a o kvs∧H' a=some (.frz o (.dT kvs))∧D.nx σ' (bkH H1 a H') }
theorem jk {iter:Expr}{tg:Expr}{body:List Stmt}{wi:TI}{g:TG}{tb:TS}{pos:Pos}(h:PS X (.For tg iter body [] pos) (pq wi g tb)):PS X (.For tg iter body [] pos) (λD σ H=>pq wi g tb (thD X D) σ H):=by
 intro Xj s σ H D I r;refine thn (h Xj s σ H (thD X D) I r) λf s' q=>?_
 cases f with
 | next=>
  obtain⟨σ',H',I',H1,a,o,kvs,tw,e,n⟩:=q;exact⟨σ',_,I'.thaw e tw,n⟩
 | brk=>exact q
 | cont=>exact q
 | ret u=>exact q
def thQ (X:Cx)(Q:VK):VK:=λv H'=>∃H1 a o kvs,Thw X H1 a o kvs∧H' a=some (.frz o (.dT kvs))∧Q v (bkH H1 a H')
theorem LJ {e:Expr}{t:TE}(h:PE X e t):PE X e (λσ H Q=>t σ H (thQ X Q)):=by
 intro Xj s σ H Q I r;refine thn (h Xj s σ H (thQ X Q) I r) λu s' ⟨v,H',I',rv,H1,a,o,kvs,tw,e,n⟩=>⟨v,_,I'.thaw e tw,rv,n⟩
end
section
variable {X:Cx}{elt iter cnd:Expr}{x z:Str}{px pz:Pos}{tk:Nat}{tpos:Pos}{fv:List (Nat×Str)}{scope:Scope}{cl:List (Str×Addr)}{pos:Pos}{te:TE}{tt:TT}{wi:TI}
theorem LK {Xj:List (Addr×Obj)}{σ:St}{H:Hp}{s2:Shared}{it:Addr}{fp:List Addr}{tn:Nat->Heap->Prop}{J:It}{Q:VK}{E:Value->Shared->Prop}{RR:Value->Addr->Result->Shared->Prop}
  (hc:X.calm=true) (B:BlkOk2 X x z fv scope cl) (hcn:∀C s H fp,PT (bV X x z fv scope cl C s H fp) cnd tt) (he:∀C s H fp,PE (bV X x z fv scope cl C s H fp) elt te) (I:Inv X Xj σ H s2) (T:Turn X.prog X.w X.K (.Tuple [.Name x px,.Name z pz] tk tpos) J fp it tn) (st:tn 0 s2.heap) (hf:∀b∈fp,a8 X Xj H b)
  (rd:∀D,H D=none->∃W:Nat->Nat->Hp->Prop,(∃m,W 0 m (upd H D (.lst [])))∧∀i m H,W i m H->
   (J.stop i H∧Q (.ref D) H)∨(J.go i H∧∃N:Hp->Prop,(∀H',N H'->∃m',m'<m∧W (i+1) m' H')∧∀v H',J.yld i H v H'->∃q x1 x2,v=.ref q∧SqT X.K H' q [x1,x2]∧tt (bN fv σ (some x1) (some x2)) H' λb Hb=>if b=true then te (bN fv σ (some x1) (some x2)) Hb λy H2=>∃ys,H2 D=some (.lst ys)∧ys.length<sizeLine∧N (upd H2 D (.lst (ys++[y]))) else N Hb))
  (hRR:∀D C s' H' m',Inv X Xj σ H' s'->a8 X Xj H' C->s'.heap.Ns C m'->Q (.ref D) H'->RR (.ref D) C (.ok .next) s'):
  wpAny (model X.prog X.w) X.A (newList []) (λacc s₃=>wpAny (model X.prog X.w) X.A (newFunctionEnv scope X.env.globals cl [] X.env.qual none .none (some X.env)) (λcenv s₄=>
   codeAny (model X.prog X.w) X.A (.compStart (.ListComp elt [⟨(.Tuple [.Name x px,.Name z pz] tk tpos),iter,[cnd],0⟩] scope pos) 0 (.ref it) acc { cenv with scope:=relabel scope X.env }) (RR acc cenv.locals) s₄) E s₃) E s2:=by
 refine wpAny_newObj_type ?_ (by show 0<=sizeLine;exact aY _);have hD:H s2.heap.objs.size=none:=I.hok.fresh (aw _);have I3:=I.lnew (ys:=[]) (its:=[]) (t':=s2.toks) .nil (aY _);generalize hs3:({ s2 with heap:=s2.heap.push { cls:=.type "list",data:=.seq ([]:List Value).toArray },toks:=s2.toks }:Shared)=s3 at I3;have sz3:s3.heap.objs.size=s2.heap.objs.size+1:=by rw[←hs3];exact Heap.size_push ..
 have up3:∀b o,s2.heap.get? b=some o->s3.heap.get? b=some o:=λb o e=>by rw[←hs3];exact Heap.get?_push_of_some _ e
 have hf3:∀b∈fp,a8 X Xj (upd H s2.heap.objs.size (.lst [])) b:=λb hb=>by
  obtain⟨f0,r⟩:=hf b hb;refine⟨?_,r⟩;obtain⟨o,e,_⟩:=T.obj 0 _ st b hb;rw[aq (aO (Heap.lt_size e))];exact f0
 have ltf:∀b∈fp,b<s2.heap.objs.size:=λb hb=>by
  obtain⟨o,e,_⟩:=T.obj 0 _ st b hb;exact Heap.lt_size e
 have st3:tn 0 s3.heap:=T.keep 0 _ _ st λb _ o e=>up3 b o e;obtain⟨W,⟨m0,w0⟩,turn⟩:=rd _ hD;refine wpAny_newFunctionEnv B.nocell (by intro y hy;simp at hy) (λh₁ hns₁ hsb₁=>?_) B.kind;have hfC:∀b∈fp,b≠s3.heap.objs.size:=λb hb=>aO (by rw[sz3];exact gh (ltf b hb));have up4:∀b o,s3.heap.get? b=some o->h₁.get? b=some o:=λb o e=>hsb₁.extBut b o (aO (Heap.lt_size e)) (Heap.get?_push_of_some _ e);generalize hs4:({ s3 with heap:=h₁,toks:=s3.toks+([]:List (Str×Value)).length }:Shared)=s4;have h4:s4.heap=h₁:=by rw[←hs4]
 have I4:Inv (bV X x z fv scope cl s3.heap.objs.size s3 (upd H s2.heap.objs.size (.lst [])) fp) [] (bN fv σ none none) (upd H s2.heap.objs.size (.lst [])) s4:=
  ER B I3 hf3 rfl hfC (by rw[←hs4]) (by rw[←hs4]) (λb o e=>by rw[h4];exact up4 b o e) (by rw[h4];exact hns₁)
 have st4:tn 0 s4.heap:=by rw[h4];exact T.keep 0 _ _ st3 λb _ o e=>up4 b o e
 have stat:∀{H':Hp},(∀b∈fp,H' b=none)->∀b∈fp,a8 (bV X x z fv scope cl s3.heap.objs.size s3 (upd H s2.heap.objs.size (.lst [])) fp) [] H' b:=λ{H'} hn b hb=>by
  obtain⟨_,f1,f2,f3,f4,f5⟩:=hf b hb;refine⟨hn b hb,hfC b hb,λz'=>?_,.inl hb,λy c e=>f4 y c (B.sub y c e),λp hp=>absurd (show p∈([]:List (Addr×Obj)) from hp) (by simp)⟩;rcases aH.mp (I.stkSub b z') with q|q
  ·exact f1 q
  ·exact f2 q
 have loop:codeAny (model X.prog X.w) X.A (.compLoop (.ListComp elt [⟨(.Tuple [.Name x px,.Name z pz] tk tpos),iter,[cnd],0⟩] scope pos) 0 (.ref it) (.ref s2.heap.objs.size) (compEnvC scope cl s3.heap.objs.size X.env)) (RR (.ref s2.heap.objs.size) s3.heap.objs.size) s4:=by
  refine KQ (λn s'=>∃i H' o o2,Inv (bV X x z fv scope cl s3.heap.objs.size s3 (upd H s2.heap.objs.size (.lst [])) fp) [] (bN fv σ o o2) H' s'∧tn i s'.heap∧(∀b∈fp,H' b=none)∧W i n H') ?_ m0
   ⟨0,_,none,none,I4,st4,λb hb=>(hf3 b hb).1,w0⟩
  rintro n s5 E' ⟨i,H5,o5,o6,I5,st5,fr5,w5⟩
  rcases turn i n H5 w5 with ⟨stop,q⟩|⟨go,N,hN,step⟩
  ·refine thn (T.done (bV X x z fv scope cl s3.heap.objs.size s3 (upd H s2.heap.objs.size (.lst [])) fp) rfl rfl rfl hc i [] s5 _ H5 _ I5 (stat fr5) st5 stop) λr s6 ⟨hr,I6⟩=>?_;subst hr;obtain⟨m6,hn6,_⟩:=I6.loc;have un:Un (frs X.stack) fp H H5 s2.heap s6.heap:=by
    have u1:Un (frs X.stack) fp H (upd H s2.heap.objs.size (.lst [])) s2.heap s3.heap:=Un.laid up3 (aw _) hD;exact u1.trans I6.base
   have J6:Inv X Xj σ H5 s6:=by
    refine I.call' ?_ un I6.hok I6.bare λb hb=>?_
    ·have:=I6.os;rw[show (bV X x z fv scope cl s3.heap.objs.size s3 (upd H s2.heap.objs.size (.lst [])) fp).s₀.os=s2.os by rw[←hs3]]at this;exact this
    ·obtain⟨_,f1,f2,f3,f4,f5⟩:=hf b hb;exact⟨f3,f1,f4,f5⟩
   refine hRR _ _ s6 H5 m6 J6 ?_ hn6 q;exact I3.fpOk (aw _) I6.free
  ·refine thn (T.item (bV X x z fv scope cl s3.heap.objs.size s3 (upd H s2.heap.objs.size (.lst [])) fp) rfl rfl rfl hc i [] s5 _ H5 _ I5 (stat fr5) st5 go) λr s6 ⟨u,hr,h6⟩=>?_;subst hr;refine thn h6 λ_ s7 ⟨v,H7,I7,r7,y7,st7,fr7⟩=>?_;have I7':=I7.pinned (stat fr7) (T.obj _ _ st7);obtain⟨q7,x1,x2,ev,sq7,rd7⟩:=step v H7 y7;refine wpAny_mono (ES (px:=px) (pz:=pz) (tk:=tk) (tpos:=tpos) hc B _ s7 _ H7 v u (λσ' H'=>σ'=bN fv σ (some x1) (some x2)∧H'=H7) I7' r7 ⟨q7,[x1,x2],ev,sq7,rfl,x1,[x2],rfl,x2,[],rfl,rfl,rfl,rfl⟩) (λ_ s8 ⟨σ8,H8,I8,e8a,e8b⟩=>?_) λ_ _ z=>False.elim z;subst e8a e8b;have c8:=hcn _ _ _ _ _ s8 _ _ _ I8 rd7;refine wpAny_mono c8 (λbb sb ⟨Hb,Ib,qb⟩=>?_) λ_ _ z=>False.elim z
   cases bb with
   | false=>
    rw[if_neg (by decide)]at qb;show (if false=true then _ else _);rw[if_neg (by decide)];obtain⟨m',hm,w9⟩:=hN _ qb;refine⟨m',hm,i+1,_,some x1,some x2,Ib.unpinned,T.keep _ _ _ st7 λb hb o e=>(Ib.pin (b,o) (bE _ (bE _ (cS hb e)))).1,λb hb=>?_,w9⟩;obtain⟨o,e,_⟩:=T.obj _ _ st7 b hb;exact (Ib.pin (b,o) (bE _ (bE _ (cS hb e)))).2.1
   | true=>
    rw[if_pos rfl]at qb;show (if true=true then _ else _);rw[if_pos rfl];have e8:=he _ _ _ _ _ sb _ Hb _ Ib qb;refine wpAny_mono e8 (λy s9 ⟨yv,H9,I9,r9,ys,hD9,hz,n9⟩=>?_) λ_ _ z=>False.elim z;have a9:=el (X:=bV X x z fv scope cl s3.heap.objs.size s3 (upd H s2.heap.objs.size (.lst [])) fp) _ s9 _ H9 (.ref s2.heap.objs.size) [yv] (.ref s2.heap.objs.size) [y] (λ_ H10=>H10=upd H9 s2.heap.objs.size (.lst (ys++[yv]))) I9 rfl (.cons r9 .nil)
     ⟨_,ys,yv,rfl,rfl,hD9,hz,rfl⟩
    refine wpAny_mono a9 (λ_ s10 ⟨_,H10,I10,_,e10⟩=>?_) λ_ _ z=>False.elim z;subst e10;obtain⟨m',hm,w9⟩:=hN _ n9;refine⟨m',hm,i+1,_,some x1,some x2,I10.unpinned,T.keep _ _ _ st7 λb hb o e=>(I10.pin (b,o) (bE _ (bE _ (cS hb e)))).1,λb hb=>?_,w9⟩;obtain⟨o,e,_⟩:=T.obj _ _ st7 b hb;exact (I10.pin (b,o) (bE _ (bE _ (cS hb e)))).2.1
 exact codeAny_compStart_list loop (T.self _ 0 _ _ _ st4 loop)
def zq (K:W.Frag)(J:It)(fv:List (Nat×Str))(tt:TT)(te:TE)(Q:VK)(σ:St)(H1:Hp)(D:Addr):Prop:=∃W:Nat->Nat->Hp->Prop,(∃m,W 0 m (upd H1 D (.lst [])))∧∀i m H,W i m H->
 (J.stop i H∧Q (.ref D) H)∨(J.go i H∧∃N:Hp->Prop,(∀H',N H'->∃m',m'<m∧W (i+1) m' H')∧∀v H',J.yld i H v H'->∃q x1 x2,v=.ref q∧SqT K H' q [x1,x2]∧tt (bN fv σ (some x1) (some x2)) H' λb Hb=>if b=true then te (bN fv σ (some x1) (some x2)) Hb λy H2=>∃ys,H2 D=some (.lst ys)∧ys.length<sizeLine∧N (upd H2 D (.lst (ys++[y]))) else N Hb)
def E6 (K:W.Frag)(fv:List (Nat×Str))(wi:TI)(tt:TT)(te:TE):TE:=λσ H Q=>wi σ H λJ H1=>∀D,H1 D=none->zq K J fv tt te Q σ H1 D
theorem rG {K:W.Frag}{σ:St}{H:Hp}{Q:VK}:E6 K fv wi tt te σ H Q=wi σ H λJ H1=>∀D,H1 D=none->zq K J fv tt te Q σ H1 D:=rfl
theorem LL (hc:X.calm=true) (B:BlkOk2 X x z fv scope cl) (hi:PI X (.Tuple [.Name x px,.Name z pz] tk tpos) iter wi) (hcn:∀C s H fp,PT (bV X x z fv scope cl C s H fp) cnd tt) (he:∀C s H fp,PE (bV X x z fv scope cl C s H fp) elt te)
  (hs:∀v,foldedSetIterable iter X.env v=pure v:=by intro _;rfl):PE X (.ListComp elt [⟨.Tuple [.Name x px,.Name z pz] tk tpos,iter,[cnd],0⟩] scope pos) (E6 X.K fv wi tt te):=by
 intro Xj s σ H Q I h;rw[eval_ListComp];refine wpAny_comprehension_free (use:=none) rfl hs B.clos B.kind B.names (thn (hi Xj s σ H _ I h) λv s1 h1=>thn h1 λitv s2 h2=>?_);obtain⟨it,fp,tn,J,H2,e,I2,T,st2,f2,rd⟩:=h2;subst e;refine LK (RR:=λacc C=>compPost (model X.prog X.w) X.A X.xe none (EP X Xj σ Q) acc C) hc B hcn he I2 T st2 f2 rd ?_;intro D C s' H' m' I' fC hn q;exact⟨m',hn,λh' sb=>⟨.ref D,H',I'.turned (t':=s'.toks) (λb o hb e=>(sb.2 b hb).trans e) fC.1 fC.2.1 fC.2.2.2.1 fC.2.2.2.2.1 fC.2.2.2.2.2,rfl,q⟩⟩
end
section
variable {X:Cx}
def LM:V->List V->Hp->VK->Prop:=λx vs H Q=>∃a kvs,x=.ref a∧vs=[]∧H a=some (.dT kvs)∧Q .non (upd H a (.dT []))
theorem LN:MtR X "dict.clear" LM:=by
 intro Xj s σ H x vs v us Q I rx rv h;obtain⟨a,kvs,rfl,rfl,ha,q⟩:=h
 cases rx
 cases rv
 obtain⟨z,y,xs,rel,o,es,ep,h1,h2,h3,h4,h5⟩:=(show ObjOk X.prog X.w H s.heap a (.dT kvs) from I.hok a _ ha)
 have hl:=Paired.length rel;have hs:=size_of_entries h4;refine La ⟨o,h1,h2,h3⟩ (by omega) λh' ep' en sb=>⟨.non,_,?_,rfl,q⟩
 obtain⟨o',g1,g2,g3⟩:=en;exact q_ (t':=s.toks) I (by rw[ha];exact True.intro) sb ⟨o',g1⟩ ⟨aY _,y,[],.nil,o',#[],ep',g1,g2,g3,rfl,gX⟩
def rH (kvs:List (List Key×V)):Prop:=∀kv∈kvs,∃i j:Nat,i<=60∧j<=60∧kv.1=[Sum.inl (i:Int),Sum.inl (j:Int)]
theorem LO {es:Array DictEntry}(h:(es.toList.map (·.hash)).Nodup):∀e∈es.toList,¬(es.filter (λx=>x.hash == e.hash)).size > 1:=λe he z=>by
 have key:∀l:List DictEntry,(l.map (·.hash)).Nodup->(l.filter (λx=>x.hash == e.hash)).length<=1:=by
  intro l
  induction l with
  | nil=>intro _;exact aY _
  | cons x l ih=>
   intro hn;rw[bF,eV]at hn;rw[Iv]
   split
   ·rename_i hx;have ex:=eq_of_beq hx;have e0:l.filter (λx=>x.hash == e.hash)=[]:=List.filter_eq_nil_iff.mpr λy hy hz=>hn.1 (bw.mpr ⟨y,hy,(eq_of_beq hz).trans ex.symm⟩);rw[e0];exact aw _
   ·exact ih hn.2
 have:=key es.toList h;rw[←Array.toList_filter,Array.length_toList]at this;omega
theorem LP {Xj:List (Addr×Obj)}{σ:St}{H:Hp}{s:Shared}{kvs:List (List Key×V)}{xs:List (List Key×Addr×Value)}{es:Array DictEntry}(I:Inv X Xj σ H s)
  (rel:Paired (λ(p:List Key×V) (q:List Key×Addr×Value)=>p.1=q.1∧H q.2.1=some (.tup (p.1.map kV))∧RelV p.2 q.2.2) kvs xs) (h4:es.toList=xs.map (entryOfKey (tupleKind (bj X.prog X.w)))) (h5:(xs.map (·.1)).Nodup) (sm:rH kvs):Tks s es:=by
 have all:∀q∈xs,∃i j:Nat,i<=60∧j<=60∧q.1=[Sum.inl (i:Int),Sum.inl (j:Int)]∧H q.2.1=some (.tup (q.1.map kV)):=by
  have go:∀{l:List (List Key×V)}{m:List (List Key×Addr×Value)},Paired (λ(p:List Key×V) (q:List Key×Addr×Value)=>p.1=q.1∧H q.2.1=some (.tup (p.1.map kV))∧RelV p.2 q.2.2) l m->rH l->
    ∀q∈m,∃i j:Nat,i<=60∧j<=60∧q.1=[Sum.inl (i:Int),Sum.inl (j:Int)]∧H q.2.1=some (.tup (q.1.map kV)):=by
   intro l m r
   induction r with
   | nil=>intro _ q hq;exact nomatch hq
   | @cons p q ps qs h t ih=>
    intro sm x hx;rcases aH.mp hx with e|hx
    ·subst e;obtain⟨i,j,hi,hj,e⟩:=sm p cN;exact⟨i,j,hi,hj,by rw[←h.1];exact e,by rw[←h.1];exact h.2.1⟩
    ·exact ih (λkv hkv=>sm kv (b7 _ hkv)) x hx
  exact go rel sm
 refine⟨λe he=>?_,LO ?_⟩
 ·rw[h4]at he;obtain⟨q,hq,rfl⟩:=bw.mp he;obtain⟨i,j,_,_,_,ht⟩:=all q hq;obtain⟨_,its,_,ob,g1,g2,_⟩:=(show ObjOk X.prog X.w H s.heap q.2.1 (.tup (q.1.map kV)) from I.hok _ _ ht)
  exact⟨q.2.1,rfl,ob,g1,g2⟩
 ·rw[h4,s_];have inj:∀p∈xs,∀q∈xs,((λe:DictEntry=>e.hash) ∘ entryOfKey (tupleKind (bj X.prog X.w))) p=((λe:DictEntry=>e.hash) ∘ entryOfKey (tupleKind (bj X.prog X.w))) q->p.1=q.1:=λp hp q hq e=>by
   obtain⟨i,j,hi,hj,e1,_⟩:=all p hp;obtain⟨k,l,hk,hl,e2,_⟩:=all q hq;have e3:hkI i j=hkI k l:=by
    have e4:tupleKeyHash (bj X.prog X.w) p.1=tupleKeyHash (bj X.prog X.w) q.1:=e;rw[e1,e2]at e4;exact e4
   obtain⟨rfl,rfl⟩:=Lq hi hj hk hl e3;rw[e1,e2]
  clear h4 rel sm all
  induction xs with
  | nil=>exact gX
  | cons x xs ih=>
   rw[bF,eV]at h5 ⊢;refine⟨λhm=>?_,ih h5.2 λp hp q hq=>inj p (b7 _ hp) q (b7 _ hq)⟩;obtain⟨y,hy,e⟩:=bw.mp hm;exact h5.1 (bw.mpr ⟨y,hy,inj y (b7 _ hy) x cN e⟩)
theorem zr:cL X (.type "dict") (λxs H Q=>∃a kvs,xs=[V.ref a]∧Rd H a (.dT kvs)∧rH kvs∧∀p,H p=none->Q (.ref p) (upd H p (.dT kvs))):=by
 intro Xj s σ H xs us Q I r h;obtain⟨a,kvs,rfl,ha,sm,q⟩:=h;obtain⟨u,rfl,ru⟩:=d_ r
 cases ru
 obtain⟨z,y,xs,rel,o,es,ep,h1,h2,h3,h4,h5⟩:=(show ObjOk X.prog X.w H s.heap a (.dT kvs) from q9 I.hok ha)
 have hl:=Paired.length rel;have hs:=size_of_entries h4;have hn:=I.hok.fresh (aw s.heap.objs.size);refine Lg y ⟨o,h1,h2,h3⟩ (LP I rel h4 h5 sm) (by omega) λh' ep' en sb=>⟨.ref s.heap.objs.size,_,?_,rfl,q _ hn⟩
 obtain⟨o',g1,g2,g3⟩:=en;refine I.laid (a:=s.heap.objs.size) (o:=.dT kvs) (t':=s.toks) (λb ob hb=>(sb.2 b (aO (Heap.lt_size hb))).trans (Heap.get?_push_of_some _ hb)) (aw _)
  ⟨z,beq_eq_false_iff_ne.mpr (Ne.symm (aO I.big)),xs,Paired.mapP rel λp q x=>⟨x.1,by rw[aq (aV x.2.1 hn)];exact x.2.1,x.2.2⟩,o',es,ep',g1,g2,g3,h4,h5⟩
def fF (ps:List (Addr×List Key×Addr×V)):List (List Key×V):=ps.foldl (λa x=>bD a x.2.1 x.2.2.2) []
def zt (ps:List (Addr×List Key×Addr×V))(qs:Prs Key):Prop:=Paired (λ(p:Addr×List Key×Addr×V) (q:Addr×List Key×Addr×Value)=>p.1=q.1∧p.2.1=q.2.1∧p.2.2.1=q.2.2.1∧RelV p.2.2.2 q.2.2.2) ps qs
theorem LQ {H:Hp}:∀{ps:List (Addr×List Key×Addr×V)}{qs:Prs Key}{a:List (List Key×V)}{b:List (List Key×Addr×Value)},zt ps qs->(∀x∈ps,H x.2.2.1=some (.tup (x.2.1.map kV)))->KT H a b->
  KT H (ps.foldl (λa x=>bD a x.2.1 x.2.2.2) a) (qs.foldl (λa x=>storedH a x.2.1 x.2.2.1 x.2.2.2) b):=by
 intro ps qs a b r;unfold zt at r
 induction r generalizing a b with
 | nil=>intro _ k;exact k
 | @cons p q ps qs h t ih=>
  intro hk k;rw[d5,d5];refine ih (λx hx=>hk x (b7 _ hx)) ?_;rw[←h.2.1,←h.2.2.1];exact k.put p.2.1 (hk p cN) h.2.2.2
theorem LR (ps:List (Addr×List Key×Addr×V)):(fF ps).length<=ps.length:=by
 unfold fF;have h:∀(l:List (Addr×List Key×Addr×V)) (a:List (List Key×V)),(l.foldl (λa x=>bD a x.2.1 x.2.2.2) a).length<=a.length+l.length:=by
  intro l
  induction l with
  | nil=>intro a;exact aw _
  | cons x l ih=>
   intro a;have h1:=ih (bD a x.2.1 x.2.2.2);have h2:=ja a x.2.1 x.2.2.2;rw[d5,cb];omega
 have:=h ps [];rw[dE]at this;omega
theorem LS (hc:X.calm=true)(hu:X.A.units+2<cLine):cL X (.type "dict") (λxs H Q=>∃L ps,xs=[V.ref L]∧H L=some (.lst (ps.map λx=>V.ref x.1))∧(∀x∈ps,H x.1=some (.tup [.ref x.2.2.1,x.2.2.2])∧H x.2.2.1=some (.tup (x.2.1.map kV)))∧∀p,H p=none->Q (.ref p) (upd H p (.dT (fF ps)))):=by
 intro Xj s σ H xs us Q I r h;obtain⟨L,ps,rfl,hL,hp,q⟩:=h;obtain⟨u,rfl,ru⟩:=d_ r
 cases ru
 obtain⟨z,its,n,rv,h1⟩:=(show ObjOk X.prog X.w H s.heap L (.lst (ps.map λx=>V.ref x.1)) from I.hok L _ hL)
 rw[aB]at z;have mk:∀(l:List (Addr×List Key×Addr×V)),(∀x∈l,H x.1=some (.tup [.ref x.2.2.1,x.2.2.2])∧H x.2.2.1=some (.tup (x.2.1.map kV)))->∃qs:Prs Key,zt l qs∧(qs.map λx=>Value.ref x.1)=l.map (λx=>Value.ref x.1)∧∀x∈qs,PairAt (bj X.prog X.w) s.heap x:=by
  intro l
  induction l with
  | nil=>intro _;exact⟨[],.nil,rfl,λ_ h=>nomatch h⟩
  | cons p l ih=>
   intro hp;obtain⟨qs,q1,q2,q3⟩:=ih λx hx=>hp x (b7 _ hx);obtain⟨t1,t2⟩:=hp p cN;obtain⟨_,its,rv,ob,g1,g2,n,g3⟩:=(show ObjOk X.prog X.w H s.heap p.1 (.tup [.ref p.2.2.1,p.2.2.2]) from I.hok _ _ t1)
   cases rv with
   | @cons _ a _ _ r1 rv=>
    cases rv with
    | @cons _ b _ _ r2 rv=>
     cases rv
     cases r1
     refine⟨(p.1,p.2.1,p.2.2.1,b) :: qs,.cons ⟨rfl,rfl,rfl,r2⟩ q1,by rw[bF,bF,q2],λx hx=>?_⟩;rcases aH.mp hx with e|hx
     ·subst e;exact⟨⟨ob,g1,g2,n,g3⟩,gy I.hok t2⟩
     ·exact q3 x hx
 obtain⟨qs,q1,q2,q3⟩:=mk ps hp;have ei:its=ps.map λx=>Value.ref x.1:=by
  clear hL hp q z h1 mk q1 q2 q3;have go:∀(l:List (Addr×List Key×Addr×V)) (us:List Value),Vals (l.map λx=>V.ref x.1) us->us=l.map λx=>Value.ref x.1:=by
   intro l
   induction l with
   | nil=>intro us r;cases r;rfl
   | cons p l ih=>
    intro us r;rw[bF]at r
    cases r with
    | cons r t=>rw[bF,←ih _ t];cases r;rfl
  exact go ps its rv
 have hl:qs.length=ps.length:=(Paired.length q1).symm;have hn:=I.hok.fresh (aw s.heap.objs.size);refine Lj (kn:=bj X.prog X.w) (ps:=qs) (I.ok.hd hc) hu (by omega) h1 rfl rfl (by rw[q2,←ei]) q3 λh' tk dd up=>⟨.ref s.heap.objs.size,_,?_,rfl,q _ hn⟩
 obtain⟨o',es,ep,g1,g2,g3,g4,_,g5⟩:=dd;have kt:KT H (fF ps) (df qs):=LQ q1 (λx hx=>(hp x hx).2) .nil;have hz:(fF ps).length<=sizeLine:=by have:=LR ps;omega
 exact I.laid (a:=s.heap.objs.size) (o:=.dT (fF ps)) (t':=tk) up (aw _) ⟨hz,beq_eq_false_iff_ne.mpr (Ne.symm (aO I.big)),df qs,kt.keeps λb ys e=>by rw[aq (aV e hn)];exact e,o',es,ep,g1,g2,g3,g4,g5⟩
end
section
variable {X:Cx}{Xj:List (Addr×Obj)}{σ:St}{H:Hp}{s:Shared}{A:Around}{E:Value->Shared->Prop}
theorem LU {a b:Addr}{kvs:List (List Key×V)}{k:List Key}{v:V}{r:Value}{Q:Unit->Shared->Prop}(hu:A.units<cLine) (I:Inv X Xj σ H s) (e:H a=some (.dT kvs)) (eb:H b=some (.tup (k.map kV))) (l:kvs.length<sizeLine) (rv:RelV v r)
  (h:∀s',Inv X Xj σ (upd H a (.dT (bD kvs k v))) s'->Q () s'):wpAny (model X.prog X.w) A (dictSet a (.ref b) r) Q E s:=by
 obtain⟨z,hd,xs,rel,dd⟩:=EH I.hok e;have hz:xs.length<=sizeLine:=by rw[←Paired.length rel];exact z
 have hl:(bD kvs k v).length<=sizeLine:=by have:=ja kvs k v;omega
 refine wpAny_dictSet_heap (hsz:=hz) hu (gy I.hok eb) dd λh' dd' hs=>h _ ?_;obtain⟨q,es,ep,hq,h2,h3,h4,_,h5⟩:=dd';refine q_ I (by rw[e];exact True.intro) hs ⟨q,hq⟩ ⟨hl,hd,_,(rel.put k eb rv).keeps λc ys ec=>?_,q,es,ep,hq,h2,h3,h4,h5⟩;rw[aq (aW ec e (λz=>nomatch z))];exact ec
def cW (ks:List (List Key×Addr×V))(kvs:List (List Key×V)):List (List Key×V):=ks.foldl (λa x=>bD a x.1 x.2.2) kvs
theorem LV {p:Addr}(hu:A.units<cLine):∀{ks:List (List Key×Addr×V)}{vs:List (Value×Value)}{kvs:List (List Key×V)}{H:Hp}{s:Shared}{Q:PUnit->Shared->Prop},Paired (λ(x:List Key×Addr×V) (v:Value×Value)=>RelV (.ref x.2.1) v.1∧RelV x.2.2 v.2) ks vs->Inv X Xj σ H s->H p=some (.dT kvs)->
  (∀x∈ks,H x.2.1=some (.tup (x.1.map kV)))->kvs.length+ks.length<=sizeLine->(∀s',Inv X Xj σ (upd H p (.dT (cW ks kvs))) s'->Q PUnit.unit s')->wpAny (model X.prog X.w) A (storeAll p vs) Q E s:=by
 intro ks vs kvs H s Q r
 induction r generalizing kvs H s with
 | nil=>
  intro I e _ _ q;unfold storeAll;rw[sZ];refine wpAny_pure (q s ?_);have:upd H p (.dT (cW [] kvs))=H:=by
   funext b
   by_cases hb:b=p
   ·subst hb;rw[af,e];rfl
   ·rw[aq hb]
  rw[this];exact I
 | @cons x v ks vs h t ih=>
  intro I e hk hl q;rw[cb]at hl;unfold storeAll;rw[Al];obtain⟨v1,v2⟩:=v
  cases (show v1=Value.ref x.2.1 from h.1)
  refine wpAny_bind (wpAny_bind (LU hu I e (hk x cN) (by omega) h.2 λs1 I1=>wpAny_pure ?_));have ln:=ja kvs x.1 x.2.2;refine ih I1 af (λy hy=>?_) (by omega) λs' I'=>q s' ?_
  ·have hy':=hk y (b7 _ hy);rw[aq (aW hy' e (λz=>nomatch z))];exact hy'
  ·rw[Jm]at I';exact I'
def E7 (trs:List (TE×TE)):TE:=λσ H Q=>∀p,H p=none->ga trs σ (upd H p (.dT [])) λps H2=>H2 p=some (.dT [])∧∃ks:List (List Key×Addr×V),ps=ks.map (λx=>(V.ref x.2.1,x.2.2))∧(∀x∈ks,H2 x.2.1=some (.tup (x.1.map kV)))∧ks.length<=15∧Q (.ref p) (upd H2 p (.dT (cW ks [])))
theorem dC {pos:Pos}{keys:List (Option Expr)}{values:List Expr}{trs:List (TE×TE)}(hu:X.A.units<cLine) (h:PPs X pos keys values trs) (hall:keys.all (·.isSome)=true) (hl:keys.length=values.length) (h0:keys≠[])
  (h15:keys.length<=15):PE X (.Dict keys values pos) (E7 trs):=by
 intro Xj s σ H Q I q;have hn:=I.hok.fresh (aw s.heap.objs.size);have I1:=I.laid (a:=s.heap.objs.size) (o:=.dT []) (h':=s.heap.push { cls:=.type "dict",data:=.dict #[] }) (t':=s.toks) (λ_ _ q=>Heap.get?_push_of_some _ q) (aw _) (EJ s.heap I.big);refine wpAny_Dict_any hall hl h0 h15 (thn (h Xj _ σ _ _ I1 (q _ hn)) λws s2 ⟨ps,H2,I2,rel,e,ks,ep,ht,lk,q2⟩=>?_);subst ep;have go:∀(ks:List (List Key×Addr×V)) (ws:List (Value×Value)),VV (ks.map λx=>(V.ref x.2.1,x.2.2)) ws->Paired (λ(x:List Key×Addr×V) (v:Value×Value)=>RelV (.ref x.2.1) v.1∧RelV x.2.2 v.2) ks ws:=by
  intro ks
  induction ks with
  | nil=>intro ws r;cases r;exact .nil
  | cons x ks ih=>
   intro ws r;rw[bF]at r
   cases r with
   | cons r t=>exact .cons r (ih _ t)
 have rel':=go ks ws rel;exact LV hu rel' I2 e ht (by rw[sizeLine_eq];show 0+ks.length<=_;omega) λs3 I3=>⟨.ref s.heap.objs.size,_,I3,rfl,q2⟩
end
def kz (k:P2):List Key:=[Sum.inl k.1,Sum.inl k.2]
def dz (f:PD):List (List Key×V):=f.map λx=>(kz x.1,V.int x.2)
theorem jm {a b:P2}:kz a=kz b↔a=b:=by
 constructor
 ·intro h;unfold kz at h;injection h with h1 h2;injection h2 with h2 _;exact Prod.ext (Sum.inl.inj h1) (Sum.inl.inj h2)
 ·intro h;rw[h]
theorem E8 (f:PD)(k:P2):cT (dz f) (kz k)=(gtD f k).map V.int:=by
 induction f with
 | nil=>rfl
 | cons x f ih=>
  rw[cV];show cT ((kz x.1,V.int x.2) :: dz f) (kz k)=_;by_cases h:x.1=k
  ·rw[if_pos h,qY (by rw[h])];rfl
  ·rw[if_neg h,qZ (λz=>h (jm.mp z)),ih]
theorem LW (f:PD)(k:P2):((dz f).any λkv=>decide (kv.1=kz k))=(gtD f k).isSome:=by
 rw[y_,E8,Option.isSome_map]
theorem gC (f:PD)(k:P2)(v:Int):bD (dz f) (kz k) (V.int v)=dz (ptD f k v):=by
 unfold bD ptD;rw[LW,rD]
 split
 ·unfold dz;rw[s_,s_];apply jP;intro x _;show (if kz x.1=kz k then (kz x.1,V.int v) else (kz x.1,V.int x.2))=_;by_cases h:x.1=k
  ·rw[if_pos (jm.mpr h)];simp[h]
  ·rw[if_neg (λz=>h (jm.mp z))];simp[h]
 ·unfold dz;rw[aM];rfl
theorem gb (f:PD):(dz f).length=f.length:=aB _
section
variable {X:Cx}
theorem LX {p p':Program}{w w':World}{ks:List Key}{vs:List Value}(h:ItemsAre (bj p w) ks vs):ItemsAre (bj p' w') ks vs:=by
 induction h with
 | nil=>exact .nil
 | cons r _ ih=>exact .cons r ih
theorem rJ {Xj:List (Addr×Obj)}{σ:St}{H:Hp}{s:Shared}{a:Addr}{f:PD}(I:Inv X Xj σ H s)(r:Rd H a (.dT (dz f))):(a == sysModules)=false∧∃xs:List (List Key×Addr×Value),eJ (λp w=>tupleKind (bj p w)) s.heap a xs∧
  Paired (λ(p:P2×Int) (q:List Key×Addr×Value)=>kz p.1=q.1∧∃t,q.2.2=Value.int p.2 t) f xs:=by
 obtain⟨z,y,xs,rel,o,es,ep,h1,h2,h3,h4,h5⟩:=(show ObjOk X.prog X.w H s.heap a (.dT (dz f)) from q9 I.hok r)
 have rel2:Paired (λ(p:P2×Int) (q:List Key×Addr×Value)=>(kz p.1=q.1∧∃t,q.2.2=Value.int p.2 t)∧H q.2.1=some (.tup (q.1.map kV))) f xs:=by
  clear z h4 h5 r;unfold dz at rel
  induction f generalizing xs with
  | nil=>cases rel;exact .nil
  | cons x f ih=>
   rw[bF]at rel
   cases rel with
   | @cons _ q _ _ h t=>exact .cons ⟨⟨h.1,h.2.2⟩,by rw[←h.1];exact h.2.1⟩ (ih _ t)
 refine⟨y,xs,λp w=>⟨o,es,ep,h1,h2,h3,?_,λx hx=>?_,h5⟩,Paired.mapP rel2 λ_ _ z=>z.1⟩
 ·rw[h4];apply jP;intro x hx;obtain⟨i,hi⟩:=List.getElem?_of_mem hx;have:∃k:P2,kz k=x.1:=by
   have go:∀{l:PD}{m:List (List Key×Addr×Value)},Paired (λ(p:P2×Int) (q:List Key×Addr×Value)=>(kz p.1=q.1∧∃t,q.2.2=Value.int p.2 t)∧H q.2.1=some (.tup (q.1.map kV))) l m->∀x∈m,∃k:P2,kz k=x.1:=by
    intro l m r
    induction r with
    | nil=>intro x hx;exact nomatch hx
    | @cons p q ps qs h t ih=>
     intro x hx;rcases aH.mp hx with e|hx
     ·subst e;exact⟨p.1,h.1.1⟩
     ·exact ih x hx
   exact go rel2 x hx
  obtain⟨k,hk⟩:=this;unfold entryOfKey;show DictEntry.mk (tupleKeyHash (bj X.prog X.w) x.1) _ _=DictEntry.mk (tupleKeyHash (bj p w) x.1) _ _;rw[←hk];rfl
 ·have go:∀{l:PD}{m:List (List Key×Addr×Value)},Paired (λ(p:P2×Int) (q:List Key×Addr×Value)=>(kz p.1=q.1∧∃t,q.2.2=Value.int p.2 t)∧H q.2.1=some (.tup (q.1.map kV))) l m->∀x∈m,H x.2.1=some (.tup (x.1.map kV)):=by
   intro l m r
   induction r with
   | nil=>intro x hx;exact nomatch hx
   | @cons p q ps qs h t ih=>
    intro x hx;rcases aH.mp hx with e|hx
    ·subst e;exact h.2
    ·exact ih x hx
  have k1:IsTupleKey (bj X.prog X.w) s.heap x.1 x.2.1:=gy I.hok (go rel2 x hx);obtain⟨ok,items,n,t1,t2,t3,t4⟩:=k1;refine⟨ok,items,n,t1,t2,t3,?_⟩;exact LX t4
theorem E9 {Xj:List (Addr×Obj)}{σ:St}{H:Hp}{s:Shared}{a b:Addr}{f g:PD}{A:Around}(hu:A.units+1<cLine)(I:Inv X Xj σ H s)(ra:Rd H a (.dT (dz f)))(rb:Rd H b (.dT (dz g)))(sd:dX f g):SeqAt.RcAt A s (.ref a) (.ref b) true:=by
 obtain⟨sa,xs,da,pa⟩:=rJ I ra;obtain⟨sb,ys,db,pb⟩:=rJ I rb;refine Ll (λp w=>tupleKind (bj p w)) sa sb (λ_ _=>hu) (by omega) da db (by rw[←Paired.length pa,←Paired.length pb];exact sd.1) λx hx=>?_;have go:∀{l:PD}{m:List (List Key×Addr×Value)},Paired (λ(p:P2×Int) (q:List Key×Addr×Value)=>kz p.1=q.1∧∃t,q.2.2=Value.int p.2 t) l m->∀x∈m,∃p∈l,kz p.1=x.1∧∃t,x.2.2=Value.int p.2 t:=by
  intro l m r
  induction r with
  | nil=>intro x hx;exact nomatch hx
  | @cons p q ps qs h t ih=>
   intro x hx;rcases aH.mp hx with e|hx
   ·subst e;exact⟨p,cN,h⟩
   ·obtain⟨p',m',r'⟩:=ih x hx;exact⟨p',b7 _ m',r'⟩
 obtain⟨p,hp,e1,t,e2⟩:=go pa x hx;have hg:=sd.2 p hp;have fnd:∀{l:PD}{m:List (List Key×Addr×Value)},Paired (λ(p:P2×Int) (q:List Key×Addr×Value)=>kz p.1=q.1∧∃t,q.2.2=Value.int p.2 t) l m->∀{k:P2}{v:Int},gtD l k=some v->∃q,atKey m (kz k)=some q∧∃t,q.2=Value.int v t:=by
  intro l m r
  induction r with
  | nil=>intro k v h;rw[gA]at h;cases h
  | @cons p q ps qs h t ih=>
   intro k v e;rw[cV]at e;by_cases z:p.1=k
   ·rw[if_pos z]at e
    cases e
    refine⟨q.2,?_,h.2⟩;have:q.1=kz k:=by rw[←h.1,z]
    simp[atKey,d7,this]
   ·rw[if_neg z]at e;obtain⟨r,r1,r2⟩:=ih e;refine⟨r,?_,r2⟩;have:¬q.1=kz k:=λy=>z (jm.mp (h.1.trans y))
    simpa [atKey,d7,this] using r1
 obtain⟨q,q1,t',q2⟩:=fnd pb hg;refine⟨q,by rw[←e1];exact q1,?_⟩;rw[e2,q2];exact λprog w E Q hq=>wpAny_eqBool_int (by simpa using hq)
end
section
variable {X:Cx}{td ty tv tx to:TE}{σ:St}{H:Hp}{Q:VK}{D:Ends}
theorem rK:KD td ty σ H Q=td σ H λx H1=>ty σ H1 λy H2=>∃a v,x=.ref a∧DGet H2 a y (some v)∧Q v H2:=rfl
theorem rL:KE ty td σ H Q=ty σ H λy H1=>td σ H1 λx H2=>∃a o,x=.ref a∧DGet H2 a y o∧Q (.bl (!o.isSome)) H2:=rfl
theorem rM:EI td ty tv D σ H=tv σ H λv H1=>td σ H1 λx H2=>ty σ H2 λy H3=>∃a H4,x=.ref a∧DPut H3 a y v H4∧D.nx σ H4:=rfl
theorem rN:EL td ty tx σ H Q=td σ H λx H1=>∃a,x=.ref a∧IsD H1 a∧ty σ H1 λy H2=>tx σ H2 λz H3=>∃o,DGet H3 a y o∧Q (o.getD z) H3:=rfl
theorem rO:EK σ H Q=∀p,H p=none->Q (.ref p) (upd H p (.dT [])):=rfl
theorem rP {trs:List (TE×TE)}:E7 trs σ H Q=∀p,H p=none->ga trs σ (upd H p (.dT [])) λps H2=>H2 p=some (.dT [])∧∃ks:List (List Key×Addr×V),ps=ks.map (λx=>(V.ref x.2.1,x.2.2))∧(∀x∈ks,H2 x.2.1=some (.tup (x.1.map kV)))∧ks.length<=15∧Q (.ref p) (upd H2 p (.dT (cW ks []))):=rfl
theorem rQ {R:List (V×V)->Hp->Prop}:ga [] σ H R=R [] H:=rfl
theorem rR {r:List (TE×TE)}{R:List (V×V)->Hp->Prop}:ga ((td,tv) :: r) σ H R=td σ H λx H1=>tv σ H1 λy H2=>ga r σ H2 λps H3=>R ((x,y) :: ps) H3:=rfl
theorem rS {R:It->Hp->Prop}:E5 X td σ H R=td σ H λx H1=>∃a kvs,x=.ref a∧Rd H1 a (.dT kvs)∧∀o,Thw X H1 a o kvs->R (Itd a o kvs) (upd H1 a (.frz o (.dT kvs))):=rfl
end
theorem fG {n k:Nat}(h:n+64<cLine)(hk:k<=64):n+k<cLine:=by omega
theorem dD {n:Nat}(h:n+64<cLine):n<cLine:=by omega
theorem jn:bootBuiltins "dict" = some (.type "dict"):=by decide +kernel
theorem rT {a:Addr}{o:Obj}{kvs:List (List Key×V)}{g:TG}{tb:TS}{D:Ends}{σ:St}{H:Hp}(Pv:Nat->St->Hp->Prop) (h0:Pv 0 σ H) (hz:∀i σ H,i<=kvs.length->Pv i σ H->H a=some (.frz o (.dT kvs)))
  (hs:∀i k x p b σ H,kvs[i]?=some (k,x)->Pv i σ H->H p=none->H b=some (.tup (k.map kV))->g (.ref p) σ (upd H p (.tup [.ref b,x])) λσ2 H2=>tb { D with nx:=Pv (i+1),ct:=Pv (i+1),bk:=D.nx } σ2 H2)
  (hd:∀σ H,Pv kvs.length σ H->D.nx σ H):f8 (Itd a o kvs) g tb D σ H:=by
 refine⟨λi m σ H=>m=kvs.length-i∧i<=kvs.length∧Pv i σ H,⟨_,rfl,aY _,h0⟩,?_⟩
 rintro i m σ H ⟨rfl,hi,p⟩
 have fz:=hz i σ H hi p;by_cases hlt:i<kvs.length
 ·refine .inr ⟨⟨fz,hlt⟩,Pv (i+1),λσ' H' p'=>⟨kvs.length-(i+1),by omega,rfl,hlt,p'⟩,λx H' y=>?_⟩;obtain⟨q,b,k,v,hn,e1,hk,hb,e2⟩:=y;subst e1 e2;exact hs i k v q b σ H hk p hn hb
 ·have e:i=kvs.length:=by omega
  subst e;exact .inl ⟨⟨fz,aw _⟩,hd σ H p⟩
theorem LY {K:W.Frag}{a:Addr}{o:Obj}{kvs:List (List Key×V)}{fv:List (Nat×Str)}{tt:TT}{te:TE}{Q:VK}{σ:St}{H1:Hp}{D:Addr}(W:Nat->Hp->Prop) (h0:W 0 (upd H1 D (.lst []))) (hz:∀i H,i<=kvs.length->W i H->H a=some (.frz o (.dT kvs)))
  (hs:∀i k x p b H,kvs[i]?=some (k,x)->W i H->H p=none->H b=some (.tup (k.map kV))->tt (bN fv σ (some (.ref b)) (some x)) (upd H p (.tup [.ref b,x])) λc Hb=>if c=true then te (bN fv σ (some (.ref b)) (some x)) Hb λy H2=>∃ys,H2 D=some (.lst ys)∧ys.length<sizeLine∧W (i+1) (upd H2 D (.lst (ys++[y]))) else W (i+1) Hb)
  (hd:∀H,W kvs.length H->Q (.ref D) H):zq K (Itd a o kvs) fv tt te Q σ H1 D:=by
 refine⟨λi m H=>m=kvs.length-i∧i<=kvs.length∧W i H,⟨_,rfl,aY _,h0⟩,?_⟩
 rintro i m H ⟨rfl,hi,p⟩
 have fz:=hz i H hi p;by_cases hlt:i<kvs.length
 ·refine .inr ⟨⟨fz,hlt⟩,W (i+1),λH' p'=>⟨kvs.length-(i+1),by omega,rfl,hlt,p'⟩,λv H' y=>?_⟩;obtain⟨q,b,k,x,hn,e1,hk,hb,e2⟩:=y;subst e1 e2;exact⟨q,.ref b,x,rfl,.inl (.inl af),hs i k x q b H hk p hn hb⟩
 ·have e:i=kvs.length:=by omega
  subst e;exact .inl ⟨⟨fz,aw _⟩,hd H p⟩
section
variable {prog:Program}{w:World}{A:Around}{E:Value->Shared->Prop}{s:Shared}{d:Addr}{es:Array DictEntry}{ep:Nat}
theorem LZ {Q:Value->Shared->Prop}(hd:(d == sysModules)=false) (hm:EnAt s.heap d es ep)
  (q:Q (.ref s.heap.objs.size) { s with heap:=s.heap.push { cls:=.type "dict_keyiterator",data:=.fields #[.ref d,.int 0 0,.int es.size 0,.int ep 0] } }):wpAny (model prog w) A (pyIter (.ref d)) Q E s:=by
 obtain⟨o,b1,b2,b3⟩:=id hm;refine wpAny_pyIter_slot hm.ty F.slot_dict_iter (wpAny_call_entry F.slot_dict_iter hm.ty F.entry_dict_iter ?_ (F.args_dict_iter_1 _));unfold Builtin.«dict.__iter__» Builtin.Dict.dictSlotNone;refine wpAny_bind (wpAny_bind (wpAny_notOrdered_dict hm.ty (wpAny_pure (wpAny_bind (wpAny_pure (wpAny_bind (gz hd (wpAny_bind (wpAny_dictEntries b1 b3 (wpAny_bind (wpAny_dictEpoch b1 b3 ?_)))))))))));refine wpAny_bind (wpAny_newObj_type (wpAny_pure ⟨_,rfl,"dict_keyiterator",_,⟨_,Heap.get?_push_size _ rfl,rfl⟩,F.slot_dict_keyiterator_next.lookup,?_⟩))
 simpa [rawInt] using q
end
def Itk (a:Addr)(o:Obj)(kvs:List (List Key×V)):It:=
 ⟨λi H=>H a=some (.frz o (.dT kvs))∧i<kvs.length,λi H v H'=>∃b k x,H'=H∧v=.ref b∧kvs[i]?=some (k,x)∧H b=some (.tup (k.map kV)),λi H=>H a=some (.frz o (.dT kvs))∧kvs.length<=i⟩
theorem E_ {P:Program}{w:World}{K:W.Frag}{tg:Expr}{o:Obj}{kvs:List (List Key×V)}{es:Array DictEntry}{ep:Nat}(a it:Addr)(hod:o.data=.dict es ep):
  Turn P w K tg (Itk a o kvs) [it] it (λi h=>h.IsKeyIter it a i es.size ep) where
 mem:=by simp
 obj:=λi h st c hb=>by
  obtain⟨oi,i1,i2,i3⟩:=st;rw[bR.mp hb];exact⟨oi,i1,λv z=>by rw[i3]at z;cases z⟩
 keep:=λi h h' st k=>st.at λo e=>k it (by simp) o e
 item:=by
  intro X hP hw hK hc i Xj s σ H E I hf st hg;subst hP hw hK;obtain⟨hfz,hlt⟩:=hg;obtain⟨z,y,xs,es',ep',rel,h1,h2,h3,h4,h5⟩:=gB I.hok hfz;rw[hod]at h3
  cases h3
  obtain⟨⟨k,x⟩,hk⟩:∃p,kvs[i]?=some p:=⟨_,aJ hlt⟩
  obtain⟨⟨k',b,u⟩,hq,e1,e2,e3⟩:=zp rel hk;have he:es[i]?=some (entryOfKey (tupleKind (bj X.prog X.w)) (k',b,u)):=by rw[entry_at h4,hq];rfl
  obtain⟨f0,f1,f2,f3,f4,f5⟩:=hf it (by simp);refine Ln st ⟨o,h1,h2,hod⟩ he λg1 st1 sb=>?_;have I1:Inv X Xj σ H { s with heap:=g1 }:=I.turned (t':=s.toks) (λc ob hb e=>(sb.2 c hb).trans e) f0 f1 f3 f4 f5;obtain⟨oi,i1,i2,i3⟩:=id st1;exact⟨_,rfl,yM (s:={ s with heap:=g1 }) i1 i2 i3 (by decide) ⟨.ref b,H,I1,rfl,⟨b,k,x,rfl,rfl,hk,e2⟩,st1,λc hb=>(hf c hb).1⟩⟩
 done:=by
  intro X hP hw hK hc i Xj s σ H E I hf st hg;subst hP hw hK;obtain⟨hfz,hge⟩:=hg;obtain⟨z,y,xs,es',ep',rel,h1,h2,h3,h4,h5⟩:=gB I.hok hfz;rw[hod]at h3
  cases h3
  have hl:=Paired.length rel;have hsz:=size_of_entries h4;obtain⟨f0,f1,f2,f3,f4,f5⟩:=hf it (by simp);exact Lo (I.ok.hd hc) st ⟨o,h1,h2,hod⟩ (by omega) λh' eb=>⟨rfl,I.turned (t':=s.toks) (λb ob hb e=>eb b ob hb e) f0 f1 f3 f4 f5⟩
 self:=λ_ _ _ _ _ st h=>wpAny_pyIter_keyiter st h
section
variable {X:Cx}
def zu (X:Cx)(td:TE):TI:=λσ H R=>td σ H λx H1=>∃a kvs,x=.ref a∧Rd H1 a (.dT kvs)∧∀o,Thw X H1 a o kvs->R (Itk a o kvs) (upd H1 a (.frz o (.dT kvs)))
theorem Qe {tg e:Expr}{td:TE}(ho:PE X e td):PI X tg e (zu X td):=by
 intro Xj s σ H R I h;refine thn (ho Xj s σ H _ I h) λv s1 ⟨x,H1,I1,r1,a,kvs,ex,rd,q⟩=>?_;subst ex
 cases r1
 obtain⟨o,es,ep,h1,h2,h3,hd,tw,I2⟩:=I1.freeze rd;have en:EnAt s1.heap a es ep:=⟨o,h1,h2,h3⟩
 refine LZ hd en ?_;refine⟨_,[_],_,_,upd H1 a (.frz o (.dT kvs)),rfl,I2.kept (t':=s1.toks) λb ob q=>Heap.get?_push_of_some _ q,E_ a _ h3,⟨_,Heap.get?_push_size _ rfl,rfl,rfl⟩,λb hb=>?_,q o tw⟩;rw[bR.mp hb];exact I2.fpOk (aw _) (I2.hok.fresh (aw _))
theorem L0 {tg e:Expr}{apos cpos:Pos}{td:TE}(ho:PE X e td) (hbase:attributeBase e "keys" X.env (eval e X.env)=eval e X.env:=by rfl) (hline:(apos.endLine == cpos.line)=true:=by rfl):
  PI X tg (.Call (.Attribute e "keys" apos) [] [] cpos) (zu X td):=by
 intro Xj s σ H R I h;refine wpAny_Call_method0_late hbase hline (thn (ho Xj s σ H _ I h) λv s1 ⟨x,H1,I1,r1,a,kvs,ex,rd,q⟩=>?_);subst ex
 cases r1
 obtain⟨o,es,ep,h1,h2,h3,hd,tw,I2⟩:=I1.freeze rd;have en:EnAt s1.heap a es ep:=⟨o,h1,h2,h3⟩
 refine⟨"dict","dict.keys",PySem.F.plainAttrs_dict,PySem.F.slot_dict_keys,PySem.F.type_dict_keys,en.ty,λb eb=>?_,Calls.callWith_builtin rfl (PySem.evalArgs_none (K7 hd en ?_))⟩
 ·cases eb;exact⟨o,h1,h2.2.1⟩
 have I3:Inv X Xj σ (upd H1 a (.frz o (.dT kvs))) { s1 with heap:=s1.heap.push { cls:=.type "dict_keys",data:=.fields #[.ref a] } }:=I2.kept (t':=s1.toks) λb ob q=>Heap.get?_push_of_some _ q;refine Lm (v:=s1.heap.objs.size) ⟨_,Heap.get?_push_size _ rfl,rfl,rfl⟩ (en.at λob q=>Heap.get?_push_of_some _ q) ?_;refine⟨_,[_],_,_,upd H1 a (.frz o (.dT kvs)),rfl,I3.kept (t':=s1.toks) λb ob q=>Heap.get?_push_of_some _ q,E_ a _ h3,⟨_,Heap.get?_push_size _ rfl,rfl,rfl⟩,λb hb=>?_,q o tw⟩;rw[bR.mp hb];exact I3.fpOk (aw _) (I3.hok.fresh (aw _))
theorem Fa (hu:X.A.units+1<cLine):OpR X (compareOp .Eq) (λx y H Q=>∃(a b:Addr) (f g:PD),x=.ref a∧y=.ref b∧Rd H a (.dT (dz f))∧Rd H b (.dT (dz g))∧dX f g∧Q (.bl true) H):=by
 intro Xj s σ H x y v u Q I rx ry h;obtain⟨a,b,f,g,rfl,rfl,ra,rb,sd,q⟩:=h
 cases rx
 cases ry
 exact E9 hu I ra rb sd X.prog X.w _ _ ⟨.bl true,H,I,rfl,q⟩
end
theorem rV {X:Cx}{td:TE}{σ:St}{H:Hp}{R:It->Hp->Prop}:zu X td σ H R=td σ H λx H1=>∃a kvs,x=.ref a∧Rd H1 a (.dT kvs)∧∀o,Thw X H1 a o kvs->R (Itk a o kvs) (upd H1 a (.frz o (.dT kvs))):=rfl
theorem L1 {a:Addr}{o:Obj}{kvs:List (List Key×V)}{g:TG}{tb:TS}{D:Ends}{σ:St}{H:Hp}(Pv:Nat->St->Hp->Prop) (h0:Pv 0 σ H) (hz:∀i σ H,i<=kvs.length->Pv i σ H->H a=some (.frz o (.dT kvs)))
  (hs:∀i k x b σ H,kvs[i]?=some (k,x)->Pv i σ H->H b=some (.tup (k.map kV))->g (.ref b) σ H λσ2 H2=>tb { D with nx:=Pv (i+1),ct:=Pv (i+1),bk:=D.nx } σ2 H2)
  (hd:∀σ H,Pv kvs.length σ H->D.nx σ H):f8 (Itk a o kvs) g tb D σ H:=by
 refine⟨λi m σ H=>m=kvs.length-i∧i<=kvs.length∧Pv i σ H,⟨_,rfl,aY _,h0⟩,?_⟩
 rintro i m σ H ⟨rfl,hi,p⟩
 have fz:=hz i σ H hi p;by_cases hlt:i<kvs.length
 ·refine .inr ⟨⟨fz,hlt⟩,Pv (i+1),λσ' H' p'=>⟨kvs.length-(i+1),by omega,rfl,hlt,p'⟩,λx H' y=>?_⟩;obtain⟨b,k,v,e1,e2,hk,hb⟩:=y;subst e1 e2;exact hs i k v b σ _ hk p hb
 ·have e:i=kvs.length:=by omega
  subst e;exact .inl ⟨⟨fz,aw _⟩,hd σ H p⟩
section
variable {K:W.Frag}{C:Addr}{m f:Str}{sp:Sp}{dvs:List V}{E:XK}{ta tv:TE}{t:TA}{σ:St}{H:Hp}{Q:VK}{D:Ends}
theorem rX:yU K ta f σ H Q=ta σ H λx H1=>∃a C dx fs v,x=.ref a∧H1 a=some (.ins C dx fs)∧Cls K C∧NoAttr K C f∧fs.lookup f=some v∧Q v H1:=rfl
theorem rY:DP K ta tv f D σ H=tv σ H λy H1=>ta σ H1 λx H2=>∃a C dx fs,x=.ref a∧H2 a=some (.ins C dx fs)∧Cls K C∧NoAttr K C f∧fs.length<1000∧D.nx σ (upd H2 a (.ins C dx (bM f y fs))):=rfl
theorem rZ:DX C m sp dvs E ta t σ H Q=ta σ H λx H1=>∃a dx fs,x=.ref a∧H1 a=some (.ins C dx fs)∧fs.lookup m=none∧t σ H1 λvs H2=>sp (x :: (vs++dvs)) H2 Q E:=rfl
theorem r0:DY C sp dvs E t σ H Q=t σ H λvs H1=>∀x dx,H1 x=none->H1 dx=none->dx≠x->sp (.ref x :: (vs++dvs)) (upd (upd H1 dx (.own x)) x (.ins C dx [])) (λv H2=>v=.non∧Q (.ref x) H2) E:=rfl
end
section
variable {prog:Program}{w:World}{A:Around}{E:Value->Shared->Prop}{s:Shared}
theorem zw {it t:Addr}{i:Nat}{items:Array Value}{x:Value}{Q:Value->Shared->Prop}(hit:s.heap.IsTupleIter it t i) (ht:s.heap.IsTuple t items) (hx:items[i]?=some x)
  (hQ:∀h',h'.IsTupleIter it t (i+1)->Heap.SameBut it s.heap h'->Q x { s with heap:=h' }):wpAny (model prog w) A (Builtin.SmallTypes.nextOf (.ref it)) Q E s:=by
 have ⟨o,ho,hc,hd⟩:=hit;have ⟨ol,hol,_,nl,hdl⟩:=ht;refine wpAny_bind (wpAny_callSpecial?_slot (name:=Str.ofString "__next__") hit.typeIs F.slot_tuple_iterator_next (wpAny_call_entry F.slot_tuple_iterator_next hit.typeIs F.entry_tuple_iterator_next ?_ (F.args_tuple_iterator_next_1 _)));refine wpAny_bind (m:=field (.ref it) 0) (wpAny_field ho hd (x:=.ref t) rfl ?_);refine wpAny_bind (m:=field (.ref it) 1) (wpAny_field ho hd (x:=.int i 0) rfl ?_);refine wpAny_bind (m:=seqItems? (.ref t)) (wpAny_seqItems hol hdl ?_);simp only[dk,hx];refine wpAny_bind (wpAny_setField ho hd (by simp) (wpAny_pure ⟨x,rfl,wpAny_pure (hQ _ ⟨_,Heap.get?_update_self _ ho (Obj.isFreed_of_fields (Obj.data_mapFields hd _)),(Obj.cls_mapFields ..).trans hc,?_⟩ (Heap.SameBut.update ..))⟩));rw[Obj.data_mapFields hd];simp[rawInt]
theorem L5 {it t:Addr}{i:Nat}{items:Array Value}{Q:Value->Shared->Prop}(hh:A.handled=none) (hit:s.heap.IsTupleIter it t i) (ht:s.heap.IsTuple t items) (hx:items[i]?=none)
  (hE:∀h' e,Heap.ExtBut it s.heap h'->(∃o,h'.get? e=some o∧o.cls=.type "StopIteration")->E (.ref e) { s with heap:=h' }):wpAny (model prog w) A (Builtin.SmallTypes.nextOf (.ref it)) Q E s:=by
 have ⟨o,ho,hc,hd⟩:=hit;have ⟨ol,hol,_,nl,hdl⟩:=ht;refine wpAny_bind (wpAny_callSpecial?_slot (name:=Str.ofString "__next__") hit.typeIs F.slot_tuple_iterator_next (wpAny_call_entry F.slot_tuple_iterator_next hit.typeIs F.entry_tuple_iterator_next ?_ (F.args_tuple_iterator_next_1 _)));refine wpAny_bind (m:=field (.ref it) 0) (wpAny_field ho hd (x:=.ref t) rfl ?_);refine wpAny_bind (m:=field (.ref it) 1) (wpAny_field ho hd (x:=.int i 0) rfl ?_);refine wpAny_bind (m:=seqItems? (.ref t)) (wpAny_seqItems hol hdl ?_);simp only[dk,hx];refine wpAny_bind (wpAny_rule (wpAny_bind (wpAny_setField ho hd (by simp) (wpAny_bind (m:=newExc (.type "StopIteration") []) ?_))));simp only[newExc,newTuple];refine wpAny_bind (wpAny_newObj_type (wpAny_bind (m:=firstArgMember _ _) (wpAny_of_eq (a:=Value.none) (by first|rfl|(simp only[firstArgMember];rfl)) (wpAny_newObj_type ?_ (by size_fits)))) (by size_fits));simp only[raiseNew];refine wpAny_bind (wpAny_handled ?_)
 first|rw[show A.in1.handled=none from hh]|rw[hh]
 exact wpAny_bind (wpAny_pure (wpAny_throw (hE _ _ (((Heap.SameBut.update ..).extBut.push _).push _) ⟨_,Heap.get?_push_size _ rfl,rfl⟩)))
end
def L6 (i j:Int):Prop:=j≠0∧i.natAbs<2 ^ 4000*j.natAbs
theorem L7 {x y:Int}(hy:y≠0)(h:x.natAbs<2 ^ 4000*y.natAbs):Builtin.divisionGoesByPylong x y=false:=by
 have key:¬((if (x == 0)=true then 0 else x.natAbs.log2 / 30+1) > (if (y == 0)=true then 0 else y.natAbs.log2 / 30+1)+150):=by
  rw[if_neg (show ¬((y == 0)=true) by simpa using hy)];by_cases hx:x=0
  ·rw[if_pos (show (x == 0)=true by simpa using hx)];omega
  ·rw[if_neg (show ¬((x == 0)=true) by simpa using hx)];have hx':x.natAbs≠0:=by omega
   have h1:y.natAbs<2 ^ (y.natAbs.log2+1):=Nat.lt_log2_self;have h2:x.natAbs<2 ^ (4000+(y.natAbs.log2+1)):=by
    rw[sY];exact Nat.lt_trans h (Nat.mul_lt_mul_of_pos_left h1 (Nat.pow_pos (by decide)))
   have h3:=(Iq hx').mpr h2;omega
 exact Bool.and_eq_false_iff.mpr (.inr (decide_eq_false key))
theorem L8 {X:Cx}:OpR X (binaryOp .FloorDiv) (rI L6 λi j=>.int (i.fdiv j)):=opI λ_ _ _ _ _ _ _ hc q=>floordiv_int hc.1 q (.inl (L7 hc.1 hc.2))
theorem bH {X:Cx}{e:Expr}{t u:TE}(h1:PE X e t)(h2:PE X e u):PE X e (λσ H Q=>t σ H Q∨u σ H Q):=λXj s σ H Q I h=>h.elim (h1 Xj s σ H Q I) (h2 Xj s σ H Q I)
abbrev ca (h:Heap) (T:Addr) (a b c:Value):Prop:=h.get? T=some { cls:=.type "tuple",data:=.seq #[a,b,c] }
structure Zip3 (z TI TO i1 i2 i3 l1 l2 l3:Addr):Prop where
 TIz:TI≠z
 TOz:TO≠z
 i1z:i1≠z
 i2z:i2≠z
 i3z:i3≠z
 TITO:TI≠TO
 TIi1:TI≠i1
 TIi2:TI≠i2
 TIi3:TI≠i3
 TOi1:TO≠i1
 TOi2:TO≠i2
 TOi3:TO≠i3
 i12:i1≠i2
 i13:i1≠i3
 i23:i2≠i3
 l1z:l1≠z
 l2z:l2≠z
 l3z:l3≠z
 l2TO:l2≠TO
 l3TO:l3≠TO
 l2i1:l2≠i1
 l3i1:l3≠i1
 l3i2:l3≠i2
theorem L9 {n l1 l2 l3:Addr}(h1:l1<n)(h2:l2<n)(h3:l3<n):Zip3 (n+5) (n+3) (n+4) n (n+1) (n+2) l1 l2 l3:=by
 constructor <;> (intro h;have h':(_:Nat)=(_:Nat):=h;simp only[Addr]at *;omega)
section
variable {prog:Program}{w:World}{A:Around}{E:Value->Shared->Prop}{s:Shared}
theorem zx {T:Addr}{a b c x:Value}{k:Nat}{Q:Unit->Shared->Prop}(hT:ca s.heap T a b c)
  (h:∀h',h'.get? T=some { cls:=.type "tuple",data:=.seq ((#[a,b,c]:Array Value).setIfInBounds k x) }->Heap.SameBut T s.heap h'->Q () { s with heap:=h' }):
  wpAny (model prog w) A (updateSeq T (·.setIfInBounds k x)) Q E s:=by
 refine wpAny_updateSeq hT rfl (h _ ?_ (Heap.SameBut.update ..));rw[Heap.get?_update_self _ hT rfl];simp[Obj.mapSeq]
theorem L_ {z TI TO i1 i2 i3 l1 l2 l3:Addr}{k:Nat}{xs ys zs:Array Value}{x y v a b c:Value}{Q:Value->Shared->Prop}(D:Zip3 z TI TO i1 i2 i3 l1 l2 l3)
  (hz:IsZip s.heap z TI TO .none) (hTI:ca s.heap TI (.ref i1) (.ref i2) (.ref i3)) (hTO:ca s.heap TO a b c) (h1:s.heap.IsTupleIter i1 l1 k) (h2:s.heap.IsTupleIter i2 l2 k) (h3:s.heap.IsTupleIter i3 l3 k)
  (t1:s.heap.IsTuple l1 xs) (t2:s.heap.IsTuple l2 ys) (t3:s.heap.IsTuple l3 zs) (hx:xs[k]?=some x) (hy:ys[k]?=some y) (hv:zs[k]?=some v)
  (hQ:∀h',IsZip h' z TI TO (rawInt s.heap.objs.size)->ca h' TO x y v->h'.IsTupleIter i1 l1 (k+1)->h'.IsTupleIter i2 l2 (k+1)->h'.IsTupleIter i3 l3 (k+1)->ca h' s.heap.objs.size x y v->
   (∀c o,c∉[z,TO,i1,i2,i3]->s.heap.get? c=some o->h'.get? c=some o)->Q (.ref s.heap.objs.size) { s with heap:=h' }):
  wpAny (model prog w) A (Builtin.«zip.__next__» ⟨[.ref z],[]⟩) (λfin s'=>∃v,fin=.done (.ret v)∧Q v s') E s:=by
 refine wpAny_bind (m:=field (.ref z) 2) (wpAny_field hz rfl (x:=.bool false) rfl ?_);refine wpAny_bind (m:=field (.ref z) 3) (wpAny_field hz rfl (x:=.ref TI) rfl (wpAny_bind (wpAny_seqItems hTI rfl ?_)));refine wpAny_bind (m:=Builtin.SmallTypes.ownedTupleIsFree (.ref z)) (wpAny_bind (m:=field (.ref z) 0) (wpAny_field hz rfl (x:=.none) rfl (wpAny_pure ?_)));simp only[if_true];refine wpAny_bind (wpAny_rule (wpAny_bind (wpAny_field hz rfl (x:=.ref TO) rfl (wpAny_bind (wpAny_setField_rec hz (by simp) λg₁ z₁ c₁=>wpAny_bind ?_)))));replace z₁:IsZip g₁ z TI TO .ellipsis:=z₁;simp only[List.zipIdx_cons,List.zipIdx_nil,Al,sZ];have b₁:=c₁.extBut;refine wpAny_bind (wpAny_bind (wpAny_onRaise (wpAny_bind (m:=Builtin.SmallTypes.nextOf (.ref i1)) (zw (h1.extBut b₁ D.i1z) (t1.extBut b₁ D.l1z) hx λg₂ j₂ c₂=>wpAny_pure ?_))));have b₂:=c₂.extBut;have o₂:ca g₂ TO a b c:=b₂ _ _ D.TOi1 (b₁ _ _ D.TOz hTO);refine wpAny_bind (wpAny_seqItems o₂ rfl (wpAny_bind (zx o₂ λg₃ o₃ c₃=>wpAny_bind (wpAny_letGo (wpAny_pure ?_)))));replace o₃:ca g₃ TO x b c:=o₃;have b₃:=c₃.extBut;have e2:∀c o,c≠z->c≠i1->c≠TO->s.heap.get? c=some o->g₃.get? c=some o:=λc o n1 n2 n3 e=>b₃ _ _ n3 (b₂ _ _ n2 (b₁ _ _ n1 e));refine wpAny_bind (wpAny_bind (wpAny_onRaise (wpAny_bind (m:=Builtin.SmallTypes.nextOf (.ref i2)) (zw (s:={ s with heap:=g₃ }) (h2.at λo e=>e2 _ o D.i2z D.i12.symm D.TOi2.symm e) (t2.at λo e=>e2 _ o D.l2z D.l2i1 D.l2TO e) hy λg₄ j₄ c₄=>wpAny_pure ?_))));have b₄:=c₄.extBut;have o₄:ca g₄ TO x b c:=b₄ _ _ D.TOi2 o₃;refine wpAny_bind (wpAny_seqItems o₄ rfl (wpAny_bind (zx o₄ λg₅ o₅ c₅=>wpAny_bind (wpAny_letGo (wpAny_pure ?_)))));replace o₅:ca g₅ TO x y c:=o₅;have b₅:=c₅.extBut;have e3:∀c o,c≠z->c≠i1->c≠TO->c≠i2->s.heap.get? c=some o->g₅.get? c=some o:=λc o n1 n2 n3 n4 e=>b₅ _ _ n3 (b₄ _ _ n4 (e2 c o n1 n2 n3 e));refine wpAny_bind (wpAny_bind (wpAny_onRaise (wpAny_bind (m:=Builtin.SmallTypes.nextOf (.ref i3)) (zw (s:={ s with heap:=g₅ }) (h3.at λo e=>e3 _ o D.i3z D.i13.symm D.TOi3.symm D.i23.symm e) (t3.at λo e=>e3 _ o D.l3z D.l3i1 D.l3TO D.l3i2 e) hv λg₆ j₆ c₆=>wpAny_pure ?_))));have b₆:=c₆.extBut;have o₆:ca g₆ TO x y c:=b₆ _ _ D.TOi3 o₅;refine wpAny_bind (wpAny_seqItems o₆ rfl (wpAny_bind (zx o₆ λg₇ o₇ c₇=>wpAny_bind (wpAny_letGo (wpAny_pure (wpAny_pure (wpAny_bind ?_)))))));replace o₇:ca g₇ TO x y v:=o₇;have b₇:=c₇.extBut;refine wpAny_seqItems o₇ rfl (wpAny_bind (wpAny_newTuple ?_));have sz:g₇.objs.size=s.heap.objs.size:=by rw[c₇.1,c₆.1,c₅.1,c₄.1,c₃.1,c₂.1,c₁.1]
 have z₇:IsZip g₇ z TI TO .ellipsis:=b₇ _ _ D.TOz.symm (b₆ _ _ D.i3z.symm (b₅ _ _ D.TOz.symm (b₄ _ _ D.i2z.symm (b₃ _ _ D.TOz.symm (b₂ _ _ D.i1z.symm z₁)))));have j₁:g₇.IsTupleIter i1 l1 (k+1):=j₂.at λo e=>b₇ _ _ D.TOi1.symm (b₆ _ _ D.i13 (b₅ _ _ D.TOi1.symm (b₄ _ _ D.i12 (b₃ _ _ D.TOi1.symm e))));have j₅:g₇.IsTupleIter i2 l2 (k+1):=j₄.at λo e=>b₇ _ _ D.TOi2.symm (b₆ _ _ D.i23 (b₅ _ _ D.TOi2.symm e));have j₇:g₇.IsTupleIter i3 l3 (k+1):=j₆.at λo e=>b₇ _ _ D.TOi3.symm e;have lz:z<g₇.objs.size:=Heap.lt_size z₇;refine wpAny_bind (m:=Builtin.SmallTypes.ownedTupleHandOut (.ref z) (.ref g₇.objs.size)) (wpAny_bind (wpAny_setField_rec (Heap.get?_push_of_some _ z₇) (by simp) λg₈ z₈ c₈=>?_));replace z₈:IsZip g₈ z TI TO (rawInt g₇.objs.size):=z₈;refine wpAny_setField_rec z₈ (by simp) λg₉ z₉ c₉=>?_;replace z₉:IsZip g₉ z TI TO (rawInt g₇.objs.size):=z₉;have up:∀c o,c≠z->(g₇.push { cls:=.type "tuple",data:=.seq #[x,y,v] }).get? c=some o->g₉.get? c=some o:=λc o n e=>c₉.extBut _ _ n (c₈.extBut _ _ n e);have T₉:ca g₉ g₇.objs.size x y v:=up _ _ (gg lz) (Heap.get?_push_size _ rfl);have up7:∀c o,c≠z->g₇.get? c=some o->g₉.get? c=some o:=λc o n e=>up c o n (Heap.get?_push_of_some _ e);refine wpAny_pure ⟨_,rfl,?_⟩;show Q (.ref g₇.objs.size) _;rw[sz]at z₉ T₉ ⊢;refine hQ g₉ z₉ (up7 _ _ D.TOz o₇) (j₁.at λo e=>up7 _ o D.i1z e) (j₅.at λo e=>up7 _ o D.i2z e) (j₇.at λo e=>up7 _ o D.i3z e) T₉ λc o hc e=>?_;have n1:c≠z:=λh=>hc (by simp[h]);have n2:c≠TO:=λh=>hc (by simp[h]);have n3:c≠i1:=λh=>hc (by simp[h]);have n4:c≠i2:=λh=>hc (by simp[h]);have n5:c≠i3:=λh=>hc (by simp[h]);exact up7 c o n1 (b₇ _ _ n2 (b₆ _ _ n5 (e3 c o n1 n3 n2 n4 e)))
theorem Ma {z TI TO i1 i2 i3 l1 l2 l3:Addr}{k:Nat}{xs:Array Value}{a b c:Value}{Q:Fin->Shared->Prop}(hh:A.handled=none) (D:Zip3 z TI TO i1 i2 i3 l1 l2 l3)
  (hz:IsZip s.heap z TI TO .none) (hTI:ca s.heap TI (.ref i1) (.ref i2) (.ref i3)) (h1:s.heap.IsTupleIter i1 l1 k) (t1:s.heap.IsTuple l1 xs) (hx:xs[k]?=none)
  (hE:∀h' e,(∀c o,c∉[z,TO,i1,i2,i3]->s.heap.get? c=some o->h'.get? c=some o)->(∃o,h'.get? e=some o∧o.cls=.type "StopIteration")->E (.ref e) { s with heap:=h' }):
  wpAny (model prog w) A (Builtin.«zip.__next__» ⟨[.ref z],[]⟩) Q E s:=by
 refine wpAny_bind (m:=field (.ref z) 2) (wpAny_field hz rfl (x:=.bool false) rfl ?_);refine wpAny_bind (m:=field (.ref z) 3) (wpAny_field hz rfl (x:=.ref TI) rfl (wpAny_bind (wpAny_seqItems hTI rfl ?_)));refine wpAny_bind (m:=Builtin.SmallTypes.ownedTupleIsFree (.ref z)) (wpAny_bind (m:=field (.ref z) 0) (wpAny_field hz rfl (x:=.none) rfl (wpAny_pure ?_)));simp only[if_true];refine wpAny_bind (wpAny_rule (wpAny_bind (wpAny_field hz rfl (x:=.ref TO) rfl (wpAny_bind (wpAny_setField_rec hz (by simp) λg₁ z₁ c₁=>wpAny_bind ?_)))));replace z₁:IsZip g₁ z TI TO .ellipsis:=z₁;simp only[List.zipIdx_cons,List.zipIdx_nil,Al,sZ];have b₁:=c₁.extBut;have nz:∀{g:Heap}{e:Addr}{o:Obj},IsZip g z TI TO .ellipsis->g.get? e=some o->o.cls=.type "StopIteration" -> e≠z:=λ{g e o} q r c h=>by
  subst h;rw[q]at r;cases r;simp at c
 refine wpAny_bind (wpAny_bind (wpAny_onRaise (wpAny_bind (m:=Builtin.SmallTypes.nextOf (.ref i1)) (L5 hh (h1.extBut b₁ D.i1z) (t1.extBut b₁ D.l1z) hx λg₂ e b₂ ⟨oe,he,ce⟩=>?_))));have z₂:IsZip g₂ z TI TO .ellipsis:=b₂ _ _ D.i1z.symm z₁;refine wpAny_setField_rec z₂ (by simp) λg₃ _ c₃=>hE g₃ e (λc o hc q=>?_) ⟨oe,c₃.extBut _ _ (nz z₂ he ce) he,ce⟩;exact c₃.extBut _ _ (λh=>hc (by simp[h])) (b₂ _ _ (λh=>hc (by simp[h])) (b₁ _ _ (λh=>hc (by simp[h])) q))
theorem Mb {z TI TO i1 i2 i3 l1 l2 l3:Addr}{k:Nat}{xs ys zs:Array Value}{x y v a b c:Value}{Q:Option Value->Shared->Prop}(D:Zip3 z TI TO i1 i2 i3 l1 l2 l3)
  (hz:IsZip s.heap z TI TO .none) (hTI:ca s.heap TI (.ref i1) (.ref i2) (.ref i3)) (hTO:ca s.heap TO a b c) (h1:s.heap.IsTupleIter i1 l1 k) (h2:s.heap.IsTupleIter i2 l2 k) (h3:s.heap.IsTupleIter i3 l3 k)
  (t1:s.heap.IsTuple l1 xs) (t2:s.heap.IsTuple l2 ys) (t3:s.heap.IsTuple l3 zs) (hx:xs[k]?=some x) (hy:ys[k]?=some y) (hv:zs[k]?=some v)
  (hQ:∀h',IsZip h' z TI TO (rawInt s.heap.objs.size)->ca h' TO x y v->h'.IsTupleIter i1 l1 (k+1)->h'.IsTupleIter i2 l2 (k+1)->h'.IsTupleIter i3 l3 (k+1)->ca h' s.heap.objs.size x y v->
   (∀c o,c∉[z,TO,i1,i2,i3]->s.heap.get? c=some o->h'.get? c=some o)->Q (some (.ref s.heap.objs.size)) { s with heap:=h' }):wpAny (model prog w) A (pyNext (.ref z)) Q E s:=by
 have hT:s.TypeIs (.ref z) "zip" := ⟨_,hz,rfl⟩
 exact wpAny_bind (wpAny_attempt (wpAny_callSpecial?_slot (name:=Str.ofString "__next__") hT F.slot_zip_next (wpAny_call_entry F.slot_zip_next hT F.entry_zip_next
  (L_ D hz hTI hTO h1 h2 h3 t1 t2 t3 hx hy hv λh' a1 a2 a3 a4 a5 a6 a7=>wpAny_pure (hQ h' a1 a2 a3 a4 a5 a6 a7)) (F.args_zip_next_1 _))))
theorem Mc {z TI TO i1 i2 i3 l1 l2 l3:Addr}{k:Nat}{xs:Array Value}{Q:Option Value->Shared->Prop}(hh:A.handled=none) (D:Zip3 z TI TO i1 i2 i3 l1 l2 l3)
  (hz:IsZip s.heap z TI TO .none) (hTI:ca s.heap TI (.ref i1) (.ref i2) (.ref i3)) (h1:s.heap.IsTupleIter i1 l1 k) (t1:s.heap.IsTuple l1 xs) (hx:xs[k]?=none)
  (hQ:∀h',(∀c o,c∉[z,TO,i1,i2,i3]->s.heap.get? c=some o->h'.get? c=some o)->Q none { s with heap:=h' }):wpAny (model prog w) A (pyNext (.ref z)) Q E s:=by
 have hT:s.TypeIs (.ref z) "zip" := ⟨_,hz,rfl⟩
 refine wpAny_bind (wpAny_attempt (wpAny_callSpecial?_slot (name:=Str.ofString "__next__") hT F.slot_zip_next (wpAny_call_entry F.slot_zip_next hT F.entry_zip_next (Ma (a:=.none) (b:=.none) (c:=.none) hh D hz hTI h1 t1 hx λh' e hk ⟨o,ho,hc⟩=>?_) (F.args_zip_next_1 _))));exact wpAny_bind (wpAny_isInstance (T := "StopIteration") (b:=true) ⟨o,ho,hc⟩ isSubtype_stop (wpAny_pure (hQ _ hk)))
end
def zp3 (h:Heap)(a b c:Addr):Heap:=
 (((((h.push { cls:=.type "tuple_iterator",data:=.fields #[.ref a,.int 0 0] }).push { cls:=.type "tuple_iterator",data:=.fields #[.ref b,.int 0 0] }).push { cls:=.type "tuple_iterator",data:=.fields #[.ref c,.int 0 0] }).push
  { cls:=.type "tuple",data:=.seq #[.ref h.objs.size,.ref (h.push { cls:=.type "tuple_iterator",data:=.fields #[.ref a,.int 0 0] }).objs.size,.ref ((h.push { cls:=.type "tuple_iterator",data:=.fields #[.ref a,.int 0 0] }).push { cls:=.type "tuple_iterator",data:=.fields #[.ref b,.int 0 0] }).objs.size] }).push { cls:=.type "tuple",data:=.seq #[.none,.none,.none] }).push
  { cls:=.type "zip",data:=.fields #[.none,.bool false,.bool false,.ref (((h.push { cls:=.type "tuple_iterator",data:=.fields #[.ref a,.int 0 0] }).push { cls:=.type "tuple_iterator",data:=.fields #[.ref b,.int 0 0] }).push { cls:=.type "tuple_iterator",data:=.fields #[.ref c,.int 0 0] }).objs.size,
   .ref ((((h.push { cls:=.type "tuple_iterator",data:=.fields #[.ref a,.int 0 0] }).push { cls:=.type "tuple_iterator",data:=.fields #[.ref b,.int 0 0] }).push { cls:=.type "tuple_iterator",data:=.fields #[.ref c,.int 0 0] }).push { cls:=.type "tuple",data:=.seq #[.ref h.objs.size,.ref (h.push { cls:=.type "tuple_iterator",data:=.fields #[.ref a,.int 0 0] }).objs.size,.ref ((h.push { cls:=.type "tuple_iterator",data:=.fields #[.ref a,.int 0 0] }).push { cls:=.type "tuple_iterator",data:=.fields #[.ref b,.int 0 0] }).objs.size] }).objs.size] }
theorem Md (h:Heap)(a b c:Addr):(zp3 h a b c).objs.size=h.objs.size+6:=by unfold zp3;rw[Heap.size_push,Heap.size_push,Heap.size_push,Heap.size_push,Heap.size_push,Heap.size_push]
theorem Me (l1 l2 l3:Addr)(xs ys zs:Array Value):Meets (Builtin.«zip.__new__» ⟨[.type "zip",.ref l1,.ref l2,.ref l3],[]⟩) (λ_ R s=>s.heap.IsTuple l1 xs∧s.heap.IsTuple l2 ys∧s.heap.IsTuple l3 zs∧R (.ok (.ret (.ref (s.heap.objs.size+5)))) { s with heap:=zp3 s.heap l1 l2 l3 }):=
 .of_wp λprog w A R s h=>by
  obtain⟨hp,g,d,tk,os⟩:=s;obtain⟨q1,q2,q3,h⟩:=h;have hsub:=sub_zip;have k1:Heap.IsTuple (Shared.heap ⟨hp,g,d,tk,os⟩) l1 xs:=q1;have k2:Heap.IsTuple (Shared.heap ⟨hp.push { cls:=.type "tuple_iterator",data:=.fields #[.ref l1,.int 0 0] },g,d,tk,os⟩) l2 ys:=Heap.IsTuple.push q2 _;have k3:Heap.IsTuple (Shared.heap ⟨(hp.push { cls:=.type "tuple_iterator",data:=.fields #[.ref l1,.int 0 0] }).push { cls:=.type "tuple_iterator",data:=.fields #[.ref l2,.int 0 0] },g,d,tk,os⟩) l3 zs:=Heap.IsTuple.push (Heap.IsTuple.push q3 _) _
  wp_walk using wpAny_pyIter_tuple k1,wpAny_pyIter_tuple k2,wpAny_pyIter_tuple k3
  refine⟨_,rfl,?_⟩;have e:(zp3 hp l1 l2 l3).objs.size=hp.objs.size+6:=Md hp l1 l2 l3;unfold zp3 at e h;rw[Heap.size_push]at e;have e4:=Nat.succ.inj e;rw[←e4]at h;exact h
theorem Mf (a b c:Value):checkTypeCall "zip" ⟨[a,b,c],[]⟩=pure ():=by kernel_rfl
theorem Mg (a b c:Value):checkBuiltinCall "zip.__new__" ⟨[.type "zip",a,b,c],[]⟩=pure ():=by kernel_rfl
theorem Mh (a b c d:Value):argsOk "object.__init__" ⟨[a,b,c,d],[]⟩:=by
 unfold argsOk;rw[signature?_of (id := "object.__init__") (n:=['_','_','t','i','n','i','_','_']) (o:=['t','c','e','j','b','o']) (by kernel_rfl) F.owner_object];kernel_rfl
section
variable {prog:Program}{w:World}{A:Around}{E:Value->Shared->Prop}{s:Shared}
theorem Mi {l1 l2 l3:Addr}{xs ys zs:Array Value}{Q:Value->Shared->Prop}(q1:s.heap.IsTuple l1 xs) (q2:s.heap.IsTuple l2 ys) (q3:s.heap.IsTuple l3 zs)
  (h:∀h',IsZip h' (s.heap.objs.size+5) (s.heap.objs.size+3) (s.heap.objs.size+4) .none->ca h' (s.heap.objs.size+3) (.ref s.heap.objs.size) (.ref (s.heap.objs.size+1)) (.ref (s.heap.objs.size+2))->
   ca h' (s.heap.objs.size+4) .none .none .none->h'.IsTupleIter s.heap.objs.size l1 0->h'.IsTupleIter (s.heap.objs.size+1) l2 0->h'.IsTupleIter (s.heap.objs.size+2) l3 0->(∀c o,s.heap.get? c=some o->h'.get? c=some o)->Q (.ref (s.heap.objs.size+5)) { s with heap:=h' }):
  wpAny (model prog w) A (call (.type "zip") [.ref l1,.ref l2,.ref l3]) Q E s:=by
 refine callType_new F.called_zip (by decide) (Mf _ _ _) (Mg _ _ _) (λobj=>Mh obj _ _ _) F.entry_zip_new (Me l1 l2 l3 xs ys zs) ⟨q1,q2,q3,?_⟩;obtain⟨H1,e1⟩:∃H1,H1=s.heap.push { cls:=.type "tuple_iterator",data:=.fields #[.ref l1,.int 0 0] }:=⟨_,rfl⟩
 obtain⟨H2,e2⟩:∃H2,H2=H1.push { cls:=.type "tuple_iterator",data:=.fields #[.ref l2,.int 0 0] }:=⟨_,rfl⟩
 obtain⟨H2',e2'⟩:∃H2',H2'=H2.push { cls:=.type "tuple_iterator",data:=.fields #[.ref l3,.int 0 0] }:=⟨_,rfl⟩
 obtain⟨H3,e3⟩:∃H3,H3=H2'.push { cls:=.type "tuple",data:=.seq #[.ref s.heap.objs.size,.ref H1.objs.size,.ref H2.objs.size] }:=⟨_,rfl⟩
 obtain⟨H4,e4⟩:∃H4,H4=H3.push { cls:=.type "tuple",data:=.seq #[.none,.none,.none] }:=⟨_,rfl⟩
 have e5:zp3 s.heap l1 l2 l3=H4.push { cls:=.type "zip",data:=.fields #[.none,.bool false,.bool false,.ref H2'.objs.size,.ref H3.objs.size] }:=by subst e4 e3 e2' e2 e1;rfl
 have z1:H1.objs.size=s.heap.objs.size+1:=by rw[e1,Heap.size_push]
 have z2:H2.objs.size=s.heap.objs.size+2:=by rw[e2,Heap.size_push,z1]
 have z2':H2'.objs.size=s.heap.objs.size+3:=by rw[e2',Heap.size_push,z2]
 have z3:H3.objs.size=s.heap.objs.size+4:=by rw[e3,Heap.size_push,z2']
 have z4:H4.objs.size=s.heap.objs.size+5:=by rw[e4,Heap.size_push,z3]
 have g1:H1.get? s.heap.objs.size=some { cls:=.type "tuple_iterator",data:=.fields #[.ref l1,.int 0 0] }:=by rw[e1];exact Heap.get?_push_size _ rfl
 have g2:H2.get? H1.objs.size=some { cls:=.type "tuple_iterator",data:=.fields #[.ref l2,.int 0 0] }:=by rw[e2];exact Heap.get?_push_size _ rfl
 have g2':H2'.get? H2.objs.size=some { cls:=.type "tuple_iterator",data:=.fields #[.ref l3,.int 0 0] }:=by rw[e2'];exact Heap.get?_push_size _ rfl
 have g3:H3.get? H2'.objs.size=some { cls:=.type "tuple",data:=.seq #[.ref s.heap.objs.size,.ref H1.objs.size,.ref H2.objs.size] }:=by rw[e3];exact Heap.get?_push_size _ rfl
 have g4:H4.get? H3.objs.size=some { cls:=.type "tuple",data:=.seq #[.none,.none,.none] }:=by rw[e4];exact Heap.get?_push_size _ rfl
 have u2:∀c o,H1.get? c=some o->H2.get? c=some o:=λc o e=>by rw[e2];exact Heap.get?_push_of_some _ e
 have u2':∀c o,H2.get? c=some o->H2'.get? c=some o:=λc o e=>by rw[e2'];exact Heap.get?_push_of_some _ e
 have u3:∀c o,H2'.get? c=some o->H3.get? c=some o:=λc o e=>by rw[e3];exact Heap.get?_push_of_some _ e
 have u4:∀c o,H3.get? c=some o->H4.get? c=some o:=λc o e=>by rw[e4];exact Heap.get?_push_of_some _ e
 have u5:∀c o,H4.get? c=some o->(zp3 s.heap l1 l2 l3).get? c=some o:=λc o e=>by rw[e5];exact Heap.get?_push_of_some _ e
 have g5:(zp3 s.heap l1 l2 l3).get? H4.objs.size=some { cls:=.type "zip",data:=.fields #[.none,.bool false,.bool false,.ref H2'.objs.size,.ref H3.objs.size] }:=by rw[e5];exact Heap.get?_push_size _ rfl
 have f1:=u5 _ _ (u4 _ _ (u3 _ _ (u2' _ _ (u2 _ _ g1))));have f2:=u5 _ _ (u4 _ _ (u3 _ _ (u2' _ _ g2)));have f2':=u5 _ _ (u4 _ _ (u3 _ _ g2'));have f3:=u5 _ _ (u4 _ _ g3);have f4:=u5 _ _ g4;rw[z4,z2',z3]at g5;rw[z1]at f2;rw[z2]at f2';rw[z2',z1,z2]at f3;rw[z3]at f4;exact⟨⟨_,g5,rfl⟩,h _ g5 f3 f4 ⟨_,f1,rfl,rfl⟩ ⟨_,f2,rfl,rfl⟩ ⟨_,f2',rfl,rfl⟩ λc o x=>u5 _ _ (u4 _ _ (u3 _ _ (u2' _ _ (u2 _ _ (by rw[e1];exact Heap.get?_push_of_some _ x)))))⟩
end
@[reducible] def dh (X:Cx) (x z z3:Str) (fv:List (Nat×Str)) (scope:Scope) (cl:List (Str×Addr)) (C:Addr) (s:Shared) (H:Hp) (fp:List Addr):Cx where
 prog:=X.prog
 w:=X.w
 K:=X.K
 mg:=X.mg
 base:=X.base
 A:=X.A
 N:=x :: z :: z3 :: fv.map (·.2)
 s₀:=s
 H₀:=H
 env:=compEnvC scope cl C X.env
 outer:=X.stack
 stack:=X.stack
 ex:=fp
 fn:=λ_=>false
 calm:=X.calm
 pn:=[]
 xe:=λ_ _=>False
def cX (fv:List (Nat×Str))(σ:St)(v v2 v3:Option V):St:=v :: v2 :: v3 :: fv.map λp=>(σ[p.1]?).getD none
structure BlkOk3 (X:Cx)(x z z3:Str)(fv:List (Nat×Str))(scope:Scope)(cl:List (Str×Addr)):Prop where
 clos:closureFor scope X.env=pure cl
 nocell:∀y∈scope.names,y.2≠.cell
 kind:scope.kind=.function
 names:∀y∈scope.names,y.2=.local->scope.names.lookup y.1=some .local
 here:scope.names.lookup x=some .local
 here2:scope.names.lookup z=some .local
 here3:scope.names.lookup z3=some .local
 nd:(x :: z :: z3 :: fv.map (·.2)).Nodup
 sub:∀y c,cl.lookup y=some c->X.env.cells.lookup y=some c
 has:∀y,((relabel scope X.env).names.lookup y=some .cell∨(relabel scope X.env).names.lookup y=some .free)->∃c,cl.lookup y=some c
 fvs:∀p∈fv,X.N[p.1]?=some p.2∧(X.env.scope.names.lookup p.2=some .cell∨X.env.scope.names.lookup p.2=some .free)∧
  ((relabel scope X.env).names.lookup p.2=some .cell∨(relabel scope X.env).names.lookup p.2=some .free)∧∃c,cl.lookup p.2=some c
section
variable {X:Cx}{elt iter:Expr}{x z z3:Str}{px pz p3:Pos}{tk:Nat}{tpos:Pos}{fv:List (Nat×Str)}{scope:Scope}{cl:List (Str×Addr)}{pos:Pos}{te:TE}{wi:TI}
theorem Mj {Xj:List (Addr×Obj)}{σ:St}{H:Hp}{s:Shared}{fp:List Addr}{C:Addr}(B:BlkOk3 X x z z3 fv scope cl)(I:Inv X Xj σ H s)(hf:∀b∈fp,a8 X Xj H b)(hC:s.heap.objs.size<=C)(hfC:∀b∈fp,b≠C):
  (dh X x z z3 fv scope cl C s H fp).Ok where
 mod:=I.ok.mod
 kind:=B.kind
 glob:=I.ok.glob
 blt:=I.ok.blt
 above:=hC
 inj:=λy y' c h1 h2=>I.ok.inj y y' c (B.sub y c h1) (B.sub y' c h2)
 has:=λy hy=>B.has y hy
 cab:=λy c h=>nomatch h
 hd:=I.ok.hd
 frames:=I.ok.frames
 stk:=.inl rfl
 exf:=λb hb=>⟨hfC b hb,λy c e=>(hf b hb).2.2.2.2.1 y c (B.sub y c e)⟩
 bs:=I.bs
 bsz:=aP I.ok.bsz I.sz
 noex:=λb o e hb=>by
  obtain⟨_,_,_,f3,_⟩:=hf b hb;rcases f3 with z'|z'
  ·exact I.ok.noex b o e z'
  ·exact absurd (a_ (Heap.lt_size e) (aP I.ok.bsz z')) (eT _)
 exfs:=λb hb hs=>by
  obtain⟨_,f1,f2,_⟩:=hf b hb;rcases aH.mp (I.stkSub b hs) with z|z
  ·exact f1 z
  ·exact f2 z
 funs:=I.stack
 frf:=I.stkFree
theorem Ml {fv:List (Nat×Str)}{σ:St}{o o2 o3:Option V}{j:Nat}{y:Str}{v:V}(h1:(x :: z :: z3 :: fv.map (·.2))[j+3]?=some y)(h2:(cX fv σ o o2 o3)[j+3]?=some (some v)):∃p∈fv,p.2=y∧σ[p.1]?=some (some v):=by
 have e1:(fv.map (·.2))[j]?=some y:=by simpa using h1
 have e2:(fv.map λp=>(σ[p.1]?).getD none)[j]?=some (some v):=by simpa [cX] using h2
 rw[aQ]at e1 e2
 cases q:fv[j]? with
 | none=>rw[q]at e1;cases e1
 | some p=>
  rw[q]at e1 e2;refine⟨p,ci q,Option.some.inj e1,?_⟩;have e3:(σ[p.1]?).getD none=some v:=Option.some.inj e2
  cases r:σ[p.1]? with
  | none=>rw[r]at e3;cases e3
  | some w=>rw[r]at e3;exact congrArg some e3
theorem Mm {Xj:List (Addr×Obj)}{σ:St}{H:Hp}{s s4:Shared}{fp:List Addr}{C:Addr}{m:Str->Option Value}(B:BlkOk3 X x z z3 fv scope cl) (I:Inv X Xj σ H s) (hf:∀b∈fp,a8 X Xj H b) (hC:C=s.heap.objs.size)
  (hfC:∀b∈fp,b≠C) (os:s4.os=s.os) (gens:s4.gens=s.gens) (keep:∀b o,s.heap.get? b=some o->s4.heap.get? b=some o) (ns:s4.heap.Ns C m):
  Inv (dh X x z z3 fv scope cl C s H fp) [] (cX fv σ none none none) H s4:=by
 subst hC;refine⟨Mj B I hf (aw _) hfC,os,by rw[gens];exact I.bare,Un.kept keep,⟨m,ns,λi y v h1 h2 h3=>?_⟩,λy c e=>?_,I.hok.fresh (aw _),λy c e=>I.freeC y c (B.sub y c e),λp hp=>absurd (show p∈([]:List (Addr×Obj)) from hp) (by simp),I.hok.kept keep,by simp[cX]⟩
 ·cases i with
  | zero=>simp[cX]at h2
  | succ j=>
   cases j with
   | zero=>simp[cX]at h2
   | succ j=>
   cases j with
   | zero=>simp[cX]at h2
   | succ j=>
   obtain⟨p,hp,rfl,hv⟩:=Ml h1 h2;obtain⟨hN,hk,hk2,c,hc⟩:=B.fvs p hp;obtain⟨m0,_,hl⟩:=I.loc;have vis:Vis X.env.scope p.2:=hk.elim (λz=>.inr (.inl z)) λz=>.inr (.inr z);obtain⟨u,r,l⟩:=hl p.1 p.2 v hN hv vis;refine⟨u,r,.inr ⟨hk2,c,hc,?_⟩⟩;rcases l with ⟨z,_⟩|⟨_,c',hc',o,ho,hd⟩
   ·have z':X.env.scope.names.lookup p.2=some .local:=z;rcases hk with k|k <;> (rw[k]at z';cases z')
   ·have:=B.sub p.2 c hc;rw[hc']at this;cases this;exact⟨o,keep _ o ho,hd⟩
 ·obtain⟨v,o,ho,hd⟩:=I.cell y c (B.sub y c e);exact⟨v,o,keep c o ho,hd⟩
theorem Mn {s:Shared}{H0:Hp}{fp:List Addr}{C:Addr}(hc:X.calm=true)(B:BlkOk3 X x z z3 fv scope cl):
  PG (dh X x z z3 fv scope cl C s H0 fp) (.Tuple [.Name x px,.Name z pz,.Name z3 p3] tk tpos) (pk X.K 3 (fU (cQ 0) (fU (cQ 1) (fU (cQ 2) pj)))):=by
 have h1:(relabel scope X.env).names.lookup x=some .local:=lookup_relabel_local B.here;have h2:(relabel scope X.env).names.lookup z=some .local:=lookup_relabel_local B.here2;have h3:(relabel scope X.env).names.lookup z3=some .local:=lookup_relabel_local B.here3;exact fj (X:=dh X x z z3 fv scope cl C s H0 fp) hc (cy (aS (i:=0) B.nd rfl (.inl h1) (.inr h1)) (cy (aS (i:=1) B.nd rfl (.inl h2) (.inr h2)) (cy (aS (i:=2) B.nd rfl (.inl h3) (.inr h3)) fh)))
theorem Mo {Xj:List (Addr×Obj)}{σ:St}{H:Hp}{s2:Shared}{it:Addr}{fp:List Addr}{tn:Nat->Heap->Prop}{J:It}{Q:VK}{E:Value->Shared->Prop}{RR:Value->Addr->Result->Shared->Prop}
  (hc:X.calm=true) (B:BlkOk3 X x z z3 fv scope cl) (he:∀C s H fp,PE (dh X x z z3 fv scope cl C s H fp) elt te) (I:Inv X Xj σ H s2) (T:Turn X.prog X.w X.K (.Tuple [.Name x px,.Name z pz,.Name z3 p3] tk tpos) J fp it tn) (st:tn 0 s2.heap) (hf:∀b∈fp,a8 X Xj H b)
  (rd:∀D,H D=none->∃W:Nat->Nat->Hp->Prop,(∃m,W 0 m (upd H D (.lst [])))∧∀i m H,W i m H->
   (J.stop i H∧Q (.ref D) H)∨(J.go i H∧∃N:Hp->Prop,(∀H',N H'->∃m',m'<m∧W (i+1) m' H')∧∀v H',J.yld i H v H'->∃q x1 x2 x3,v=.ref q∧SqT X.K H' q [x1,x2,x3]∧te (cX fv σ (some x1) (some x2) (some x3)) H' λy H2=>∃ys,H2 D=some (.lst ys)∧ys.length<sizeLine∧N (upd H2 D (.lst (ys++[y])))))
  (hRR:∀D C s' H' m',Inv X Xj σ H' s'->a8 X Xj H' C->s'.heap.Ns C m'->Q (.ref D) H'->RR (.ref D) C (.ok .next) s'):
  wpAny (model X.prog X.w) X.A (newList []) (λacc s₃=>wpAny (model X.prog X.w) X.A (newFunctionEnv scope X.env.globals cl [] X.env.qual none .none (some X.env)) (λcenv s₄=>
   codeAny (model X.prog X.w) X.A (.compStart (.ListComp elt [⟨(.Tuple [.Name x px,.Name z pz,.Name z3 p3] tk tpos),iter,[],0⟩] scope pos) 0 (.ref it) acc { cenv with scope:=relabel scope X.env }) (RR acc cenv.locals) s₄) E s₃) E s2:=by
 refine wpAny_newObj_type ?_ (by show 0<=sizeLine;exact aY _);have hD:H s2.heap.objs.size=none:=I.hok.fresh (aw _);have I3:=I.lnew (ys:=[]) (its:=[]) (t':=s2.toks) .nil (aY _);generalize hs3:({ s2 with heap:=s2.heap.push { cls:=.type "list",data:=.seq ([]:List Value).toArray },toks:=s2.toks }:Shared)=s3 at I3;have sz3:s3.heap.objs.size=s2.heap.objs.size+1:=by rw[←hs3];exact Heap.size_push ..
 have up3:∀b o,s2.heap.get? b=some o->s3.heap.get? b=some o:=λb o e=>by rw[←hs3];exact Heap.get?_push_of_some _ e
 have hf3:∀b∈fp,a8 X Xj (upd H s2.heap.objs.size (.lst [])) b:=λb hb=>by
  obtain⟨f0,r⟩:=hf b hb;refine⟨?_,r⟩;obtain⟨o,e,_⟩:=T.obj 0 _ st b hb;rw[aq (aO (Heap.lt_size e))];exact f0
 have ltf:∀b∈fp,b<s2.heap.objs.size:=λb hb=>by
  obtain⟨o,e,_⟩:=T.obj 0 _ st b hb;exact Heap.lt_size e
 have st3:tn 0 s3.heap:=T.keep 0 _ _ st λb _ o e=>up3 b o e;obtain⟨W,⟨m0,w0⟩,turn⟩:=rd _ hD;refine wpAny_newFunctionEnv B.nocell (by intro y hy;simp at hy) (λh₁ hns₁ hsb₁=>?_) B.kind;have hfC:∀b∈fp,b≠s3.heap.objs.size:=λb hb=>aO (by rw[sz3];exact gh (ltf b hb));have up4:∀b o,s3.heap.get? b=some o->h₁.get? b=some o:=λb o e=>hsb₁.extBut b o (aO (Heap.lt_size e)) (Heap.get?_push_of_some _ e);generalize hs4:({ s3 with heap:=h₁,toks:=s3.toks+([]:List (Str×Value)).length }:Shared)=s4;have h4:s4.heap=h₁:=by rw[←hs4]
 have I4:Inv (dh X x z z3 fv scope cl s3.heap.objs.size s3 (upd H s2.heap.objs.size (.lst [])) fp) [] (cX fv σ none none none) (upd H s2.heap.objs.size (.lst [])) s4:=
  Mm B I3 hf3 rfl hfC (by rw[←hs4]) (by rw[←hs4]) (λb o e=>by rw[h4];exact up4 b o e) (by rw[h4];exact hns₁)
 have st4:tn 0 s4.heap:=by rw[h4];exact T.keep 0 _ _ st3 λb _ o e=>up4 b o e
 have stat:∀{H':Hp},(∀b∈fp,H' b=none)->∀b∈fp,a8 (dh X x z z3 fv scope cl s3.heap.objs.size s3 (upd H s2.heap.objs.size (.lst [])) fp) [] H' b:=λ{H'} hn b hb=>by
  obtain⟨_,f1,f2,f3,f4,f5⟩:=hf b hb;refine⟨hn b hb,hfC b hb,λz'=>?_,.inl hb,λy c e=>f4 y c (B.sub y c e),λp hp=>absurd (show p∈([]:List (Addr×Obj)) from hp) (by simp)⟩;rcases aH.mp (I.stkSub b z') with q|q
  ·exact f1 q
  ·exact f2 q
 have loop:codeAny (model X.prog X.w) X.A (.compLoop (.ListComp elt [⟨(.Tuple [.Name x px,.Name z pz,.Name z3 p3] tk tpos),iter,[],0⟩] scope pos) 0 (.ref it) (.ref s2.heap.objs.size) (compEnvC scope cl s3.heap.objs.size X.env)) (RR (.ref s2.heap.objs.size) s3.heap.objs.size) s4:=by
  refine pG (λn s'=>∃i H' o o2 o3,Inv (dh X x z z3 fv scope cl s3.heap.objs.size s3 (upd H s2.heap.objs.size (.lst [])) fp) [] (cX fv σ o o2 o3) H' s'∧tn i s'.heap∧(∀b∈fp,H' b=none)∧W i n H') ?_ m0
   ⟨0,_,none,none,none,I4,st4,λb hb=>(hf3 b hb).1,w0⟩
  rintro n s5 E' ⟨i,H5,o5,o6,o7,I5,st5,fr5,w5⟩
  rcases turn i n H5 w5 with ⟨stop,q⟩|⟨go,N,hN,step⟩
  ·refine thn (T.done (dh X x z z3 fv scope cl s3.heap.objs.size s3 (upd H s2.heap.objs.size (.lst [])) fp) rfl rfl rfl hc i [] s5 _ H5 _ I5 (stat fr5) st5 stop) λr s6 ⟨hr,I6⟩=>?_;subst hr;obtain⟨m6,hn6,_⟩:=I6.loc;have un:Un (frs X.stack) fp H H5 s2.heap s6.heap:=by
    have u1:Un (frs X.stack) fp H (upd H s2.heap.objs.size (.lst [])) s2.heap s3.heap:=Un.laid up3 (aw _) hD;exact u1.trans I6.base
   have J6:Inv X Xj σ H5 s6:=by
    refine I.call' ?_ un I6.hok I6.bare λb hb=>?_
    ·have:=I6.os;rw[show (dh X x z z3 fv scope cl s3.heap.objs.size s3 (upd H s2.heap.objs.size (.lst [])) fp).s₀.os=s2.os by rw[←hs3]]at this;exact this
    ·obtain⟨_,f1,f2,f3,f4,f5⟩:=hf b hb;exact⟨f3,f1,f4,f5⟩
   refine hRR _ _ s6 H5 m6 J6 ?_ hn6 q;exact I3.fpOk (aw _) I6.free
  ·refine thn (T.item (dh X x z z3 fv scope cl s3.heap.objs.size s3 (upd H s2.heap.objs.size (.lst [])) fp) rfl rfl rfl hc i [] s5 _ H5 _ I5 (stat fr5) st5 go) λr s6 ⟨u,hr,h6⟩=>?_;subst hr;refine thn h6 λ_ s7 ⟨v,H7,I7,r7,y7,st7,fr7⟩=>?_;have I7':=I7.pinned (stat fr7) (T.obj _ _ st7);obtain⟨q7,x1,x2,x3,ev,sq7,rd7⟩:=step v H7 y7;refine wpAny_mono (Mn (px:=px) (pz:=pz) (p3:=p3) (tk:=tk) (tpos:=tpos) hc B _ s7 _ H7 v u (λσ' H'=>σ'=cX fv σ (some x1) (some x2) (some x3)∧H'=H7) I7' r7 ⟨q7,[x1,x2,x3],ev,sq7,rfl,x1,[x2,x3],rfl,x2,[x3],rfl,x3,[],rfl,rfl,rfl,rfl⟩) (λ_ s8 ⟨σ8,H8,I8,e8a,e8b⟩=>?_) λ_ _ z=>False.elim z;subst e8a e8b;have e8:=he _ _ _ _ _ s8 _ _ _ I8 rd7;refine wpAny_mono e8 (λy s9 ⟨yv,H9,I9,r9,ys,hD9,hz,n9⟩=>?_) λ_ _ z=>False.elim z;have a9:=el (X:=dh X x z z3 fv scope cl s3.heap.objs.size s3 (upd H s2.heap.objs.size (.lst [])) fp) _ s9 _ H9 (.ref s2.heap.objs.size) [yv] (.ref s2.heap.objs.size) [y] (λ_ H10=>H10=upd H9 s2.heap.objs.size (.lst (ys++[yv]))) I9 rfl (.cons r9 .nil)
    ⟨_,ys,yv,rfl,rfl,hD9,hz,rfl⟩
   refine wpAny_mono a9 (λ_ s10 ⟨_,H10,I10,_,e10⟩=>?_) λ_ _ z=>False.elim z;subst e10;obtain⟨m',hm,w9⟩:=hN _ n9;refine⟨m',hm,i+1,_,some x1,some x2,some x3,I10.unpinned,T.keep _ _ _ st7 λb hb o e=>(I10.pin (b,o) (bE _ (bE _ (cS hb e)))).1,λb hb=>?_,w9⟩;obtain⟨o,e,_⟩:=T.obj _ _ st7 b hb;exact (I10.pin (b,o) (bE _ (bE _ (cS hb e)))).2.1
 exact codeAny_compStart_list loop (T.self _ 0 _ _ _ st4 loop)
def zz (K:W.Frag)(J:It)(fv:List (Nat×Str))(te:TE)(Q:VK)(σ:St)(H1:Hp)(D:Addr):Prop:=∃W:Nat->Nat->Hp->Prop,(∃m,W 0 m (upd H1 D (.lst [])))∧∀i m H,W i m H->
 (J.stop i H∧Q (.ref D) H)∨(J.go i H∧∃N:Hp->Prop,(∀H',N H'->∃m',m'<m∧W (i+1) m' H')∧∀v H',J.yld i H v H'->∃q x1 x2 x3,v=.ref q∧SqT K H' q [x1,x2,x3]∧te (cX fv σ (some x1) (some x2) (some x3)) H' λy H2=>∃ys,H2 D=some (.lst ys)∧ys.length<sizeLine∧N (upd H2 D (.lst (ys++[y]))))
def Fb (K:W.Frag)(fv:List (Nat×Str))(wi:TI)(te:TE):TE:=λσ H Q=>wi σ H λJ H1=>∀D,H1 D=none->zz K J fv te Q σ H1 D
theorem r_ {K:W.Frag}{σ:St}{H:Hp}{Q:VK}:Fb K fv wi te σ H Q=wi σ H λJ H1=>∀D,H1 D=none->zz K J fv te Q σ H1 D:=rfl
theorem Mp (hc:X.calm=true) (B:BlkOk3 X x z z3 fv scope cl) (hi:PI X (.Tuple [.Name x px,.Name z pz,.Name z3 p3] tk tpos) iter wi) (he:∀C s H fp,PE (dh X x z z3 fv scope cl C s H fp) elt te)
  (hs:∀v,foldedSetIterable iter X.env v=pure v:=by intro _;rfl):PE X (.ListComp elt [⟨.Tuple [.Name x px,.Name z pz,.Name z3 p3] tk tpos,iter,[],0⟩] scope pos) (Fb X.K fv wi te):=by
 intro Xj s σ H Q I h;rw[eval_ListComp];refine wpAny_comprehension_free (use:=none) rfl hs B.clos B.kind B.names (thn (hi Xj s σ H _ I h) λv s1 h1=>thn h1 λitv s2 h2=>?_);obtain⟨it,fp,tn,J,H2,e,I2,T,st2,f2,rd⟩:=h2;subst e;refine Mo (RR:=λacc C=>compPost (model X.prog X.w) X.A X.xe none (EP X Xj σ Q) acc C) hc B he I2 T st2 f2 rd ?_;intro D C s' H' m' I' fC hn q;exact⟨m',hn,λh' sb=>⟨.ref D,H',I'.turned (t':=s'.toks) (λb o hb e=>(sb.2 b hb).trans e) fC.1 fC.2.1 fC.2.2.2.1 fC.2.2.2.2.1 fC.2.2.2.2.2,rfl,q⟩⟩
theorem Mq {X:Cx}{x z z3:Str}{fv:List (Nat×Str)}{scope:Scope}{cl:List (Str×Addr)}(clos:closureFor scope X.env=pure cl) (sub:∀y c,cl.lookup y=some c->X.env.cells.lookup y=some c) (fvs:je X scope cl fv)
  (nd:(x :: z :: z3 :: fv.map (·.2)).Nodup:=by decide) (kind:scope.kind=.function:=by rfl) (here:scope.names.lookup x=some .local:=by rfl) (here2:scope.names.lookup z=some .local:=by rfl) (here3:scope.names.lookup z3=some .local:=by rfl) (nocell:∀y∈scope.names,y.2≠.cell:=by decide +kernel)
  (names:∀y∈scope.names,y.2=.local->scope.names.lookup y.1=some .local:=by decide +kernel)
  (has:((relabel scope X.env).names.all λp=>(p.2 != .cell && p.2 != .free) || (cl.lookup p.1).isSome)=true:=by rfl):BlkOk3 X x z z3 fv scope cl:=
 ⟨clos,nocell,kind,names,here,here2,here3,nd,sub,pI has,fvs⟩
end
def se (K:W.Frag)(a b c:Addr):It:=
 ⟨λi H=>∃xs ys zs x y v,SqT K H a xs∧SqT K H b ys∧SqT K H c zs∧xs[i]?=some x∧ys[i]?=some y∧zs[i]?=some v,
  λi H v H'=>∃p x y u,H p=none∧v=.ref p∧H'=upd H p (.tup [x,y,u])∧(∀xs,SqT K H a xs->xs[i]?=some x)∧(∀ys,SqT K H b ys->ys[i]?=some y)∧∀zs,SqT K H c zs->zs[i]?=some u,
  λi H=>∃xs,SqT K H a xs∧xs.length<=i⟩
theorem Ms {P:Program}{w:World}{K:W.Frag}{elts:List Expr}{tk:Nat}{tpos:Pos}(a b c z TI TO i1 i2 i3:Addr)(D:Zip3 z TI TO i1 i2 i3 a b c):
  Turn P w K (.Tuple elts tk tpos) (se K a b c) [z,TI,TO,i1,i2,i3] z (λi h=>IsZip h z TI TO .none∧ca h TI (.ref i1) (.ref i2) (.ref i3)∧(∃u v q,ca h TO u v q)∧h.IsTupleIter i1 a i∧h.IsTupleIter i2 b i∧h.IsTupleIter i3 c i) where
 mem:=by simp
 obj:=λi h st c hb=>by
  obtain⟨hz,hTI,⟨u,v,q,hTO⟩,⟨o1,e1,c1,d1⟩,⟨o2,e2,c2,d2⟩,⟨o3,e3,c3,d3⟩⟩:=st;simp only[aH,ck,or_false]at hb;rcases hb with rfl|rfl|rfl|rfl|rfl|rfl
  ·exact⟨_,hz,λv z=>by
    have z':Data.fields _=Data.cell v:=z
    cases z'⟩
  ·exact⟨_,hTI,λv z=>by
    have z':Data.seq _=Data.cell v:=z
    cases z'⟩
  ·exact⟨_,hTO,λv z=>by
    have z':Data.seq _=Data.cell v:=z
    cases z'⟩
  ·exact⟨o1,e1,λv z=>by rw[d1]at z;cases z⟩
  ·exact⟨o2,e2,λv z=>by rw[d2]at z;cases z⟩
  ·exact⟨o3,e3,λv z=>by rw[d3]at z;cases z⟩
 keep:=λi h h' st k=>by
  obtain⟨hz,hTI,⟨u,v,q,hTO⟩,h1,h2,h3⟩:=st;exact⟨k z (by simp) _ hz,k TI (by simp) _ hTI,⟨u,v,q,k TO (by simp) _ hTO⟩,h1.at λo q=>k i1 (by simp) o q,h2.at λo q=>k i2 (by simp) o q,h3.at λo q=>k i3 (by simp) o q⟩
 item:=by
  intro X hP hw hK hc i Xj s σ H E I hf st hg;subst hP hw hK;obtain⟨xs,ys,zs,x,y,v,hq1,hq2,hq3,hx,hy,hv⟩:=hg;obtain⟨its1,rv1,pl1,hz1⟩:=I.tuple hq1;obtain⟨its2,rv2,pl2,hz2⟩:=I.tuple hq2;obtain⟨its3,rv3,pl3,hz3⟩:=I.tuple hq3;obtain⟨u1,hu1,ru1⟩:=rv1.get hx;obtain⟨u2,hu2,ru2⟩:=rv2.get hy;obtain⟨u3,hu3,ru3⟩:=rv3.get hv;obtain⟨hz,hTI,⟨_,_,_,hTO⟩,hit1,hit2,hit3⟩:=st;refine Mb D hz hTI hTO hit1 hit2 hit3 pl1 pl2 pl3 (x:=u1) (y:=u2) (v:=u3) (by simpa using hu1) (by simpa using hu2) (by simpa using hu3) λh1 ho hTO1 hi1 hi2 hi3 hT hk'=>?_;have hk:∀c o,c≠z->c≠TO->c≠i1->c≠i2->c≠i3->s.heap.get? c=some o->h1.get? c=some o:=λc o n1 n2 n3 n4 n5 e=>hk' c o (by simp[n1,n2,n3,n4,n5]) e;refine⟨_,rfl,wpAny_letOwnedTupleGo_zip ho λh2 he2 hs2=>?_⟩;have hp:H s.heap.objs.size=none:=I.hok.fresh (aw _);have hpz:s.heap.objs.size≠z:=gg (Heap.lt_size hz);have k2:∀c o,c∉[z,TI,TO,i1,i2,i3]->s.heap.get? c=some o->h2.get? c=some o:=λc o hb q=>
   (hs2.2 c λe=>hb (by simp[e])).trans (hk c o (λe=>hb (by simp[e])) (λe=>hb (by simp[e])) (λe=>hb (by simp[e])) (λe=>hb (by simp[e])) (λe=>hb (by simp[e])) q)
  have hT2:h2.get? s.heap.objs.size=some { cls:=.type "tuple",data:=.seq #[u1,u2,u3] }:=(hs2.2 _ hpz).trans hT;have nch:∀c u,H c=some u->c∉[z,TI,TO,i1,i2,i3]:=λc u q hb=>by
   rw[(hf c hb).1]at q;cases q
  have up:∀c,c<s.heap.objs.size->c≠s.heap.objs.size:=λc hb=>aO hb;have I2:Inv X Xj σ (upd H s.heap.objs.size (.tup [x,y,v])) { s with heap:=h2 }:=by
   refine I.step (g':=s.gens) (d':=s.drawn) (t':=s.toks) (ch:=[z,TI,TO,i1,i2,i3]) (λc hb=>?_) (λc o _ _ hc q _=>k2 c o hc q) (λc o _ _ hc q _=>⟨o.slots,k2 c o hc q⟩)
    (λc o _ q n=>by rw[aq (up c (Heap.lt_size q))];exact n) (λc o hc q=>⟨o,k2 c o hc q⟩) (λc ys q=>by rw[aq (aV q hp)];exact q) (λc o v q=>by rw[aq (aV q hp)];exact q)
    (λc ps q=>⟨#[],by rw[aq (aV q hp),q];simp⟩) (λm hm=>?_) (λc v q=>?_) I.bare
   ·obtain⟨f0,f1,f2,f3,f4,f5⟩:=hf c hb;exact⟨f3,f1,f4,f5⟩
   ·obtain⟨o,es,ep,q,r⟩:=hm;refine⟨o,es,ep,k2 _ o (λe=>?_) q,r⟩;exact (hf _ e).2.1 rfl
   ·by_cases hb:c=s.heap.objs.size
    ·subst hb;rw[af]at q;cases q;exact⟨by show 3<=sizeLine;decide,[u1,u2,u3],.cons ru1 (.cons ru2 (.cons ru3 .nil)),⟨_,hT2,rfl,_,rfl⟩⟩
    ·rw[aq hb]at q;refine (I.hok c v q).stay (λc' o hc r=>k2 c' o ?_ r) (λc' r=>by rw[aq (aV r hp)];exact r) λc' ys r=>by rw[aq (aV r hp)];exact r
     rcases hc with e|e
     ·rw[e];exact nch c v q
     ·exact nch c' _ e
  refine⟨.ref s.heap.objs.size,_,I2,rfl,⟨_,x,y,v,hp,rfl,rfl,λzs hz'=>by rw[I.tuple_inj hz' hq1];exact hx,λzs hz'=>by rw[I.tuple_inj hz' hq2];exact hy,λzs hz'=>by rw[I.tuple_inj hz' hq3];exact hv⟩,
   ⟨he2,(hs2.2 TI D.TIz).trans (hk TI _ D.TIz D.TITO D.TIi1 D.TIi2 D.TIi3 hTI),⟨_,_,_,(hs2.2 TO D.TOz).trans hTO1⟩,hi1.at λo q=>(hs2.2 i1 D.i1z).trans q,hi2.at λo q=>(hs2.2 i2 D.i2z).trans q,hi3.at λo q=>(hs2.2 i3 D.i3z).trans q⟩,λc hb=>?_⟩
  have lb:c<s.heap.objs.size:=by
   simp only[aH,ck,or_false]at hb;rcases hb with rfl|rfl|rfl|rfl|rfl|rfl
   ·exact Heap.lt_size hz
   ·exact Heap.lt_size hTI
   ·exact Heap.lt_size hTO
   ·obtain⟨_,q,_⟩:=hit1;exact Heap.lt_size q
   ·obtain⟨_,q,_⟩:=hit2;exact Heap.lt_size q
   ·obtain⟨_,q,_⟩:=hit3;exact Heap.lt_size q
  rw[aq (up c lb)];exact (hf c hb).1
 done:=by
  intro X hP hw hK hc i Xj s σ H E I hf st hg;subst hP hw hK;obtain⟨xs,hq1,hx⟩:=hg;obtain⟨its1,rv1,pl1,hz1⟩:=I.tuple hq1;obtain⟨hz,hTI,⟨_,_,_,hTO⟩,hit1,hit2,hit3⟩:=st;have hl1:=rv1.length;refine Mc (I.ok.hd hc) D hz hTI hit1 pl1 (by simp;omega) λh' eb'=>⟨rfl,?_⟩
  have k2:∀c o,c∉[z,TI,TO,i1,i2,i3]->s.heap.get? c=some o->h'.get? c=some o:=λc o hb q=>eb' c o (λe=>hb (by
   simp only[aH,ck,or_false]at e ⊢;rcases e with e|e|e|e|e <;> simp[e])) q
  refine I.step (g':=s.gens) (d':=s.drawn) (t':=s.toks) (ch:=[z,TI,TO,i1,i2,i3]) (λc hb=>?_) (λc o _ _ hc q _=>k2 c o hc q) (λc o _ _ hc q _=>⟨o.slots,k2 c o hc q⟩)
   (λc o _ q n=>n) (λc o hc q=>⟨o,k2 c o hc q⟩) (λc ys q=>q) (λc o v q=>q) (λc ps q=>⟨#[],by rw[q];simp⟩) (λm hm=>?_) (λc v q=>?_) I.bare
  ·obtain⟨f0,f1,f2,f3,f4,f5⟩:=hf c hb;exact⟨f3,f1,f4,f5⟩
  ·obtain⟨o,es,ep,q,r⟩:=hm;exact⟨o,es,ep,k2 _ o (λe=>(hf _ e).2.1 rfl) q,r⟩
  ·refine (I.hok c v q).stay (λc' o hc r=>k2 c' o ?_ r) (λc' r=>r) λc' ys r=>r;have nch:∀c u,H c=some u->c∉[z,TI,TO,i1,i2,i3]:=λc u q hb=>by
    rw[(hf c hb).1]at q;cases q
   rcases hc with e|e
   ·rw[e];exact nch c v q
   ·exact nch c' _ e
 self:=λ_ _ _ _ _ st h=>wpAny_pyIter_zip st.1 h
section
variable {X:Cx}
def Fc (K:W.Frag)(ta:TA):TI:=λσ H R=>ta σ H λvs H1=>∃a b c xs ys zs,vs=[.ref a,.ref b,.ref c]∧SqT K H1 a xs∧SqT K H1 b ys∧SqT K H1 c zs∧R (se K a b c) H1
theorem si {K:W.Frag}{ta:TA}{σ:St}{H:Hp}{R:It->Hp->Prop}:Fc K ta σ H R=ta σ H λvs H1=>∃a b c xs ys zs,vs=[.ref a,.ref b,.ref c]∧SqT K H1 a xs∧SqT K H1 b ys∧SqT K H1 c zs∧R (se K a b c) H1:=rfl
theorem Mt {elts:List Expr}{tk:Nat}{tpos:Pos}{a b c:Expr}{ta:TA}{p pos:Pos}(hg:Gl X "zip") (hm:X.mg "zip" = none) (ha:PA X [a,b,c] ta) (hs:starEach [a,b,c] X.env=(false,eval a X.env) :: starEach [b,c] X.env:=by rfl)
  (hs2:(backTo pos (starEach [b,c] X.env)).any (·.1)=false:=by rfl):
  PI X (.Tuple elts tk tpos) (.Call (.Name "zip" p) [a,b,c] [] pos) (Fc X.K ta):=by
 intro Xj s σ H R I h;refine Call_ (e_ I hg hm boot_zip (PyProof.Rows.callWith_type1 (thn (ha pos Xj s σ H _ I h) λus s1 ⟨vs,H1,I1,r1,q1⟩=>?_) hs hs2));obtain⟨a,b,c,xs,ys,zs,e,hq1,hq2,hq3,q⟩:=q1;subst e
 cases r1 with
 | cons r rr=>
  cases rr with
  | cons r' rr=>
  cases rr with
  | cons r'' rr=>
  cases rr
  cases r
  cases r'
  cases r''
  have fr:∀c,c∈[s1.heap.objs.size+5,s1.heap.objs.size+3,s1.heap.objs.size+4,s1.heap.objs.size,s1.heap.objs.size+1,s1.heap.objs.size+2]->s1.heap.objs.size<=c:=λc hb=>by
   simp only[aH,ck,or_false]at hb;rcases hb with rfl|rfl|rfl|rfl|rfl|rfl <;> omega
  obtain⟨its1,rv1,pl1,hz1⟩:=I1.tuple hq1;obtain⟨its2,rv2,pl2,hz2⟩:=I1.tuple hq2;obtain⟨its3,rv3,pl3,hz3⟩:=I1.tuple hq3;have a1:a<s1.heap.objs.size:=by obtain⟨_,e,_⟩:=pl1;exact Heap.lt_size e
  have a2:b<s1.heap.objs.size:=by obtain⟨_,e,_⟩:=pl2;exact Heap.lt_size e
  have a3:c<s1.heap.objs.size:=by obtain⟨_,e,_⟩:=pl3;exact Heap.lt_size e
  refine Mi pl1 pl2 pl3 λh1 hz hTI hTO hi1 hi2 hi3 hk=>wpAny_pyIter_zip hz ?_;exact⟨_,_,_,_,H1,rfl,I1.kept (t':=s1.toks) hk,Ms a b c _ _ _ _ _ _ (L9 a1 a2 a3),⟨hz,hTI,⟨_,_,_,hTO⟩,hi1,hi2,hi3⟩,λc hb=>I1.fpOk (fr c hb) (I1.hok.fresh (fr c hb)),q⟩
end
theorem Mu {bs:List Bool}{us:List Value}:Vals (bs.map V.bl) us->PyProof.Rows.LSm.BoolsAre us bs:=by
 induction bs generalizing us with
 | nil=>intro h;cases h;exact .nil
 | cons b bs ih=>intro h;cases h with|cons r rr=>cases r;exact .cons b (ih rr)
section
variable {X:Cx}
theorem Mv (hc:X.calm=true):cL X (.builtin "all") (λxs H Q=>∃(p:Addr) (bs:List Bool),xs=[.ref p]∧SqL X.K H p (bs.map V.bl)∧Q (.bl (bs.all id)) H):=by
 intro Xj s σ H xs us Q I r h;obtain⟨p,bs,rfl,hq,q⟩:=h;obtain⟨u,rfl,rx⟩:=d_ r
 cases rx
 obtain⟨its,r',pl,hz⟩:=I.list hq;have hb:=Mu r';have hl:=pl.isList;have hlt:p<s.heap.objs.size:=by obtain⟨_,e,_⟩:=hl;exact Heap.lt_size e
 refine call_all_walk (wpAny_pyIter_list hl ?_);refine⟨s.heap.objs.size,[s.heap.objs.size,p],[s.heap.objs.size],its.toArray.size,_,_,λi=>(bs[i]?).getD true,rfl,Walks.list (A:=X.A.in1) (I.ok.hd hc) _ p (aO hlt) its.toArray,
  ⟨⟨_,Heap.get?_push_size _ rfl,rfl,rfl⟩,hl.push _⟩,λi v s' Q' E' hP hQ=>?_,λh' tk hk=>?_⟩
 ·obtain⟨b,e,rfl⟩:=hb.get i v (by simpa using hP);simp only[e,dH]at hQ;exact wpAny_truthy_bool hQ
 ·have e:((aR its.toArray.size).all λi=>(bs[i]?).getD true)=bs.all id:=by
   rw[bW,hb.length];exact PyProof.Rows.LSm.range_all bs
  rw[e];exact⟨.bl _,H,I.kept (PyProof.Rows.LSm.kept_iter hk),rfl,q⟩
theorem Mw:cL X (.builtin "isinstance") (λxs H Q=>∃x C t b,xs=[x,.ref C]∧TyOf X.K H x t∧PySem.W.kitOne X.K t (.ref C)=some b∧Q (.bl b) H):=by
 intro Xj s σ H xs us Q I r h;obtain⟨x,C,t,b,rfl,ty,e,q⟩:=h
 cases r with
 | cons r1 rr=>
  cases rr with
  | cons r2 rr=>
   cases rr
   cases r2
   exact DQ I r1 ty e λtk=>⟨.bl b,H,I.tok _,rfl,q⟩
structure Mk0 (K:W.Frag)(C:Addr):Prop where
 makes:PySem.W.makesIn K C=true
 init:PySem.W.findIn K (.ref C) "__init__" = some (some (.builtin "object.__init__"))
 kp:PySem.W.keepIn K (.ref C)=true
def Fd (C:Addr):TE:=λ_ H Q=>∀x dx,H x=none->H dx=none->dx≠x->Q (.ref x) (upd (upd H dx (.own x)) x (.ins C dx []))
theorem sj {C:Addr}{σ:St}{H:Hp}{Q:VK}:Fd C σ H Q=∀x dx,H x=none->H dx=none->dx≠x->Q (.ref x) (upd (upd H dx (.own x)) x (.ins C dx [])):=rfl
theorem Mx {C:Addr}{x:Str}{p pos:Pos}(M:Mk0 X.K C) (hg:Gl X x) (hm:X.mg x=some (.ref C)) (hdb:(x == ("__debug__" : Str))=false:=by decide):PE X (.Call (.Name x p) [] [] pos) (Fd C):=by
 intro Xj s σ H Q I h;refine wpAny_Call_Name_kw (i8 I hg hm ?_ hdb);refine PySem.W.callWith_K0 I.kIn M.kp ?_;have hq:=h (s.heap.objs.size+1) s.heap.objs.size (I.hok.fresh (Ai _)) (I.hok.fresh (aw _)) (aO (gU _));have I2:=Inv.made (C:=C) I;refine wpAny_call (JQ I.kIn M.makes M.init (λself=>PySem.W.Looks.of_pure (PySem.W.oi_bind self)) ?_);have Y:=PySem.W.makes_of (M:=model X.prog X.w) I.kIn M.makes;have g1:((s.heap.push PySem.W.emptyDict).push (PySem.W.instObj C s.heap.objs.size)).get? (s.heap.objs.size+1)=some (PySem.W.instObj C s.heap.objs.size):=by
  have:=Heap.get?_push_size (s.heap.push PySem.W.emptyDict) (o:=PySem.W.instObj C s.heap.objs.size) rfl;rw[Heap.size_push]at this;exact this
 have t1:PySem.W.Looks (model X.prog X.w) ((s.heap.push PySem.W.emptyDict).push (PySem.W.instObj C s.heap.objs.size)) (typeOf (.ref (s.heap.objs.size+1))) (.ref C):=(PySem.W.Looks.ld g1).andThen .now;have t2:PySem.W.Looks (model X.prog X.w) ((s.heap.push PySem.W.emptyDict).push (PySem.W.instObj C s.heap.objs.size)) (isInstance (.ref (s.heap.objs.size+1)) (.type "object")) true:=t1.andThen (Y.top.keeps λb o e=>Heap.get?_push_of_some _ (Heap.get?_push_of_some _ e));refine codeAny_call_builtin PySem.W.oi_plain PySem.W.entry_oi (@PySem.W.check_slot (model X.prog X.w) _ _ _ "object.__init__" "object" "__init__" (.ref (s.heap.objs.size+1)) [] [] _ PySem.W.oi_kind PySem.W.oi_split t2 (PySem.W.oi_args (.ref (s.heap.objs.size+1))) ?_);rw[PySem.W.oi_run];exact wpAny_pure (And.intro rfl ⟨.ref (s.heap.objs.size+1),_,I2,rfl,hq⟩)
end
structure OCl (K:W.Frag)(C:Addr):Prop where
 cl:PySem.W.findIn K (.ref C) "__class__" = some (some (.builtin "object.__class__"))
 dg:PySem.W.specialIn K (.builtin "object.__class__") "__get__" = some (some (.builtin "getset_descriptor.__get__"))
 dt:PySem.W.takesIn K (.builtin "object.__class__")=some true
 ob:PySem.W.mroIn K C (.type "object")=some true
theorem OCl.ty {K:W.Frag}{H:Hp}{a C dx:Addr}{fs:List (Str×V)}(o:OCl K C)(c:Cls K C)(e:H a=some (.ins C dx fs)):TyOf K H (.ref a) (.ref C):=.ins e c o.cl o.dg o.dt o.ob
theorem sk {x y:Str}{H:Hp}{Q:VK}:rEq (.str x) (.str y) H Q=Q (.bl (decide (x=y))) H:=by
 unfold rEq;simp[yR]
theorem sq {x:V}{vs:List V}{H:Hp}{Q:VK}:En x vs H Q=∃l b xs zs,x=.ref l∧vs=[.ref b]∧H l=some (.lst xs)∧H b=some (.lst zs)∧xs.length+zs.length<=sizeLine∧Q .non (upd H l (.lst (xs++zs))):=rfl
@[reducible] def cY (X:Cx) (x:Str) (fv:List (Nat×Str)) (scope:Scope) (cl:List (Str×Addr)) (C:Addr) (s:Shared) (H:Hp) (fp:List Addr):Cx:=
 { blk X x fv scope cl C s H fp with env:={ compEnvC scope cl C X.env with cells:=(x,C+1) :: cl },fn:=λy=>y == x }
structure BlkOkC (X:Cx)(x:Str)(fv:List (Nat×Str))(scope:Scope)(cl:List (Str×Addr)):Prop where
 clos:closureFor scope X.env=pure cl
 one:∀n,cellsFrom n scope.names cl=(x,n) :: cl
 push:∀h,pushCells h scope.names=h.push { cls:=.type "cell",data:=.cell none }
 kind:scope.kind=.function
 names:∀y∈scope.names,y.2=.local->scope.names.lookup y.1=some .local
 here:(relabel scope X.env).names.lookup x=some .cell
 sub:∀y c,cl.lookup y=some c->X.env.cells.lookup y=some c
 has:∀y,y≠x->((relabel scope X.env).names.lookup y=some .cell∨(relabel scope X.env).names.lookup y=some .free)->∃c,cl.lookup y=some c
 nd:(x :: fv.map (·.2)).Nodup
 fvs:∀p∈fv,p.2≠x∧X.N[p.1]?=some p.2∧(X.env.scope.names.lookup p.2=some .cell∨X.env.scope.names.lookup p.2=some .free)∧
  ((relabel scope X.env).names.lookup p.2=some .cell∨(relabel scope X.env).names.lookup p.2=some .free)∧∃c,cl.lookup p.2=some c
theorem eK {x y:Str}{n c:Addr}{cl:List (Str×Addr)}(h:((x,n) :: cl).lookup y=some c):(y=x∧c=n)∨(y≠x∧cl.lookup y=some c):=by
 rw[Ak]at h
 cases e:y == x with
 | true=>rw[e]at h;cases h;exact .inl ⟨eq_of_beq e,rfl⟩
 | false=>rw[e]at h;exact .inr ⟨λz=>by rw[z]at e;simp at e,h⟩
theorem Fe {x y:Str}{n c:Addr}{cl:List (Str×Addr)}(ne:y≠x)(h:cl.lookup y=some c):((x,n) :: cl).lookup y=some c:=by
 rw[Ak,show (y == x)=false by simpa using ne];exact h
theorem Mz {x:Str}{n:Addr}{cl:List (Str×Addr)}:((x,n) :: cl).lookup x=some n:=by
 rw[Ak,show (x == x)=true by simp]
section
variable {X:Cx}{elt iter:Expr}{x:Str}{px:Pos}{fv:List (Nat×Str)}{scope:Scope}{cl:List (Str×Addr)}{pos:Pos}{te:TE}{wi:TI}
theorem MA {Xj:List (Addr×Obj)}{σ:St}{H:Hp}{s:Shared}{fp:List Addr}{C:Addr}(B:BlkOkC X x fv scope cl)(I:Inv X Xj σ H s)(hf:∀b∈fp,a8 X Xj H b)(hC:s.heap.objs.size<=C)(hfC:∀b∈fp,b≠C)(hfD:∀b∈fp,b≠C+1):
  (cY X x fv scope cl C s H fp).Ok where
 mod:=I.ok.mod
 kind:=B.kind
 glob:=I.ok.glob
 blt:=I.ok.blt
 above:=hC
 inj:=λy z c h1 h2=>by
  have old:∀{y:Str},cl.lookup y=some (C+1)->False:=λ{y} h=>by
   obtain⟨v,o,ho,_⟩:=I.cell y _ (B.sub y _ h);exact absurd (Heap.lt_size ho) (Nat.not_lt.mpr (Iu hC))
  rcases eK h1 with ⟨rfl,rfl⟩|⟨n1,h1⟩
  ·rcases eK h2 with ⟨rfl,_⟩|⟨n2,h2⟩
   ·rfl
   ·exact (old h2).elim
  ·rcases eK h2 with ⟨_,e⟩|⟨n2,h2⟩
   ·rw[e]at h1;exact (old h1).elim
   ·exact I.ok.inj y z c (B.sub y c h1) (B.sub z c h2)
 has:=λy hy=>by
  by_cases e:y=x
  ·exact⟨C+1,by rw[e];exact Mz⟩
  ·obtain⟨c,hc⟩:=B.has y e hy;exact⟨c,Fe e hc⟩
 cab:=λy c hy h=>by
  have e:y=x:=eq_of_beq hy;rcases eK h with ⟨_,rfl⟩|⟨n,_⟩
  ·exact Iu hC
  ·exact absurd e n
 hd:=I.ok.hd
 frames:=I.ok.frames
 stk:=.inl rfl
 exf:=λb hb=>⟨hfC b hb,λy c e=>by
  rcases eK e with ⟨_,rfl⟩|⟨_,e⟩
  ·exact Ne.symm (hfD b hb)
  ·exact (hf b hb).2.2.2.2.1 y c (B.sub y c e)⟩
 bs:=I.bs
 bsz:=aP I.ok.bsz I.sz
 noex:=λb o e hb=>by
  obtain⟨_,_,_,f3,_⟩:=hf b hb;rcases f3 with z|z
  ·exact I.ok.noex b o e z
  ·exact absurd (a_ (Heap.lt_size e) (aP I.ok.bsz z)) (eT _)
 exfs:=λb hb hs=>by
  obtain⟨_,f1,f2,_⟩:=hf b hb;rcases aH.mp (I.stkSub b hs) with z|z
  ·exact f1 z
  ·exact f2 z
 funs:=I.stack
 frf:=I.stkFree
theorem MB {Xj:List (Addr×Obj)}{σ:St}{H:Hp}{s s4:Shared}{fp:List Addr}{C:Addr}{m:Str->Option Value}(B:BlkOkC X x fv scope cl) (I:Inv X Xj σ H s) (hf:∀b∈fp,a8 X Xj H b) (hC:C=s.heap.objs.size)
  (hfC:∀b∈fp,b≠C) (hfD:∀b∈fp,b≠C+1) (os:s4.os=s.os) (gens:s4.gens=s.gens) (keep:∀b o,s.heap.get? b=some o->s4.heap.get? b=some o) (ns:s4.heap.Ns C m) (ce:s4.heap.IsCell (C+1) none):
  Inv (cY X x fv scope cl C s H fp) [] (bst fv σ none) H s4:=by
 subst hC;refine⟨MA B I hf (aw _) hfC hfD,os,by rw[gens];exact I.bare,Un.kept keep,⟨m,ns,λi y v h1 h2 h3=>?_⟩,λy c e=>?_,I.hok.fresh (aw _),λy c e=>?_,λp hp=>absurd (show p∈([]:List (Addr×Obj)) from hp) (by simp),I.hok.kept keep,by simp[bst]⟩
 ·cases i with
  | zero=>simp[bst]at h2
  | succ j=>
   obtain⟨p,hp,rfl,hv⟩:=y6 h1 h2;obtain⟨hne,hN,hk,hk2,c,hc⟩:=B.fvs p hp;obtain⟨m0,_,hl⟩:=I.loc;have vis:Vis X.env.scope p.2:=hk.elim (λz=>.inr (.inl z)) λz=>.inr (.inr z);obtain⟨u,r,l⟩:=hl p.1 p.2 v hN hv vis;refine⟨u,r,.inr ⟨hk2,c,Fe hne hc,?_⟩⟩;rcases l with ⟨z,_⟩|⟨_,c',hc',o,ho,hd⟩
   ·have z':X.env.scope.names.lookup p.2=some .local:=z;rcases hk with k|k <;> (rw[k]at z';cases z')
   ·have:=B.sub p.2 c hc;rw[hc']at this;cases this;exact⟨o,keep _ o ho,hd⟩
 ·rcases eK e with ⟨_,rfl⟩|⟨_,e⟩
  ·exact⟨none,ce⟩
  ·obtain⟨v,o,ho,hd⟩:=I.cell y c (B.sub y c e);exact⟨v,o,keep c o ho,hd⟩
 ·rcases eK e with ⟨_,rfl⟩|⟨_,e⟩
  ·exact I.hok.fresh (Ai _)
  ·exact I.freeC y c (B.sub y c e)
theorem MC {s:Shared}{g:Addr}{q:Str}{env:Env}{M:Model}{A:Around}{E:Value->Shared->Prop}{Q:Env->Shared->Prop}
  (one:∀n,cellsFrom n scope.names cl=(x,n) :: cl) (push:∀h,pushCells h scope.names=h.push { cls:=.type "cell",data:=.cell none })
  (h:Q { scope:=scope,locals:=s.heap.objs.size,globals:=g,cells:=(x,s.heap.objs.size+1) :: cl,qual:=q,func:=none,code:=env.code,frame:=env.frame,builtins:=env.builtins }
   { s with heap:=(s.heap.push { cls:=.type "dict",data:=.dict #[] }).push { cls:=.type "cell",data:=.cell none } }):
  wpAny M A (newFunctionEnv scope g cl [] q none .none (some env)) Q E s:=by
 simp only[newFunctionEnv,Option.isSome_some,if_true];refine wpAny_bind (wpAny_alloc ?_);refine wpAny_bind (wpAny_layCells _ (λname kind cells=>by cases hkc:kind == NameKind.cell <;> simp[hkc]) _ _ _ _ ?_);rw[show ({ s with heap:=s.heap.push { cls:=.type "dict",data:=.dict #[] } }:Shared).heap.objs.size=s.heap.objs.size+1 from Heap.size_push ..];dsimp only;rw[one,push];rw[sZ];exact wpAny_bind (wpAny_pure (wpAny_pure h))
theorem MD {pins':List (Addr×Obj)}{σ:St}{H H0:Hp}{s s5:Shared}{fp:List Addr}{C:Addr}{o:Option V}{v:V}{u:Value}{E:Value->Shared->Prop}{Q:Unit->Shared->Prop}(B:BlkOkC X x fv scope cl)
  (I:Inv (cY X x fv scope cl C s H0 fp) pins' (bst fv σ o) H s5) (r:RelV v u) (h:∀s6,Inv (cY X x fv scope cl C s H0 fp) pins' (bst fv σ (some v)) H s6->Q () s6):
  wpAny (model X.prog X.w) X.A (assign (.Name x px) { compEnvC scope cl C X.env with cells:=(x,C+1) :: cl } u) Q E s5:=
 wpAny_assign_Name (o_ (X:=cY X x fv scope cl C s H0 fp) (i:=0) I B.nd rfl (.inr B.here) r h (.inl (by show (x == x)=true;simp)))
end
section
variable {X:Cx}{elt iter:Expr}{x:Str}{px:Pos}{fv:List (Nat×Str)}{scope:Scope}{cl:List (Str×Addr)}{pos:Pos}{te:TE}{wi:TI}
theorem ME {Xj:List (Addr×Obj)}{σ:St}{H:Hp}{s2:Shared}{it:Addr}{fp:List Addr}{tn:Nat->Heap->Prop}{J:It}{Q:VK}{E:Value->Shared->Prop}{RR:Value->Addr->Result->Shared->Prop}
  (hc:X.calm=true) (B:BlkOkC X x fv scope cl) (he:∀C s H fp,PE (cY X x fv scope cl C s H fp) elt te) (I:Inv X Xj σ H s2) (T:Turn X.prog X.w X.K (.Name x px) J fp it tn) (st:tn 0 s2.heap) (hf:∀b∈fp,a8 X Xj H b)
  (rd:∀D,H D=none->∃W:Nat->Nat->Hp->Prop,(∃m,W 0 m (upd H D (.lst [])))∧∀i m H,W i m H->
   (J.stop i H∧Q (.ref D) H)∨(J.go i H∧∃N:Hp->Prop,(∀H',N H'->∃m',m'<m∧W (i+1) m' H')∧∀v H',J.yld i H v H'->te (bst fv σ (some v)) H' λy H2=>∃ys,H2 D=some (.lst ys)∧ys.length<sizeLine∧N (upd H2 D (.lst (ys++[y])))))
  (hRR:∀D C s' H' m',Inv X Xj σ H' s'->a8 X Xj H' C->s'.heap.Ns C m'->Q (.ref D) H'->RR (.ref D) C (.ok .next) s'):
  wpAny (model X.prog X.w) X.A (newList []) (λacc s₃=>wpAny (model X.prog X.w) X.A (newFunctionEnv scope X.env.globals cl [] X.env.qual none .none (some X.env)) (λcenv s₄=>
   codeAny (model X.prog X.w) X.A (.compStart (.ListComp elt [⟨.Name x px,iter,[],0⟩] scope pos) 0 (.ref it) acc { cenv with scope:=relabel scope X.env }) (RR acc cenv.locals) s₄) E s₃) E s2:=by
 refine wpAny_newObj_type ?_ (by show 0<=sizeLine;exact aY _);have hD:H s2.heap.objs.size=none:=I.hok.fresh (aw _);have I3:=I.lnew (ys:=[]) (its:=[]) (t':=s2.toks) .nil (aY _);generalize hs3:({ s2 with heap:=s2.heap.push { cls:=.type "list",data:=.seq ([]:List Value).toArray },toks:=s2.toks }:Shared)=s3 at I3;have sz3:s3.heap.objs.size=s2.heap.objs.size+1:=by rw[←hs3];exact Heap.size_push ..
 have up3:∀b o,s2.heap.get? b=some o->s3.heap.get? b=some o:=λb o e=>by rw[←hs3];exact Heap.get?_push_of_some _ e
 have hf3:∀b∈fp,a8 X Xj (upd H s2.heap.objs.size (.lst [])) b:=λb hb=>by
  obtain⟨f0,r⟩:=hf b hb;refine⟨?_,r⟩;obtain⟨o,e,_⟩:=T.obj 0 _ st b hb;rw[aq (aO (Heap.lt_size e))];exact f0
 have ltf:∀b∈fp,b<s2.heap.objs.size:=λb hb=>by
  obtain⟨o,e,_⟩:=T.obj 0 _ st b hb;exact Heap.lt_size e
 have st3:tn 0 s3.heap:=T.keep 0 _ _ st λb _ o e=>up3 b o e;obtain⟨W,⟨m0,w0⟩,turn⟩:=rd _ hD;refine MC B.one B.push ?_;have hfC:∀b∈fp,b≠s3.heap.objs.size:=λb hb=>aO (by rw[sz3];exact gh (ltf b hb));have hfD:∀b∈fp,b≠s3.heap.objs.size+1:=λb hb=>aO (by rw[sz3];exact gh (gh (ltf b hb)));generalize hh1:(s3.heap.push { cls:=.type "dict",data:=.dict #[] }).push { cls:=.type "cell",data:=.cell none }=h₁;have up4:∀b o,s3.heap.get? b=some o->h₁.get? b=some o:=λb o e=>by rw[←hh1];exact Heap.get?_push_of_some _ (Heap.get?_push_of_some _ e)
 have ns4:h₁.Ns s3.heap.objs.size (λ_=>none):=by
  rw[←hh1];exact (Heap.Ns.new s3.heap (.type "dict")).keeps λb o e=>Heap.get?_push_of_some _ e
 have ce4:h₁.IsCell (s3.heap.objs.size+1) none:=by
  rw[←hh1,show s3.heap.objs.size+1=(s3.heap.push { cls:=.type "dict",data:=.dict #[] }).objs.size from (Heap.size_push ..).symm];exact⟨{ cls:=.type "cell",data:=.cell none },Heap.get?_push_size _ rfl,rfl⟩
 generalize hs4:({ s3 with heap:=h₁ }:Shared)=s4;have h4:s4.heap=h₁:=by rw[←hs4]
 have I4:Inv (cY X x fv scope cl s3.heap.objs.size s3 (upd H s2.heap.objs.size (.lst [])) fp) [] (bst fv σ none) (upd H s2.heap.objs.size (.lst [])) s4:=
  MB B I3 hf3 rfl hfC hfD (by rw[←hs4]) (by rw[←hs4]) (λb o e=>by rw[h4];exact up4 b o e) (by rw[h4];exact ns4) (by rw[h4];exact ce4)
 have st4:tn 0 s4.heap:=by rw[h4];exact T.keep 0 _ _ st3 λb _ o e=>up4 b o e
 have stat:∀{H':Hp},(∀b∈fp,H' b=none)->∀b∈fp,a8 (cY X x fv scope cl s3.heap.objs.size s3 (upd H s2.heap.objs.size (.lst [])) fp) [] H' b:=λ{H'} hn b hb=>by
  obtain⟨_,f1,f2,f3,f4,f5⟩:=hf b hb;refine⟨hn b hb,hfC b hb,λz=>?_,.inl hb,λy c e=>?_,λp hp=>absurd (show p∈([]:List (Addr×Obj)) from hp) (by simp)⟩
  ·rcases aH.mp (I.stkSub b z) with q|q
   ·exact f1 q
   ·exact f2 q
  ·rcases eK e with ⟨_,rfl⟩|⟨_,e⟩
   ·exact Ne.symm (hfD b hb)
   ·exact f4 y c (B.sub y c e)
 have loop:codeAny (model X.prog X.w) X.A (.compLoop (.ListComp elt [⟨.Name x px,iter,[],0⟩] scope pos) 0 (.ref it) (.ref s2.heap.objs.size) { compEnvC scope cl s3.heap.objs.size X.env with cells:=(x,s3.heap.objs.size+1) :: cl }) (RR (.ref s2.heap.objs.size) s3.heap.objs.size) s4:=by
  refine pG (λn s'=>∃i H' o,Inv (cY X x fv scope cl s3.heap.objs.size s3 (upd H s2.heap.objs.size (.lst [])) fp) [] (bst fv σ o) H' s'∧tn i s'.heap∧(∀b∈fp,H' b=none)∧W i n H') ?_ m0
   ⟨0,_,none,I4,st4,λb hb=>(hf3 b hb).1,w0⟩
  rintro n s5 E' ⟨i,H5,o5,I5,st5,fr5,w5⟩
  rcases turn i n H5 w5 with ⟨stop,q⟩|⟨go,N,hN,step⟩
  ·refine thn (T.done (cY X x fv scope cl s3.heap.objs.size s3 (upd H s2.heap.objs.size (.lst [])) fp) rfl rfl rfl hc i [] s5 _ H5 _ I5 (stat fr5) st5 stop) λr s6 ⟨hr,I6⟩=>?_;subst hr;obtain⟨m6,hn6,_⟩:=I6.loc;have un:Un (frs X.stack) fp H H5 s2.heap s6.heap:=by
    have u1:Un (frs X.stack) fp H (upd H s2.heap.objs.size (.lst [])) s2.heap s3.heap:=Un.laid up3 (aw _) hD;exact u1.trans I6.base
   have J6:Inv X Xj σ H5 s6:=by
    refine I.call' ?_ un I6.hok I6.bare λb hb=>?_
    ·have:=I6.os;rw[show (cY X x fv scope cl s3.heap.objs.size s3 (upd H s2.heap.objs.size (.lst [])) fp).s₀.os=s2.os by rw[←hs3]]at this;exact this
    ·obtain⟨_,f1,f2,f3,f4,f5⟩:=hf b hb;exact⟨f3,f1,f4,f5⟩
   refine hRR _ _ s6 H5 m6 J6 ?_ hn6 q;exact I3.fpOk (aw _) I6.free
  ·refine thn (T.item (cY X x fv scope cl s3.heap.objs.size s3 (upd H s2.heap.objs.size (.lst [])) fp) rfl rfl rfl hc i [] s5 _ H5 _ I5 (stat fr5) st5 go) λr s6 ⟨u,hr,h6⟩=>?_;subst hr;refine thn h6 λ_ s7 ⟨v,H7,I7,r7,y7,st7,fr7⟩=>?_;have I7':=I7.pinned (stat fr7) (T.obj _ _ st7);refine MD B I7' r7 λs8 I8=>?_;have e8:=he _ _ _ _ _ s8 _ H7 _ I8 (step v H7 y7);refine wpAny_mono e8 (λy s9 ⟨yv,H9,I9,r9,ys,hD9,hz,n9⟩=>?_) λ_ _ z=>False.elim z;have a9:=el (X:=cY X x fv scope cl s3.heap.objs.size s3 (upd H s2.heap.objs.size (.lst [])) fp) _ s9 _ H9 (.ref s2.heap.objs.size) [yv] (.ref s2.heap.objs.size) [y] (λ_ H10=>H10=upd H9 s2.heap.objs.size (.lst (ys++[yv]))) I9 rfl (.cons r9 .nil)
    ⟨_,ys,yv,rfl,rfl,hD9,hz,rfl⟩
   refine wpAny_mono a9 (λ_ s10 ⟨_,H10,I10,_,e10⟩=>?_) λ_ _ z=>False.elim z;subst e10;obtain⟨m',hm,w9⟩:=hN _ n9;refine⟨m',hm,i+1,_,some v,I10.unpinned,T.keep _ _ _ st7 λb hb o e=>(I10.pin (b,o) (bE _ (bE _ (cS hb e)))).1,λb hb=>?_,w9⟩;obtain⟨o,e,_⟩:=T.obj _ _ st7 b hb;exact (I10.pin (b,o) (bE _ (bE _ (cS hb e)))).2.1
 exact codeAny_compStart_list loop (T.self _ 0 _ _ _ st4 loop)
theorem MF {i:Nat}{y:Str}{py spos:Pos}(hc:X.calm=true) (B:BlkOkC X x fv scope cl) (hi:PI X (.Name x px) iter wi) (he:∀C s H fp,PE (cY X x fv scope cl C s H fp) elt te)
  (hN:X.N.Nodup) (hiy:X.N[i]?=some y) (hy:X.env.scope.names.lookup y=some .local)
  (hsw:swapsWith (.ListComp elt [⟨.Name x px,iter,[],0⟩] scope pos) (some (.Name y py)) spos.line X.env=pure true:=by rfl)
  (hs:∀v,foldedSetIterable iter X.env v=pure v:=by intro _;rfl):
  PS X (.Assign [.Name y py] (.ListComp elt [⟨.Name x px,iter,[],0⟩] scope pos) spos) (gq (pH fv wi te) (cQ i)):=by
 intro Xj s σ H D I h;rw[exec_Assign_Name_used _ _ _ _ hsw];refine wpAny_bind (wpAny_standAt (wpAny_bind ?_));show wpAny _ X.A (do let _ ←comprehension (.ListComp elt [⟨.Name x px,iter,[],0⟩] scope pos) scope X.env _ (newList []) false (eval iter X.env) (some (assign (.Name y py) X.env))) _ _ s;refine wpAny_bind (wpAny_mono (wpAny_comprehension_free (use:=some (assign (.Name y py) X.env)) (Q:=λ_ s'=>SP X Xj D .next s') rfl hs B.clos B.kind B.names
  (thn (hi Xj s σ H _ I h) λv s1 h1=>thn h1 λitv s2 h2=>?_)) (λ_ s' hq=>wpAny_pure (wpAny_pure hq)) λ_ _ e=>e)
 obtain⟨it,fp,tn,J,H2,e,I2,T,st2,f2,rd⟩:=h2;subst e;refine ME (Q:=λx H1=>cQ i x σ H1 D.nx) (RR:=λacc C=>compPost (model X.prog X.w) X.A X.xe (some (assign (.Name y py) X.env)) (λ_ s'=>SP X Xj D .next s') acc C) hc B he I2 T st2 f2 rd ?_;intro Dl C s' H' m' I' fC hn q;show wpAny _ X.A (assign (.Name y py) X.env (.ref Dl)) _ _ _;refine wpAny_assign_Name (o9 I' hN hiy (.inl hy) (v:=.ref Dl) rfl (λs'' I'' hab=>?_) (.inr hy));obtain⟨a,sb,ha⟩:=hab;have hCa:C≠a:=by
  rcases ha with rfl|e
  ·exact fC.2.1
  ·exact Ne.symm (fC.2.2.2.2.1 _ _ e)
 exact⟨m',hn.sameBut sb hCa,λh' sb'=>⟨_,H',I''.turned (t':=s''.toks) (λb o hb e=>(sb'.2 b hb).trans e) fC.1 fC.2.1 fC.2.2.2.1 fC.2.2.2.2.1 fC.2.2.2.2.2,q⟩⟩
theorem MG (clos:closureFor scope X.env=pure cl) (sub:∀y c,cl.lookup y=some c->X.env.cells.lookup y=some c) (fvs:i_ X x scope cl fv)
  (one:∀n,cellsFrom n scope.names cl=(x,n) :: cl:=by intro _;rfl) (push:∀h,pushCells h scope.names=h.push { cls:=.type "cell",data:=.cell none }:=by intro _;rfl)
  (kind:scope.kind=.function:=by rfl) (here:(relabel scope X.env).names.lookup x=some .cell:=by rfl) (nd:(x :: fv.map (·.2)).Nodup:=by decide +kernel)
  (names:∀y∈scope.names,y.2=.local->scope.names.lookup y.1=some .local:=by decide +kernel)
  (has:((relabel scope X.env).names.all λp=>(p.2 != .cell && p.2 != .free) || (((x,0) :: cl).lookup p.1).isSome)=true:=by rfl):BlkOkC X x fv scope cl:=
 ⟨clos,one,push,kind,names,here,sub,λy ne hy=>by
  obtain⟨c,h⟩:=pI has y hy;rcases eK h with ⟨e,_⟩|⟨_,h⟩
  ·exact absurd e ne
  ·exact⟨c,h⟩,nd,fvs⟩
end
theorem MH {X:Cx}{K:W.Frag}{e:Expr}{ta:TE}{f:Str}{pos:Pos}(hK:X.K=K)(he:PE X e ta)(hb:attributeBase e f X.env (eval e X.env)=eval e X.env):PE X (.Attribute e f pos) (yU K ta f):=by subst hK;exact bS he hb
open PySem
theorem Ff {X:Cx}{elt iter:Expr}{x z:Str}{px pz tpos pos:Pos}{tk:Nat}{fv:List (Nat×Str)}{scope:Scope}{cl:List (Str×Addr)}{te:TE}{wi:TI}{i:Nat}{y:Str}{py spos:Pos}(hc:X.calm=true) (B:BlkOk2 X x z fv scope cl) (hi:PI X (.Tuple [.Name x px,.Name z pz] tk tpos) iter wi) (he:∀C s H fp,PE (bV X x z fv scope cl C s H fp) elt te)
  (hN:X.N.Nodup) (hiy:X.N[i]?=some y) (hy:X.env.scope.names.lookup y=some .local)
  (hsw:swapsWith (.ListComp elt [⟨.Tuple [.Name x px,.Name z pz] tk tpos,iter,[],0⟩] scope pos) (some (.Name y py)) spos.line X.env=pure true:=by rfl)
  (hs:∀v,foldedSetIterable iter X.env v=pure v:=by intro _;rfl):
  PS X (.Assign [.Name y py] (.ListComp elt [⟨.Tuple [.Name x px,.Name z pz] tk tpos,iter,[],0⟩] scope pos) spos) (gq (ET X.K fv wi te) (cQ i)):=by
 intro Xj s σ H D I h;rw[exec_Assign_Name_used _ _ _ _ hsw];refine wpAny_bind (wpAny_standAt (wpAny_bind ?_));show wpAny _ X.A (do let _ ←comprehension (.ListComp elt [⟨.Tuple [.Name x px,.Name z pz] tk tpos,iter,[],0⟩] scope pos) scope X.env _ (newList []) false (eval iter X.env) (some (assign (.Name y py) X.env))) _ _ s;refine wpAny_bind (wpAny_mono (wpAny_comprehension_free (use:=some (assign (.Name y py) X.env)) (Q:=λ_ s'=>SP X Xj D .next s') rfl hs B.clos B.kind B.names
  (thn (hi Xj s σ H _ I h) λv s1 h1=>thn h1 λitv s2 h2=>?_)) (λ_ s' hq=>wpAny_pure (wpAny_pure hq)) λ_ _ e=>e)
 obtain⟨it,fp,tn,J,H2,e,I2,T,st2,f2,rd⟩:=h2;subst e;refine K1 (Q:=λx H1=>cQ i x σ H1 D.nx) (RR:=λacc C=>compPost (model X.prog X.w) X.A X.xe (some (assign (.Name y py) X.env)) (λ_ s'=>SP X Xj D .next s') acc C) hc B he I2 T st2 f2 rd ?_;intro Dl C s' H' m' I' fC hn q;show wpAny _ X.A (assign (.Name y py) X.env (.ref Dl)) _ _ _;refine wpAny_assign_Name (o9 I' hN hiy (.inl hy) (v:=.ref Dl) rfl (λs'' I'' hab=>?_) (.inr hy));obtain⟨a,sb,ha⟩:=hab;have hCa:C≠a:=by
  rcases ha with rfl|e
  ·exact fC.2.1
  ·exact Ne.symm (fC.2.2.2.2.1 _ _ e)
 exact⟨m',hn.sameBut sb hCa,λh' sb'=>⟨_,H',I''.turned (t':=s''.toks) (λb o hb e=>(sb'.2 b hb).trans e) fC.1 fC.2.1 fC.2.2.2.1 fC.2.2.2.2.1 fC.2.2.2.2.2,q⟩⟩
theorem MI {X:Cx}(hc:X.calm=true):cL X (.builtin "min") (λxs H Q=>∃(p:Addr) (a b:Int),xs=[.ref p]∧SqT X.K H p [.int a,.int b]∧Q (.int (if b<a then b else a)) H):=by
 intro Xj s σ H xs us Q I r h;obtain⟨p,a,b,rfl,hq,q⟩:=h;obtain⟨u,rfl,rx⟩:=d_ r
 cases rx
 obtain⟨its,r',it,_⟩:=I.tuple hq
 cases r' with
 | cons r1 r2=>
  cases r2 with
  | cons r2 r3=>
   cases r3
   obtain⟨t,rfl⟩:=r1;obtain⟨u,rfl⟩:=r2;have hi:intItems #[(a,t),(b,u)]=#[Value.int a t,Value.int b u]:=by simp[intItems]
   have ht:s.heap.IsTuple p (intItems #[(a,t),(b,u)]):=by
    obtain⟨o,e,c,n,d⟩:=it;exact⟨o,e,c,n,by rw[hi];exact d⟩
   have hlt:p<s.heap.objs.size:=by obtain⟨_,e,_⟩:=ht;exact Heap.lt_size e
   refine call_min_walk (wpAny_pyIter_tuple ht ⟨_,_,_,_,_,_,_,rfl,Walks.tuple (A:=X.A.in1) (I.ok.hd hc) s.heap.objs.size p (aO hlt) (intItems #[(a,t),(b,u)]),⟨⟨_,Heap.get?_push_size _ rfl,rfl,rfl⟩,ht.push _⟩,λy hy=>?_,by simp[intItems],CmpOf.ints_lt (numAt #[(a,t),(b,u)]) (λ_ _=>intItems_at),λv h' tk hP hk=>?_⟩)
   ·show y<(s.heap.push _).objs.size;rw[Heap.size_push];simp only[aH,ck,or_false]at hy;rcases hy with rfl|rfl
    ·exact gU _
    ·exact gh hlt
   ·have kp:∀y o,s.heap.get? y=some o->h'.get? y=some o:=λy o e=>hk y o (λz=>by
     simp only[aH,ck,or_false]at z;exact absurd (z ▸ Heap.lt_size e) (eT _)) (Heap.get?_push_of_some _ e)
    obtain⟨tv,rfl⟩:=intItems_at hP;refine⟨.int _,H,I.kept kp,⟨tv,rfl⟩,?_⟩;have e:numAt #[(a,t),(b,u)] (argBest (λi j=>decide (numAt #[(a,t),(b,u)] i<numAt #[(a,t),(b,u)] j)) ((intItems #[(a,t),(b,u)]).size-1))=if b<a then b else a:=by
     have s1:(intItems #[(a,t),(b,u)]).size-1=1:=by simp[intItems]
     rw[s1];have n0:numAt #[(a,t),(b,u)] 0=a:=by simp[numAt]
     have n1:numAt #[(a,t),(b,u)] 1=b:=by simp[numAt]
     simp only[argBest,n0,n1];by_cases z:b<a
     ·simp[z,n1]
     ·simp[z,n0]
    rw[e];exact q
open PySem
def Fg (A:Around)(s:Shared)(y x:Value):Prop:=
 ∀(prog:Program) (w:World) (E:Value->Shared->Prop) (Q:Value->Shared->Prop),Q (.bool false) s->wpAny (model prog w) A (richCompare .NotEq y x) Q E s
section
variable {K:Type}[DecidableEq K]
theorem MJ (kn:∀(prog:Program) (w:World),HeapKind prog w K)(a b:Addr):Meets (Builtin.«dict.__ne__» ⟨[.ref a,.ref b],[]⟩) (λA R s=>∃xs ys,(a == sysModules)=false∧(b == sysModules)=false∧(∀prog w,(kn prog w).room A.in1)∧eJ kn s.heap a xs∧eJ kn s.heap b ys∧xs.length=ys.length∧
  (∀x∈xs,∃p,atKey ys x.1=some p∧SeqAt.EqAt A.in1 s x.2.2 p.2 true)∧R (.ok (.ret (.bool false))) s):=
 Meets.of_wp λprog w A R s hs=>by
  obtain⟨xs,ys,sa,sb,hu,ha,hb,hl,he,q⟩:=hs;have ta:=(ha prog w).typeIs;have tb:=(hb prog w).typeIs;show wpAny _ A.in1 (Builtin.Dict.dictSlotArgs "__ne__" ⟨[.ref a,.ref b],[]⟩ >>= _) _ _ s;unfold Builtin.Dict.dictSlotArgs;refine wpAny_bind (wpAny_bind (wpAny_notOrdered_dict ta ?_));refine wpAny_bind (wpAny_pure (wpAny_pure (wpAny_bind (wpAny_isInstance tb isSubtype_dict_dict ?_))));rw[if_neg (by decide)];refine wpAny_bind (wpAny_pure (wpAny_bind (wpAny_pure (wpAny_bind (EX sa sb (hu prog w) (ha prog w) (hb prog w) hl he (wpAny_pure ⟨_,rfl,q⟩))))))
theorem MK (kn:∀(prog:Program) (w:World),HeapKind prog w K){A:Around}{s:Shared}{a b:Addr}{xs ys:List (K×Addr×Value)}(sa:(a == sysModules)=false) (sb:(b == sysModules)=false) (hu:∀prog w,(kn prog w).room A.in1) (hc:A.units<cLine) (ha:eJ kn s.heap a xs) (hb:eJ kn s.heap b ys) (hl:xs.length=ys.length)
  (he:∀x∈xs,∃p,atKey ys x.1=some p∧SeqAt.EqAt A.in1 s x.2.2 p.2 true):Fg A s (.ref a) (.ref b):=λprog w E Q q=>
 richCompare_meets_room (op:=.NotEq) (ha prog w).typeIs (hb prog w).typeIs F.slot_dict_ne F.entry_dict_ne (F.args_dict_ne_2 _ _) (MJ kn a b) ⟨xs,ys,sa,sb,hu,ha,hb,hl,he,⟨(λx=>nomatch x),q⟩⟩ hc
end
section
variable {X:Cx}
theorem ML {Xj:List (Addr×Obj)}{σ:St}{H:Hp}{s:Shared}{a b:Addr}{f g:PD}{A:Around}(hu:A.units+1<cLine)(I:Inv X Xj σ H s)(ra:Rd H a (.dT (dz f)))(rb:Rd H b (.dT (dz g)))(sd:dX f g):Fg A s (.ref a) (.ref b):=by
 obtain⟨sa,xs,da,pa⟩:=rJ I ra;obtain⟨sb,ys,db,pb⟩:=rJ I rb;refine MK (λp w=>tupleKind (bj p w)) sa sb (λ_ _=>hu) (by omega) da db (by rw[←Paired.length pa,←Paired.length pb];exact sd.1) λx hx=>?_;have go:∀{l:PD}{m:List (List Key×Addr×Value)},Paired (λ(p:P2×Int) (q:List Key×Addr×Value)=>kz p.1=q.1∧∃t,q.2.2=Value.int p.2 t) l m->∀x∈m,∃p∈l,kz p.1=x.1∧∃t,x.2.2=Value.int p.2 t:=by
  intro l m r
  induction r with
  | nil=>intro x hx;exact nomatch hx
  | @cons p q ps qs h t ih=>
   intro x hx;rcases aH.mp hx with e|hx
   ·subst e;exact⟨p,cN,h⟩
   ·obtain⟨p',m',r'⟩:=ih x hx;exact⟨p',b7 _ m',r'⟩
 obtain⟨p,hp,e1,t,e2⟩:=go pa x hx;have hg:=sd.2 p hp;have fnd:∀{l:PD}{m:List (List Key×Addr×Value)},Paired (λ(p:P2×Int) (q:List Key×Addr×Value)=>kz p.1=q.1∧∃t,q.2.2=Value.int p.2 t) l m->∀{k:P2}{v:Int},gtD l k=some v->∃q,atKey m (kz k)=some q∧∃t,q.2=Value.int v t:=by
  intro l m r
  induction r with
  | nil=>intro k v h;rw[gA]at h;cases h
  | @cons p q ps qs h t ih=>
   intro k v e;rw[cV]at e;by_cases z:p.1=k
   ·rw[if_pos z]at e
    cases e
    refine⟨q.2,?_,h.2⟩;have:q.1=kz k:=by rw[←h.1,z]
    simp[atKey,d7,this]
   ·rw[if_neg z]at e;obtain⟨r,r1,r2⟩:=ih e;refine⟨r,?_,r2⟩;have:¬q.1=kz k:=λy=>z (jm.mp (h.1.trans y))
    simpa [atKey,d7,this] using r1
 obtain⟨q,q1,t',q2⟩:=fnd pb hg;refine⟨q,by rw[←e1];exact q1,?_⟩;rw[e2,q2];exact λprog w E Q hq=>wpAny_eqBool_int (by simpa using hq)
theorem Fh (hu:X.A.units+1<cLine):OpR X (compareOp .NotEq) (λx y H Q=>∃(a b:Addr) (f g:PD),x=.ref a∧y=.ref b∧Rd H a (.dT (dz f))∧Rd H b (.dT (dz g))∧dX f g∧Q (.bl false) H):=by
 intro Xj s σ H x y v u Q I rx ry h;obtain⟨a,b,f,g,rfl,rfl,ra,rb,sd,q⟩:=h
 cases rx
 cases ry
 exact ML hu I ra rb sd X.prog X.w _ _ ⟨.bl false,H,I,rfl,q⟩
theorem MM (hu:X.A.units+3<cLine):OpR X (compareOp .Eq) (λx y H Q=>∃(F G L M U W U' W':Addr) (as bs:List Addr) (fs:List PD) (f g:PD),x=.ref F∧y=.ref G∧SqT X.K H F [.ref L,.ref U,.ref W]∧SqT X.K H G [.ref M,.ref U',.ref W']∧SqL X.K H L (as.map V.ref)∧SqL X.K H M (bs.map V.ref)∧as.length=fs.length∧bs.length=fs.length∧
  (∀(i:Nat) (a:Addr) (f:PD),as[i]?=some a->fs[i]?=some f->Rd H a (.dT (dz f)))∧(∀(i:Nat) (a:Addr) (f:PD),bs[i]?=some a->fs[i]?=some f->Rd H a (.dT (dz f)))∧(∀f∈fs,dX f f)∧dX f f∧dX g g∧Rd H U (.dT (dz f))∧Rd H U' (.dT (dz f))∧Rd H W (.dT (dz g))∧Rd H W' (.dT (dz g))∧Q (.bl true) H):=by
 intro Xj s σ H x y v u Q I rx ry h;obtain⟨F,G,L,M,U,W,U',W',as,bs,fs,f,g,rfl,rfl,hF,hG,hL,hM,la,lb,ha,hb,sfs,sf,sg,rU,rU',rW,rW',q⟩:=h
 cases rx
 cases ry
 have ed:∀{A:Around}{a b:Addr}{f:PD},A.units+1<cLine->Rd H a (.dT (dz f))->Rd H b (.dT (dz f))->dX f f->SeqAt.EqAt A s (.ref a) (.ref b) true:=λhA ra rb sd=>by
  rename_i A a b f;by_cases z:a=b
  ·subst z;exact SeqAt.EqAt.same _
  ·exact SeqAt.EqAt.of_refs z (E9 hA I ra rb sd)
 obtain⟨i1,v1,t1,_⟩:=I.tuple hF;obtain⟨i2,v2,t2,_⟩:=I.tuple hG;obtain⟨j1,w1,l1,_⟩:=I.list hL;obtain⟨j2,w2,l2,_⟩:=I.list hM;have e3:∀{p q r:Addr}{j:List Value},Vals [V.ref p,V.ref q,V.ref r] j->j=[.ref p,.ref q,.ref r]:=λh=>by
  cases h with|cons r t=>cases t with|cons r2 t=>cases t with|cons r3 t=>cases t;cases r;cases r2;cases r3;rfl
 have er:∀{as:List Addr}{j:List Value},Vals (as.map V.ref) j->j=as.map Value.ref:=λ{as}=>by
  induction as with
  | nil=>intro j h;cases h;rfl
  | cons a as ih=>intro j h;cases h with|cons r t=>cases r;rw[ih t];rfl
 obtain rfl:=e3 v1;obtain rfl:=e3 v2;obtain rfl:=er w1;obtain rfl:=er w2;have u1:X.A.in1.units=X.A.units+1:=rfl;have u2:X.A.in1.in1.units=X.A.units+2:=rfl;have hl:SeqAt.EqAt X.A.in1 s (.ref L) (.ref M) true:=by
  by_cases z:L=M
  ·subst z;exact SeqAt.EqAt.same _
  refine SeqAt.EqAt.of_refs z ?_;have:=SeqAt.RcAt.lists (A:=X.A.in1) (s:=s) (e:=λ_=>true) l1.isList l2.isList (by simp;omega) (by omega) λj h1 h2=>by
   have k1:j<as.length:=by simpa using h1
   have k2:j<bs.length:=by simpa using h2
   have k3:j<fs.length:=by omega
   have g1:(as.map Value.ref).toArray[j]=.ref as[j]:=by simp
   have g2:(bs.map Value.ref).toArray[j]=.ref bs[j]:=by simp
   rw[g1,g2];exact ed (by omega) (ha j _ _ (aJ k1) (aJ k3)) (hb j _ _ (aJ k2) (aJ k3)) (sfs _ (eX k3))
  rw[List.all_eq_true.mpr (λ_ _=>rfl)]at this;exact this
 have:=SeqAt.RcAt.tuples (A:=X.A) (s:=s) (e:=λ_=>true) t1 t2 (by omega) λj h1 h2=>by
  have j3:j<3:=by simpa using h1
  match j,j3 with
  | 0,_=>exact hl
  | 1,_=>exact ed (by omega) rU rU' sf
  | 2,_=>exact ed (by omega) rW rW' sg
 exact this X.prog X.w _ _ ⟨.bl true,H,I,rfl,q⟩
end
end L2
namespace My
def co (xs:List Int)(k:Nat):Int:=xs.getD k 0
end My
namespace My
def Fj:Nat->(Nat->Int)->Int
 | 0,_=>0
 | n+1,f=>Fj n f+f n
end My
namespace My
def val (n:Int):List Int->Int
 | []=>0
 | c :: r=>c+n*val n r
def hd (xs:List Int):Int:=xs.headD 0
end My
namespace My
theorem Fk {t b s:Int}(hb:b≠0)(hs:s=if b<0 then -((aU t.natAbs b.natAbs:Nat):Int) else ((aU t.natAbs b.natAbs:Nat):Int)):
  s≠0∧s.natAbs=aU t.natAbs b.natAbs∧t=s*t.fdiv s∧b=s*b.fdiv s∧1<=b.fdiv s∧aU (t.fdiv s).natAbs (b.fdiv s).natAbs=1:=by
 have gp:0<aU t.natAbs b.natAbs:=gZ _ (by omega);have sa:s.natAbs=aU t.natAbs b.natAbs:=by
  rw[hs];split
  ·rw[Int.natAbs_neg,dN]
  ·rw[dN]
 have s0:s≠0:=by intro z;rw[z]at sa;simp at sa;omega
 have dt:s∣t:=PZ.mp (by rw[sa];exact g0 _ _);have db:s∣b:=PZ.mp (by rw[sa];exact g7 _ _);obtain⟨c,hc⟩:=dt;obtain⟨d,hd⟩:=db;have ec:t.fdiv s=c:=by rw[hc];exact Iw c s0
 have ed:b.fdiv s=d:=by rw[hd];exact Iw d s0
 rw[ec,ed];refine⟨s0,sa,hc,hd,?_,?_⟩
 ·by_cases hn:b<0
  ·rw[if_pos hn]at hs;have:s<0:=by omega
   rcases Ao 0 d with h|h
   ·omega
   ·have:=Int.mul_nonneg_of_nonpos_of_nonpos (Int.le_of_lt this) h;omega
  ·rw[if_neg hn]at hs;have:0<s:=by omega
   rcases Ao 0 d with h|h
   ·omega
   ·have:=Ix (Int.le_of_lt this) h;omega
 ·have e1:t.natAbs=s.natAbs*c.natAbs:=by rw[←cP,←hc]
  have e2:b.natAbs=s.natAbs*d.natAbs:=by rw[←cP,←hd]
  have e3:=sa;rw[e1,e2,Nat.gcd_mul_left]at e3;have sp:0<s.natAbs:=by omega
  exact P0 sp (by omega)
theorem sr {t s:Int}(s0:s≠0)(h:t=s*t.fdiv s):(t.fdiv s).natAbs<=t.natAbs:=by
 have e:t.natAbs=s.natAbs*(t.fdiv s).natAbs:=by rw[←cP,←h]
 rw[e];exact Nat.le_mul_of_pos_left _ (by omega)
end My
namespace My
def pm (f g:Nat->Int)(k:Nat):Int:=Fj (k+1) λj=>f j*g (k-j)
end My
namespace My
def sh (g:Nat->Int)(j:Nat):Int:=if j=0 then 0 else g (j-1)
def ev (p:Int)(f:Nat->Int):Nat->Nat->Int
 | 0,_=>0
 | n+1,s=>f s+p*ev p f n (s+1)
theorem Fl (p a b:Int)(f g:Nat->Int):∀n s,ev p (λj=>a*f j-b*g j) n s=a*ev p f n s-b*ev p g n s
 | 0,_=>by simp[ev]
 | n+1,s=>by
  simp only[ev];rw[Fl p a b f g n (s+1),Int.mul_sub,Int.mul_add,Int.mul_add,←dJ p a,←dJ p b,jQ p a,jQ p b,dJ,dJ];omega
theorem down (p:Int){K Z:Nat->Int}{e:Nat}(hK:∀j,e+1<=j->K j=0)(hZ:∀j,e<=j->Z j=0):
  ∃Z':Nat->Int,(∀j,e<=j->Z' j=0)∧∀j,p*Z' j-sh Z' j=ev p K (e+1) 0*Z j-ev p Z (e+1) 0*K j:=by
 let k0:=ev p K (e+1) 0
 let z0:=ev p Z (e+1) 0
 let F:Nat->Int:=λj=>k0*Z j-z0*K j
 let v:Nat->Int:=λj=>ev p F (e+1-j) j
 have hF:∀j,e+1<=j->F j=0:=λj hj=>by show k0*Z j-z0*K j=0;rw[hZ j (by omega),hK j hj];simp
 have hv:∀j,v j=F j+p*v (j+1):=λj=>by
  show ev p F (e+1-j) j=F j+p*ev p F (e+1-(j+1)) (j+1);by_cases h:j<=e
  ·rw[show e+1-j=(e-j)+1 by omega,show e+1-(j+1)=e-j by omega];rfl
  ·rw[show e+1-j=0 by omega,show e+1-(j+1)=0 by omega,hF j (by omega)];simp[ev]
 have h0:v 0=0:=by
  show ev p (λj=>k0*Z j-z0*K j) (e+1) 0=0;rw[Fl];show k0*z0-z0*k0=0;rw[jQ];omega
 refine⟨λj=>- v (j+1),λj hj=>?_,λj=>?_⟩
 ·show-ev p F (e+1-(j+1)) (j+1)=0;rw[show e+1-(j+1)=0 by omega];rfl
 ·show p*(- v (j+1))-sh (λj=>- v (j+1)) j=F j;have a:=hv j;unfold sh;by_cases h:j=0
  ·subst h;rw[if_pos rfl];rw[h0]at a;rw[Int.mul_neg];omega
  ·rw[if_neg h];show p*(- v (j+1))-(- v (j-1+1))=F j;rw[show j-1+1=j by omega,Int.mul_neg];omega
section
variable {p:Int}{K L:Nat->Int}{e t M:Nat}(he:1<=e)(hK:∀j,e+1<=j->K j=0)(kt:K e≠0)(hL:∀j,t+1<=j->L j=0)(lt:L t≠0)(hM:∀j,(pm L K j).natAbs<=M)(hp:(ev p K (e+1) 0).natAbs+M+1<p.natAbs)
include he hK kt hL lt hM hp
end
end My
namespace My
def asc (a:Nat):Nat->Nat
 | 0=>1
 | n+1=>asc a n*(a+n+1)
def fct:Nat->Nat
 | 0=>1
 | n+1=>fct n*(n+1)
def chs:Nat->Nat->Nat
 | _,0=>1
 | 0,_+1=>0
 | n+1,k+1=>chs n k+chs n (k+1)
theorem Fm (n:Nat):chs n 0=1:=by cases n <;> rfl
theorem zA (n k:Nat):chs (n+1) (k+1)=chs n k+chs n (k+1):=rfl
theorem zB:∀(n k:Nat),n<k->chs n k=0
 | 0,k+1,_=>rfl
 | n+1,k+1,h=>by rw[zA,zB n k (by omega),zB n (k+1) (by omega)]
theorem Fn:∀n:Nat,chs n n=1
 | 0=>rfl
 | n+1=>by rw[zA,Fn n,zB n (n+1) (by omega)]
theorem gE:∀n:Nat,0<fct n
 | 0=>by decide
 | n+1=>Iy (gE n) (by omega)
theorem fH:∀n:Nat,asc 0 n=fct n
 | 0=>rfl
 | n+1=>by simp only[asc,fct];rw[fH n];simp
theorem Fo (a:Nat):∀n:Nat,asc a (n+1)=(a+1)*asc (a+1) n
 | 0=>by simp[asc]
 | n+1=>by
  have ih:=Fo a n;have e1:asc a (n+1+1)=asc a (n+1)*(a+(n+1)+1):=rfl;have e2:asc (a+1) (n+1)=asc (a+1) n*(a+1+n+1):=rfl;rw[e1,ih,e2,show a+(n+1)+1=a+1+n+1 by omega,Nat.mul_assoc]
theorem jo (a:Nat)(m:Nat):∀n:Nat,asc a (m+n)=asc a m*asc (a+m) n
 | 0=>by simp[asc]
 | n+1=>by
  have ih:=jo a m n;have e1:asc a (m+(n+1))=asc a (m+n)*(a+(m+n)+1):=rfl;have e2:asc (a+m) (n+1)=asc (a+m) n*(a+m+n+1):=rfl;rw[e1,ih,e2,show a+(m+n)+1=a+m+n+1 by omega,Nat.mul_assoc]
theorem gc:∀(n a:Nat),asc a n=chs (a+n) n*fct n
 | 0,a=>by simp[asc,Fm,fct]
 | n+1,0=>by rw[fH,jN,Fn,Nat.one_mul]
 | n+1,a+1=>by
  have h1:=gc n (a+1);have h2:=gc (n+1) a;have e1:asc (a+1) (n+1)=asc (a+1) n*(a+1+n+1):=rfl;have e2:chs (a+1+(n+1)) (n+1)=chs (a+1+n) n+chs (a+1+n) (n+1):=rfl;have e3:fct (n+1)=fct n*(n+1):=rfl;have f:=Fo a n;rw[show a+(n+1)=a+1+n by omega]at h2;rw[e1,e2,tf,←h2,f,h1,e3];generalize chs (a+1+n) n=c;generalize fct n=t;grind
theorem MN (n a:Nat):asc a n / fct n=chs (a+n) n:=by
 rw[gc,Nat.mul_div_cancel _ (gE n)]
theorem MO (a b:Nat):chs (a+b) a=chs (a+b) b:=by
 have h1:=gc b a;have h2:=gc a b;have e1:=jo 0 a b;have e2:=jo 0 b a;rw[jN,fH,fH]at e1 e2;rw[Nat.add_comm b a]at e2 h2;rw[h1]at e1;rw[h2]at e2;rw[e1]at e2;have e3:(fct a*fct b)*chs (a+b) b=(fct a*fct b)*chs (a+b) a:=by
  generalize fct a=x at e2 ⊢;generalize fct b=y at e2 ⊢;generalize chs (a+b) b=u at e2 ⊢;generalize chs (a+b) a=v at e2 ⊢;grind
 exact (P0 (Iy (gE a) (gE b)) e3).symm
theorem MP (a b:Nat):asc (a+b-min a b) (min a b) / fct (min a b)=chs (a+b) b:=by
 rw[MN,show a+b-min a b+min a b=a+b by omega];by_cases h:a<=b
 ·rw[Nat.min_eq_left h,MO]
 ·rw[Nat.min_eq_right (by omega)]
theorem ss:∀(n k:Nat),chs n k<=2 ^ n
 | 0,0=>by decide
 | 0,_+1=>by simp[chs]
 | n+1,0=>by rw[Fm];exact Nat.pow_pos (by decide)
 | n+1,k+1=>by
  have h1:=ss n k;have h2:=ss n (k+1);rw[zA,Ir];omega
theorem MQ {a b c d l r:Nat}(hb:0<b)(hd:0<d)(h1:aU a b=1)(h2:aU c d=1)(hl:l=aU a d)(hr:r=aU c b):aU (a / l*(c / r)) (b / r*(d / l))=1:=by
 have lp:0<l:=by rw[hl];exact gZ _ hd
 have rp:0<r:=by rw[hr];exact gZ _ hb
 have la:l∣a:=by rw[hl];exact g0 _ _
 have ld:l∣d:=by rw[hl];exact g7 _ _
 have rc:r∣c:=by rw[hr];exact g0 _ _
 have rb:r∣b:=by rw[hr];exact g7 _ _
 have c1:Nat.Coprime (a / l) (d / l):=by rw[hl];exact P3 (by rw[←hl];exact lp)
 have c2:Nat.Coprime (c / r) (b / r):=by rw[hr];exact P3 (by rw[←hr];exact rp)
 have c3:Nat.Coprime (a / l) (b / r):=Nat.Coprime.coprime_dvd_left (Ap la) (Nat.Coprime.coprime_dvd_right (Ap rb) h1);have c4:Nat.Coprime (c / r) (d / l):=Nat.Coprime.coprime_dvd_left (Ap rc) (Nat.Coprime.coprime_dvd_right (Ap ld) h2);exact Nat.Coprime.mul_left (Nat.Coprime.mul_right c3 c1) (Nat.Coprime.mul_right c2 c4)
end My
namespace My
open L2
def wtD (f:PD)(h:P2->Int):Int:=(f.map λx=>x.2*h x.1).sum
theorem eO (h:P2->Int):wtD [] h=0:=rfl
theorem cA (x:P2×Int)(f:PD)(h:P2->Int):wtD (x :: f) h=x.2*h x.1+wtD f h:=by unfold wtD;rw[bF,gi]
end My
namespace My
open L2
def mon (n k:Int)(p:P2):Int:=n ^ p.1.toNat*k ^ p.2.toNat
def evD (f:PD)(n k:Int):Int:=wtD f (mon n k)
def Deg (d:Nat)(f:PD):Prop:=∀x∈f,0<=x.1.1∧x.1.1<=d∧0<=x.1.2∧x.1.2<=d
theorem Fp (f g:PD)(h:P2->Int):wtD (f++g) h=wtD f h+wtD g h:=by
 unfold wtD;rw[aM,tj]
theorem MR {f:PD}(nd:ndD f)(k:P2)(v:Int)(h:P2->Int):wtD (ptD f k v) h=wtD f h-cfD f k*h k+v*h k:=by
 induction f with
 | nil=>
  show wtD [(k,v)] h=wtD [] h-cfD [] k*h k+v*h k;rw[cA,eO];show v*h k+0=0-0*h k+v*h k;omega
 | cons x f ih=>
  obtain⟨n1,n2⟩:=zm.mp nd;by_cases hx:x.1=k
  ·have e1:ptD (x :: f) k v=(x.1,v) :: f:=by
    unfold ptD;rw[if_pos (by simp[hx])];rw[bF,if_pos (by simp[hx]),hx];congr 1
    conv=>rhs;rw[←List.map_id f]
    refine jP λy hy=>?_;rw[if_neg]
    ·rfl
    ·intro z;have:=jf.mp n1 y hy;exact this ((by simpa using z:y.1=k).trans hx.symm)
   have e2:cfD (x :: f) k=x.2:=by unfold cfD;rw[cV,if_pos hx];rfl
   rw[e1,e2,cA,cA,←hx];show v*h x.1+wtD f h=x.2*h x.1+wtD f h-x.2*h x.1+v*h x.1;omega
  ·have e2:cfD (x :: f) k=cfD f k:=by unfold cfD;rw[cV,if_neg hx]
   have e1:ptD (x :: f) k v=x :: ptD f k v:=by
    unfold ptD;by_cases ha:(f.any λx=>decide (x.1=k))=true
    ·rw[if_pos ha,if_pos (by rw[jM,ha,Bool.or_true]),bF,if_neg (by simpa using hx)]
    ·rw[if_neg ha,if_neg (by rw[jM];simpa [hx] using ha)];rfl
   rw[e1,e2,cA,cA,ih n2];omega
theorem Fq (h:P2->Int):∀(l a:PD),ndD a->wtD (foD l a) h=wtD a h+wtD l h
 | [],a,_=>by rw[LB,eO];omega
 | x :: l,a,nd=>by
  rw[jh,Fq h l _ (E1 nd _ _),cA];unfold adD;rw[MR nd,Aq];omega
theorem su (h:P2->Int):∀f:PD,wtD (nzD f) h=wtD f h
 | []=>rfl
 | x :: f=>by
  rw[Ly,cA];by_cases hx:x.2=0
  ·rw[if_pos hx,su h f,hx,Ar];omega
  ·rw[if_neg hx,cA,su h f]
theorem MS (n k:Int){p q:P2}(hp:0<=p.1∧0<=p.2)(hq:0<=q.1∧0<=q.2):mon n k (p.1+q.1,p.2+q.2)=mon n k p*mon n k q:=by
 unfold mon;rw[show (p.1+q.1).toNat=p.1.toNat+q.1.toNat by omega,show (p.2+q.2).toNat=p.2.toNat+q.2.toNat by omega,Iz,Iz];generalize n ^ p.1.toNat=a;generalize n ^ q.1.toNat=b;generalize k ^ p.2.toNat=c;generalize k ^ q.2.toNat=d;grind
theorem Fs (n k:Int){d:Nat}{x:P2×Int}(hx:0<=x.1.1∧0<=x.1.2):∀{g:PD},Deg d g->wtD (cE x g) (mon n k)=x.2*mon n k x.1*evD g n k
 | [],_=>by show wtD [] _=_;unfold evD;rw[eO,Int.mul_zero]
 | y :: g,h=>by
  have hy:=h y (by simp);have ih:=Fs n k hx (g:=g) (d:=d) λz hz=>h z (b7 _ hz);have e:cE x (y :: g)=((x.1.1+y.1.1,x.1.2+y.1.2),x.2*y.2) :: cE x g:=rfl;unfold evD at ih ⊢;rw[e,cA,cA,ih,MS n k hx ⟨hy.1,hy.2.2.1⟩];generalize mon n k x.1=a;generalize mon n k y.1=b;generalize wtD g (mon n k)=c;grind
theorem Ft (n k:Int){d e:Nat}:∀{f g:PD},Deg d f->Deg e g->wtD (prD f g) (mon n k)=evD f n k*evD g n k
 | [],g,_,_=>by show wtD [] _=_;unfold evD;rw[eO,Ar]
 | x :: f,g,h,hg=>by
  have hx:=h x (by simp);have ih:=Ft n k (f:=f) (g:=g) (λz hz=>h z (b7 _ hz)) hg;have e:prD (x :: f) g=cE x g++prD f g:=rfl;rw[e,Fp,ih,Fs n k ⟨hx.1,hx.2.2.1⟩ hg];unfold evD;rw[cA,Aq]
theorem MT (n k:Int){d e:Nat}{f g:PD}(hf:Deg d f)(hg:Deg e g):evD (dR f g) n k=evD f n k*evD g n k:=by
 unfold dR;unfold evD;rw[su,Fq _ _ _ jg,Ft n k hf hg,eO];unfold evD;omega
theorem MU {f:PD}{k:P2}{v:Int}{x:P2×Int}(h:x∈ptD f k v):x.1=k∨∃y∈f,y.1=x.1:=by
 have:x.1∈(ptD f k v).map (·.1):=bw.mpr ⟨x,h,rfl⟩;rw[zl]at this
 split at this
 ·obtain⟨y,hy,e⟩:=bw.mp this;exact .inr ⟨y,hy,e⟩
 ·rcases cx.mp this with z|z
  ·obtain⟨y,hy,e⟩:=bw.mp z;exact .inr ⟨y,hy,e⟩
  ·exact .inl (by simpa using z)
theorem zC:∀(l a:PD){x:P2×Int},x∈foD l a->(∃y∈l,y.1=x.1)∨∃y∈a,y.1=x.1
 | [],a,x,h=>.inr ⟨x,h,rfl⟩
 | z :: l,a,x,h=>by
  rw[jh]at h;rcases zC l _ h with ⟨y,hy,e⟩|⟨y,hy,e⟩
  ·exact .inl ⟨y,b7 _ hy,e⟩
  ·rcases MU hy with e2|⟨y2,hy2,e2⟩
   ·exact .inl ⟨z,by simp,by rw[←e2];exact e⟩
   ·exact .inr ⟨y2,hy2,by rw[e2];exact e⟩
theorem Fu {d e:Nat}{f g:PD}(hf:Deg d f)(hg:Deg e g):Deg (d+e) (dR f g):=λx hx=>by
 unfold dR at hx;rcases zC _ _ (rE hx) with ⟨y,hy,e⟩|⟨y,hy,_⟩
 ·unfold prD at hy;obtain⟨u,hu,hy⟩:=jO.mp hy;obtain⟨v,hv,rfl⟩:=bw.mp hy;have h1:=hf u hu;have h2:=hg v hv;rw[←e];exact⟨by show 0<=u.1.1+v.1.1;omega,by show u.1.1+v.1.1<=_;omega,by show 0<=u.1.2+v.1.2;omega,by show u.1.2+v.1.2<=_;omega⟩
 ·simp at hy
theorem sv {d e:Nat}{f:PD}(h:Deg d f)(l:d<=e):Deg e f:=λx hx=>by have:=h x hx;omega
theorem MV (f g:PD):ndD (dR f g):=zn (ji _ jg)
theorem MW {d e:Nat}{f g:PD}(hf:Deg d f)(hg:Deg e g):Deg (d+e) (foD (prD f g) []):=λx hx=>by
 rcases zC _ _ hx with ⟨y,hy,e⟩|⟨y,hy,_⟩
 ·unfold prD at hy;obtain⟨u,hu,hy⟩:=jO.mp hy;obtain⟨v,hv,rfl⟩:=bw.mp hy;have h1:=hf u hu;have h2:=hg v hv;rw[←e];exact⟨by show 0<=u.1.1+v.1.1;omega,by show u.1.1+v.1.1<=_;omega,by show 0<=u.1.2+v.1.2;omega,by show u.1.2+v.1.2<=_;omega⟩
 ·simp at hy
def zD (d:Nat):List P2:=(aR (d+1)).flatMap λ(i:Nat)=>(aR (d+1)).map λ(j:Nat)=>((i:Int),(j:Int))
theorem Fv (m:Nat):∀n:Nat,(bK n m).sum=n*m
 | 0=>by simp
 | n+1=>by rw[d0,gi,Fv m n,tf];omega
theorem MX (d:Nat):(zD d).length=(d+1)*(d+1):=by
 unfold zD;rw[List.length_flatMap];have:(aR (d+1)).map (λ(i:Nat)=>((aR (d+1)).map λ(j:Nat)=>((i:Int),(j:Int))).length)=bK (d+1) (d+1):=by
  rw[List.eq_replicate_iff];refine⟨by simp,λb hb=>?_⟩;obtain⟨i,_,rfl⟩:=bw.mp hb;simp
 rw[this,Fv]
theorem jq {d:Nat}{f:PD}(nd:ndD f)(h:Deg d f):f.length<=(d+1)*(d+1):=by
 rw[←MX,←aB (·.1) (as:=f)];refine E4 nd λp hp=>?_;obtain⟨x,hx,rfl⟩:=bw.mp hp;have:=h x hx;unfold zD;refine jO.mpr ⟨x.1.1.toNat,cM.mpr (by omega),bw.mpr ⟨x.1.2.toNat,cM.mpr (by omega),?_⟩⟩;exact Prod.ext (by show ((x.1.1.toNat:Nat):Int)=_;omega) (by show ((x.1.2.toNat:Nat):Int)=_;omega)
def Szn (B:Nat)(f:PD):Prop:=∀x∈f,x.2.natAbs<=B
theorem Fw {B:Nat}(k:P2):∀{l:PD},Szn B l->(smD l k).natAbs<=l.length*B
 | [],_=>by simp[smD]
 | x :: l,h=>by
  have ih:=Fw k (l:=l) (B:=B) λz hz=>h z (b7 _ hz);have hx:=h x (by simp);rw[LH,cb,tf,Nat.one_mul];have:(if x.1=k then x.2 else 0).natAbs<=B:=by
   split
   ·exact hx
   ·exact aY _
  have:=Int.natAbs_add_le (if x.1=k then x.2 else 0) (smD l k);omega
theorem MY (f g:PD):(prD f g).length=f.length*g.length:=by
 induction f with
 | nil=>simp[prD]
 | cons x f ih=>
  show (cE x g++prD f g).length=_;rw[b8,ih,cb,tf];show (g.map _).length+_=_;rw[aB];omega
theorem MZ {A B:Nat}{f g:PD}(hf:Szn A f)(hg:Szn B g):Szn (A*B) (prD f g):=λx hx=>by
 unfold prD at hx;obtain⟨u,hu,hx⟩:=jO.mp hx;obtain⟨v,hv,rfl⟩:=bw.mp hx;show (u.2*v.2).natAbs<=_;rw[cP];exact dO (hf u hu) (hg v hv)
theorem M0 {B:Nat}{l:PD}(h:Szn B l):Szn (l.length*B) (foD l []):=λx hx=>by
 have e:=E2 (ji l jg) hx;have e2:cfD (foD l []) x.1=x.2:=by unfold cfD;rw[e];rfl
 have e3:=E3 l [] x.1;rw[e2]at e3;rw[e3,show cfD [] x.1=0 from rfl,dP];exact Fw x.1 h
theorem M3 {A B:Nat}{f g:PD}(hf:Szn A f)(hg:Szn B g):Szn (f.length*g.length*(A*B)) (dR f g):=λx hx=>by
 have:=M0 (MZ hf hg) x (rE hx);rw[MY]at this;exact this
def fmD (a b c:Int):PD:=nzD [((1,0),a),((0,1),b),((0,0),c)]
theorem zE (a b c n k:Int):evD (fmD a b c) n k=a*n+b*k+c:=by
 unfold fmD evD;rw[su,cA,cA,cA,eO];have p1:∀x:Int,x ^ (1:Nat)=x:=λx=>by rw[fQ,gj,g8]
 have e1:mon n k (1,0)=n:=by show n ^ 1*k ^ 0=n;rw[p1,gj,sV]
 have e2:mon n k (0,1)=k:=by show n ^ 0*k ^ 1=k;rw[p1,gj,g8]
 have e3:mon n k (0,0)=1:=by show n ^ 0*k ^ 0=1;rw[gj,gj];rfl
 rw[e1,e2,e3];show a*n+(b*k+(c*1+0))=_;omega
theorem M4 (a b c:Int):Deg 1 (fmD a b c):=λx hx=>by
 have:=rE hx;simp only[aH,ck,or_false]at this;rcases this with rfl|rfl|rfl <;> (dsimp only;omega)
theorem M5 (a b c:Int):ndD (fmD a b c):=zn (show [((1:Int),(0:Int)),(0,1),(0,0)].Nodup by decide)
theorem M6 {B:Nat}{a b c:Int}(ha:a.natAbs<=B)(hb:b.natAbs<=B)(hc:c.natAbs<=B):Szn B (fmD a b c):=λx hx=>by
 have:=rE hx;simp only[aH,ck,or_false]at this;rcases this with rfl|rfl|rfl <;> assumption
def onD:PD:=[((0,0),1)]
def pdD (fs:List PD):PD:=fs.foldl dR onD
theorem jr (fs:List PD)(f:PD):pdD (fs++[f])=dR (pdD fs) f:=by unfold pdD;rw[gY];rfl
theorem gd (n k:Int):evD onD n k=1:=by unfold evD onD;rw[cA,eO];unfold mon;simp
theorem Fx:Deg 0 onD:=λx hx=>by simp[onD]at hx;subst hx;decide
def prI (xs:List Int):Int:=xs.foldl (· * ·) 1
theorem sw (xs:List Int)(x:Int):prI (xs++[x])=prI xs*x:=by unfold prI;rw[gY];rfl
theorem Fy (x:Int):∀xs:List Int,prI (x :: xs)=x*prI xs:=λxs=>by
 have h:∀(xs:List Int) (a b:Int),xs.foldl (· * ·) (a*b)=a*xs.foldl (· * ·) b:=λxs=>by
  induction xs with
  | nil=>intro a b;rfl
  | cons y ys ih=>intro a b;rw[d5,d5,dJ,ih]
 unfold prI;rw[d5,jQ,h]
theorem js (xs ys:List Int):prI (xs++ys)=prI xs*prI ys:=by
 induction xs with
 | nil=>simp[prI]
 | cons x xs ih=>rw[An,Fy,Fy,ih,dJ]
structure PdOk (d B:Nat)(f:PD):Prop where
 dg:Deg d f
 nd:ndD f
 sz:Szn (2 ^ B) f
theorem pd_one:PdOk 0 0 onD:=⟨Fx,by unfold ndD onD;decide,λx hx=>by simp[onD]at hx;subst hx;decide⟩
theorem Fz {d e A B:Nat}{f g:PD}(hf:PdOk d A f)(hg:PdOk e B g)(hd:d+e<=60):PdOk (d+e) (A+B+24) (dR f g):=by
 refine⟨Fu hf.dg hg.dg,MV f g,λx hx=>?_⟩;have h1:=M3 hf.sz hg.sz x hx;have h2:=jq hf.nd hf.dg;have h3:=jq hg.nd hg.dg;have h4:f.length*g.length<=2 ^ 24:=by
  have a1:f.length<=2 ^ 12:=aP h2 (aP (dO (show d+1<=61 by omega) (show d+1<=61 by omega)) (by decide));have a2:g.length<=2 ^ 12:=aP h3 (aP (dO (show e+1<=61 by omega) (show e+1<=61 by omega)) (by decide));exact aP (dO a1 a2) (by decide)
 refine aP h1 (aP (Nat.mul_le_mul_right _ h4) ?_);rw[←sY,←sY];exact d6 (by decide) (by omega)
theorem jt (n k:Int):∀(m:Nat) (fs:List PD) (d:Nat),fs.length=m->(∀f∈fs,Deg d f)->evD (pdD fs) n k=prI (fs.map λf=>evD f n k)∧Deg (d*fs.length) (pdD fs)
 | 0,fs,d,hm,_=>by
  obtain rfl:=eY hm;exact⟨gd n k,Fx⟩
 | m+1,fs,d,hm,h=>by
  obtain⟨gs,g,rfl⟩:∃gs g,fs=gs++[g]:=⟨fs.dropLast,fs.getLast (λz=>by rw[z]at hm;simp at hm),(eZ _).symm⟩
  obtain⟨i1,i2⟩:=jt n k m gs d (by simp at hm;exact hm) λf hf=>h f (fP _ hf);have hg:=h g (by simp);rw[jr,aM,bF,gW,sw,MT n k i2 hg,i1,b8,jL,g9,IA];exact⟨rfl,Fu i2 hg⟩
def aX (x:Int):Nat->Int
 | 0=>1
 | m+1=>aX x m*(x+m+1)
theorem FA (x m:Nat):fct (x+m)=fct x*asc x m:=by
 have:=jo 0 x m;rw[fH,fH,jN]at this;exact this
theorem M7 (n:Nat):((fct n:Nat):Int)≠0:=by have:=gE n;omega
def FB (U:Nat)(L G:Int)(z:Int×Int):Prop:=((L<0∨G<0)∧z=(0,1))∨∃x y:Nat,L=(x:Int)∧G=(y:Int)∧z.1*(((fct x:Nat):Int)*((fct y:Nat):Int))=((fct U:Nat):Int)*z.2
theorem M8 {z:Int×Int}{b0 b1 m:Nat}(hm:m<=b0+b1)(h:z.1*((asc m (b0+b1-m):Nat):Int)=((chs (b0+b1) b1:Nat):Int)*z.2):z.1*(((fct b0:Nat):Int)*((fct b1:Nat):Int))=((fct m:Nat):Int)*z.2:=by
 have e1:fct (b0+b1)=fct m*asc m (b0+b1-m):=by
  have:=FA m (b0+b1-m);rw[show m+(b0+b1-m)=b0+b1 by omega]at this;exact this
 have e2:fct (b0+b1)=fct b0*(chs (b0+b1) b1*fct b1):=by rw[FA,gc]
 have c1:((fct (b0+b1):Nat):Int)=((fct m:Nat):Int)*((asc m (b0+b1-m):Nat):Int):=by rw[e1,g_]
 have c2:((fct (b0+b1):Nat):Int)=((fct b0:Nat):Int)*(((chs (b0+b1) b1:Nat):Int)*((fct b1:Nat):Int)):=by rw[e2,g_,g_]
 refine IB (M7 (b0+b1)) ?_
 conv=>lhs;rw[c1]
 conv=>rhs;rw[c2]
 generalize ((asc m (b0+b1-m):Nat):Int)=A at h;generalize ((chs (b0+b1) b1:Nat):Int)=C at h;generalize ((fct b0:Nat):Int)=X;generalize ((fct b1:Nat):Int)=Y;generalize ((fct m:Nat):Int)=M;have:z.1*(X*Y)*(M*A)=X*Y*M*(z.1*A):=by grind
 rw[this,h];grind
def upl (x s:Int):Int:=aX (x+s) (-s).toNat
def dnl (x s:Int):Int:=aX x s.toNat
end My
namespace My
open PySem PySem.Spec PyProof.Rows L2
seal L2.PE L2.PS L2.PSs L2.PA
def zWP (u d:Bool):Array Lean.Term:=(("rX rY rZ r0 rN rK rL rM rO rP rQ rR rS rV rG rA rB rq ro rm si r_ sj sk -_root_.L2.V.str.injEq sq ri rj rf rh rl rk +az pJ pK pL pM pN pO pP pQ pR pS pT pU pV pW pX pY pZ a_c p4 p6 p7 p8 p9 p_ qa qc qd qe qf qg qh qi qj qk ql qm qo qp qq qr qt qu qw qx qy qz qA qB qC qD qE qF qG qH qI qJ qQ -and_assoc qT qS qU qV qW qX qK qL qM qN qO -Is -P4 -_root_.List.set_cons_zero -_root_.List.set_cons_succ -_root_.Option.some.injEq -_root_.L2.V.int.injEq -_root_.L2.V.bl.injEq -_root_.L2.V.ref.injEq -_root_.L2.V.ty.injEq -exists_eq_left' -exists_eq_left -exists_and_left -decide_eq_true_eq -An -Ip -sW -_root_.List.cons.injEq -and_true -true_and -_root_.Bool.not_eq_true' -decide_eq_false_iff_not -ite_true -ite_false -_root_.Bool.false_eq_true -if_true -if_false -cb -dE -_root_.L2.dM -bF -gW -d0 -P5".splitOn " ").filter λx=>(u||!x.startsWith "+")&&(d||!x.startsWith "-")).toArray.map λx=>⟨Lean.mkIdent (String.toName (String.ofList (x.toList.filter λc=>c≠'+'&&c≠'-')))⟩
local macro_rules | `(tactic| k_units)=>`(tactic| ((try dsimp only[$[$(zWP true false):term],*]);(try simp only[$[$(zWP true true):term],*])))
local macro_rules | `(tactic| k_typeOf)=>`(tactic| ((try dsimp only[$[$(zWP false false):term],*]);(try simp only[$[$(zWP false true):term],*])))
local macro_rules | `(tactic| w_on)=>`(tactic| exact⟨rfl,rfl,rfl,by decide +kernel,rfl,by decide +kernel,by decide +kernel⟩)
theorem M9:FnScope ["pair"] ["pair"] (aA tD):=by w_on
theorem sc_pair_times:FnScope ["one","other","answer","low","number","high","factor","powers"] ["one","other"] (aA tE):=by w_on
theorem M_:FnScope ["form"] ["form"] (aA tF):=by w_on
theorem sc_pair_product:FnScope ["pairs","answer","pair"] ["pairs"] (aA tG):=by w_on
theorem sc_divisor:FnScope ["one","other","big","small","pair","rest"] ["one","other"] (aA tH):=by w_on
theorem sc_ratio:FnScope ["top","bottom","shared"] ["top","bottom"] (aA tI):=by w_on
theorem Na:FnScope ["form","n","k"] ["form","n","k"] (aA tJ):=by w_on
theorem Nb:FnScope ["form","by"] ["form","by"] (aA tK):=by w_on
theorem Nc:FnScope ["form","low","high"] ["form","low","high"] (aA tL):=by w_on
theorem Nd:FnScope ["upper","lower"] ["upper","lower"] (aA tM):=by w_on
theorem sc_power_of:FnScope ["number","exponent","answer","step"] ["number","exponent"] (aA tN):=by w_on
theorem sc_run_product:FnScope ["low","high","answer","number","middle"] ["low","high"] (aA tO):=by w_on
theorem sc_choices:FnScope ["one","other","few"] ["one","other"] (aA tP):=by w_on
theorem Nf:FnScope ["form","least"] ["form","least"] (aA tQ):=by w_on
theorem sc_check_choose:FnScope ["upper","lower","low"] ["upper","lower"] (aA tR):=by w_on
theorem Ng:FnScope ["fraction"] ["fraction"] (aA tS):=by w_on
theorem Nh:FnScope ["part"] ["part"] (aA tT):=by w_on
theorem sc_product:FnScope ["fractions","top","bottom","fraction","left","right"] ["fractions"] (aA tU):=by w_on
theorem Ni:FnScope ["_law_script","_law_k"] ["_law_script","_law_k"] (aA tV):=by w_on
theorem Nj:FnScope ["_law_cell","_law_most"] ["_law_cell","_law_most"] (aA tW):=by w_on
theorem Nk:FnScope ["_law_found"] ["_law_found"] (aA tX):=by w_on
theorem sc__law_divisor:FnScope ["_law_one","_law_other","_law_rest"] ["_law_one","_law_other"] (aA tY):=by w_on
theorem sc__law_mixed:FnScope ["_law_cell","_law_k","_law_number_here","_law_time"] ["_law_cell","_law_k"] (aA tZ):=by w_on
theorem sc__law_forms:FnScope ["_law_one","_law_other","_law_most","_law_high","_law_low"] ["_law_one","_law_other","_law_most"] (aA t6):=by w_on
theorem sc__law_ratio:FnScope ["_law_one","_law_other","_law_top","_law_number_here","_law_bottom","_law_by"] ["_law_one","_law_other"] (aA t7):=by w_on
theorem sc__law_part:FnScope ["_law_cells","_law_most","_law_way"] ["_law_cells","_law_most"] (aA t8):=by w_on
theorem sc__law_parts:FnScope ["_law_script","_law_mosts","_law_found","_law_k","_law_part_here"] ["_law_script","_law_mosts"] (aA t9):=by w_on
theorem Nl:FnScope ["_law_form","_law_n","_law_k"] ["_law_form","_law_n","_law_k"] (aA t_):=by w_on
theorem sc__law_raised:FnScope ["_law_fraction","_law_many","_law_top","_law_bottom","_law_time"] ["_law_fraction","_law_many"] (aA ua):=by w_on
theorem Nm:FnScope ["_law_found","_law_due_here"] ["_law_found","_law_due_here"] (aA ub):=by w_on
theorem Nn:FnScope ["_law_part_here"] ["_law_part_here"] (aA uc):=by w_on
theorem sc__law_is_dict:FnScope ["_law_found","_law_powers","_law_number_here"] ["_law_found"] (aA ue):=by w_on
theorem sc__law_is_frame:FnScope ["_law_found","_law_far","_law_some"] ["_law_found","_law_far"] (aA uf):=by w_on
theorem sc__law_pair_at:FnScope ["_law_some","_law_n","_law_k","_law_most","_law_powers","_law_lists","_law_time","_law_found","_law_number_here"] ["_law_some","_law_n","_law_k"] (aA ug):=by w_on
theorem sc__law_rise:FnScope ["_law_x","_law_low","_law_high","_law_found","_law_t"] ["_law_x","_law_low","_law_high"] (aA uh):=by w_on
theorem sc__law_choose:FnScope ["_law_part_here","_law_far","_law_n","_law_k","_law_upper","_law_found","_law_up","_law_down","_law_low","_law_x","_law_more","_law_last"] ["_law_part_here","_law_far","_law_n","_law_k"] (aA ui):=by w_on
theorem sc__law_due:FnScope ["_law_part_here","_law_far","_law_n","_law_k","_law_found","_law_i"] ["_law_part_here","_law_far","_law_n","_law_k"] (aA uj):=by w_on
theorem sc__law_floor:FnScope ["_law_part_here","_law_far","_law_n","_law_k","_law_top","_law_bottom","_law_below","_law_low","_law_x"] ["_law_part_here","_law_far","_law_n","_law_k"] (aA uk):=by w_on
theorem sc__law_meets:FnScope ["_law_parts_here","_law_frame","_law_term","_law_far","_law_n","_law_k","_law_due_here","_law_floor_here","_law_part_here","_law_more"] ["_law_parts_here","_law_frame","_law_term","_law_far","_law_n","_law_k"] (aA ul):=by w_on
theorem sc__law_alone:FnScope ["_law_part_here","_law_far","_law_n","_law_k","_law_one","_law_frame"] ["_law_part_here","_law_far","_law_n","_law_k"] (aA um):=by w_on
theorem sc__law_plain:FnScope ["_law_far","_law_one"] ["_law_far"] (aA uo):=by w_on
theorem sc_law:FnScope ["_law_script","_law_parts_here","_law_term","_law_far","_law_frame","_law_k","_law_cell","_law_number_here","_law_point","_law_beside","_law_some","_law_other"] ["_law_script"] (aA uq):=by w_on
theorem No:FnScope ["self","i","far"] ["self","i","far"] (aA ur):=by w_on
theorem Np:FnScope ["self","far"] ["self","far"] (aA ut):=by w_on
theorem Nq:FnScope ["self","far"] ["self","far"] (aA uv):=by w_on
theorem Nr:FnScope ["self","n","k","far"] ["self","n","k","far"] (aA uw):=by w_on
theorem Nt:FnScope ["self","upper","lower"] ["self","upper","lower"] (aA ux):=by w_on
theorem Nu:FnScope ["self","far"] ["self","far"] (aA uy):=by w_on
theorem Nv:FnScope ["self","n","k"] ["self","n","k"] (aA uz):=by w_on
theorem sc_Choose_step:FnScope ["self","i","far","factors","low"] ["self","i","far"] (aA uA):=by w_on
theorem sc_Choose_up:FnScope ["self","far","factors","low"] ["self","far"] (aA uB):=by w_on
theorem sc_Choose_down:FnScope ["self","far","factors","low"] ["self","far"] (aA uC):=by w_on
theorem sc_Choose_floor:FnScope ["self","n","k","far","above","below"] ["self","n","k","far"] (aA uD):=by w_on
theorem Nw:FnScope ["self","form"] ["self","form"] (aA uE):=by w_on
theorem Nx:FnScope ["self","n","k"] ["self","n","k"] (aA uF):=by w_on
theorem Ny:FnScope ["self","i","far"] ["self","i","far"] (aA uG):=by w_on
theorem NA:FnScope ["self","fraction"] ["self","fraction"] (aA uH):=by w_on
theorem NB:FnScope ["self","n","k"] ["self","n","k"] (aA uJ):=by w_on
theorem NC:FnScope ["self","far"] ["self","far"] (aA uK):=by w_on
theorem ND:FnScope ["self","far"] ["self","far"] (aA uL):=by w_on
theorem NE:FnScope ["self","n","k","far"] ["self","n","k","far"] (aA uM):=by w_on
theorem NF:FnScope ["self","fraction"] ["self","fraction"] (aA uN):=by w_on
theorem NG:FnScope ["self","n","k"] ["self","n","k"] (aA uO):=by w_on
theorem NH:FnScope ["self","i","far"] ["self","i","far"] (aA uP):=by w_on
theorem NI:FnScope ["self","n","k","far"] ["self","n","k","far"] (aA uQ):=by w_on
theorem NJ:FnScope ["self","parts"] ["self","parts"] (aA uR):=by w_on
theorem NK:FnScope ["self","n","k"] ["self","n","k"] (aA uS):=by w_on
theorem NL:FnScope ["self","n","k","far"] ["self","n","k","far"] (aA uT):=by w_on
theorem sc_Term_frame:FnScope ["self","far","steps","up","down"] ["self","far"] (aA uU):=by w_on
set_option genInjectivity false in
set_option genSizeOf false in
structure Tx (K:W.Frag) (mg:Str->Option Value) where
 Rs:Addr
 Rt:FuncData
 Ru:Fun K "bare" "bare" tD Rs Rt
 Up:mg "bare" = some (.ref Rs)
 Uq:Binds K Rt ["pair"] []
 Rv:Addr
 Rw:FuncData
 Ur:Fun K "pair_times" "pair_times" tE Rv Rw
 VI:mg "pair_times" = some (.ref Rv)
 VJ:Binds K Rw ["one","other"] []
 Rx:Addr
 Ry:FuncData
 Rz:Fun K "pair_of_form" "pair_of_form" tF Rx Ry
 Us:mg "pair_of_form" = some (.ref Rx)
 Ut:Binds K Ry ["form"] []
 RA:Addr
 RB:FuncData
 QC:Fun K "pair_product" "pair_product" tG RA RB
 QJ:mg "pair_product" = some (.ref RA)
 QK:Binds K RB ["pairs"] []
 RC:Addr
 RD:FuncData
 Rb:Fun K "divisor" "divisor" tH RC RD
 RE:mg "divisor" = some (.ref RC)
 RF:Binds K RD ["one","other"] []
 RG:Addr
 RH:FuncData
 Uu:Fun K "ratio" "ratio" tI RG RH
 VL:mg "ratio" = some (.ref RG)
 VM:Binds K RH ["top","bottom"] []
 RI:Addr
 RJ:FuncData
 Rc:Fun K "form_value" "form_value" tJ RI RJ
 RK:mg "form_value" = some (.ref RI)
 RL:Binds K RJ ["form","n","k"] []
 RM:Addr
 RN:FuncData
 Re:Fun K "raised" "raised" tK RM RN
 RO:mg "raised" = some (.ref RM)
 RP:Binds K RN ["form","by"] []
 RQ:Addr
 RS:FuncData
 QL:Fun K "raised_from" "raised_from" tL RQ RS
 QU:mg "raised_from" = some (.ref RQ)
 QV:Binds K RS ["form","low","high"] []
 RT:Addr
 RU:FuncData
 RV:Fun K "low_forms" "low_forms" tM RT RU
 Uv:mg "low_forms" = some (.ref RT)
 Uw:Binds K RU ["upper","lower"] []
 RW:Addr
 RX:FuncData
 Qs:Fun K "power_of" "power_of" tN RW RX
 Qu:mg "power_of" = some (.ref RW)
 Qv:Binds K RX ["number","exponent"] []
 RY:Addr
 RZ:FuncData
 QD:Fun K "run_product" "run_product" tO RY RZ
 QW:mg "run_product" = some (.ref RY)
 QX:Binds K RZ ["low","high"] []
 R0:Addr
 R1:FuncData
 Ux:Fun K "choices" "choices" tP R0 R1
 VN:mg "choices" = some (.ref R0)
 VO:Binds K R1 ["one","other"] []
 R3:Addr
 R4:FuncData
 R5:Fun K "within" "within" tQ R3 R4
 Uy:mg "within" = some (.ref R3)
 Uz:Binds K R4 ["form","least"] []
 R6:Addr
 R7:FuncData
 UA:Fun K "check_choose" "check_choose" tR R6 R7
 VP:mg "check_choose" = some (.ref R6)
 VQ:Binds K R7 ["upper","lower"] []
 R8:Addr
 R9:FuncData
 R_:Fun K "check_base" "check_base" tS R8 R9
 UB:mg "check_base" = some (.ref R8)
 UC:Binds K R9 ["fraction"] []
 Sa:Addr
 Sb:FuncData
 UD:Fun K "piece_of" "piece_of" tT Sa Sb
 VR:mg "piece_of" = some (.ref Sa)
 VS:Binds K Sb ["part"] []
 Sc:Addr
 Sd:FuncData
 Se:Fun K "product" "product" tU Sc Sd
 UE:mg "product" = some (.ref Sc)
 UF:Binds K Sd ["fractions"] []
 Sf:Addr
 Sg:FuncData
 Rf:Fun K "_law_cell_at" "_law_cell_at" tV Sf Sg
 Sh:mg "_law_cell_at" = some (.ref Sf)
 Si:Binds K Sg ["_law_script","_law_k"] []
 Sj:Addr
 Sk:FuncData
 Sl:Fun K "_law_number" "_law_number" tW Sj Sk
 UG:mg "_law_number" = some (.ref Sj)
 UH:Binds K Sk ["_law_cell","_law_most"] []
 Sm:Addr
 Sn:FuncData
 QM:Fun K "_law_whole" "_law_whole" tX Sm Sn
 QY:mg "_law_whole" = some (.ref Sm)
 QZ:Binds K Sn ["_law_found"] []
 So:Addr
 Sq:FuncData
 Sr:Fun K "_law_divisor" "_law_divisor" tY So Sq
 UI:mg "_law_divisor" = some (.ref So)
 UJ:Binds K Sq ["_law_one","_law_other"] []
 Ss:Addr
 Su:FuncData
 Qt:Fun K "_law_mixed" "_law_mixed" tZ Ss Su
 Qw:mg "_law_mixed" = some (.ref Ss)
 Qx:Binds K Su ["_law_cell","_law_k"] []
 Sv:Addr
 Sw:FuncData
 UK:Fun K "_law_forms" "_law_forms" t6 Sv Sw
 VT:mg "_law_forms" = some (.ref Sv)
 VU:Binds K Sw ["_law_one","_law_other","_law_most"] []
 Sx:Addr
 Sy:FuncData
 Sz:Fun K "_law_ratio" "_law_ratio" t7 Sx Sy
 UL:mg "_law_ratio" = some (.ref Sx)
 UM:Binds K Sy ["_law_one","_law_other"] []
 SA:Addr
 SB:FuncData
 UN:Fun K "_law_part" "_law_part" t8 SA SB
 VW:mg "_law_part" = some (.ref SA)
 VX:Binds K SB ["_law_cells","_law_most"] []
 SC:Addr
 SD:FuncData
 UO:Fun K "_law_parts" "_law_parts" t9 SC SD
 VY:mg "_law_parts" = some (.ref SC)
 VZ:Binds K SD ["_law_script","_law_mosts"] []
 SE:Addr
 SF:FuncData
 QN:Fun K "_law_at" "_law_at" t_ SE SF
 Q0:mg "_law_at" = some (.ref SE)
 Q1:Binds K SF ["_law_form","_law_n","_law_k"] []
 SG:Addr
 SH:FuncData
 QO:Fun K "_law_raised" "_law_raised" ua SG SH
 Q2:mg "_law_raised" = some (.ref SG)
 Q3:Binds K SH ["_law_fraction","_law_many"] []
 SI:Addr
 SJ:FuncData
 UP:Fun K "_law_alike" "_law_alike" ub SI SJ
 V0:mg "_law_alike" = some (.ref SI)
 V1:Binds K SJ ["_law_found","_law_due_here"] []
 SK:Addr
 SL:FuncData
 UQ:Fun K "_law_made" "_law_made" uc SK SL
 V2:mg "_law_made" = some (.ref SK)
 V3:Binds K SL ["_law_part_here"] []
 SM:Addr
 SN:FuncData
 Rg:Fun K "_law_is_dict" "_law_is_dict" ue SM SN
 SO:mg "_law_is_dict" = some (.ref SM)
 SQ:Binds K SN ["_law_found"] []
 SR:Addr
 SS:FuncData
 SU:Fun K "_law_is_frame" "_law_is_frame" uf SR SS
 UR:mg "_law_is_frame" = some (.ref SR)
 US:Binds K SS ["_law_found","_law_far"] []
 SV:Addr
 SW:FuncData
 UT:Fun K "_law_pair_at" "_law_pair_at" ug SV SW
 V4:mg "_law_pair_at" = some (.ref SV)
 V5:Binds K SW ["_law_some","_law_n","_law_k"] []
 SX:Addr
 SY:FuncData
 Qy:Fun K "_law_rise" "_law_rise" uh SX SY
 QE:mg "_law_rise" = some (.ref SX)
 QF:Binds K SY ["_law_x","_law_low","_law_high"] []
 SZ:Addr
 S0:FuncData
 UU:Fun K "_law_choose" "_law_choose" ui SZ S0
 V6:mg "_law_choose" = some (.ref SZ)
 V7:Binds K S0 ["_law_part_here","_law_far","_law_n","_law_k"] []
 S1:Addr
 S2:FuncData
 UV:Fun K "_law_due" "_law_due" uj S1 S2
 V8:mg "_law_due" = some (.ref S1)
 V9:Binds K S2 ["_law_part_here","_law_far","_law_n","_law_k"] []
 S3:Addr
 S4:FuncData
 UW:Fun K "_law_floor" "_law_floor" uk S3 S4
 V_:mg "_law_floor" = some (.ref S3)
 Wa:Binds K S4 ["_law_part_here","_law_far","_law_n","_law_k"] []
 S5:Addr
 S6:FuncData
 Rh:Fun K "_law_meets" "_law_meets" ul S5 S6
 S7:mg "_law_meets" = some (.ref S5)
 S8:Binds K S6 ["_law_parts_here","_law_frame","_law_term","_law_far","_law_n","_law_k"] []
 S9:Addr
 S_:FuncData
 UX:Fun K "_law_alone" "_law_alone" um S9 S_
 Wb:mg "_law_alone" = some (.ref S9)
 Wc:Binds K S_ ["_law_part_here","_law_far","_law_n","_law_k"] []
 Ta:Addr
 Tb:FuncData
 UY:Fun K "_law_plain" "_law_plain" uo Ta Tb
 Wd:mg "_law_plain" = some (.ref Ta)
 We:Binds K Tb ["_law_far"] []
 Q4:Addr
 QP:FuncData
 Wf:Fun K "law" "law" uq Q4 QP
 Xe:mg "law" = some (.ref Q4)
 Xf:Binds K QP ["_law_script"] []
 Ri:Addr
 Tc:FuncData
 Wg:Fun K "step" "Part.step" ur Ri Tc
 Rj:Binds K Tc ["self","i","far"] []
 Q5:Addr
 Td:FuncData
 Wh:Fun K "up" "Part.up" ut Q5 Td
 Q6:Binds K Td ["self","far"] []
 Q7:Addr
 Te:FuncData
 Wi:Fun K "down" "Part.down" uv Q7 Te
 Q8:Binds K Te ["self","far"] []
 Rk:Addr
 Tf:FuncData
 Wj:Fun K "floor" "Part.floor" uw Rk Tf
 Tg:Binds K Tf ["self","n","k","far"] []
 Th:Addr
 Ti:FuncData
 Wk:Fun K "__init__" "Choose.__init__" ux Th Ti
 UZ:Binds K Ti ["self","upper","lower"] []
 Tj:Addr
 Tk:FuncData
 Wl:Fun K "lifted" "Choose.lifted" uy Tj Tk
 Tl:Binds K Tk ["self","far"] []
 Tn:Addr
 To:FuncData
 Wm:Fun K "worth" "Choose.worth" uz Tn To
 Wn:Binds K To ["self","n","k"] []
 Tp:Addr
 Tq:FuncData
 Wo:Fun K "step" "Choose.step" uA Tp Tq
 U0:Binds K Tq ["self","i","far"] []
 Ts:Addr
 Tt:FuncData
 Wp:Fun K "up" "Choose.up" uB Ts Tt
 U1:Binds K Tt ["self","far"] []
 Tu:Addr
 Tv:FuncData
 Wq:Fun K "down" "Choose.down" uC Tu Tv
 U4:Binds K Tv ["self","far"] []
 Tw:Addr
 Tz:FuncData
 Wr:Fun K "floor" "Choose.floor" uD Tw Tz
 TB:Binds K Tz ["self","n","k","far"] []
 TC:Addr
 TD:FuncData
 Ws:Fun K "__init__" "Weight.__init__" uE TC TD
 U5:Binds K TD ["self","form"] []
 TF:Addr
 TH:FuncData
 Wt:Fun K "worth" "Weight.worth" uF TF TH
 Wu:Binds K TH ["self","n","k"] []
 TJ:Addr
 TK:FuncData
 Wv:Fun K "step" "Weight.step" uG TJ TK
 U6:Binds K TK ["self","i","far"] []
 TM:Addr
 TN:FuncData
 Ww:Fun K "__init__" "Power.__init__" uH TM TN
 U7:Binds K TN ["self","fraction"] []
 TQ:Addr
 TR:FuncData
 Wx:Fun K "worth" "Power.worth" uJ TQ TR
 U8:Binds K TR ["self","n","k"] []
 TU:Addr
 TV:FuncData
 Wy:Fun K "up" "Power.up" uK TU TV
 U9:Binds K TV ["self","far"] []
 TW:Addr
 TX:FuncData
 Wz:Fun K "down" "Power.down" uL TW TX
 U_:Binds K TX ["self","far"] []
 TY:Addr
 TZ:FuncData
 WA:Fun K "floor" "Power.floor" uM TY TZ
 Va:Binds K TZ ["self","n","k","far"] []
 T1:Addr
 T4:FuncData
 WB:Fun K "__init__" "Growth.__init__" uN T1 T4
 Vb:Binds K T4 ["self","fraction"] []
 T5:Addr
 T6:FuncData
 WC:Fun K "worth" "Growth.worth" uO T5 T6
 WD:Binds K T6 ["self","n","k"] []
 T7:Addr
 T8:FuncData
 WE:Fun K "step" "Growth.step" uP T7 T8
 Vc:Binds K T8 ["self","i","far"] []
 T9:Addr
 T_:FuncData
 WF:Fun K "floor" "Growth.floor" uQ T9 T_
 Vd:Binds K T_ ["self","n","k","far"] []
 Ua:Addr
 Ub:FuncData
 WG:Fun K "__init__" "Term.__init__" uR Ua Ub
 WH:Binds K Ub ["self","parts"] []
 Uc:Addr
 Ud:FuncData
 WI:Fun K "worth" "Term.worth" uS Uc Ud
 Xg:Binds K Ud ["self","n","k"] []
 Ue:Addr
 Uf:FuncData
 WJ:Fun K "floor" "Term.floor" uT Ue Uf
 WK:Binds K Uf ["self","n","k","far"] []
 Ug:Addr
 Uh:FuncData
 WL:Fun K "frame" "Term.frame" uU Ug Uh
 Ui:Binds K Uh ["self","far"] []
 Uj:Addr
 WM:mg "NoNumber" = some (.ref Uj)
 WN:PySem.W.excIn K Uj bmV "ValueError.__new__" = true
 Ve:Addr
 Rl:mg "NoTerm" = some (.ref Ve)
 Rm:PySem.W.excIn K Ve bmV "ValueError.__new__" = true
 Qg:Addr
 Vf:mg "Choose" = some (.ref Qg)
 Qk:Cls K Qg
 Vg:Mk K Qg Th
 Uk:Meth K Qg "lifted" Tj
 WO:Meth K Qg "worth" Tn
 Vh:Meth K Qg "step" Tp
 Vi:Meth K Qg "up" Ts
 Vj:Meth K Qg "down" Tu
 Ul:Meth K Qg "floor" Tw
 QQ:NoAttr K Qg "above"
 Um:NoAttr K Qg "lows"
 WP:OCl K Qg
 Qh:Addr
 Vk:mg "Growth" = some (.ref Qh)
 Ql:Cls K Qh
 Vl:Mk K Qh T1
 WQ:Meth K Qh "worth" T5
 Vm:Meth K Qh "step" T7
 Vn:Meth K Qh "floor" T9
 Vo:Meth K Qh "down" Q7
 Vp:Meth K Qh "up" Q5
 QG:NoAttr K Qh "fraction"
 WR:OCl K Qh
 Qo:Addr
 Vq:mg "Part" = some (.ref Qo)
 Q9:Cls K Qo
 Vr:Meth K Qo "step" Ri
 WS:Meth K Qo "up" Q5
 WT:Meth K Qo "down" Q7
 WU:Meth K Qo "floor" Rk
 WV:Mk0 K Qo
 Qi:Addr
 Vs:mg "Power" = some (.ref Qi)
 Qp:Cls K Qi
 Vt:Mk K Qi TM
 Vu:Meth K Qi "worth" TQ
 Vv:Meth K Qi "up" TU
 Vw:Meth K Qi "down" TW
 Vx:Meth K Qi "floor" TY
 Vy:Meth K Qi "step" Ri
 Q_:NoAttr K Qi "fraction"
 WW:OCl K Qi
 Qm:Addr
 WX:mg "Term" = some (.ref Qm)
 Qr:Cls K Qm
 WY:Mk K Qm Ua
 Xh:Meth K Qm "worth" Uc
 WZ:Meth K Qm "floor" Ue
 Uo:Meth K Qm "frame" Ug
 W0:NoAttr K Qm "parts"
 QR:NoAttr K Qm "pieces"
 Qj:Addr
 Vz:mg "Weight" = some (.ref Qj)
 Qq:Cls K Qj
 VA:Mk K Qj TC
 W1:Meth K Qj "worth" TF
 VB:Meth K Qj "step" TJ
 VC:Meth K Qj "down" Q7
 VD:Meth K Qj "floor" Rk
 VE:Meth K Qj "up" Q5
 Rn:NoAttr K Qj "form"
 W4:OCl K Qj
 W5:PySem.W.kitOne K (.ref Qg) (.ref Qo)=some true
 W6:PySem.W.kitOne K (.ref Qj) (.ref Qo)=some true
 W7:PySem.W.kitOne K (.ref Qi) (.ref Qo)=some true
 W8:PySem.W.kitOne K (.ref Qh) (.ref Qo)=some true
 Ra:mg "dict" = none
 QH:mg "abs" = none
 Qn:mg "range" = none
 Ro:mg "min" = none
 W9:mg "all" = none
 VF:mg "zip" = none
 Qz:mg "len" = none
 QB:mg "isinstance" = none
 W_:mg "int" = none
 Xa:mg "bool" = none
 QS:mg "tuple" = none
 VG:mg "list" = none
 QI:mg "max" = none
 VH:mg "enumerate" = none
 Xb:{ t:Tok // mg "LONG" = some (.int 4000 t) }
 Xc:{ t:Tok // mg "FEW" = some (.int 16 t) }
 Xd:{ t:Tok // mg "MOST_PARTS" = some (.int 6 t) }
 Rp:{ u:Addr // mg "GREATEST" = some (.ref u)∧∀H:Hp,SqT K H u [.int (3),.int (3),.int (9)] }
 Rq:{ u:Addr // mg "UPPER_LEAST" = some (.ref u)∧∀H:Hp,SqT K H u [.int (0),.int (0),.int (0)] }
 Rr:{ u:Addr // mg "LOWER_LEAST" = some (.ref u)∧∀H:Hp,SqT K H u [.int (-3),.int (-3),.int (-9)] }
theorem FC (a:Int):(if a<0 then -a else a)=((a.natAbs:Nat):Int):=by split <;> omega
def NM:Sp:=λvs H Q _=>∃a b:Int,vs=[.int a,.int b]∧b.natAbs<2 ^ 4000∧Q (.int (aU a.natAbs b.natAbs:Nat)) H
theorem NN {b:Int}(h:b.natAbs<2 ^ 4000):¬(4000:Int)<((Builtin.Int.intBits ((b.natAbs:Nat):Int):Nat):Int):=by
 have:=y8 (i:=((b.natAbs:Nat):Int)) (k:=4000) (by rw[dN];exact h);omega
theorem zF {P:Program}{w:World}{K:W.Frag}{mg:Str->Option Value}{base:Heap}(T:Tx K mg):FnOk P w K mg base CX0 1 T.RC T.RD ["one","other"] NM:=by
 refine T.Rb.ok sc_divisor (λvs H Q E h=>?_) (λcdv A outer s H vs Q E hr h=>?_)
 ·obtain⟨a,b,rfl,_⟩:=h;rfl
 obtain⟨a,b,rfl,hb,q⟩:=h;refine⟨_,((am (ax (i:=2) sc_divisor.nd rfl (Or.inl rfl) (a0 fW rfl T.QH f9 (aa (pv 0) ae)))
  (am (ax (i:=3) sc_divisor.nd rfl (Or.inl rfl) (a0 fW rfl T.QH f9 (aa (pv 1) ae)))
  (am (yL PassesOwn.never (aD fV (yY PySem.F.plainAttrs_int PySem.F.slot_int_bit_length PySem.F.type_int_bit_length Ko (pv 3)) (fS (v:=.int 4000) rfl T.Xb.2 ⟨_,rfl⟩) (aC _)) Du)
  (am (yL PassesOwn.never (aD fo (pv 3) ac (aC _)) (am (ax (i:=5) sc_divisor.nd rfl (Or.inl rfl) (ag aZ (pv 2) (pv 3)))
  (am (ax (i:=2) sc_divisor.nd rfl (Or.inl rfl) (pv 3))
  (ak (ax (i:=3) sc_divisor.nd rfl (Or.inl rfl) (pv 5))))))
  (ak (av (pv 2)))))))),?_⟩
 (iterate 3 (k_units;(try simp only[FC]));k_units)
 refine y9 (λm σ H'=>σ=[some (V.int a),some (V.int b),some (V.int a.natAbs),some (V.int b.natAbs),none,none]∧H'=H) 0 ⟨rfl,rfl⟩ ?_
 rintro m σ H' ⟨rfl,rfl⟩
 k_units
 rw[if_neg (NN hb)];refine y9 (λm σ H1=>∃(x y:Nat) (r:Option V),σ=[some (V.int a),some (V.int b),some (.int x),some (.int y),none,r]∧H1=H'∧m=y∧aU x y=aU a.natAbs b.natAbs) b.natAbs ⟨a.natAbs,b.natAbs,none,rfl,rfl,rfl,rfl⟩ ?_
 rintro m σ H1 ⟨x,y,r,rfl,rfl,rfl,hg⟩
 k_units
 refine bC (λh=>?_) (λh=>?_)
 ·refine⟨λσ' H2=>σ'=[some (V.int a),some (V.int b),some (V.int m),some (V.int ((x:Int) % (m:Int))),none,some (V.int ((x:Int) % (m:Int)))]∧H2=H1,?_,by omega,rfl,rfl⟩
  rintro σ' H2 ⟨rfl,rfl⟩
  refine⟨x % m,Nat.mod_lt _ (by omega),m,x % m,_,by rw[←Int.natCast_emod],rfl,rfl,?_⟩;rw[As m,←Nat.gcd_rec,As];exact hg
 ·have h0:m=0:=by omega
  subst h0;rw[Nat.gcd_zero_right]at hg;rw[hg];exact q
def NO:Sp:=λvs H Q _=>∃a b:Int,vs=[.int a,.int b]∧Q (.int (aU a.natAbs b.natAbs:Nat)) H
theorem FD {P:Program}{w:World}{K:W.Frag}{mg:Str->Option Value}{base:Heap}(T:Tx K mg):FnOk P w K mg base CX0 1 T.So T.Sq ["_law_one","_law_other"] NO:=by
 refine T.Sr.ok sc__law_divisor (λvs H Q E h=>?_) (λcdv A outer s H vs Q E hr h=>?_)
 ·obtain⟨a,b,rfl,_⟩:=h;rfl
 obtain⟨a,b,rfl,q⟩:=h;refine⟨_,((am (ax (i:=0) sc__law_divisor.nd rfl (Or.inl rfl) (a0 fW rfl T.QH f9 (aa (pv 0) ae)))
  (am (ax (i:=1) sc__law_divisor.nd rfl (Or.inl rfl) (a0 fW rfl T.QH f9 (aa (pv 1) ae)))
  (am (yL PassesOwn.never (aD fo (pv 0) ac (aC _)) (am (ax (i:=2) sc__law_divisor.nd rfl (Or.inl rfl) (ag aZ (pv 1) (pv 0)))
  (am (ax (i:=1) sc__law_divisor.nd rfl (Or.inl rfl) (pv 0))
  (ak (ax (i:=0) sc__law_divisor.nd rfl (Or.inl rfl) (pv 2))))))
  (ak (av (pv 1))))))),?_⟩
 (iterate 3 (k_units;(try simp only[FC]));k_units)
 refine y9 (λm σ H'=>∃(x y:Nat) (r:Option V),σ=[some (.int x),some (.int y),r]∧H'=H∧m=x∧aU x y=aU a.natAbs b.natAbs) a.natAbs ⟨a.natAbs,b.natAbs,none,rfl,rfl,rfl,rfl⟩ ?_
 rintro m σ H' ⟨x,y,r,rfl,rfl,rfl,hg⟩
 k_units
 refine bC (λh=>?_) (λh=>?_)
 ·refine⟨λσ' H1=>σ'=[some (V.int ((y:Int) % (m:Int))),some (V.int m),some (V.int ((y:Int) % (m:Int)))]∧H1=H',?_,by omega,rfl,rfl⟩
  rintro σ' H1 ⟨rfl,rfl⟩
  refine⟨y % m,Nat.mod_lt _ (by omega),y % m,m,_,by rw[←Int.natCast_emod],rfl,rfl,?_⟩;rw[←Nat.gcd_rec];exact hg
 ·have h0:m=0:=by omega
  subst h0;rw[Nat.gcd_zero_left]at hg;rw[hg];exact q
def mkT (H:Hp)(Q:VK)(x y:Int):Prop:=∀p,H p=none->Q (.ref p) (upd H p (.tup [.int x,.int y]))
theorem FE {k:Nat}{x y:Int}(h:x.natAbs<=y.natAbs)(b:Bd k y):Bd k x:=cr h b
def NP (c:Addr):Sp:=λvs H Q E=>∃t b:Int,vs=[.int t,.int b]∧Bd 3000 b∧
 ((b≠0∧∀x y:Int,1<=y->aU x.natAbs y.natAbs=1->x*b=t*y->x.natAbs<=t.natAbs->y.natAbs<=b.natAbs->mkT H Q x y)∨(b=0∧E (.ref c) none H))
theorem NQ {P:Program}{w:World}{K:W.Frag}{mg:Str->Option Value}{base:Heap}(T:Tx K mg):FnOk P w K mg base (CXE P w) 2 T.RG T.RH ["top","bottom"] (NP T.Uj):=by
 refine T.Uu.okE sc_ratio (λvs H Q E h=>?_) (λcdv A outer s H vs Q E hr h=>?_)
 ·obtain⟨t,b,rfl,_⟩:=h;rfl
 obtain⟨t,b,rfl,hb,q⟩:=h;refine⟨_,((am (aF (PT.nox (aD br (pv 1) ac (aC _))) (ak (jc rfl jb rfl T.WM T.WN (aa bX ae))) aG)
  (am (PS.nox (ax (i:=2) sc_ratio.nd rfl (Or.inl rfl) (au (FnOk.mono (zF T) (by decide)) hr rfl T.RE T.Rb.kp T.RF .nil ai (aa (pv 0) (aa (pv 1) ae)))))
  (am (PS.nox (aF (aD dw (pv 1) ac (aC _)) (ak (ax (i:=2) sc_ratio.nd rfl (Or.inl rfl) (pw pB (pv 2)))) aG))
  (ak (PS.nox (av (aK (aa (ag eo (pv 0) (pv 2)) (aa (ag eo (pv 1) (pv 2)) ae)))))))))),?_⟩
 k_units
 refine bC (λh0=>?_) (λh0=>?_)
 ·rcases q with ⟨hn,_⟩|⟨_,q⟩
  ·exact absurd h0 hn
  ·exact⟨by decide,q⟩
 ·obtain⟨hn,q⟩:=q.resolve_right λz=>h0 z.1;refine⟨t,b,rfl,a_ hb (d6 (by decide) (by decide)),?_⟩;have small:∀s:Int,s.natAbs=aU t.natAbs b.natAbs->s.natAbs<2 ^ 9000:=λs e=>by
   rw[e];exact cr (At _ (by omega)) (a_ hb (d6 (by decide) (by decide)))
  have fin:∀s:Int,(s=if b<0 then -((aU t.natAbs b.natAbs:Nat):Int) else ((aU t.natAbs b.natAbs:Nat):Int))->(s≠0∧s.natAbs<2 ^ 9000)∧(s≠0∧s.natAbs<2 ^ 9000)∧mkT H Q (t.fdiv s) (b.fdiv s):=λs e=>by
   obtain⟨g1,g2,g3,g4,g5,g6⟩:=Fk hn e;refine⟨⟨g1,small s g2⟩,⟨g1,small s g2⟩,q _ _ g5 g6 ?_ (sr g1 g3) (sr g1 g4)⟩;rw[jQ,g4,dJ,←g4];generalize b.fdiv s=y at *;generalize t.fdiv s=x at *;rw[g3,dJ,jQ x y]
  refine bC (λhneg=>?_) (λhneg=>?_)
  ·obtain⟨f1,f2,f3⟩:=fin _ (by rw[if_pos hneg]);exact⟨_,rfl,f1.1,f1.2,f2.1,f2.2,by decide,f3⟩
  ·obtain⟨f1,f2,f3⟩:=fin _ (by rw[if_neg hneg]);exact⟨_,rfl,f1.1,f1.2,_,rfl,f2.1,f2.2,by decide,f3⟩
def NR (K:W.Frag):Sp:=λvs H Q _=>∃(p:Addr) (a b c n k:Int),vs=[.ref p,.int n,.int k]∧SqT K H p [.int a,.int b,.int c]∧Bd 400 a∧Bd 400 b∧Bd 20 n∧Bd 20 k∧Q (.int (a*n+b*k+c)) H
theorem zG {P:Program}{w:World}{K:W.Frag}{mg:Str->Option Value}{base:Heap}(T:Tx K mg):FnOk P w K mg base CX0 1 T.RI T.RJ ["form","n","k"] (NR K):=by
 refine T.Rc.ok Na (λvs H Q E h=>?_) (λcdv A outer s H vs Q E hr h=>?_)
 ·obtain⟨p,a,b,c,n,k,rfl,_⟩:=h;rfl
 obtain⟨p,a,b,c,n,k,rfl,hp,ba,bb,bn,bk,q⟩:=h;refine⟨_,((ak (av (ag aI (ag aI (ag aT (ah aj (pv 0) ac (λ_ _=>rfl)) (pv 1)) (ag aT (ah aj (pv 0) ac (λ_ _=>rfl)) (pv 2))) (ah aj (pv 0) ac (λ_ _=>rfl)))))),?_⟩
 k_units
 exact⟨_,hp,_,rfl,_,rfl,ba.fits bn (by decide),_,hp,_,rfl,_,rfl,bb.fits bk (by decide),_,hp,_,rfl,_,rfl,q⟩
def NS:Sp:=λvs H Q _=>∃(c:Int) (n:Nat),vs=[.int c,.int (n:Int)]∧Bd 100 c∧n<=500∧Q (.int (c ^ n)) H
theorem fI {P:Program}{w:World}{K:W.Frag}{mg:Str->Option Value}{base:Heap}(T:Tx K mg):FnOk P w K mg base CX0 1 T.RW T.RX ["number","exponent"] NS:=by
 refine T.Qs.ok sc_power_of (λvs H Q E h=>?_) (λcdv A outer s H vs Q E hr h=>?_)
 ·obtain⟨c,n,rfl,_⟩:=h;rfl
 obtain⟨c,n,rfl,bc,n5,q⟩:=h;refine⟨_,((am (ax (i:=2) sc_power_of.nd rfl (Or.inl rfl) ac)
  (am (bL PassesOwn.never rfl (cR rfl T.Qn (aa (pv 1) ae)) (aS (i:=3) sc_power_of.nd rfl (Or.inl rfl)) (ak (Dw (i:=2) sc_power_of.nd rfl (Or.inl rfl) (pv 0) EV)))
  (ak (av (pv 2)))))),?_⟩
 k_units
 refine⟨by omega,by omega,?_⟩;rw[dk];have bp:∀n:Nat,Bd (100*n+1) (c ^ n):=λn=>by
  induction n with
  | zero=>rw[gj];exact Bd.one (by decide)
  | succ n ih=>rw[fQ];exact (ih.mul bc).mono (by omega)
 refine eI (λi σ H'=>∃r:Option V,σ=[some (V.int c),some (V.int (n:Int)),some (V.int (c ^ i)),r]∧H'=H) ⟨none,by simp,rfl⟩ ?_ ?_
 ·rintro i σ H' hi ⟨r,rfl,rfl⟩
  k_units
  exact⟨(bp i).fits bc (by omega),(fQ c i).symm,_,rfl⟩
 ·rintro σ H' ⟨r,rfl,rfl⟩
  k_units
  exact q
theorem gF {a:Nat}:∀n:Nat,a+n<2 ^ 13->Bd (13*n+1) ((asc a n:Nat):Int)
 | 0,_=>Bd.one (by decide)
 | n+1,h=>by
  have e:((asc a (n+1):Nat):Int)=((asc a n:Nat):Int)*((a+n+1:Nat):Int):=by
   show ((asc a n*(a+n+1):Nat):Int)=_;rw[g_]
  rw[e];exact ((gF n (by omega)).mul (Bd.of_lt (m:=2 ^ 13) (by omega) (aw _))).mono (by omega)
def NT (d:Nat):Sp:=match d with
 | 0=>λ_ _ _ _=>False
 | d+1=>λvs H Q _=>∃a n:Nat,vs=[.int ((a+1:Nat):Int),.int ((a+n:Nat):Int)]∧n<=16*2 ^ d∧a+n<2 ^ 13∧Q (.int ((asc a n:Nat):Int)) H
theorem sC {P:Program}{w:World}{K:W.Frag}{mg:Str->Option Value}{base:Heap}(T:Tx K mg):∀d:Nat,FnOk P w K mg base CX0 (d+1) T.RY T.RZ ["low","high"] (NT d)
 | 0=>T.QD.ok sc_run_product (λ_ _ _ _ h=>h.elim) (λ_ _ _ _ _ _ _ _ _ h=>h.elim)
 | d+1=>by
  have ih:=sC (P:=P) (w:=w) (base:=base) T d;refine T.QD.ok sc_run_product (λvs H Q E h=>?_) (λcdv A outer s H vs Q E hr h=>?_)
  ·obtain⟨a,n,rfl,_⟩:=h;rfl
  obtain⟨a,n,rfl,hn,h13,q⟩:=h;refine⟨_,((am (aF (aD dw (ag cf (pv 1) (pv 0)) (fS (v:=.int 16) rfl T.Xc.2 ⟨_,rfl⟩) (aC _)) (am (ax (i:=2) sc_run_product.nd rfl (Or.inl rfl) ac)
  (am (bL PassesOwn.never rfl (yO rfl T.Qn (aa (pv 0) (aa (ag aI (pv 1) ac) ae))) (aS (i:=3) sc_run_product.nd rfl (Or.inl rfl)) (ak (Dw (i:=2) sc_run_product.nd rfl (Or.inl rfl) (pv 3) EV)))
  (ak (av (pv 2))))) aG)
  (am (ax (i:=4) sc_run_product.nd rfl (Or.inl rfl) (ag cC (ag aI (pv 0) (pv 1)) ac))
  (ak (av (ag aT (au ih hr rfl T.QW T.QD.kp T.QX .nil ai (aa (pv 0) (aa (pv 4) ae))) (au ih hr rfl T.QW T.QD.kp T.QX .nil ai (aa (ag aI (pv 4) ac) (aa (pv 1) ae))))))))),?_⟩
  k_units
  refine bC (λh=>?_) (λh=>?_)
  ·refine⟨by omega,by omega,by omega,by omega,?_⟩;rw[show (((a+n:Nat):Int)+1-((a+1:Nat):Int)).toNat=n by omega];refine eI (λi σ H'=>∃r:Option V,σ=[some (V.int ((a+1:Nat):Int)),some (V.int ((a+n:Nat):Int)),some (V.int ((asc a i:Nat):Int)),r,none]∧H'=H) ⟨none,rfl,rfl⟩ ?_ ?_
   ·rintro i σ H' hi ⟨r,rfl,rfl⟩
    k_units
    have e:((a+1:Nat):Int)+(i:Int)=((a+i+1:Nat):Int):=by omega
    rw[e];refine⟨(gF i (by omega)).fits (Bd.of_lt (m:=2 ^ 13) (k:=13) (by omega) (aw _)) (by omega),?_,_,rfl⟩;show _=((asc a i*(a+i+1):Nat):Int)
    rw[g_]
   ·rintro σ H' ⟨r,rfl,rfl⟩
    k_units
    exact q
  ·have hn17:17<=n:=by omega
   cases d with
   | zero=>simp at hn;omega
   | succ d'=>
    have p2:2 ^ (d'+1)=2*2 ^ d':=by rw[Ir,Nat.mul_comm]
    rw[p2]at hn;obtain⟨hf,hhf⟩:∃hf:Nat,hf=(n+1) / 2:=⟨_,rfl⟩
    have em:(((a+1:Nat):Int)+((a+n:Nat):Int)) / 2=((a+hf:Nat):Int):=by omega
    rw[em];refine⟨⟨by decide,by decide⟩,a,hf,rfl,by omega,by omega,a+hf,n-hf,?_,by omega,by omega,_,rfl,_,rfl,?_,?_⟩
    ·rw[show a+hf+(n-hf)=a+n by omega];rfl
    ·exact (gF hf (by omega)).fits (gF (n-hf) (by omega)) (by omega)
    ·have e:=jo a hf (n-hf);rw[show hf+(n-hf)=n by omega]at e;rw[←g_,←e];exact q
def NU:Sp:=λvs H Q _=>∃a b:Nat,vs=[.int (a:Int),.int (b:Int)]∧a+b<4000∧Q (.int ((chs (a+b) b:Nat):Int)) H
theorem NV {P:Program}{w:World}{K:W.Frag}{mg:Str->Option Value}{base:Heap}(T:Tx K mg):FnOk P w K mg base CX0 12 T.R0 T.R1 ["one","other"] NU:=by
 refine T.Ux.ok sc_choices (λvs H Q E h=>?_) (λcdv A outer s H vs Q E hr h=>?_)
 ·obtain⟨a,b,rfl,_⟩:=h;rfl
 obtain⟨a,b,rfl,h4,q⟩:=h;refine⟨_,((am (ax (i:=2) sc_choices.nd rfl (Or.inl rfl) (a0 (DL rfl) rfl T.Ro qP (aa (pv 0) (aa (pv 1) ae))))
  (ak (av (ag L8 (au (FnOk.mono (sC T 9) (by decide)) hr rfl T.QW T.QD.kp T.QX .nil ai (aa (ag aI (ag cf (ag aI (pv 0) (pv 1)) (pv 2)) ac) (aa (ag aI (pv 0) (pv 1)) ae))) (au (FnOk.mono (sC T 9) (by decide)) hr rfl T.QW T.QD.kp T.QX .nil ai (aa ac (aa (pv 2) ae)))))))),?_⟩
 k_units
 obtain⟨f,hf⟩:∃f,min a b=f:=⟨_,rfl⟩
 have ei:(if (b:Int)<(a:Int) then (b:Int) else (a:Int))=(f:Int):=by rw[←hf];split <;> omega
 have fle:f<=a+b:=by omega
 rw[ei];refine⟨a+b-f,f,by rw[show (a:Int)+(b:Int)-(f:Int)+1=((a+b-f+1:Nat):Int) by omega,show (a:Int)+(b:Int)=((a+b-f+f:Nat):Int) by omega],aP (show f<=4096 by omega) (by decide),a_ (show a+b-f+f<4096 by omega) (by decide),0,f,by rw[jN,jN];rfl,aP (show f<=4096 by omega) (by decide),a_ (show 0+f<4096 by omega) (by decide),_,rfl,_,rfl,?_,?_⟩
 ·have h1:=gc f (a+b-f);rw[show a+b-f+f=a+b by omega]at h1;have h2:=ss (a+b) f;have h3:=gE f;rw[fH];refine⟨by omega,?_⟩;rw[dN,dN,h1];refine Nat.mul_lt_mul_of_pos_right (cr h2 (tm (by decide) h4)) h3
 ·have e:=MP a b;rw[hf]at e;rw[fH,PY _ (by omega),←Int.natCast_ediv,e];exact q
def Frc (f:Int×Int):Prop:=1<=f.2∧aU f.1.natAbs f.2.natAbs=1
def di (f g:Int×Int):Int×Int:=(f.1.fdiv ((aU f.1.natAbs g.2.natAbs:Nat):Int)*g.1.fdiv ((aU g.1.natAbs f.2.natAbs:Nat):Int),f.2.fdiv ((aU g.1.natAbs f.2.natAbs:Nat):Int)*g.2.fdiv ((aU f.1.natAbs g.2.natAbs:Nat):Int))
theorem ju {x:Int}{l:Nat}(hl:0<l)(h:l∣x.natAbs):∃y:Int,x=(l:Int)*y∧x.fdiv (l:Int)=y∧y.natAbs=x.natAbs / l:=by
 obtain⟨y,hy⟩:(l:Int)∣x:=Int.dvd_natAbs.mp (Int.natCast_dvd_natCast.mpr h);refine⟨y,hy,?_,?_⟩
 ·rw[hy];exact Iw y (by omega)
 ·rw[hy,cP,dN,Nat.mul_div_cancel_left _ hl]
theorem zH {f g:Int×Int}(hf:Frc f)(hg:Frc g):Frc (di f g)∧(di f g).1*(f.2*g.2)=f.1*g.1*(di f g).2∧(di f g).1.natAbs<=f.1.natAbs*g.1.natAbs∧(di f g).2.natAbs<=f.2.natAbs*g.2.natAbs:=by
 obtain⟨f1,f2⟩:=hf;obtain⟨g1,g2⟩:=hg;obtain⟨l,hl⟩:∃l,aU f.1.natAbs g.2.natAbs=l:=⟨_,rfl⟩
 obtain⟨r,hr⟩:∃r,aU g.1.natAbs f.2.natAbs=r:=⟨_,rfl⟩
 have lp:0<l:=by rw[←hl];exact gZ _ (by omega)
 have rp:0<r:=by rw[←hr];exact gZ _ (by omega)
 obtain⟨a,ea,fa,na⟩:=ju (x:=f.1) lp (by rw[←hl];exact g0 _ _);obtain⟨d,ed,fd,nd⟩:=ju (x:=g.2) lp (by rw[←hl];exact g7 _ _);obtain⟨c,ec,fc,nc⟩:=ju (x:=g.1) rp (by rw[←hr];exact g0 _ _);obtain⟨b,eb,fb,nb⟩:=ju (x:=f.2) rp (by rw[←hr];exact g7 _ _);have e:di f g=(a*c,b*d):=by unfold di;rw[hl,hr,fa,fb,fc,fd]
 have bp:1<=b:=by
  have h:=f1;rw[eb]at h;rcases Ao 0 b with z|z
  ·omega
  ·have:=Ix (show (0:Int)<=(r:Int) by omega) z;omega
 have dp:1<=d:=by
  have h:=g1;rw[ed]at h;rcases Ao 0 d with z|z
  ·omega
  ·have:=Ix (show (0:Int)<=(l:Int) by omega) z;omega
 have cp:=MQ (a:=f.1.natAbs) (b:=f.2.natAbs) (c:=g.1.natAbs) (d:=g.2.natAbs) (by omega) (by omega) f2 g2 hl.symm hr.symm;rw[←na,←nb,←nc,←nd]at cp;rw[e];refine⟨⟨?_,?_⟩,?_,?_,?_⟩
 ·have:=Int.mul_le_mul bp dp (by omega) (by omega);show 1<=b*d;omega
 ·show aU (a*c).natAbs (b*d).natAbs=1;rw[cP,cP];exact cp
 ·show a*c*(f.2*g.2)=f.1*g.1*(b*d);rw[ea,eb,ec,ed];grind
 ·show (a*c).natAbs<=_;rw[cP,na,nc];exact dO (tu _ _) (tu _ _)
 ·show (b*d).natAbs<=_;rw[cP,nb,nd];exact dO (tu _ _) (tu _ _)
def bq (fs:List (Int×Int)):Int×Int:=fs.foldl di (1,1)
theorem zI (fs:List (Int×Int))(f:Int×Int):bq (fs++[f])=di (bq fs) f:=by unfold bq;rw[gY];rfl
structure TL (K:W.Frag)(H:Hp)(as:List Addr)(fs:List (Int×Int)):Prop where
 len:as.length=fs.length
 get:∀(i:Nat) (a:Addr) (f:Int×Int),as[i]?=some a->fs[i]?=some f->SqT K H a [.int f.1,.int f.2]
def NW (K:W.Frag):Sp:=λvs H Q _=>∃(A:Addr) (as:List Addr) (fs:List (Int×Int)),vs=[.ref A]∧SqL K H A (as.map V.ref)∧TL K H as fs∧fs.length<=6∧(∃B,B*fs.length<=3900∧B<=3900∧∀f∈fs,Frc f∧Bd 20000 f.1∧Bd B f.2)∧(Frc (bq fs)->mkT H Q (bq fs).1 (bq fs).2)
theorem FF {P:Program}{w:World}{K:W.Frag}{mg:Str->Option Value}{base:Heap}(T:Tx K mg):FnOk P w K mg base CX0 2 T.Sc T.Sd ["fractions"] (NW K):=by
 refine T.Se.ok sc_product (λvs H Q E h=>?_) (λcdv A outer s H vs Q E hr h=>?_)
 ·obtain⟨A,as,fs,rfl,_⟩:=h;rfl
 obtain⟨A,as,fs,rfl,hA,hT,l6,⟨B,hB,hB1,hb⟩,q⟩:=h;refine⟨_,((am (ax (i:=1) sc_product.nd rfl (Or.inl rfl) ac)
  (am (ax (i:=2) sc_product.nd rfl (Or.inl rfl) ac)
  (am (bL PassesOwn.never rfl (bY (pv 0)) (aS (i:=3) sc_product.nd rfl (Or.inl rfl)) (am (ax (i:=4) sc_product.nd rfl (Or.inl rfl) (au (FnOk.mono (zF T) (by decide)) hr rfl T.RE T.Rb.kp T.RF .nil ai (aa (pv 1) (aa (ah aj (pv 3) ac (λ_ _=>rfl)) ae))))
  (am (ax (i:=5) sc_product.nd rfl (Or.inl rfl) (au (FnOk.mono (zF T) (by decide)) hr rfl T.RE T.Rb.kp T.RF .nil ai (aa (ah aj (pv 3) ac (λ_ _=>rfl)) (aa (pv 2) ae))))
  (am (ax (i:=1) sc_product.nd rfl (Or.inl rfl) (ag aT (ag eo (pv 1) (pv 4)) (ag eo (ah aj (pv 3) ac (λ_ _=>rfl)) (pv 5))))
  (ak (ax (i:=2) sc_product.nd rfl (Or.inl rfl) (ag aT (ag eo (pv 2) (pv 5)) (ag eo (ah aj (pv 3) ac (λ_ _=>rfl)) (pv 4)))))))))
  (ak (av (aK (aa (pv 1) (aa (pv 2) ae))))))))),?_⟩
 k_units
 obtain⟨Pv,hPv⟩:∃Pv:Nat->L2.St->Hp->Prop,∀i σ H',Pv i σ H'↔∃r3 r4 r5:Option V,σ=[some (V.ref A),some (V.int (bq (fs.take i)).1),some (V.int (bq (fs.take i)).2),r3,r4,r5]∧H'=H∧Frc (bq (fs.take i))∧Bd (20000*i+1) (bq (fs.take i)).1∧Bd (B*i+1) (bq (fs.take i)).2:=⟨_,λ_ _ _=>Iff.rfl⟩
 have e0:bq (fs.take 0)=(1,1):=by simp[bq]
 refine⟨⟨_,hA⟩,dA (xs:=as.map V.ref) Pv ((hPv _ _ _).mpr ⟨none,none,none,by rw[e0],rfl,by rw[e0];exact⟨Int.le_refl 1,by decide⟩,by rw[e0];exact Bd.one (by decide),by rw[e0];exact Bd.one (Nat.succ_pos _)⟩) (λi σ H' _ z=>by obtain⟨_,_,_,_,z,_⟩:=(hPv i σ H').mp z;rw[z];exact hA) ?_ ?_⟩
 ·intro i v σ H' hv hp;obtain⟨r3,r4,r5,rfl,rfl,F,b1,b2⟩:=(hPv _ _ _).mp hp;rw[aQ]at hv;obtain⟨a,ha,rfl⟩:=cc.mp hv;have hi:=(be.mp ha).1;have hi2:i<fs.length:=by have:=hT.len;omega
  have hBi:B*i+B<=3900:=aP (by rw[←tz];exact P6 _ hi2) hB;have ea:=hT.get i a _ ha (aJ hi2);obtain⟨Fi,c1,c2⟩:=hb _ (eX hi2);have et:bq (fs.take (i+1))=di (bq (fs.take i)) fs[i]:=by rw[←dm hi2,zI]
  generalize bq (fs.take i)=f at F b1 b2 et ⊢;obtain⟨m1,m2,m3,m4⟩:=zH F Fi;have lne:aU f.1.natAbs fs[i].2.natAbs≠0:=P7.mp (gZ _ (by have:=Fi.1;omega));have rne:aU fs[i].1.natAbs f.2.natAbs≠0:=P7.mp (gZ _ (by have:=F.1;omega));have up:∀{k m:Nat}{c:Int},k<=m->Bd k c->c.natAbs<2 ^ m:=λh1 h2=>h2.mono h1;have ls:((aU f.1.natAbs fs[i].2.natAbs:Nat):Int).natAbs<2 ^ 9000:=by
   rw[dN];exact cr (At _ (by have:=Fi.1;omega)) (up (by omega) c2)
  have rs:((aU fs[i].1.natAbs f.2.natAbs:Nat):Int).natAbs<2 ^ 9000:=by
   rw[dN];exact cr (At _ (by have:=F.1;omega)) (up (by omega) b2)
  have dv:∀{k:Nat}{c:Int}{l:Nat},l≠0->l∣c.natAbs->Bd k c->Bd k (c.fdiv (l:Int)):=λh1 h2 h3=>by
   obtain⟨y,_,e2,e3⟩:=ju (Nat.pos_of_ne_zero h1) h2;rw[e2];exact cr (by rw[e3];exact tu _ _) h3
  have q1:=dv lne (g0 _ _) b1;have q2:=dv rne (g0 _ _) c1;have q3:=dv rne (g7 _ _) b2;have q4:=dv lne (g7 _ _) c2
  k_units
  refine⟨_,ea,_,rfl,f.1,fs[i].2,rfl,up (by omega) c2,_,ea,_,rfl,fs[i].1,f.2,rfl,up (by omega) b2,_,rfl,by omega,ls,_,ea,_,rfl,_,rfl,_,rfl,by omega,rs,q1.fits q2 (by omega),_,rfl,by omega,rs,_,ea,_,rfl,_,rfl,_,rfl,by omega,ls,q3.fits q4 (by omega),?_⟩;have z1:Bd (20000*(i+1)+1) (di f fs[i]).1:=by
   have h:=(show (f.1*fs[i].1).natAbs<_ from (b1.mul c1).mono (show 20000*i+1+20000<=20000*(i+1)+1 by omega))
   rw[cP]at h;exact cr m3 h
  have z2:Bd (B*(i+1)+1) (di f fs[i]).2:=by
   have h:=(show (f.2*fs[i].2).natAbs<_ from (b2.mul c2).mono (show B*i+1+B<=B*(i+1)+1 by rw[tz];omega))
   rw[cP]at h;exact cr m4 h
  exact (hPv _ _ _).mpr ⟨_,_,_,by rw[et];rfl,rfl,by rw[et];exact m1,by rw[et];exact z1,by rw[et];exact z2⟩
 intro σ H' hp;obtain⟨r3,r4,r5,rfl,rfl,F,b1,b2⟩:=(hPv _ _ _).mp hp
 k_units
 rw[aB,hT.len,Au (aw _)]at F;rw[aB,hT.len,Au (aw _)];exact⟨by decide,q F⟩
theorem dj {X:Cx}{K:W.Frag}(hK:X.K=K):IxR X (yW K):=by subst hK;exact aj
def NX (K:W.Frag):Sp:=λvs H Q _=>∃(p q:Addr) (a b c d e f:Int),vs=[.ref p,.ref q]∧SqT K H p [.int a,.int b,.int c]∧SqT K H q [.int d,.int e,.int f]∧
 ∀(L t:Addr) (H':Hp),Same H H'->H L=none->H t=none->H' L=some (.lst [.ref q,.ref t])->H' t=some (.tup [.int (a-d),.int (b-e),.int (c-f)])->Q (.ref L) H'
theorem FG {P:Program}{w:World}{K:W.Frag}{mg:Str->Option Value}{base:Heap}(T:Tx K mg):FnOk P w K mg base CX0 1 T.RT T.RU ["upper","lower"] (NX K):=by
 refine T.RV.ok Nd (λvs H Q E h=>?_) (λcdv A outer s H vs Q E hr h=>?_)
 ·obtain⟨p,q,a,b,c,d,e,f,rfl,_⟩:=h;rfl
 obtain⟨p,q,a,b,c,d,e,f,rfl,hp,hq,z⟩:=h;refine⟨_,((ak (av (bT (aa (pv 1) (aa (aK (aa (ag cf (ah aj (pv 0) ac (λ_ _=>rfl)) (ah aj (pv 1) ac (λ_ _=>rfl))) (aa (ag cf (ah aj (pv 0) ac (λ_ _=>rfl)) (ah aj (pv 1) ac (λ_ _=>rfl))) (aa (ag cf (ah aj (pv 0) ac (λ_ _=>rfl)) (ah aj (pv 1) ac (λ_ _=>rfl))) ae)))) ae)))))),?_⟩
 k_units
 refine⟨_,hp,_,rfl,_,hq,_,rfl,_,rfl,_,rfl,_,hp,_,rfl,_,hq,_,rfl,_,rfl,_,rfl,_,hp,_,rfl,_,hq,_,rfl,_,rfl,_,rfl,by decide,λt nt=>⟨by decide,λL nL=>?_⟩⟩;have u1:=ao nt (.tup [V.int (a-d),V.int (b-e),V.int (c-f)]);have u2:=ao nL (.lst [V.ref q,V.ref t]);exact z L t _ (u1.trans u2) (u1.free nL) nt af (u2 _ _ af)
def jv (p:Addr):List (Str×V):=[(Str.ofString "form",.ref p)]
def FH (C:Addr):Sp:=λvs H Q _=>∃x dx p:Addr,vs=[.ref x,.ref p]∧H x=some (.ins C dx [])∧Q .non (upd H x (.ins C dx (jv p)))
theorem FI {P:Program}{w:World}{K:W.Frag}{mg:Str->Option Value}{base:Heap}(T:Tx K mg):FnOk P w K mg base CX0 1 T.TC T.TD ["self","form"] (FH T.Qj):=by
 refine T.Ws.ok Nw (λvs H Q E h=>?_) (λcdv A outer s H vs Q E hr h=>?_)
 ·obtain⟨x,dx,p,rfl,_⟩:=h;rfl
 obtain⟨x,dx,p,rfl,hx,q⟩:=h;refine⟨_,((ak (fY (pv 0) (pv 1) rfl))),?_⟩
 k_units
 exact⟨T.Qj,dx,[],hx,T.Qq,T.Rn,by decide,q⟩
def FJ (K:W.Frag)(C:Addr):Sp:=λvs H Q _=>∃(x dx p:Addr) (a b c n k:Int),vs=[.ref x,.int n,.int k]∧H x=some (.ins C dx (jv p))∧SqT K H p [.int a,.int b,.int c]∧Bd 400 a∧Bd 400 b∧Bd 20 n∧Bd 20 k∧mkT H Q (a*n+b*k+c) 1
theorem NY {P:Program}{w:World}{K:W.Frag}{mg:Str->Option Value}{base:Heap}(T:Tx K mg):FnOk P w K mg base CX0 2 T.TF T.TH ["self","n","k"] (FJ K T.Qj):=by
 refine T.Wt.ok Nx (λvs H Q E h=>?_) (λcdv A outer s H vs Q E hr h=>?_)
 ·obtain⟨x,dx,p,a,b,c,n,k,rfl,_⟩:=h;rfl
 obtain⟨x,dx,p,a,b,c,n,k,rfl,hx,hp,ba,bb,bn,bk,q⟩:=h;refine⟨_,((ak (av (aK (aa (au (FnOk.mono (zG T) (by decide)) hr rfl T.RK T.Rc.kp T.RL .nil ai (aa (bS (pv 0) rfl) (aa (pv 1) (aa (pv 2) ae)))) (aa ac ae)))))),?_⟩
 k_units
 exact⟨T.Qj,dx,_,hx,T.Qq,T.Rn,_,rfl,p,a,b,c,n,k,rfl,hp,ba,bb,bn,bk,by decide,q⟩
def dY (p:Addr):List (Str×V):=[(Str.ofString "fraction",.ref p)]
def sD (C:Addr):Sp:=λvs H Q _=>∃x dx p:Addr,vs=[.ref x,.ref p]∧H x=some (.ins C dx [])∧Q .non (upd H x (.ins C dx (dY p)))
theorem FK {P:Program}{w:World}{K:W.Frag}{mg:Str->Option Value}{base:Heap}(T:Tx K mg):FnOk P w K mg base CX0 1 T.TM T.TN ["self","fraction"] (sD T.Qi):=by
 refine T.Ww.ok NA (λvs H Q E h=>?_) (λcdv A outer s H vs Q E hr h=>?_)
 ·obtain⟨x,dx,p,rfl,_⟩:=h;rfl
 obtain⟨x,dx,p,rfl,hx,q⟩:=h;refine⟨_,((ak (fY (pv 0) (pv 1) rfl))),?_⟩
 k_units
 exact⟨T.Qi,dx,[],hx,T.Qp,T.Q_,by decide,q⟩
theorem FL {P:Program}{w:World}{K:W.Frag}{mg:Str->Option Value}{base:Heap}(T:Tx K mg):FnOk P w K mg base CX0 1 T.T1 T.T4 ["self","fraction"] (sD T.Qh):=by
 refine T.WB.ok NF (λvs H Q E h=>?_) (λcdv A outer s H vs Q E hr h=>?_)
 ·obtain⟨x,dx,p,rfl,_⟩:=h;rfl
 obtain⟨x,dx,p,rfl,hx,q⟩:=h;refine⟨_,((ak (fY (pv 0) (pv 1) rfl))),?_⟩
 k_units
 exact⟨T.Qh,dx,[],hx,T.Ql,T.QG,by decide,q⟩
def jw (K:W.Frag)(C:Addr)(up:Bool):Sp:=λvs H Q _=>∃(x dx p:Addr) (a b:Int) (n k:Nat),vs=[.ref x,.int (n:Int),.int (k:Int)]∧H x=some (.ins C dx (dY p))∧SqT K H p [.int a,.int b]∧Bd 100 a∧Bd 100 b∧n<=500∧k<=500∧mkT H Q (a ^ (if up then k else n)) (b ^ (if up then k else n))
theorem FM {P:Program}{w:World}{K:W.Frag}{mg:Str->Option Value}{base:Heap}(T:Tx K mg):FnOk P w K mg base CX0 2 T.TQ T.TR ["self","n","k"] (jw K T.Qi true):=by
 refine T.Wx.ok NB (λvs H Q E h=>?_) (λcdv A outer s H vs Q E hr h=>?_)
 ·obtain⟨x,dx,p,a,b,n,k,rfl,_⟩:=h;rfl
 obtain⟨x,dx,p,a,b,n,k,rfl,hx,hp,ba,bb,n5,k5,q⟩:=h;refine⟨_,((ak (av (aK (aa (au (FnOk.mono (fI T) (by decide)) hr rfl T.Qu T.Qs.kp T.Qv .nil ai (aa (ah aj (bS (pv 0) rfl) ac (λ_ _=>rfl)) (aa (pv 2) ae))) (aa (au (FnOk.mono (fI T) (by decide)) hr rfl T.Qu T.Qs.kp T.Qv .nil ai (aa (ah aj (bS (pv 0) rfl) ac (λ_ _=>rfl)) (aa (pv 2) ae))) ae)))))),?_⟩
 k_units
 exact⟨T.Qi,dx,_,hx,T.Qp,T.Q_,_,rfl,p,rfl,_,hp,_,rfl,a,k,rfl,ba,k5,T.Qi,dx,_,hx,T.Qp,T.Q_,_,rfl,p,rfl,_,hp,_,rfl,b,k,rfl,bb,k5,by decide,q⟩
theorem NZ {P:Program}{w:World}{K:W.Frag}{mg:Str->Option Value}{base:Heap}(T:Tx K mg):FnOk P w K mg base CX0 2 T.T5 T.T6 ["self","n","k"] (jw K T.Qh false):=by
 refine T.WC.ok NG (λvs H Q E h=>?_) (λcdv A outer s H vs Q E hr h=>?_)
 ·obtain⟨x,dx,p,a,b,n,k,rfl,_⟩:=h;rfl
 obtain⟨x,dx,p,a,b,n,k,rfl,hx,hp,ba,bb,n5,k5,q⟩:=h;refine⟨_,((ak (av (aK (aa (au (FnOk.mono (fI T) (by decide)) hr rfl T.Qu T.Qs.kp T.Qv .nil ai (aa (ah aj (bS (pv 0) rfl) ac (λ_ _=>rfl)) (aa (pv 1) ae))) (aa (au (FnOk.mono (fI T) (by decide)) hr rfl T.Qu T.Qs.kp T.Qv .nil ai (aa (ah aj (bS (pv 0) rfl) ac (λ_ _=>rfl)) (aa (pv 1) ae))) ae)))))),?_⟩
 k_units
 exact⟨T.Qh,dx,_,hx,T.Ql,T.QG,_,rfl,p,rfl,_,hp,_,rfl,a,n,rfl,ba,n5,T.Qh,dx,_,hx,T.Ql,T.QG,_,rfl,p,rfl,_,hp,_,rfl,b,n,rfl,bb,n5,by decide,q⟩
def eP (p L:Addr):List (Str×V):=[(Str.ofString "above",.ref p),(Str.ofString "lows",.ref L)]
def FN (K:W.Frag)(C:Addr):Sp:=λvs H Q _=>∃(x dx p q:Addr) (a b c d e f:Int),vs=[.ref x,.ref p,.ref q]∧H x=some (.ins C dx [])∧SqT K H p [.int a,.int b,.int c]∧SqT K H q [.int d,.int e,.int f]∧
 ∀(L t:Addr) (H':Hp),(∀y o,y≠x->H y=some o->H' y=some o)->H L=none->H t=none->H' x=some (.ins C dx (eP p L))->H' L=some (.lst [.ref q,.ref t])->H' t=some (.tup [.int (a-d),.int (b-e),.int (c-f)])->Q .non H'
theorem SqT.updI {K:W.Frag}{H:Hp}{a x C dx:Addr}{xs:List V}{fs:List (Str×V)}{o:HO}(h:SqT K H a xs)(e:H x=some (.ins C dx fs)):SqT K (L2.upd H x o) a xs:=by
 rcases h with (h|⟨u,h⟩)|h
 ·exact .inl (.inl (by rw[aq (aW h e (λz=>nomatch z))];exact h))
 ·exact .inl (.inr ⟨u,by rw[aq (aW h e (λz=>nomatch z))];exact h⟩)
 ·exact .inr h
theorem FO {P:Program}{w:World}{K:W.Frag}{mg:Str->Option Value}{base:Heap}(T:Tx K mg):FnOk P w K mg base CX0 2 T.Th T.Ti ["self","upper","lower"] (FN K T.Qg):=by
 refine T.Wk.ok Nt (λvs H Q E h=>?_) (λcdv A outer s H vs Q E hr h=>?_)
 ·obtain⟨x,dx,p,q,a,b,c,d,e,f,rfl,_⟩:=h;rfl
 obtain⟨x,dx,p,q,a,b,c,d,e,f,rfl,hx,hp,hq,z⟩:=h;refine⟨_,((am (fY (pv 0) (pv 1) rfl)
  (ak (fY (pv 0) (au (FnOk.mono (FG T) (by decide)) hr rfl T.Uv T.RV.kp T.Uw .nil ai (aa (pv 1) (aa (pv 2) ae))) rfl)))),?_⟩
 k_units
 refine⟨T.Qg,dx,[],hx,T.Qk,T.QQ,by decide,?_⟩;have ex1:upd H x (.ins T.Qg dx (bM "above" (.ref p) [])) x=some (.ins T.Qg dx [("above",.ref p)]):=af;have hp1:=SqT.updI (o:=.ins T.Qg dx (bM "above" (.ref p) [])) hp hx;have hq1:=SqT.updI (o:=.ins T.Qg dx (bM "above" (.ref p) [])) hq hx;have k1:∀y o,y≠x->H y=some o->upd H x (.ins T.Qg dx (bM "above" (.ref p) [])) y=some o:=λy o hy e=>by rw[aq hy];exact e
 have n1:∀y,upd H x (.ins T.Qg dx (bM "above" (.ref p) [])) y=none->H y=none:=λy e=>by
  by_cases hy:y=x
  ·rw[hy,af]at e;cases e
  ·rw[aq hy]at e;exact e
 generalize upd H x (.ins T.Qg dx (bM "above" (.ref p) []))=G at ex1 hp1 hq1 k1 n1 ⊢;refine⟨p,q,a,b,c,d,e,f,rfl,hp1,hq1,λL t H1 s1 nL nt eL et=>?_⟩;refine⟨T.Qg,dx,_,s1 _ _ ex1,T.Qk,T.Um,by show 1<1000;decide,?_⟩;have pf:bM "lows" (.ref L) [("above",V.ref p)]=eP p L:=rfl;rw[pf];have nLx:L≠x:=λhz=>by rw[hz,ex1]at nL;cases nL
 have ntx:t≠x:=λhz=>by rw[hz,ex1]at nt;cases nt
 exact z L t _ (λy o hy e=>by rw[aq hy];exact s1 _ _ (k1 y o hy e)) (n1 _ nL) (n1 _ nt) af (by rw[aq nLx];exact eL) (by rw[aq ntx];exact et)
def N0 (K:W.Frag):Sp:=λvs H Q _=>∃(p:Addr) (a b c y:Int),vs=[.ref p,.int y]∧SqT K H p [.int a,.int b,.int c]∧∀r,H r=none->Q (.ref r) (upd H r (.tup [.int a,.int b,.int (c+y)]))
theorem zJ {P:Program}{w:World}{K:W.Frag}{mg:Str->Option Value}{base:Heap}(T:Tx K mg):FnOk P w K mg base CX0 1 T.RM T.RN ["form","by"] (N0 K):=by
 refine T.Re.ok Nb (λvs H Q E h=>?_) (λcdv A outer s H vs Q E hr h=>?_)
 ·obtain⟨p,a,b,c,y,rfl,_⟩:=h;rfl
 obtain⟨p,a,b,c,y,rfl,hp,q⟩:=h;refine⟨_,((ak (av (aK (aa (ah aj (pv 0) ac (λ_ _=>rfl)) (aa (ah aj (pv 0) ac (λ_ _=>rfl)) (aa (ag aI (ah aj (pv 0) ac (λ_ _=>rfl)) (pv 1)) ae))))))),?_⟩
 k_units
 exact⟨_,hp,_,rfl,_,hp,_,rfl,_,hp,_,rfl,_,rfl,by decide,q⟩
def aN (far:Int)(f:Int×Int×Int):Int×Int×Int:=(f.1,f.2.1,f.2.2+if 0 > far*f.1 then 0 else far*f.1)
def N2 (K:W.Frag)(C:Addr):Sp:=λvs H Q _=>∃(x dx p L q t:Addr) (f g:Int×Int×Int) (far:Int),vs=[.ref x,.int far]∧H x=some (.ins C dx (eP p L))∧H L=some (.lst [.ref q,.ref t])∧SqT K H q [.int f.1,.int f.2.1,.int f.2.2]∧SqT K H t [.int g.1,.int g.2.1,.int g.2.2]∧Bd 20 far∧Bd 20 f.1∧Bd 20 g.1∧
 ∀(D u v:Addr) (H':Hp),Same H H'->H D=none->H' D=some (.lst [.ref u,.ref v])->H' u=some (.tup [.int (aN far f).1,.int (aN far f).2.1,.int (aN far f).2.2])->H' v=some (.tup [.int (aN far g).1,.int (aN far g).2.1,.int (aN far g).2.2])->Q (.ref D) H'
theorem zK {P:Program}{w:World}{K:W.Frag}{mg:Str->Option Value}{base:Heap}(T:Tx K mg):FnOk P w K mg base CX0 2 T.Tj T.Tk ["self","far"] (N2 K T.Qg):=by
 refine T.Wl.ok Nu (λvs H Q E h=>?_) (λcdv A outer s H vs Q E hr h=>?_)
 ·obtain⟨x,dx,p,L,q,t,f,g,far,rfl,_⟩:=h;rfl
 obtain⟨x,dx,p,L,q,t,f,g,far,rfl,hx,hL,hq,ht,bf,b1,b2,z⟩:=h;refine⟨_,((ak (av (cD rfl (cu rfl (bu rfl bZ) (bG 1 "far" (by decide) rfl (Or.inl rfl) (Or.inl rfl) ⟨_,rfl⟩ cq)) (bY (bS (pv 0) rfl)) (λ_ _ _ _=>(au (FnOk.mono (zJ T) (by decide)) hr rfl T.RO T.Re.kp T.RP .nil ai (aa (pv 0) (aa (a0 (fX rfl) rfl T.QI f_ (aa (ag aT (pv 1) (ah (dj (K:=K) rfl) (pv 0) ac (λ_ _=>rfl))) (aa ac ae))) ae)))))))),?_⟩
 k_units
 refine⟨T.Qg,dx,_,hx,T.Qk,T.Um,_,rfl,L,rfl,⟨_,SqL.of hL⟩,λD nD=>?_⟩;obtain⟨Pc,hPc⟩:∃Pc:Nat->Hp->Prop,∀j Hx,Pc j Hx↔∃us:List Addr,Hx D=some (.lst (us.map V.ref))∧us.length=j∧(∀(i:Nat) (u:Addr) (h:Int×Int×Int),us[i]?=some u->[f,g][i]?=some h->Hx u=some (.tup [.int (aN far h).1,.int (aN far h).2.1,.int (aN far h).2.2]))∧Same H Hx:=⟨_,λ_ _=>Iff.rfl⟩
 refine eE (xs:=[V.ref q,V.ref t]) Pc ((hPc _ _).mpr ⟨[],af,rfl,λi u h h1=>by simp at h1,ao nD _⟩) (λi Hx _ z=>by obtain⟨_,_,_,_,z⟩:=(hPc i Hx).mp z;exact z.seq (SqL.of hL)) ?_ ?_
 ·intro j v Hx hv hc;obtain⟨us,k1,k2,k3,k4⟩:=(hPc _ _).mp hc;obtain⟨r,h,rfl,hh,er,bh⟩:∃(r:Addr) (h:Int×Int×Int),v=V.ref r∧[f,g][j]?=some h∧SqT K H r [.int h.1,.int h.2.1,.int h.2.2]∧Bd 20 h.1:=by
   match j,hv with
   | 0,hv=>exact⟨q,f,(Option.some.inj hv).symm,rfl,hq,b1⟩
   | 1,hv=>exact⟨t,g,(Option.some.inj hv).symm,rfl,ht,b2⟩
   | j+2,hv=>simp at hv
  (iterate 3 (k_units;(try simp only[bst,dH]));k_units)
  have er':=k4.seqT er;have hj2:j<2:=by have:=(be.mp hh).1;simpa using this
  refine⟨_,er',_,rfl,_,rfl,bf.fits bh (by decide),r,h.1,h.2.1,h.2.2,_,rfl,er',λu nu=>?_⟩;have uu:=ao nu (.tup [V.int h.1,V.int h.2.1,V.int (h.2.2+if 0 > far*h.1 then 0 else far*h.1)]);refine⟨_,uu _ _ k1,by rw[aB];exact bB (by omega),(hPc _ _).mpr ⟨us++[u],by rw[af];simp,by simp[k2],λi u' h' q1 q2=>?_,(k4.trans uu).more nD⟩⟩;have nuD:u≠D:=λhz=>by rw[hz,k1]at nu;cases nu
  by_cases hi:i<us.length
  ·rw[cK hi]at q1;have e:=uu _ _ (k3 i u' h' q1 q2);rw[aq (aW e (uu _ _ k1) (λz=>nomatch z))];exact e
  ·rw[cO (by omega)]at q1;have hi2:i-us.length=0:=by
    have:=(be.mp q1).1;simp at this;omega
   rw[hi2]at q1;obtain rfl:=Option.some.inj q1;have hij:i=j:=by omega
   rw[hij,hh]at q2;obtain rfl:=Option.some.inj q2;rw[aq nuD,af];rfl
 intro H' hc;obtain⟨us,k1,k2,k3,k4⟩:=(hPc _ _).mp hc
 match us,k2 with
 | [u,v],_=>exact z D u v H' k4 nD k1 (k3 0 u f rfl rfl) (k3 1 v g rfl rfl)
theorem zL (a:Nat):∀n:Nat,0<asc a n
 | 0=>Nat.one_pos
 | n+1=>Iy (zL a n) (by omega)
def atF (f:Int×Int×Int)(n k:Int):Int:=f.1*n+f.2.1*k+f.2.2
def zM (K:W.Frag)(C:Addr):Sp:=λvs H Q _=>∃(x dx p L q t:Addr) (f g h:Int×Int×Int) (far:Int) (n k:Nat),vs=[.ref x,.int (n:Int),.int (k:Int),.int far]∧H x=some (.ins C dx (eP p L))∧H L=some (.lst [.ref q,.ref t])∧SqT K H p [.int h.1,.int h.2.1,.int h.2.2]∧SqT K H q [.int f.1,.int f.2.1,.int f.2.2]∧SqT K H t [.int g.1,.int g.2.1,.int g.2.2]∧h.1=f.1+g.1∧h.2.1=f.2.1+g.2.1∧h.2.2=f.2.2+g.2.2∧Bd 10 far∧Bd 10 f.1∧Bd 10 g.1∧Bd 10 f.2.1∧Bd 10 g.2.1∧n<=500∧k<=500∧far*f.1<=50∧far*g.1<=50∧atF (aN far f) n k+atF (aN far g) n k<4000∧
 ∀(z:Int×Int),(((atF (aN far f) n k<0∨atF (aN far g) n k<0)∧z=(0,1))∨∃b0 b1 m:Nat,atF (aN far f) n k=(b0:Int)∧atF (aN far g) n k=(b1:Int)∧(m:Int)=(if 0 > atF h n k then 0 else atF h n k)∧m<=b0+b1∧Frc z∧z.1*((asc m (b0+b1-m):Nat):Int)=((chs (b0+b1) b1:Nat):Int)*z.2)->∀(r:Addr) (H':Hp),Same H H'->H' r=some (.tup [.int z.1,.int z.2])->Q (.ref r) H'
theorem zN {P:Program}{w:World}{K:W.Frag}{mg:Str->Option Value}{base:Heap}(T:Tx K mg):FnOk P w K mg base CX0 14 T.Tw T.Tz ["self","n","k","far"] (zM K T.Qg):=by
 refine T.Wr.ok sc_Choose_floor (λvs H Q E h=>?_) (λcdv A outer s H vs Q E hr h=>?_)
 ·obtain⟨x,dx,p,L,q,t,f,g,h,far,n,k,rfl,_⟩:=h;rfl
 obtain⟨x,dx,p,L,q,t,f,g,h,far,n,k,rfl,hx,hL,hp,hq,ht,h1,h2,h3,bfar,bf,bg,bf2,bg2,n5,k5,ff,fg,lt4,z⟩:=h;refine⟨_,((am (ax (i:=4) sc_Choose_floor.nd rfl (Or.inl rfl) (au (FnOk.mono (zG T) (by decide)) hr rfl T.RK T.Rc.kp T.RL .nil ai (aa (bS (pv 0) rfl) (aa (pv 1) (aa (pv 2) ae)))))
  (am (Ew (i:=5) rfl (cu rfl (bu rfl (bu rfl bZ)) (bG 1 "n" (by decide) rfl (Or.inl rfl) (Or.inl rfl) ⟨_,rfl⟩ (bG 2 "k" (by decide) rfl (Or.inl rfl) (Or.inl rfl) ⟨_,rfl⟩ cq))) (bY (aL (pv 0) T.Qk T.Uk (FnOk.mono (zK T) (by decide)) hr T.Tl .nil ai (aa (pv 3) ae))) (λ_ _ _ _=>(au (FnOk.mono (zG T) (by decide)) hr rfl T.RK T.Rc.kp T.RL .nil ai (aa (pv 0) (aa (pv 1) (aa (pv 2) ae))))) sc_Choose_floor.nd rfl rfl)
  (am (aF (aD dw (a0 (KW rfl) rfl T.Ro qP (aa (pv 5) ae)) ac (aC _)) (ak (av (aK (aa ac (aa ac ae))))) aG)
  (ak (av (au (FnOk.mono (NQ T) (by decide)) hr rfl T.VL T.Uu.kp T.VM .nil zf (aa (au (FnOk.mono (NV T) (by decide)) hr rfl T.VN T.Ux.kp T.VO .nil ai (aa (ah bA (pv 5) ac (λ_ _=>rfl)) (aa (ah bA (pv 5) ac (λ_ _=>rfl)) ae))) (aa (au (FnOk.mono (sC T 9) (by decide)) hr rfl T.QW T.QD.kp T.QX .nil ai (aa (ag aI (a0 (fX rfl) rfl T.QI f_ (aa (pv 4) (aa ac ae))) ac) (aa (ag aI (ah bA (pv 5) ac (λ_ _=>rfl)) (ah bA (pv 5) ac (λ_ _=>rfl))) ae))) ae))))))))),?_⟩
 have bn:Bd 20 (n:Int):=Bd.of_lt (m:=501) (by omega) (by decide);have bk:Bd 20 (k:Int):=Bd.of_lt (m:=501) (by omega) (by decide);dsimp only[az]
 k_typeOf
 refine⟨T.Qg,dx,_,hx,T.Qk,T.QQ,_,rfl,p,h.1,h.2.1,h.2.2,n,k,rfl,hp,by rw[h1];exact (bf.add bg).mono (by decide),by rw[h2];exact (bf2.add bg2).mono (by decide),bn,bk,?_⟩;dsimp only[az]
 k_typeOf
 refine⟨dx,_,hx,rfl,x,dx,p,L,q,t,f,g,far,rfl,hx,hL,hq,ht,bfar.mono (by decide),bf.mono (by decide),bg.mono (by decide),λD u v H1 s1 _ eD eu ev=>⟨D,rfl,⟨_,SqL.of eD⟩,λD2 nD2=>?_⟩⟩;obtain⟨B0,hB0⟩:∃B0,atF (aN far f) n k=B0:=⟨_,rfl⟩
 obtain⟨B1,hB1⟩:∃B1,atF (aN far g) n k=B1:=⟨_,rfl⟩
 rw[hB0,hB1]at z lt4;obtain⟨Pc,hPc⟩:∃Pc:Nat->Hp->Prop,∀j Hx,Pc j Hx↔Hx D2=some (.lst (([B0,B1].take j).map V.int))∧Same H1 Hx:=⟨_,λ_ _=>Iff.rfl⟩
 refine eE (xs:=[V.ref u,V.ref v]) Pc ((hPc _ _).mpr ⟨af,ao nD2 _⟩) (λi Hx _ y=>by obtain⟨_,y⟩:=(hPc i Hx).mp y;exact y.seq (SqL.of eD)) ?_ ?_
 ·intro j w' Hx hv hc;obtain⟨k1,k2⟩:=(hPc _ _).mp hc;obtain⟨r,l,rfl,er,bl,bl2,hB⟩:∃(r:Addr) (l:Int×Int×Int),w'=V.ref r∧H1 r=some (.tup [.int l.1,.int l.2.1,.int l.2.2])∧Bd 10 l.1∧Bd 10 l.2.1∧[B0,B1].take (j+1)=[B0,B1].take j++[atF l n k]:=by
   match j,hv with
   | 0,hv=>exact⟨u,aN far f,(Option.some.inj hv).symm,eu,bf,bf2,by rw[hB0];rfl⟩
   | 1,hv=>exact⟨v,aN far g,(Option.some.inj hv).symm,ev,bg,bg2,by rw[hB1];rfl⟩
   | j+2,hv=>simp at hv
  (iterate 3 (k_units;(try simp only[bst,dH]));k_units)
  refine⟨r,l.1,l.2.1,l.2.2,n,k,rfl,SqT.of (k2 _ _ er),bl.mono (by decide),bl2.mono (by decide),bn,bk,_,k1,by rw[aB,cB];exact bB (by simp;omega),(hPc _ _).mpr ⟨?_,k2.more nD2⟩⟩;rw[af,hB,aM];rfl
 intro H2 hc;obtain⟨e2,k2⟩:=(hPc _ _).mp hc;have e2':H2 D2=some (.lst ([B0,B1].map V.int)):=e2;have s2:=s1.trans k2;clear hc hPc Pc e2;dsimp only[az]
 k_typeOf
 refine⟨[B0,B1],SqL.of e2',by simp,λM hM hM2=>bC (λhneg=>⟨by decide,λr nr=>z (0,1) (.inl ⟨?_,rfl⟩) r _ (s2.trans (ao nr _)) af⟩) (λhpos=>?_)⟩
 ·simp at hM;rcases hM with rfl|rfl
  ·exact .inl hneg
  ·exact .inr hneg
 have p0:=hM2 B0 (by simp);have p1:=hM2 B1 (by simp);obtain⟨b0,rfl⟩:∃b0:Nat,B0=(b0:Int):=⟨B0.toNat,by omega⟩
 obtain⟨b1,rfl⟩:∃b1:Nat,B1=(b1:Int):=⟨B1.toNat,by omega⟩
 k_units
 have hA:h.1*(n:Int)+h.2.1*(k:Int)+h.2.2=(f.1*(n:Int)+f.2.1*(k:Int)+f.2.2)+(g.1*(n:Int)+g.2.1*(k:Int)+g.2.2):=by rw[h1,h2,h3,Aq,Aq];omega
 have q0:f.1*(n:Int)+f.2.1*(k:Int)+(f.2.2+if 0 > far*f.1 then 0 else far*f.1)=(b0:Int):=hB0;have q1:g.1*(n:Int)+g.2.1*(k:Int)+(g.2.2+if 0 > far*g.1 then 0 else far*g.1)=(b1:Int):=hB1;obtain⟨m,hm⟩:∃m:Nat,(m:Int)=(if 0 > h.1*(n:Int)+h.2.1*(k:Int)+h.2.2 then 0 else h.1*(n:Int)+h.2.1*(k:Int)+h.2.2):=⟨(if 0 > h.1*(n:Int)+h.2.1*(k:Int)+h.2.2 then 0 else h.1*(n:Int)+h.2.1*(k:Int)+h.2.2).toNat,by split <;> omega⟩
 rw[hA]at hm;have hle:m<=b0+b1∧b0+b1-m<=100:=by
  generalize f.1*(n:Int)+f.2.1*(k:Int)=X at hm q0;generalize g.1*(n:Int)+g.2.1*(k:Int)=Y at hm q1;generalize far*f.1=F0 at ff q0;generalize far*g.1=G0 at fg q1
  split at hm <;> split at q0 <;> split at q1 <;> omega
 rw[←hA]at hm;rw[←hm];have l4:b0+b1<4000:=by omega
 refine⟨_,SqL.of e2',_,rfl,_,SqL.of e2',_,rfl,b0,b1,rfl,l4,_,SqL.of e2',_,rfl,_,SqL.of e2',_,rfl,_,rfl,_,rfl,m,b0+b1-m,?_,aP (show b0+b1-m<=4096 by omega) (by decide),a_ (show m+(b0+b1-m)<4096 by omega) (by decide),?_⟩
 ·rw[show m+(b0+b1-m)=b0+b1 by omega];rfl
 have ap:=zL m (b0+b1-m);refine⟨_,_,rfl,(gF (b0+b1-m) (a_ (show m+(b0+b1-m)<4096 by omega) (by decide))).mono (by omega),.inl ⟨by omega,λx y y1 cg e _ _ r nr=>?_⟩⟩;exact z (x,y) (.inr ⟨b0,b1,m,rfl,rfl,hm,hle.1,⟨y1,cg⟩,e⟩) r _ (s2.trans (ao nr _)) af
def FP (K:W.Frag)(C:Addr):Sp:=λvs H Q E=>∃(x:Addr) (n k:Nat),vs=[.ref x,.int (n:Int),.int (k:Int)]∧zM K C [.ref x,.int (n:Int),.int (k:Int),.int 0] H Q E
theorem N3 {P:Program}{w:World}{K:W.Frag}{mg:Str->Option Value}{base:Heap}(T:Tx K mg):FnOk P w K mg base CX0 15 T.Tn T.To ["self","n","k"] (FP K T.Qg):=by
 refine T.Wm.ok Nv (λvs H Q E h=>?_) (λcdv A outer s H vs Q E hr h=>?_)
 ·obtain⟨x,n,k,rfl,_⟩:=h;rfl
 obtain⟨x,n,k,rfl,z⟩:=h;refine⟨_,((ak (av (aL (pv 0) T.Qk T.Ul (FnOk.mono (zN T) (by decide)) hr T.TB .nil ai (aa (pv 1) (aa (pv 2) (aa ac ae))))))),?_⟩
 k_units
 have hx:∃dx p L,H x=some (.ins T.Qg dx (eP p L)):=by
  obtain⟨x',dx,p,L,q,t,f,g,h,far,n',k',e,hx,_⟩:=z;obtain⟨rfl⟩:x=x':=by simpa using congrArg List.head? e
  exact⟨dx,p,L,hx⟩
 obtain⟨dx,p,L,hx⟩:=hx;exact⟨dx,_,hx,rfl,z⟩
inductive Prt where
 | cho (h l:Int×Int×Int)
 | wei (f:Int×Int×Int)
 | pow (f:Int×Int)
 | gro (f:Int×Int)
def ar (h l:Int×Int×Int):Int×Int×Int:=(h.1-l.1,h.2.1-l.2.1,h.2.2-l.2.2)
theorem sH (f:Int×Int×Int):aN 0 f=f:=by simp[aN]
theorem zO (h l:Int×Int×Int)(n k:Int):atF (ar h l) n k=atF h n k-atF l n k:=by
 show (h.1-l.1)*n+(h.2.1-l.2.1)*k+(h.2.2-l.2.2)=h.1*n+h.2.1*k+h.2.2-(l.1*n+l.2.1*k+l.2.2);grind
def jx (a b:Int):Int:=if a<0∨b<0 then 0 else ((chs (a+b).toNat b.toNat:Nat):Int)
def dZ (p:Prt)(n k:Nat):Int×Int:=match p with
 | .cho h l=>(jx (atF l n k) (atF (ar h l) n k),1)
 | .wei f=>(atF f n k,1)
 | .pow f=>(f.1 ^ k,f.2 ^ k)
 | .gro f=>(f.1 ^ n,f.2 ^ n)
def cF (h l:Int×Int×Int):Prop:=(0<=h.1∧h.1<=3∧0<=h.2.1∧h.2.1<=3∧0<=h.2.2∧h.2.2<=9)∧(-3<=l.1∧l.1<=3∧-3<=l.2.1∧l.2.1<=3∧-9<=l.2.2∧l.2.2<=9)∧¬(l.1=0∧l.2.1<0)∧¬(h.1-l.1=0∧h.2.1-l.2.1<0)
def bJ:Prt->Prop
 | .cho h l=>cF h l
 | .wei f=>Bd 300 f.1∧Bd 300 f.2.1∧Bd 300 f.2.2
 | .pow f=>Frc f∧f.1≠0∧Bd 70 f.1∧Bd 20 f.2
 | .gro f=>Frc f∧f.1≠0∧Bd 70 f.1∧Bd 20 f.2
theorem zP (x:Int):Frc (x,1):=⟨Int.le_refl 1,by show aU x.natAbs 1=1;exact Nat.gcd_one_right _⟩
theorem N4 {f:Int×Int}(h:Frc f)(k:Nat):Frc (f.1 ^ k,f.2 ^ k):=by
 obtain⟨h1,h2⟩:=h;refine⟨?_,?_⟩
 ·show 1<=f.2 ^ k;have:0<f.2 ^ k:=Int.pow_pos (show 0<f.2 by omega);omega
 ·show aU (f.1 ^ k).natAbs (f.2 ^ k).natAbs=1;rw[Av,Av];exact Nat.Coprime.pow k k h2
theorem N5 {z:Int×Int}{c:Int}(h:Frc z)(e:z.1=c*z.2):z=(c,1):=by
 obtain⟨h1,h2⟩:=h;have d:z.2.natAbs∣z.1.natAbs:=by rw[e,cP];exact Nat.dvd_mul_left _ _
 rw[As,Nat.gcd_eq_left d]at h2;have e2:z.2=1:=by omega
 rw[e2,sV]at e;exact Prod.ext e e2
theorem N7 {h l:Int×Int×Int}{n k:Nat}{z:Int×Int}(hz:((atF l n k<0∨atF (ar h l) n k<0)∧z=(0,1))∨∃b0 b1 m:Nat,atF l n k=(b0:Int)∧atF (ar h l) n k=(b1:Int)∧(m:Int)=(if 0 > atF h n k then 0 else atF h n k)∧m<=b0+b1∧Frc z∧z.1*((asc m (b0+b1-m):Nat):Int)=((chs (b0+b1) b1:Nat):Int)*z.2):
  z=(jx (atF l n k) (atF (ar h l) n k),1):=by
 rcases hz with ⟨h1,rfl⟩|⟨b0,b1,m,h1,h2,h3,h4,h5,h6⟩
 ·unfold jx;rw[if_pos h1]
 ·have h7:=zO h l n k;have hm:m=b0+b1:=by split at h3 <;> omega
  rw[hm,hJ,show asc (b0+b1) 0=1 from rfl]at h6;have e:jx (atF l n k) (atF (ar h l) n k)=((chs (b0+b1) b1:Nat):Int):=by
   unfold jx;rw[h1,h2,if_neg (by omega),show ((b0:Int)+(b1:Int)).toNat=b0+b1 by omega,dk]
  rw[e];exact N5 h5 (by rw[←h6];simp)
theorem FQ {h:Int×Int×Int}{n k:Nat}(h1:0<=h.1∧h.1<=3)(h2:0<=h.2.1∧h.2.1<=3)(h3:0<=h.2.2∧h.2.2<=9)(hn:n<=400)(hk:k<=400):atF h n k<4000:=by
 have a1:h.1*(n:Int)<=3*(n:Int):=dQ h1.2 (by omega);have a2:h.2.1*(k:Int)<=3*(k:Int):=dQ h2.2 (by omega);show h.1*(n:Int)+h.2.1*(k:Int)+h.2.2<4000;omega
theorem bO {l:Nat}{x:Int}(h:Bd l x):∀n:Nat,Bd (l*n+1) (x ^ n)
 | 0=>by rw[gj];exact Bd.one (by omega)
 | n+1=>by rw[fQ];exact ((bO h n).mul h).mono (by rw[tz];omega)
def FR (B:Nat)(p:Prt)(n k:Nat):Prop:=bJ p∧n<=400∧k<=400∧Frc (dZ p n k)∧Bd 20000 (dZ p n k).1∧Bd B (dZ p n k).2
def bP (fs:List (Int×Int)):Int×Int:=fs.foldl (λd f=>(d.1*f.1,d.2*f.2)) (1,1)
theorem gG (fs:List (Int×Int))(f:Int×Int):bP (fs++[f])=((bP fs).1*f.1,(bP fs).2*f.2):=by unfold bP;rw[gY];rfl
theorem FS (fs:List (Int×Int))(h:∀f∈fs,Frc f):Frc (bq fs)∧(bq fs).1*(bP fs).2=(bP fs).1*(bq fs).2:=by
 obtain⟨m,hm⟩:∃m,fs.length=m:=⟨_,rfl⟩
 induction m generalizing fs with
 | zero=>
  obtain rfl:=eY hm;exact⟨zP 1,rfl⟩
 | succ m ih=>
  obtain⟨gs,g,rfl⟩:∃gs g,fs=gs++[g]:=⟨fs.dropLast,fs.getLast (λz=>by rw[z]at hm;simp at hm),(eZ _).symm⟩
  obtain⟨i1,i2⟩:=ih gs (λf hf=>h f (fP _ hf)) (by simp at hm;exact hm);rw[zI,gG];have hg:=h g (by simp);obtain⟨m1,m2,_⟩:=zH i1 hg;refine⟨m1,?_⟩;generalize di (bq gs) g=M at *;generalize bq gs=P at *;generalize bP gs=D at *;have p0:P.2≠0:=by have:=i1.1;omega
  refine IB p0 ?_;show M.1*(D.2*g.2)*P.2=D.1*g.1*M.2*P.2;have e1:M.1*(D.2*g.2)*P.2=M.1*(P.2*g.2)*D.2:=by grind
  have e2:D.1*g.1*M.2*P.2=(D.1*P.2)*(g.1*M.2):=by grind
  rw[e1,m2,e2,←i2];grind
theorem FT (fs:List (Int×Int)){B:Nat}(h:∀f∈fs,Bd 20000 f.1∧Bd B f.2):Bd (20000*fs.length+1) (bP fs).1∧Bd (B*fs.length+1) (bP fs).2:=by
 obtain⟨m,hm⟩:∃m,fs.length=m:=⟨_,rfl⟩
 induction m generalizing fs with
 | zero=>
  obtain rfl:=eY hm;exact⟨Bd.one (by decide),Bd.one (by simp)⟩
 | succ m ih=>
  obtain⟨gs,g,rfl⟩:∃gs g,fs=gs++[g]:=⟨fs.dropLast,fs.getLast (λz=>by rw[z]at hm;simp at hm),(eZ _).symm⟩
  obtain⟨i1,i2⟩:=ih gs (λf hf=>h f (fP _ hf)) (by simp at hm;exact hm);obtain⟨b1,b2⟩:=h g (by simp);rw[gG,b8,jL,g9,g9];exact⟨(i1.mul b1).mono (by omega),(i2.mul b2).mono (by omega)⟩
theorem N8 (fs:List (Int×Int)){B:Nat}(h:∀f∈fs,Frc f∧Bd 20000 f.1∧Bd B f.2):Bd (20000*fs.length+1) (bq fs).1∧Bd (B*fs.length+1) (bq fs).2:=by
 obtain⟨m,hm⟩:∃m,fs.length=m:=⟨_,rfl⟩
 induction m generalizing fs with
 | zero=>
  obtain rfl:=eY hm;exact⟨Bd.one (by decide),Bd.one (by simp)⟩
 | succ m ih=>
  obtain⟨gs,g,rfl⟩:∃gs g,fs=gs++[g]:=⟨fs.dropLast,fs.getLast (λz=>by rw[z]at hm;simp at hm),(eZ _).symm⟩
  obtain⟨i1,i2⟩:=ih gs (λf hf=>h f (fP _ hf)) (by simp at hm;exact hm);obtain⟨hg,b1,b2⟩:=h g (by simp);have hF:=(FS gs λf hf=>(h f (fP _ hf)).1).1;obtain⟨_,_,m3,m4⟩:=zH hF hg;rw[zI,b8,jL,g9,g9];have z1:=(i1.mul b1).mono (show 20000*gs.length+1+20000<=20000*gs.length+20000*1+1 by omega);have z2:=(i2.mul b2).mono (show B*gs.length+1+B<=B*gs.length+B*1+1 by omega);unfold Bd at z1 z2;rw[cP]at z1 z2;exact⟨cr m3 z1,cr m4 z2⟩
theorem N9 {K:W.Frag}{a b c:Addr}{xs ys zs:List V}{fv:List (Nat×Str)}{te:TE}{Q:VK}{σ:L2.St}{H1:Hp}{D:Addr}(Pv:Nat->Hp->Prop) (ly:ys.length=xs.length) (lz:zs.length=xs.length) (h0:Pv 0 (L2.upd H1 D (.lst []))) (hl:∀i H,Pv i H->SqT K H a xs∧SqT K H b ys∧SqT K H c zs)
  (hs:∀i v1 v2 v3 p H,xs[i]?=some v1->ys[i]?=some v2->zs[i]?=some v3->Pv i H->H p=none->te (cX fv σ (some v1) (some v2) (some v3)) (L2.upd H p (.tup [v1,v2,v3])) λy H2=>∃us,H2 D=some (.lst us)∧us.length<sizeLine∧Pv (i+1) (L2.upd H2 D (.lst (us++[y]))))
  (hd:∀H,Pv xs.length H->Q (.ref D) H):zz K (se K a b c) fv te Q σ H1 D:=by
 refine⟨λi m H=>m=xs.length-i∧i<=xs.length∧Pv i H,⟨_,rfl,aY _,h0⟩,?_⟩
 rintro i m H ⟨rfl,hi,p⟩
 obtain⟨q1,q2,q3⟩:=hl i H p;by_cases hlt:i<xs.length
 ·refine .inr ⟨⟨xs,ys,zs,xs[i],ys[i],zs[i],q1,q2,q3,aJ hlt,aJ (by omega),aJ (by omega)⟩,Pv (i+1),λH' p'=>⟨xs.length-(i+1),by omega,rfl,hlt,p'⟩,λv H' y=>?_⟩;obtain⟨pa,x1,x2,x3,hn,e1,e2,y1,y2,y3⟩:=y;subst e1 e2;exact⟨pa,x1,x2,x3,rfl,.inl (.inl af),hs i x1 x2 x3 pa H (y1 xs q1) (y2 ys q2) (y3 zs q3) p hn⟩
 ·have e:i=xs.length:=by omega
  refine .inl ⟨⟨xs,q1,by omega⟩,?_⟩;rw[e]at p;exact hd H p
def N_ (K:W.Frag):Sp:=λvs H Q _=>∃(p q:Addr) (a b c x y z:Int),vs=[.ref p,.ref q]∧SqT K H p [.int a,.int b,.int c]∧SqT K H q [.int x,.int y,.int z]∧x<=a∧a<=3∧y<=b∧b<=3∧z<=c∧c<=9∧∀H',Same H H'->Q (.bl true) H'
theorem FV {P:Program}{w:World}{K:W.Frag}{mg:Str->Option Value}{base:Heap}(T:Tx K mg):FnOk P w K mg base CX0 1 T.R3 T.R4 ["form","least"] (N_ K):=by
 refine T.R5.ok Nf (λvs H Q E h=>?_) (λcdv A outer s H vs Q E hr h=>?_)
 ·obtain⟨p,q,a,b,c,x,y,z,rfl,_⟩:=h;rfl
 obtain⟨p,q,a,b,c,x,y,z,rfl,hp,hq,h1,h2,h3,h4,h5,h6,k⟩:=h;refine⟨_,((ak (av (a0 (Mv rfl) rfl T.W9 boot_all (aa (Mp rfl (Mq rfl bZ rn) (Mt rfl T.VF (aa (pv 1) (aa (pv 0) (aa (fS (v:=.ref T.Rp.1) rfl T.Rp.2.1 rfl) ae)))) (λ_ _ _ _=>(JK DH DH (pv 0) (pv 1) (pv 2)))) ae))))),?_⟩
 k_units
 refine⟨_,hq,_,hp,_,T.Rp.2.2 H,λD nD=>?_⟩;obtain⟨Pc,hPc⟩:∃Pc:Nat->Hp->Prop,∀j Hx,Pc j Hx↔Hx D=some (.lst ((bK j true).map V.bl))∧Same H Hx:=⟨_,λ_ _=>Iff.rfl⟩
 refine N9 (xs:=[V.int x,V.int y,V.int z]) (ys:=[V.int a,V.int b,V.int c]) (zs:=[V.int 3,V.int 3,V.int 9]) Pc rfl rfl ((hPc _ _).mpr ⟨af,ao nD _⟩) (λi Hx y=>by obtain⟨_,y⟩:=(hPc i Hx).mp y;exact⟨y.seqT hq,y.seqT hp,T.Rp.2.2 Hx⟩) ?_ ?_
 ·intro i v1 v2 v3 r Hx e1 e2 e3 hc nr;obtain⟨k1,k2⟩:=(hPc _ _).mp hc;obtain⟨x1,x2,x3,rfl,rfl,rfl,l1,l2,hi⟩:∃x1 x2 x3:Int,v1=.int x1∧v2=.int x2∧v3=.int x3∧x1<=x2∧x2<=x3∧i<3:=by
   match i,e1,e2,e3 with
   | 0,e1,e2,e3=>exact⟨_,_,_,(Option.some.inj e1).symm,(Option.some.inj e2).symm,(Option.some.inj e3).symm,h1,h2,by decide⟩
   | 1,e1,e2,e3=>exact⟨_,_,_,(Option.some.inj e1).symm,(Option.some.inj e2).symm,(Option.some.inj e3).symm,h3,h4,by decide⟩
   | 2,e1,e2,e3=>exact⟨_,_,_,(Option.some.inj e1).symm,(Option.some.inj e2).symm,(Option.some.inj e3).symm,h5,h6,by decide⟩
   | j+3,e1,e2,e3=>simp at e1
  (iterate 3 (k_units;(try simp only[cX]));k_units)
  rw[if_pos l1];have u:=ao nr (.tup [V.int x1,V.int x2,V.int x3]);refine⟨_,u _ _ k1,by rw[aB,Aj];exact bB (by omega),(hPc _ _).mpr ⟨?_,(k2.trans u).more nD⟩⟩;rw[af,decide_eq_true l2,List.replicate_succ',aM];rfl
 intro Hx hc;obtain⟨k1,k2⟩:=(hPc _ _).mp hc;refine⟨D,rfl,_,SqL.of k1,?_⟩;exact k Hx k2
def Oa (K:W.Frag):Sp:=λvs H Q _=>∃(p q:Addr) (h l:Int×Int×Int),vs=[.ref p,.ref q]∧SqT K H p [.int h.1,.int h.2.1,.int h.2.2]∧SqT K H q [.int l.1,.int l.2.1,.int l.2.2]∧cF h l∧∀H',Same H H'->Q .non H'
theorem Ob {P:Program}{w:World}{K:W.Frag}{mg:Str->Option Value}{base:Heap}(T:Tx K mg):FnOk P w K mg base (CXE P w) 2 T.R6 T.R7 ["upper","lower"] (Oa K):=by
 refine T.UA.okE sc_check_choose (λvs H Q E h=>?_) (λcdv A outer s H vs Q E hr h=>?_)
 ·obtain⟨p,q,h,l,rfl,_⟩:=h;rfl
 obtain⟨p,q,h,l,rfl,hp,hq,⟨⟨a1,a2,a3,a4,a5,a6⟩,⟨b1,b2,b3,b4,b5,b6⟩,f1,f2⟩,k⟩:=h;refine⟨_,((am (aF (PT.nox (PW.pt (cn (b_ (b9 (au (FnOk.mono (FV T) (by decide)) hr rfl T.Uy T.R5.kp T.Uz .nil ai (aa (pv 0) (aa (fS (v:=.ref T.Rq.1) rfl T.Rq.2.1 rfl) ae))))) (de (b_ (b9 (au (FnOk.mono (FV T) (by decide)) hr rfl T.Uy T.R5.kp T.Uz .nil ai (aa (pv 1) (aa (fS (v:=.ref T.Rr.1) rfl T.Rr.2.1 rfl) ae))))))))) (ak (jc rfl jb rfl T.Rl T.Rm (aa bX ae))) aG)
  (ak (bL PassesOwn.leaving rfl (bY (au (FnOk.mono (FG T) (by decide)) hr rfl T.Uv T.RV.kp T.Uw .nil ai (aa (pv 0) (aa (pv 1) ae)))) (aS (i:=2) sc_check_choose.nd rfl (Or.inl rfl)) (ak (aF (PT.nox (PW.pt (ph (aD br (ah aj (pv 2) ac (λ_ _=>rfl)) ac (aC _)) (pe (aD dw (ah aj (pv 2) ac (λ_ _=>rfl)) ac (aC _)))))) (ak (jc rfl jb rfl T.Rl T.Rm (aa bX ae))) aG)))))),?_⟩
 k_units
 refine⟨p,T.Rq.1,h.1,h.2.1,h.2.2,0,0,0,rfl,hp,T.Rq.2.2 H,a1,a2,a3,a4,a5,a6,λH1 s1=>⟨true,rfl,?_⟩⟩;rw[if_neg (by decide)];refine⟨q,T.Rr.1,l.1,l.2.1,l.2.2,-3,-3,-9,rfl,s1.seqT hq,T.Rr.2.2 H1,b1,b2,b3,b4,b5,b6,λH2 s2=>⟨true,rfl,?_⟩⟩;rw[if_neg (by decide)];have s12:=s1.trans s2;refine⟨p,q,h.1,h.2.1,h.2.2,l.1,l.2.1,l.2.2,rfl,s12.seqT hp,s12.seqT hq,λL t H3 s3 nL nt eL et=>⟨L,rfl,⟨_,SqL.of eL⟩,?_⟩⟩;have s13:=s12.trans s3;refine dA (xs:=[V.ref q,V.ref t]) (λi σ H'=>∃r:Option V,σ=[some (V.ref p),some (V.ref q),r]∧H'=H3) ⟨none,rfl,rfl⟩ (λi σ H' _ z=>by obtain⟨_,_,rfl⟩:=z;exact SqL.of eL) ?_ ?_
 ·rintro i v σ H' hv ⟨r,rfl,rfl⟩
  obtain⟨u,f,rfl,eu,nf⟩:∃(u:Addr) (f:Int×Int×Int),v=V.ref u∧SqT K H' u [.int f.1,.int f.2.1,.int f.2.2]∧¬(f.1=0∧f.2.1<0):=by
   match i,hv with
   | 0,hv=>exact⟨q,l,(Option.some.inj hv).symm,s13.seqT hq,f1⟩
   | 1,hv=>exact⟨t,ar h l,(Option.some.inj hv).symm,SqT.of et,f2⟩
   | j+2,hv=>simp at hv
  k_units
  refine⟨_,eu,_,rfl,?_⟩
  k_units
  refine bC (λz=>?_) (λz=>trivial);refine⟨_,eu,_,rfl,?_⟩
  k_units
  rw[if_neg (λz2=>nf ⟨z,z2⟩)]
  trivial
 ·rintro σ H' ⟨r,rfl,rfl⟩
  exact k H' s13
def Oc (K:W.Frag):Sp:=λvs H Q _=>∃(p:Addr) (f:Int×Int),vs=[.ref p]∧SqT K H p [.int f.1,.int f.2]∧f.1≠0∧Q .non H
theorem FW {P:Program}{w:World}{K:W.Frag}{mg:Str->Option Value}{base:Heap}(T:Tx K mg):FnOk P w K mg base (CXE P w) 1 T.R8 T.R9 ["fraction"] (Oc K):=by
 refine T.R_.okE Ng (λvs H Q E h=>?_) (λcdv A outer s H vs Q E hr h=>?_)
 ·obtain⟨p,f,rfl,_⟩:=h;rfl
 obtain⟨p,f,rfl,hp,f0,k⟩:=h;refine⟨_,((ak (aF (PT.nox (aD br (ah aj (pv 0) ac (λ_ _=>rfl)) ac (aC _))) (ak (jc rfl jb rfl T.Rl T.Rm (aa bX ae))) aG))),?_⟩
 k_units
 refine⟨_,hp,_,rfl,?_⟩
 k_units
 rw[if_neg f0];exact k
abbrev T3 (f:Int×Int×Int):HO:=.tup [.int f.1,.int f.2.1,.int f.2.2]
abbrev T2 (f:Int×Int):HO:=.tup [.int f.1,.int f.2]
def PtAt (H:Hp)(r:Addr):Prt->Prop
 | .cho h l=>∃a b,H r=some (.tup [.str (Str.ofString "choose"),.ref a,.ref b])∧H a=some (T3 h)∧H b=some (T3 l)
 | .wei f=>∃a,H r=some (.tup [.str (Str.ofString "weight"),.ref a])∧H a=some (T3 f)
 | .pow f=>∃a,H r=some (.tup [.str (Str.ofString "power"),.ref a])∧H a=some (T2 f)
 | .gro f=>∃a,H r=some (.tup [.str (Str.ofString "growth"),.ref a])∧H a=some (T2 f)
def PcAt {K:W.Frag}{mg:Str->Option Value}(T:Tx K mg)(H0 H:Hp)(r:Addr):Prt->Prop
 | .cho h l=>∃dx a L b t,H r=some (.ins T.Qg dx (eP a L))∧H a=some (T3 h)∧H0 L=none∧H L=some (.lst [.ref b,.ref t])∧H b=some (T3 l)∧H t=some (T3 (ar h l))
 | .wei f=>∃dx a,H r=some (.ins T.Qj dx (jv a))∧H a=some (T3 f)
 | .pow f=>∃dx a,H r=some (.ins T.Qi dx (dY a))∧H a=some (T2 f)
 | .gro f=>∃dx a,H r=some (.ins T.Qh dx (dY a))∧H a=some (T2 f)
inductive Nice (H0:Hp) (a:Addr):HO->Prop where
 | lst {xs:List V}(h:H0 a=none):Nice H0 a (.lst xs)
 | tup {xs:List V}:Nice H0 a (.tup xs)
 | ins {C dx:Addr}{fs:List (Str×V)}(h:fs.lookup (Str.ofString "parts")=none):Nice H0 a (.ins C dx fs)
def Kp (H0 H H':Hp):Prop:=∀a o,H a=some o->Nice H0 a o->H' a=some o
theorem kpS {H0 H H':Hp}(s:Same H H'):Kp H0 H H':=λa o h _=>s a o h
theorem kpD {H0 H H1:Hp}{D:Addr}{xs ys:List V}(s:Same H H1)(h0:H0 D≠none)(h:H D=some (.lst xs)):Kp H0 H (L2.upd H1 D (.lst ys)):=λa o e n=>by
 have:a≠D:=λz=>by
  subst z;rw[h]at e
  cases e
  cases n with
  | lst z=>exact h0 z
 rw[aq this];exact s _ _ e
theorem PtAt.kt {H H':Hp}{r:Addr}{p:Prt}(h:PtAt H r p)(k:∀a xs,H a=some (.tup xs)->H' a=some (.tup xs)):PtAt H' r p:=by
 match p,h with
 | .cho f l,⟨a,b,h1,h2,h3⟩=>exact⟨a,b,k _ _ h1,k _ _ h2,k _ _ h3⟩
 | .wei f,⟨a,h1,h2⟩=>exact⟨a,k _ _ h1,k _ _ h2⟩
 | .pow f,⟨a,h1,h2⟩=>exact⟨a,k _ _ h1,k _ _ h2⟩
 | .gro f,⟨a,h1,h2⟩=>exact⟨a,k _ _ h1,k _ _ h2⟩
theorem PtAt.on {H H':Hp}{r:Addr}{p:Prt}(h:PtAt H r p)(s:Same H H'):PtAt H' r p:=h.kt λa xs e=>s a _ e
theorem PcAt.kp {K:W.Frag}{mg:Str->Option Value}{T:Tx K mg}{H0 H H':Hp}{r:Addr}{p:Prt}(h:PcAt T H0 H r p)(k:Kp H0 H H'):PcAt T H0 H' r p:=by
 match p,h with
 | .cho f l,⟨dx,a,L,b,t,h1,h2,h3,h4,h5,h6⟩=>exact⟨dx,a,L,b,t,k _ _ h1 (.ins rfl),k _ _ h2 .tup,h3,k _ _ h4 (.lst h3),k _ _ h5 .tup,k _ _ h6 .tup⟩
 | .wei f,⟨dx,a,h1,h2⟩=>exact⟨dx,a,k _ _ h1 (.ins rfl),k _ _ h2 .tup⟩
 | .pow f,⟨dx,a,h1,h2⟩=>exact⟨dx,a,k _ _ h1 (.ins rfl),k _ _ h2 .tup⟩
 | .gro f,⟨dx,a,h1,h2⟩=>exact⟨dx,a,k _ _ h1 (.ins rfl),k _ _ h2 .tup⟩
theorem PcAt.fr {K:W.Frag}{mg:Str->Option Value}{T:Tx K mg}{H00 H0 H:Hp}{r:Addr}{p:Prt}(h:PcAt T H0 H r p)(s:∀y,H0 y=none->H00 y=none):PcAt T H00 H r p:=by
 match p,h with
 | .cho f l,⟨dx,a,L,b,t,h1,h2,h3,h4⟩=>exact⟨dx,a,L,b,t,h1,h2,s _ h3,h4⟩
 | .wei f,h=>exact h
 | .pow f,h=>exact h
 | .gro f,h=>exact h
theorem PcAt.from {K:W.Frag}{mg:Str->Option Value}{T:Tx K mg}{H00 H0 H:Hp}{r:Addr}{p:Prt}(h:PcAt T H0 H r p)(s:Same H00 H0):PcAt T H00 H r p:=h.fr λy e=>s.free e
def mkP {K:W.Frag}{mg:Str->Option Value}(T:Tx K mg)(H:Hp)(Q:VK)(p:Prt):Prop:=∀(x:Addr) (H':Hp),Same H H'->PcAt T H H' x p->Q (.ref x) H'
def Od {K:W.Frag}{mg:Str->Option Value}(T:Tx K mg):Sp:=λvs H Q _=>∃(r:Addr) (p:Prt),vs=[.ref r]∧PtAt H r p∧bJ p∧mkP T H Q p
theorem mkP.on {K:W.Frag}{mg:Str->Option Value}{T:Tx K mg}{H H1:Hp}{Q:VK}{p:Prt}(k:mkP T H Q p)(s:Same H H1):mkP T H1 Q p:=λx H' s' h=>k x H' (s.trans s') (h.from s)
theorem gH {H:Hp}{x dx:Addr}{o u:HO}(hx:H x=none)(hd:H dx=none):Same H (L2.upd (L2.upd H dx u) x o):=λb v e=>by rw[aq (aV e hx),aq (aV e hd)];exact e
theorem FX {K:W.Frag}{mg:Str->Option Value}{T:Tx K mg}{H:Hp}{Q:VK}{E:XK}{a b:Addr}{h l:Int×Int×Int}(ha:H a=some (T3 h))(hb:H b=some (T3 l))(k:mkP T H Q (.cho h l))(x dx:Addr)(hx:H x=none)(hd:H dx=none)(_:dx≠x):
  FN K T.Qg [.ref x,.ref a,.ref b] (L2.upd (L2.upd H dx (.own x)) x (.ins T.Qg dx [])) (λv H2=>v=V.non∧Q (.ref x) H2) E:=by
 have s1:Same H (L2.upd (L2.upd H dx (.own x)) x (.ins T.Qg dx [])):=gH hx hd;refine⟨x,dx,a,b,h.1,h.2.1,h.2.2,l.1,l.2.1,l.2.2,rfl,af,SqT.of (s1 _ _ ha),SqT.of (s1 _ _ hb),λL t H' s2 nL nt ex eL et=>⟨rfl,?_⟩⟩;have s3:Same H H':=λy o e=>s2 y o (aV e hx) (s1 y o e);exact k x H' s3 ⟨dx,a,L,b,t,ex,s3 _ _ ha,s1.free nL,eL,s3 _ _ hb,et⟩
theorem FY {K:W.Frag}{mg:Str->Option Value}{T:Tx K mg}{H:Hp}{Q:VK}{E:XK}{a:Addr}{f:Int×Int×Int}(ha:H a=some (T3 f))(k:mkP T H Q (.wei f))(x dx:Addr)(hx:H x=none)(hd:H dx=none)(_:dx≠x):
  FH T.Qj [.ref x,.ref a] (L2.upd (L2.upd H dx (.own x)) x (.ins T.Qj dx [])) (λv H2=>v=V.non∧Q (.ref x) H2) E:=by
 have s1:Same H (L2.upd (L2.upd H dx (.own x)) x (.ins T.Qj dx [])):=gH hx hd;have s3:Same H (L2.upd (L2.upd (L2.upd H dx (.own x)) x (.ins T.Qj dx [])) x (.ins T.Qj dx (jv a))):=λy o e=>by rw[aq (aV e hx)];exact s1 y o e
 exact⟨x,dx,a,rfl,af,rfl,k x _ s3 ⟨dx,a,af,s3 _ _ ha⟩⟩
theorem FZ {K:W.Frag}{mg:Str->Option Value}{T:Tx K mg}{H:Hp}{Q:VK}{E:XK}{a:Addr}{f:Int×Int}(ha:H a=some (T2 f))(k:mkP T H Q (.pow f))(x dx:Addr)(hx:H x=none)(hd:H dx=none)(_:dx≠x):
  sD T.Qi [.ref x,.ref a] (L2.upd (L2.upd H dx (.own x)) x (.ins T.Qi dx [])) (λv H2=>v=V.non∧Q (.ref x) H2) E:=by
 have s1:Same H (L2.upd (L2.upd H dx (.own x)) x (.ins T.Qi dx [])):=gH hx hd;have s3:Same H (L2.upd (L2.upd (L2.upd H dx (.own x)) x (.ins T.Qi dx [])) x (.ins T.Qi dx (dY a))):=λy o e=>by rw[aq (aV e hx)];exact s1 y o e
 exact⟨x,dx,a,rfl,af,rfl,k x _ s3 ⟨dx,a,af,s3 _ _ ha⟩⟩
theorem F4 {K:W.Frag}{mg:Str->Option Value}{T:Tx K mg}{H:Hp}{Q:VK}{E:XK}{a:Addr}{f:Int×Int}(ha:H a=some (T2 f))(k:mkP T H Q (.gro f))(x dx:Addr)(hx:H x=none)(hd:H dx=none)(_:dx≠x):
  sD T.Qh [.ref x,.ref a] (L2.upd (L2.upd H dx (.own x)) x (.ins T.Qh dx [])) (λv H2=>v=V.non∧Q (.ref x) H2) E:=by
 have s1:Same H (L2.upd (L2.upd H dx (.own x)) x (.ins T.Qh dx [])):=gH hx hd;have s3:Same H (L2.upd (L2.upd (L2.upd H dx (.own x)) x (.ins T.Qh dx [])) x (.ins T.Qh dx (dY a))):=λy o e=>by rw[aq (aV e hx)];exact s1 y o e
 exact⟨x,dx,a,rfl,af,rfl,k x _ s3 ⟨dx,a,af,s3 _ _ ha⟩⟩
theorem Oe {P:Program}{w:World}{K:W.Frag}{mg:Str->Option Value}{base:Heap}(T:Tx K mg):FnOk P w K mg base (CXE P w) 4 T.Sa T.Sb ["part"] (Od T):=by
 refine T.UD.okE Nh (λvs H Q E h=>?_) (λcdv A outer s H vs Q E hr h=>?_)
 ·obtain⟨r,p,rfl,_⟩:=h;rfl
 obtain⟨r,p,rfl,hp,ho,k⟩:=h;refine⟨_,((am (aF (PT.nox (aD br (ah aj (pv 0) ac (λ_ _=>rfl)) bX (aC _))) (am (du (au (FnOk.mono (Ob T) (by decide)) hr rfl T.VP T.UA.kp T.VQ .nil zg (aa (ah aj (pv 0) ac (λ_ _=>rfl)) (aa (ah aj (pv 0) ac (λ_ _=>rfl)) ae))))
  (ak (PS.nox (av (eg T.Vg (FnOk.mono (FO T) (by decide)) hr rfl T.Vf T.UZ .nil ai (aa (ah aj (pv 0) ac (λ_ _=>rfl)) (aa (ah aj (pv 0) ac (λ_ _=>rfl)) ae))))))) aG)
  (am (PS.nox (aF (aD br (ah aj (pv 0) ac (λ_ _=>rfl)) bX (aC _)) (ak (av (eg T.VA (FnOk.mono (FI T) (by decide)) hr rfl T.Vz T.U5 .nil ai (aa (ah aj (pv 0) ac (λ_ _=>rfl)) ae)))) aG))
  (am (aF (PT.nox (aD br (ah aj (pv 0) ac (λ_ _=>rfl)) bX (aC _))) (am (du (au (FnOk.mono (FW T) (by decide)) hr rfl T.UB T.R_.kp T.UC .nil zg (aa (ah aj (pv 0) ac (λ_ _=>rfl)) ae)))
  (ak (PS.nox (av (eg T.Vt (FnOk.mono (FK T) (by decide)) hr rfl T.Vs T.U7 .nil ai (aa (ah aj (pv 0) ac (λ_ _=>rfl)) ae)))))) aG)
  (am (aF (PT.nox (aD br (ah aj (pv 0) ac (λ_ _=>rfl)) bX (aC _))) (am (du (au (FnOk.mono (FW T) (by decide)) hr rfl T.UB T.R_.kp T.UC .nil zg (aa (ah aj (pv 0) ac (λ_ _=>rfl)) ae)))
  (ak (PS.nox (av (eg T.Vl (FnOk.mono (FL T) (by decide)) hr rfl T.Vk T.Vb .nil ai (aa (ah aj (pv 0) ac (λ_ _=>rfl)) ae)))))) aG)
  (ak (jc rfl jb rfl T.Rl T.Rm (aa bX ae)))))))),?_⟩
 match p,hp,ho,k with
 | .cho h l,⟨a,b,hr',ha,hb⟩,ho,k=>
  dsimp only[az]
  k_typeOf
  refine⟨_,SqT.of hr',_,rfl,?_⟩
  k_units
  exact⟨_,SqT.of hr',_,rfl,_,SqT.of hr',_,rfl,a,b,h,l,rfl,SqT.of ha,SqT.of hb,ho,λH1 s1=>⟨_,SqT.of (s1 _ _ hr'),_,rfl,_,SqT.of (s1 _ _ hr'),_,rfl,FX (s1 _ _ ha) (s1 _ _ hb) (k.on s1)⟩⟩
 | .wei f,⟨a,hr',ha⟩,ho,k=>
  dsimp only[az]
  k_typeOf
  refine⟨_,SqT.of hr',_,rfl,?_⟩
  k_units
  rw[if_neg (by decide)];refine⟨_,SqT.of hr',_,rfl,?_⟩
  k_units
  exact⟨_,SqT.of hr',_,rfl,FY ha k⟩
 | .pow f,⟨a,hr',ha⟩,ho,k=>
  dsimp only[az]
  k_typeOf
  refine⟨_,SqT.of hr',_,rfl,?_⟩
  k_units
  rw[if_neg (by decide)];refine⟨_,SqT.of hr',_,rfl,?_⟩
  k_units
  rw[if_neg (by decide)];refine⟨_,SqT.of hr',_,rfl,?_⟩
  k_units
  exact⟨_,SqT.of hr',_,rfl,a,f,rfl,SqT.of ha,ho.2.1,_,SqT.of hr',_,rfl,FZ ha k⟩
 | .gro f,⟨a,hr',ha⟩,ho,k=>
  dsimp only[az]
  k_typeOf
  refine⟨_,SqT.of hr',_,rfl,?_⟩
  k_units
  rw[if_neg (by decide)];refine⟨_,SqT.of hr',_,rfl,?_⟩
  k_units
  rw[if_neg (by decide)];refine⟨_,SqT.of hr',_,rfl,?_⟩
  k_units
  rw[if_neg (by decide)];refine⟨_,SqT.of hr',_,rfl,?_⟩
  k_units
  exact⟨_,SqT.of hr',_,rfl,a,f,rfl,SqT.of ha,ho.2.1,_,SqT.of hr',_,rfl,F4 ha k⟩
structure Pts (H:Hp)(rs:List Addr)(ps:List Prt):Prop where
 len:rs.length=ps.length
 get:∀(i:Nat) (r:Addr) (p:Prt),rs[i]?=some r->ps[i]?=some p->PtAt H r p
structure Pcs {K:W.Frag}{mg:Str->Option Value}(T:Tx K mg)(H0 H:Hp)(qs:List Addr)(ps:List Prt):Prop where
 len:qs.length=ps.length
 get:∀(i:Nat) (q:Addr) (p:Prt),qs[i]?=some q->ps[i]?=some p->PcAt T H0 H q p
theorem Pts.kt {H H':Hp}{rs:List Addr}{ps:List Prt}(h:Pts H rs ps)(k:∀a xs,H a=some (.tup xs)->H' a=some (.tup xs)):Pts H' rs ps:=⟨h.len,λi r p e1 e2=>(h.get i r p e1 e2).kt k⟩
theorem Pts.on {H H':Hp}{rs:List Addr}{ps:List Prt}(h:Pts H rs ps)(s:Same H H'):Pts H' rs ps:=h.kt λa xs e=>s a _ e
theorem Pcs.kp {K:W.Frag}{mg:Str->Option Value}{T:Tx K mg}{H0 H H':Hp}{qs:List Addr}{ps:List Prt}(h:Pcs T H0 H qs ps)(k:Kp H0 H H'):Pcs T H0 H' qs ps:=⟨h.len,λi r p e1 e2=>(h.get i r p e1 e2).kp k⟩
theorem Pcs.from {K:W.Frag}{mg:Str->Option Value}{T:Tx K mg}{H00 H0 H:Hp}{qs:List Addr}{ps:List Prt}(h:Pcs T H0 H qs ps)(s:∀y,H0 y=none->H00 y=none):Pcs T H00 H qs ps:=⟨h.len,λi r p e1 e2=>(h.get i r p e1 e2).fr s⟩
theorem Pcs.snoc {K:W.Frag}{mg:Str->Option Value}{T:Tx K mg}{H0 H:Hp}{qs:List Addr}{ps:List Prt}{q:Addr}{p:Prt}(h:Pcs T H0 H qs ps)(a:PcAt T H0 H q p):Pcs T H0 H (qs++[q]) (ps++[p]):=by
 refine⟨by simp[h.len],λi r p' e1 e2=>?_⟩;by_cases hi:i<qs.length
 ·rw[cK hi]at e1;rw[cK (by rw[←h.len];exact hi)]at e2;exact h.get i r p' e1 e2
 ·rw[cO (by omega)]at e1;rw[cO (by have:=h.len;omega),←h.len]at e2;obtain⟨j,hj⟩:∃j,i-qs.length=j:=⟨_,rfl⟩
  rw[hj]at e1 e2
  cases j with
  | zero=>cases Option.some.inj e1;cases Option.some.inj e2;exact a
  | succ j=>simp at e1
theorem Pts.snoc {H:Hp}{rs:List Addr}{ps:List Prt}{r:Addr}{p:Prt}(h:Pts H rs ps)(a:PtAt H r p):Pts H (rs++[r]) (ps++[p]):=by
 refine⟨by simp[h.len],λi r' p' e1 e2=>?_⟩;by_cases hi:i<rs.length
 ·rw[cK hi]at e1;rw[cK (by rw[←h.len];exact hi)]at e2;exact h.get i r' p' e1 e2
 ·rw[cO (by omega)]at e1;rw[cO (by have:=h.len;omega),←h.len]at e2;obtain⟨j,hj⟩:∃j,i-rs.length=j:=⟨_,rfl⟩
  rw[hj]at e1 e2
  cases j with
  | zero=>cases Option.some.inj e1;cases Option.some.inj e2;exact a
  | succ j=>simp at e1
def zQ (P1 P2:Addr):List (Str×V):=[(Str.ofString "parts",.ref P1),(Str.ofString "pieces",.ref P2)]
def TermAt {K:W.Frag}{mg:Str->Option Value}(T:Tx K mg)(H0 H:Hp)(x:Addr)(rs:List Addr)(ps:List Prt):Prop:=∃dx P1 P2 qs,H x=some (.ins T.Qm dx (zQ P1 P2))∧H0 P1=none∧H P1=some (.lst (rs.map V.ref))∧H0 P2=none∧H P2=some (.lst (qs.map V.ref))∧Pcs T H0 H qs ps
theorem TermAt.kp {K:W.Frag}{mg:Str->Option Value}{T:Tx K mg}{H0 H H':Hp}{x:Addr}{rs:List Addr}{ps:List Prt}(h:TermAt T H0 H x rs ps)(k:Kp H0 H H')(kx:∀C dx fs,H x=some (.ins C dx fs)->H' x=some (.ins C dx fs)):TermAt T H0 H' x rs ps:=by
 obtain⟨dx,P1,P2,qs,h1,h2,h3,h4,h5,h6⟩:=h;exact⟨dx,P1,P2,qs,kx _ _ _ h1,h2,k _ _ h3 (.lst h2),h4,k _ _ h5 (.lst h4),h6.kp k⟩
theorem TermAt.on {K:W.Frag}{mg:Str->Option Value}{T:Tx K mg}{H0 H H':Hp}{x:Addr}{rs:List Addr}{ps:List Prt}(h:TermAt T H0 H x rs ps)(s:Same H H'):TermAt T H0 H' x rs ps:=h.kp (kpS s) λC dx fs e=>s _ _ e
def Dyn {K:W.Frag}{mg:Str->Option Value}(T:Tx K mg)(H:Hp)(q:Addr)(n k:Nat)(Q:VK)(E:XK):Prop:=
 (∃x x_1,H q=some (HO.ins T.Qg x x_1)∧bQ (Str.ofString "worth") x_1=none∧FP K T.Qg [V.ref q,V.int (n:Int),V.int (k:Int)] H Q E)∨
 (∃x x_1,H q=some (HO.ins T.Qj x x_1)∧bQ (Str.ofString "worth") x_1=none∧FJ K T.Qj [V.ref q,V.int (n:Int),V.int (k:Int)] H Q E)∨
 (∃x x_1,H q=some (HO.ins T.Qi x x_1)∧bQ (Str.ofString "worth") x_1=none∧jw K T.Qi true [V.ref q,V.int (n:Int),V.int (k:Int)] H Q E)∨
 ∃x x_1,H q=some (HO.ins T.Qh x x_1)∧bQ (Str.ofString "worth") x_1=none∧jw K T.Qh false [V.ref q,V.int (n:Int),V.int (k:Int)] H Q E
theorem Of {K:W.Frag}{mg:Str->Option Value}{T:Tx K mg}{H0 H:Hp}{q:Addr}{p:Prt}{n k B:Nat}{Q:VK}{E:XK}(hc:PcAt T H0 H q p)(ho:FR B p n k)(fin:∀(r:Addr) (Hy:Hp),Same H Hy->Hy r=some (T2 (dZ p n k))->Q (.ref r) Hy):Dyn T H q n k Q E:=by
 obtain⟨ho,n4,k4,_,_,_⟩:=ho;have nt:∀x y:Int,x=(dZ p n k).1->y=(dZ p n k).2->mkT H Q x y:=λx y e1 e2 r nr=>fin r _ (ao nr _) (by rw[af,e1,e2])
 match p,hc,ho,fin,nt with
 | .cho h l,⟨dx,a,L,b,t,h1,h2,h3,h4,h5,h6⟩,ho,fin,nt=>
  obtain⟨⟨a1,a2,a3,a4,a5,a6⟩,⟨b1,b2,b3,b4,b5,b6⟩,_⟩:=ho;have sm:∀x:Int,-12<=x->x<=12->Bd 10 x:=λx p1 p2=>Bd.of_lt (m:=13) (by omega) (by decide);have hb:=FQ (n:=n) (k:=k) ⟨a1,a2⟩ ⟨a3,a4⟩ ⟨a5,a6⟩ n4 k4;have hs:=zO h l n k;refine .inl ⟨dx,_,h1,rfl,q,n,k,rfl,q,dx,a,L,b,t,l,ar h l,h,0,n,k,rfl,h1,h4,SqT.of h2,SqT.of h5,SqT.of h6,?_,?_,?_,sm 0 (by decide) (by decide),sm _ (by omega) (by omega),sm _ ?_ ?_,sm _ (by omega) (by omega),sm _ ?_ ?_,by omega,by omega,by rw[Ar];decide,by rw[Ar];decide,?_,?_⟩
  ·show h.1=l.1+(h.1-l.1);omega
  ·show h.2.1=l.2.1+(h.2.1-l.2.1);omega
  ·show h.2.2=l.2.2+(h.2.2-l.2.2);omega
  ·show -12<=h.1-l.1;omega
  ·show h.1-l.1<=12;omega
  ·show -12<=h.2.1-l.2.1;omega
  ·show h.2.1-l.2.1<=12;omega
  ·rw[sH,sH];omega
  ·rw[sH,sH];intro z hz r H' s1 e1;exact fin r H' s1 (by rw[e1,N7 hz];rfl)
 | .wei f,⟨dx,a,h1,h2⟩,ho,fin,nt=>
  obtain⟨c1,c2,c3⟩:=ho;exact .inr (.inl ⟨dx,_,h1,rfl,q,dx,a,f.1,f.2.1,f.2.2,n,k,rfl,h1,SqT.of h2,c1.mono (by decide),c2.mono (by decide),Bd.of_lt (m:=401) (by omega) (by decide),Bd.of_lt (m:=401) (by omega) (by decide),nt _ _ rfl rfl⟩)
 | .pow f,⟨dx,a,h1,h2⟩,ho,fin,nt=>
  obtain⟨_,_,c1,c2⟩:=ho;exact .inr (.inr (.inl ⟨dx,_,h1,rfl,q,dx,a,f.1,f.2,n,k,rfl,h1,SqT.of h2,c1.mono (by decide),c2.mono (by decide),by omega,by omega,nt _ _ rfl rfl⟩))
 | .gro f,⟨dx,a,h1,h2⟩,ho,fin,nt=>
  obtain⟨_,_,c1,c2⟩:=ho;exact .inr (.inr (.inr ⟨dx,_,h1,rfl,q,dx,a,f.1,f.2,n,k,rfl,h1,SqT.of h2,c1.mono (by decide),c2.mono (by decide),by omega,by omega,nt _ _ rfl rfl⟩))
def Og {K:W.Frag}{mg:Str->Option Value}(T:Tx K mg):Sp:=λvs H Q _=>∃(x:Addr) (H0:Hp) (rs:List Addr) (ps:List Prt) (n k:Nat),vs=[.ref x,.int (n:Int),.int (k:Int)]∧TermAt T H0 H x rs ps∧ps.length<=6∧(∃B,B*ps.length<=3900∧B<=3900∧∀p∈ps,FR B p n k)∧∀r H',Same H H'->H' r=some (T2 (bq (ps.map λp=>dZ p n k)))->Q (.ref r) H'
theorem Qf {P:Program}{w:World}{K:W.Frag}{mg:Str->Option Value}{base:Heap}(T:Tx K mg):FnOk P w K mg base CX0 17 T.Uc T.Ud ["self","n","k"] (Og T):=by
 refine T.WI.ok NK (λvs H Q E h=>?_) (λcdv A outer s H vs Q E hr h=>?_)
 ·obtain⟨x,H0,rs,ps,n,k,rfl,_⟩:=h;rfl
 obtain⟨x,H0,rs,ps,n,k,rfl,⟨dx,P1,P2,qs,h1,h2,h3,h4,h5,h6⟩,l6,hB,z⟩:=h;refine⟨_,((ak (av (au (FnOk.mono (FF T) (by decide)) hr rfl T.UE T.Se.kp T.UF .nil ai (aa (cD rfl (cu rfl (bu rfl (bu rfl bZ)) (bG 1 "n" (by decide) rfl (Or.inl rfl) (Or.inl rfl) ⟨_,rfl⟩ (bG 2 "k" (by decide) rfl (Or.inl rfl) (Or.inl rfl) ⟨_,rfl⟩ cq))) (bY (bS (pv 0) rfl)) (λ_ _ _ _=>(bH (aL (pv 0) T.Qk T.WO (FnOk.mono (N3 T) (by decide)) hr T.Wn .nil ai (aa (pv 1) (aa (pv 2) ae))) (bH (aL (pv 0) T.Qq T.W1 (FnOk.mono (NY T) (by decide)) hr T.Wu .nil ai (aa (pv 1) (aa (pv 2) ae))) (bH (aL (pv 0) T.Qp T.Vu (FnOk.mono (FM T) (by decide)) hr T.U8 .nil ai (aa (pv 1) (aa (pv 2) ae))) (aL (pv 0) T.Ql T.WQ (FnOk.mono (NZ T) (by decide)) hr T.WD .nil ai (aa (pv 1) (aa (pv 2) ae)))))))) ae))))),?_⟩
 k_units
 refine⟨_,_,_,h1,T.Qr,T.QR,_,rfl,P2,rfl,⟨_,SqL.of h5⟩,λD nD=>?_⟩;obtain⟨Pc,hPc⟩:∃Pc:Nat->Hp->Prop,∀j Hx,Pc j Hx↔∃us:List Addr,Hx D=some (.lst (us.map V.ref))∧us.length=j∧(∀(i:Nat) (u:Addr) (p:Prt),us[i]?=some u->ps[i]?=some p->Hx u=some (T2 (dZ p n k)))∧Same H Hx:=⟨_,λ_ _=>Iff.rfl⟩
 refine eE (xs:=qs.map V.ref) Pc ((hPc _ _).mpr ⟨[],af,rfl,λi u h h1=>by simp at h1,ao nD _⟩) (λi Hx _ z=>by obtain⟨_,_,_,_,z⟩:=(hPc i Hx).mp z;exact z.seq (SqL.of h5)) ?_ ?_
 ·intro j v Hx hv hc;obtain⟨us,k1,k2,k3,k4⟩:=(hPc _ _).mp hc;rw[aQ]at hv;obtain⟨q,hq,rfl⟩:=cc.mp hv;have hj:=(be.mp hq).1;have hj2:j<ps.length:=by have:=h6.len;omega
  obtain⟨B,_,_,hb⟩:=hB;have hpo:=hb _ (eX hj2);have hpc:=(h6.get j q _ hq (aJ hj2)).kp (kpS (H0:=H0) k4);have fin:∀(r:Addr) (Hy:Hp),Same Hx Hy->Hy r=some (T2 (dZ ps[j] n k))->∃ys,Hy D=some (.lst ys)∧ys.length<sizeLine∧Pc (j+1) (L2.upd Hy D (.lst (ys++[V.ref r]))):=λr Hy s1 e1=>by
   refine⟨_,s1 _ _ k1,by rw[aB];exact bB (by omega),(hPc _ _).mpr ⟨us++[r],by rw[af];simp,by simp[k2],λi u' p' q1 q2=>?_,(k4.trans s1).more nD⟩⟩;by_cases hi:i<us.length
   ·rw[cK hi]at q1;have e:=s1 _ _ (k3 i u' p' q1 q2);rw[aq (aW e (s1 _ _ k1) (λz=>nomatch z))];exact e
   ·rw[cO (by omega)]at q1;have hi2:i-us.length=0:=by
     have:=(be.mp q1).1;simp at this;omega
    rw[hi2]at q1;obtain rfl:=Option.some.inj q1;have hij:i=j:=by omega
    subst hij;rw[aJ hj2]at q2;obtain rfl:=Option.some.inj q2;rw[aq (aW e1 (s1 _ _ k1) (λz=>nomatch z))];exact e1
  clear hc hPc;generalize ps[j]=p at hpo hpc fin
  (iterate 3 (k_units;(try simp only[bst,dH]));k_units)
  exact Of hpc hpo fin
 intro Hx hc;obtain⟨us,k1,k2,k3,k4⟩:=(hPc _ _).mp hc;rw[aB,h6.len]at k2;obtain⟨B,B1,B2,hb⟩:=hB;refine⟨D,us,ps.map λp=>dZ p n k,rfl,SqL.of k1,⟨by rw[aB];exact k2,λi a f e1 e2=>?_⟩,by rw[aB];exact l6,⟨B,by rw[aB];exact B1,B2,λf hf=>?_⟩,λ_ r nr=>?_⟩
 ·rw[aQ]at e2;obtain⟨p,hp,rfl⟩:=cc.mp e2;exact SqT.of (k3 i a p e1 hp)
 ·obtain⟨p,hp,rfl⟩:=bw.mp hf;obtain⟨_,_,_,g1,g2,g3⟩:=hb p hp;exact⟨g1,g2,g3⟩
 ·exact z r _ (k4.trans (ao nr _)) af
def F7 {K:W.Frag}{mg:Str->Option Value}(T:Tx K mg):Sp:=λvs H Q _=>∃(x dx A:Addr) (rs:List Addr) (ps:List Prt),vs=[.ref x,.ref A]∧H x=some (.ins T.Qm dx [])∧H A=some (.lst (rs.map V.ref))∧Pts H rs ps∧(∀p∈ps,bJ p)∧1<=ps.length∧ps.length<=6∧
 ∀(P1 P2:Addr) (qs:List Addr) (H':Hp),(∀y o,y≠x->H y=some o->H' y=some o)->H P1=none->H P2=none->H' x=some (.ins T.Qm dx (zQ P1 P2))->H' P1=some (.lst (rs.map V.ref))->H' P2=some (.lst (qs.map V.ref))->Pcs T H H' qs ps->Q .non H'
theorem Oh {P:Program}{w:World}{K:W.Frag}{mg:Str->Option Value}{base:Heap}(T:Tx K mg):FnOk P w K mg base (CXE P w) 5 T.Ua T.Ub ["self","parts"] (F7 T):=by
 refine T.WG.okE NJ (λvs H Q E h=>?_) (λcdv A outer s H vs Q E hr h=>?_)
 ·obtain⟨x,dx,A,rs,ps,rfl,_⟩:=h;rfl
 obtain⟨x,dx,A,rs,ps,rfl,hx,hA,hP,hO,l1,l6,k⟩:=h;refine⟨_,((am (aF (PT.nox (PW.pt (cn (aD br (a0 fu rfl T.Qz fB (aa (pv 1) ae)) ac (aC _)) (de (aD fV (a0 fu rfl T.Qz fB (aa (pv 1) ae)) (fS (v:=.int 6) rfl T.Xd.2 ⟨_,rfl⟩) (aC _)))))) Du aG)
  (am (PS.nox (fY (pv 0) (ft J7 rfl T.VG Ey (aa (pv 1) ae)) rfl))
  (ak (fY (pv 0) (cD rfl (cu rfl bZ cq) (bY (pv 1)) (λ_ _ _ _=>(au (FnOk.mono (Oe T) (by decide)) hr rfl T.VR T.UD.kp T.VS .nil zf (aa (pv 0) ae)))) rfl))))),?_⟩
 k_units
 have lr:(rs.map V.ref).length=ps.length:=by rw[aB];exact hP.len
 refine⟨_,.inl (SqL.of hA),?_⟩;rw[if_neg (by rw[lr];omega)];refine⟨_,.inl (SqL.of hA),?_⟩;rw[if_neg (by rw[lr];omega)];refine⟨_,.inl (SqL.of hA),λP1 nP1=>?_⟩;have u1:=ao nP1 (.lst (rs.map V.ref));refine⟨T.Qm,dx,[],u1 _ _ hx,T.Qr,T.W0,by decide,?_⟩;have pf1:bM (Str.ofString "parts") (V.ref P1) []=[(Str.ofString "parts",V.ref P1)]:=rfl;rw[pf1];have xA:A≠x:=aW hA hx (λz=>nomatch z);have xP:P1≠x:=λz=>by rw[z,hx]at nP1;cases nP1
 obtain⟨G,hG⟩:∃G,G=L2.upd (L2.upd H P1 (.lst (rs.map V.ref))) x (.ins T.Qm dx [(Str.ofString "parts",V.ref P1)]):=⟨_,rfl⟩
 rw[←hG];have gx:G x=some (.ins T.Qm dx [(Str.ofString "parts",V.ref P1)]):=by rw[hG];exact af
 have gk:∀y o,y≠x->H y=some o->G y=some o:=λy o hy e=>by rw[hG,aq hy];exact u1 _ _ e
 have gP:G P1=some (.lst (rs.map V.ref)):=by rw[hG,aq xP,af]
 have gn:∀y,G y=none->H y=none:=λy e=>by
  by_cases hy:y=x
  ·rw[hy,gx]at e;cases e
  ·rw[hG,aq hy]at e;exact u1.free e
 have gPt:Pts G rs ps:=hP.kt λa xs e=>gk a _ (aW e hx (λz=>nomatch z)) e;clear hG;refine⟨⟨_,SqL.of (gk _ _ xA hA)⟩,λD nD=>?_⟩;obtain⟨G1,hG1⟩:∃G1,G1=L2.upd G D (.lst []):=⟨_,rfl⟩
 have g1D:G1 D=some (.lst []):=by rw[hG1];exact af
 have g1n:∀y,G1 y=none->G y=none:=λy e=>by rw[hG1]at e;exact (Ku e).2
 have xD:D≠x:=λz=>by rw[z,gx]at nD;cases nD
 obtain⟨Pc,hPc⟩:∃Pc:Nat->Hp->Prop,∀j Hx,Pc j Hx↔∃qs:List Addr,Hx D=some (.lst (qs.map V.ref))∧Pcs T G1 Hx qs (ps.take j)∧Same G Hx:=⟨_,λ_ _=>Iff.rfl⟩
 refine eE (xs:=rs.map V.ref) Pc ((hPc _ _).mpr ⟨[],af,⟨by simp,λi q p e=>by simp at e⟩,ao nD _⟩) (λi Hx _ z=>by obtain⟨_,_,_,z⟩:=(hPc i Hx).mp z;exact z.seq (SqL.of (gk _ _ xA hA))) ?_ ?_
 ·intro j v Hx hv hc;obtain⟨qs,k1,k2,k3⟩:=(hPc _ _).mp hc;rw[aQ]at hv;obtain⟨r,hr1,rfl⟩:=cc.mp hv;have hj:=(be.mp hr1).1;have hj2:j<ps.length:=by have:=hP.len;omega
  (iterate 3 (k_units;(try simp only[bst,dH]));k_units)
  refine⟨r,ps[j],rfl,(gPt.get j r _ hr1 (aJ hj2)).on k3,hO _ (eX hj2),λq H' s' hq=>?_⟩;have lq:=k2.len;rw[cB]at lq;refine⟨_,s' _ _ k1,by rw[aB];exact bB (by omega),(hPc _ _).mpr ⟨qs++[q],by rw[af];simp,?_,(k3.trans s').more nD⟩⟩;have kq:Kp G1 Hx (L2.upd H' D (.lst (qs.map V.ref++[V.ref q]))):=kpD s' (by rw[g1D];simp) k1;rw[←dm hj2];refine (k2.kp kq).snoc ?_;have hq1:PcAt T Hx (L2.upd H' D (.lst (qs.map V.ref++[V.ref q]))) q ps[j]:=hq.kp (kpD (Same.refl H') (by rw[k1];simp) (s' _ _ k1));exact hq1.fr λy e=>by
   by_cases hy:y=D
   ·rw[hy,k1]at e;cases e
   ·rw[hG1,aq hy];exact k3.free e
 intro Hx hc;obtain⟨qs,k1,k2,k3⟩:=(hPc _ _).mp hc;rw[aB,hP.len,Au (aw _)]at k2;refine⟨T.Qm,dx,_,k3 _ _ gx,T.Qr,T.QR,by show 1<1000;decide,?_⟩;have pf2:bM (Str.ofString "pieces") (V.ref D) [(Str.ofString "parts",V.ref P1)]=zQ P1 D:=rfl;rw[pf2];refine k P1 D qs _ (λy o hy e=>by rw[aq hy];exact k3 _ _ (gk y o hy e)) nP1 (gn _ nD) af (by rw[aq xP];exact k3 _ _ gP) (by rw[aq xD];exact k1) ?_;refine (k2.kp λa o e n=>?_).from λy e=>gn _ (g1n _ e);have:a≠x:=λz=>by
  subst z;rw[k3 _ _ gx]at e
  cases e
  cases n with
  | ins z=>
   have z':some (V.ref P1)=none:=z
   cases z'
 rw[aq this];exact e
abbrev DD (H:Hp) (a:Addr) (f:PD):Prop:=Rd H a (.dT (dz f))
def cv (H:Hp)(Q:VK)(g:PD):Prop:=∀(p:Addr) (H':Hp),Same H H'->H p=none->H' p=some (.dT (dz g))->Q (.ref p) H'
theorem DD.same {H H':Hp}{a:Addr}{f:PD}(h:DD H a f)(s:Same H H'):DD H' a f:=by
 rcases h with e|⟨o,e⟩
 ·exact .inl (s _ _ e)
 ·exact .inr ⟨o,s _ _ e⟩
theorem sI {H H':Hp}{a:Addr}{u:HO}(s:Same (upd H a u) H'):Same H (bkH H a H'):=λb o e=>by
 by_cases h:b=a
 ·subst h;rw[rF];exact e
 ·rw[cj h];exact s b o (by rw[aq h];exact e)
theorem F8 {H H':Hp}{a:Addr}{u:HO}(s:Same H H'):Same (upd H a u) (upd H' a u):=λb o e=>by
 by_cases h:b=a
 ·subst h;rw[af]at e ⊢;exact e
 ·rw[aq h]at e ⊢;exact s b o e
theorem Oi {H:Hp}{a:Addr}{k l:List (List Key×V)}(h:Rd H a (.dT k))(h':Rd H a (.dT l)):k=l:=by
 rcases h with e|⟨o,e⟩ <;> rcases h' with e'|⟨o',e'⟩ <;> rw[e]at e' <;> cases e' <;> rfl
theorem DD.frz {H:Hp}{a b:Addr}{f g:PD}{o:Obj}(ha:DD H a f)(hb:DD H b g):DD (upd H a (.frz o (.dT (dz f)))) b g:=by
 by_cases h:b=a
 ·subst h;refine .inr ⟨o,?_⟩;rw[af,Oi ha hb]
 ·rcases hb with e|⟨o',e⟩
  ·exact .inl (by rw[aq h];exact e)
  ·exact .inr ⟨o',by rw[aq h];exact e⟩
theorem DD.some {H:Hp}{a:Addr}{f:PD}(h:DD H a f):∃o,H a=some o:=by
 rcases h with e|⟨o,e⟩
 ·exact⟨_,e⟩
 ·exact⟨_,e⟩
theorem gI {f:PD}{i:Nat}{k:List Key}{x:V}(h:(dz f)[i]?=some (k,x)):∃p:P2×Int,f[i]?=some p∧k=kz p.1∧x=V.int p.2:=by
 unfold dz at h;rw[aQ]at h;obtain⟨p,hp,e⟩:=cc.mp h;injection e with e1 e2;exact⟨p,hp,e1.symm,e2.symm⟩
theorem Oj (f:PD)(k:P2):(cT (dz f) (kz k)).getD (V.int 0)=V.int (cfD f k):=by
 rw[E8];unfold cfD
 cases gtD f k <;> rfl
theorem F9 (f:PD)(x:P2×Int):nzD (f++[x])=if x.2=0 then nzD f else nzD f++[x]:=by
 unfold nzD;rw[List.filter_append,Iv,List.filter_nil];by_cases h:x.2=0
 ·rw[if_pos h,if_neg (by simp[h]),sW]
 ·rw[if_neg h,if_pos (by simp[h])]
theorem gJ {f:PD}{i:Nat}{p:P2×Int}(h:f[i]?=some p):f.take (i+1)=f.take i++[p]:=by rw[List.take_succ,h];rfl
theorem Ol (ps:List (Addr×List Key×Addr×V)):∀a:List (List Key×V),(ps.map (λx=>(x.2.1,x.2.2.2))).foldl (λa x=>bD a x.1 x.2) a=ps.foldl (λa x=>bD a x.2.1 x.2.2.2) a:=by
 induction ps with
 | nil=>intro a;rfl
 | cons x ps ih=>intro a;rw[bF,d5,d5,ih]
theorem Om (g:PD):∀a:PD,(dz g).foldl (λa x=>bD a x.1 x.2) (dz a)=dz (g.foldl (λa x=>ptD a x.1 x.2) a):=by
 induction g with
 | nil=>intro a;rfl
 | cons x g ih=>
  intro a;show (dz g).foldl (λa x=>bD a x.1 x.2) (bD (dz a) (kz x.1) (V.int x.2))=_;rw[gC,ih];rfl
theorem F_ {H G H':Hp}{a:Addr}{u:HO}(s:Same (upd H a u) H')(g:Same H G):Same H (bkH G a H'):=λb o e=>by
 by_cases h:b=a
 ·subst h;rw[rF];exact g b o e
 ·rw[cj h];exact s b o (by rw[aq h];exact e)
def On:Sp:=λvs H Q _=>∃(a:Addr) (f:PD),vs=[.ref a]∧DD H a f∧ndD f∧f.length<=4000∧cv H Q (nzD f)
theorem Ga {P:Program}{w:World}{K:W.Frag}{mg:Str->Option Value}{base:Heap}(T:Tx K mg):FnOk P w K mg base CX0 1 T.Rs T.Rt ["pair"] On:=by
 refine T.Ru.ok M9 (λvs H Q E h=>?_) (λcdv A outer s H vs Q E hr h=>?_)
 ·obtain⟨a,f,rfl,_⟩:=h;rfl
 obtain⟨a,f,rfl,ha,nd,lf,q⟩:=h;refine⟨_,((ak (av (ft (LS rfl (fG (k:=2) hr.units (by decide))) rfl T.Ra jn (aa (LJ (LL rfl (zi rfl bZ rn) (jj (pv 0)) (λ_ _ _ _=>(aD fo (pv 1) ac (aC _))) (λ_ _ _ _=>(aK (aa (pv 0) (aa (pv 1) ae)))))) ae))))),?_⟩
 k_units
 refine⟨dz f,ha,λo tw D nD=>?_⟩;obtain⟨oa,ea⟩:=ha.some;obtain⟨W,hW⟩:∃W:Nat->Hp->Prop,∀i H',W i H'↔∃ps:List (Addr×List Key×Addr×V),H' D=some (.lst (ps.map λx=>V.ref x.1))∧(∀x∈ps,H' x.1=some (.tup [.ref x.2.2.1,x.2.2.2])∧H' x.2.2.1=some (.tup (x.2.1.map kV)))∧ps.map (λx=>(x.2.1,x.2.2.2))=dz (nzD (f.take i))∧Same (upd H a (.frz o (.dT (dz f)))) H':=⟨_,λ_ _=>Iff.rfl⟩
 refine LY W ((hW _ _).mpr ⟨[],af,λ_ h=>absurd h ck,rfl,ao nD _⟩) (λi H' _ h=>by obtain⟨_,_,_,_,sS⟩:=(hW _ _).mp h;exact sS _ _ af) (λi k x p b H' hk hw np hb=>?_) (λH' hw=>?_)
 ·obtain⟨ps,eD,hp,em,sS⟩:=(hW _ _).mp hw;obtain⟨y,hy,rfl,rfl⟩:=gI hk;have hi:=(be.mp hy).1;have u1:=ao np (.tup [.ref b,V.int y.2])
  (iterate 3 (k_units;(try simp only[bN]));k_units)
  refine bC (λhne=>⟨by decide,λt nt=>?_⟩) (λhz=>?_)
  ·have u2:=ao nt (.tup [.ref b,V.int y.2]);have u12:=u1.trans u2;have l1:ps.length<=i:=by
    have e:=congrArg Io em;rw[aB,gb]at e;have h2:=Lz (f.take i);rw[cB]at h2;omega
   have eD2:=u12 _ _ eD;refine⟨_,eD2,by rw[aB];exact cr (show _<=4000 by omega) (by decide),(hW _ _).mpr ⟨ps++[(t,kz y.1,b,V.int y.2)],by rw[af];simp,λx hx=>?_,?_,(sS.trans u12).more nD⟩⟩
   ·have keep:∀c xs,upd (upd H' p (.tup [.ref b,V.int y.2])) t (.tup [.ref b,V.int y.2]) c=some (.tup xs)->upd (upd (upd H' p (.tup [.ref b,V.int y.2])) t (.tup [.ref b,V.int y.2])) D (.lst (ps.map (λx=>V.ref x.1)++[V.ref t])) c=some (.tup xs):=λc xs h=>by
     rw[aq (aW h eD2 (λz=>nomatch z))];exact h
    rcases cx.mp hx with h|h
    ·exact⟨keep _ _ (u12 _ _ (hp x h).1),keep _ _ (u12 _ _ (hp x h).2)⟩
    ·rw[bR.mp h];exact⟨keep _ _ af,keep _ _ (u12 _ _ hb)⟩
   ·rw[aM,em,gJ hy,F9,if_neg (by simpa using hne)];unfold dz;rw[aM];rfl
  ·refine (hW _ _).mpr ⟨ps,u1 _ _ eD,λx hx=>⟨u1 _ _ (hp x hx).1,u1 _ _ (hp x hx).2⟩,?_,sS.trans u1⟩;rw[em,gJ hy,F9,if_pos (by simpa using hz)]
 ·obtain⟨ps,eD,hp,em,sS⟩:=(hW _ _).mp hw;rw[gb,c_]at em;have fz:=sS _ _ (af (H:=H) (a:=a) (o:=.frz o (.dT (dz f))));have sB:=sI sS;have nDa:D≠a:=aW eD fz (λz=>nomatch z);refine⟨H,a,o,dz f,tw,fz,D,rfl,ps,by rw[cj nDa];exact eD,λx hx=>⟨by rw[cj (aW (hp x hx).1 fz (λz=>nomatch z))];exact (hp x hx).1,by rw[cj (aW (hp x hx).2 fz (λz=>nomatch z))];exact (hp x hx).2⟩,λp np=>?_⟩;have e2:L2.fF ps=dz (nzD f):=by
   unfold L2.fF;rw[←Ol,em];have e3:=Om (nzD f) [];rw[LA (zn nd) [] λx _=>gA _]at e3;exact e3
  rw[e2];exact q p _ (sB.trans (ao np _)) (sB.free np) af
theorem Oo (f g:PD):(prD f g).length=f.length*g.length:=by
 induction f with
 | nil=>simp[prD]
 | cons x f ih=>
  show (cE x g++prD f g).length=_;rw[b8,ih,cb,tf];show (g.map _).length+_=_;rw[aB];omega
def Op:Sp:=λvs H Q _=>∃(a b:Addr) (f g:PD) (d e A B:Nat),vs=[.ref a,.ref b]∧DD H a f∧DD H b g∧PdOk d A f∧PdOk e B g∧d+e<=60∧A<=1000000∧B<=1000000∧cv H Q (dR f g)
theorem Oq {P:Program}{w:World}{K:W.Frag}{mg:Str->Option Value}{base:Heap}(T:Tx K mg):FnOk P w K mg base CX0 2 T.Rv T.Rw ["one","other"] Op:=by
 refine T.Ur.ok sc_pair_times (λvs H Q E h=>?_) (λcdv A outer s H vs Q E hr h=>?_)
 ·obtain⟨a,b,f,g,d,e,A,B,rfl,_⟩:=h;rfl
 obtain⟨a,b,f,g,d,e,mA,mB,rfl,ha,hb,pf,pg,hde,lA,lB,q⟩:=h;have lf:f.length<=4000:=aP (jq pf.nd pf.dg) (aP (dO (show d+1<=61 by omega) (show d+1<=61 by omega)) (by decide));have lg:g.length<=4000:=aP (jq pg.nd pg.dg) (aP (dO (show e+1<=61 by omega) (show e+1<=61 by omega)) (by decide));have bf:∀x∈f,Bd (mA+1) x.2:=λx hx=>cr (pf.sz x hx) (tm (by decide) (gU _));have bg:∀x∈g,Bd (mB+1) x.2:=λx hx=>cr (pg.sz x hx) (tm (by decide) (gU _));refine⟨_,((am (ax (i:=2) sc_pair_times.nd rfl (Or.inl rfl) KG)
  (am (jk (bL PassesOwn.never rfl (jj (pv 0)) (fj rfl (cy (aS (i:=3) sc_pair_times.nd rfl (Or.inl rfl)) (cy (aS (i:=4) sc_pair_times.nd rfl (Or.inl rfl)) fh))) (ak (jk (bL PassesOwn.never rfl (jj (pv 1)) (fj rfl (cy (aS (i:=5) sc_pair_times.nd rfl (Or.inl rfl)) (cy (aS (i:=6) sc_pair_times.nd rfl (Or.inl rfl)) fh))) (am (ax (i:=7) sc_pair_times.nd rfl (Or.inl rfl) (aK (aa (ag aI (ah aj (pv 3) ac (λ_ _=>rfl)) (ah aj (pv 5) ac (λ_ _=>rfl))) (aa (ag aI (ah aj (pv 3) ac (λ_ _=>rfl)) (ah aj (pv 5) ac (λ_ _=>rfl))) ae))))
  (ak (KF (fG (k:=1) hr.units (by decide)) (pv 2) (pv 7) (ag aI (KJ (fG (k:=1) hr.units (by decide)) (pv 2) (pv 7) ac ⟨rfl,rfl,rfl,rfl⟩) (ag aT (pv 4) (pv 6))) rfl))))))))
  (ak (av (au (FnOk.mono (Ga T) (by decide)) hr rfl T.Up T.Ru.kp T.Uq .nil ai (aa (pv 2) ae))))))),?_⟩
 k_units
 obtain⟨oa,ea⟩:=ha.some;obtain⟨ob,eb⟩:=hb.some;refine λp np=>⟨dz f,ha.same (ao np _),λo tw=>?_⟩
 have npa:p≠a:=λz=>by rw[z,ea]at np;cases np
 have npb:p≠b:=λz=>by rw[z,eb]at np;cases np
 have npA:upd H a (.frz o (.dT (dz f))) p=none:=by rw[aq npa];exact np
 obtain⟨Pv,hPv⟩:∃Pv:Nat->L2.St->Hp->Prop,∀i σ H',Pv i σ H'↔∃r3 r4 r5 r6 r7:Option V,σ=[some (V.ref a),some (V.ref b),some (V.ref p),r3,r4,r5,r6,r7]∧H' p=some (.dT (dz (foD (prD (f.take i) g) [])))∧Same (upd H a (.frz o (.dT (dz f)))) H':=⟨_,λ_ _ _=>Iff.rfl⟩
 refine rT Pv ((hPv _ _ _).mpr ⟨none,none,none,none,none,rfl,by rw[aq npa];exact af,F8 (ao np _)⟩) (λi σ H' _ h=>by obtain⟨_,_,_,_,_,_,_,sS⟩:=(hPv _ _ _).mp h;exact sS _ _ af) ?_ ?_
 ·intro i k x t c σ H' hk hp nt hc;obtain⟨r3,r4,r5,r6,r7,rfl,ep,sS⟩:=(hPv _ _ _).mp hp;obtain⟨y,hy,rfl,rfl⟩:=gI hk
  k_units
  have u1:=ao nt (.tup [V.ref c,V.int y.2]);have s1:=sS.trans u1;refine⟨_,SqT.of af,rfl,_,_,rfl,_,_,rfl,rfl,dz g,?_,λo2 tw2=>?_⟩
  ·exact (DD.frz ha hb).same s1
  have ep1:=u1 _ _ ep;have hc1:=u1 _ _ hc;generalize upd H' t (.tup [V.ref c,V.int y.2])=G1 at s1 ep1 hc1 tw2 ⊢;obtain⟨Pw,hPw⟩:∃Pw:Nat->L2.St->Hp->Prop,∀j σ H'',Pw j σ H''↔∃r5 r6 r7:Option V,σ=[some (V.ref a),some (V.ref b),some (V.ref p),some (V.ref c),some (V.int y.2),r5,r6,r7]∧H'' p=some (.dT (dz (foD (cE y (g.take j)) (foD (prD (f.take i) g) []))))∧H'' c=some (.tup ((kz y.1).map kV))∧Same (upd (upd H a (.frz o (.dT (dz f)))) b (.frz o2 (.dT (dz g)))) H'':=⟨_,λ_ _ _=>Iff.rfl⟩
  have nBc:∀(G:Hp) (v:HO),G b=some v->(∀xs,v≠.tup xs)->G c=some (.tup ((kz y.1).map kV))->c≠b:=λG v e n h z=>by rw[z,e]at h;exact n _ (Option.some.inj h)
  obtain⟨vb,evb,nvb⟩:∃v,G1 b=some v∧∀xs,v≠.tup xs:=by
   rcases (DD.frz (o:=o) ha hb).same s1 with e|⟨o',e⟩
   ·exact⟨_,e,λxs z=>nomatch z⟩
   ·exact⟨_,e,λxs z=>nomatch z⟩
  have ncb:=nBc G1 vb evb nvb hc1;have npB:upd (upd H a (.frz o (.dT (dz f)))) b (.frz o2 (.dT (dz g))) p=none:=by rw[aq npb];exact npA
  refine rT Pw ((hPw _ _ _).mpr ⟨r5,r6,r7,rfl,by rw[aq npb];exact ep1,by rw[aq ncb];exact hc1,F8 s1⟩) (λj σ H'' _ h=>by obtain⟨_,_,_,_,_,_,sS⟩:=(hPw _ _ _).mp h;exact sS _ _ af) ?_ ?_
  ·intro j k2 x2 t2 c2 σ H'' hk2 hp2 nt2 hc2;obtain⟨r5,r6,r7,rfl,ep2,hcc,sS2⟩:=(hPw _ _ _).mp hp2;obtain⟨z,hz,rfl,rfl⟩:=gI hk2
   k_units
   have u2:=ao nt2 (.tup [V.ref c2,V.int z.2]);have ep3:=u2 _ _ ep2;have hcc3:=u2 _ _ hcc;have hc23:=u2 _ _ hc2;have s3:=sS2.trans u2;refine⟨_,SqT.of af,rfl,_,_,rfl,_,_,rfl,rfl,?_⟩;generalize upd H'' t2 (.tup [V.ref c2,V.int z.2])=G3 at ep3 hcc3 hc23 s3 ⊢;refine⟨_,SqT.of hcc3,_,rfl,_,rfl,_,SqT.of hc23,_,rfl,_,rfl,_,rfl,_,SqT.of hcc3,_,rfl,_,rfl,_,SqT.of hc23,_,rfl,_,rfl,_,rfl,by decide,λp3 np3=>?_⟩;have u4:=ao np3 (.tup [V.int (y.1.1+z.1.1),V.int (y.1.2+z.1.2)]);have ep4:=u4 _ _ ep3;have e4:upd G3 p3 (.tup [V.int (y.1.1+z.1.1),V.int (y.1.2+z.1.2)]) p3=some (.tup ((kz (y.1.1+z.1.1,y.1.2+z.1.2)).map kV)):=af;have hl:(dz (foD (cE y (g.take j)) (foD (prD (f.take i) g) []))).length<sizeLine:=by
    have h1:=zo (cE y (g.take j)) (foD (prD (f.take i) g) []);have h2:=zo (prD (f.take i) g) [];have h3:=Oo (f.take i) g;have h4:(cE y (g.take j)).length<=4000:=by unfold cE;rw[aB,cB];omega
    have h5:(f.take i).length*g.length<=4000*4000:=dO (by rw[cB];omega) lg;rw[dE]at h2;rw[gb];exact cr (show _<=16010000 by omega) (by decide)
   have by':=bf y (ci hy)
   have bz:=bg z (ci hz);refine⟨.inr ⟨_,.inl ep4⟩,_,DGet.t ep4 e4,_,rfl,by'.fits bz (by omega),_,Oj _ _,_,DPut.t ep4 e4 hl,(hPw _ _ _).mpr ⟨_,_,_,rfl,?_,?_,(s3.trans u4).more npB⟩⟩
   ·rw[af,gC,gJ hz,LG,LC];rfl
   ·rw[aq (λw=>by rw[w,ep3]at hcc3;cases hcc3)];exact u4 _ _ hcc3
  ·intro σ H'' hp2;rw[gb]at hp2;obtain⟨r5,r6,r7,rfl,ep2,hcc,sS2⟩:=(hPw _ _ _).mp hp2;rw[c_]at ep2;refine⟨G1,b,o2,dz g,tw2,sS2 _ _ af,(hPv _ _ _).mpr ⟨_,_,_,_,_,rfl,?_,F_ sS2 s1⟩⟩;rw[cj npb,ep2,gJ hy,LF,LD]
 ·intro σ H' hp;rw[gb]at hp;obtain⟨r3,r4,r5,r6,r7,rfl,ep,sS⟩:=(hPv _ _ _).mp hp;rw[c_]at ep;refine⟨upd H p (.dT []),a,o,dz f,tw,sS _ _ af,?_⟩;have sB:=F_ sS (ao np (.dT []))
  k_units
  have l1:(foD (prD f g) []).length<=4000:=aP (jq (ji _ jg) (MW pf.dg pg.dg)) (aP (dO (show d+e+1<=61 by omega) (show d+e+1<=61 by omega)) (by decide));exact⟨p,foD (prD f g) [],rfl,.inl (by rw[cj npa];exact ep),ji _ jg,l1,λp2 H2 s2 n2 e2=>q p2 H2 (sB.trans s2) (sB.free n2) e2⟩
def Os (K:W.Frag):Sp:=λvs H Q _=>∃(a:Addr) (x y z:Int),vs=[.ref a]∧SqT K H a [.int x,.int y,.int z]∧cv H Q (nzD [((1,0),x),((0,1),y),((0,0),z)])
theorem Ot (x y z:Int):ndD [((1,0),x),((0,1),y),((0,0),z)]:=by unfold ndD;simp
theorem Gb {P:Program}{w:World}{K:W.Frag}{mg:Str->Option Value}{base:Heap}(T:Tx K mg):FnOk P w K mg base CX0 2 T.Rx T.Ry ["form"] (Os K):=by
 refine T.Rz.ok M_ (λvs H Q E h=>?_) (λcdv A outer s H vs Q E hr h=>?_)
 ·obtain⟨a,x,y,z,rfl,_⟩:=h;rfl
 obtain⟨a,x,y,z,rfl,ha,q⟩:=h;refine⟨_,((ak (av (au (FnOk.mono (Ga T) (by decide)) hr rfl T.Up T.Ru.kp T.Uq .nil ai (aa (by exact dC (dD hr.units) (cU (aK (aa ac (aa ac ae))) (ah aj (pv 0) ac (λ_ _=>rfl)) (cU (aK (aa ac (aa ac ae))) (ah aj (pv 0) ac (λ_ _=>rfl)) (cU (aK (aa ac (aa ac ae))) (ah aj (pv 0) ac (λ_ _=>rfl)) dB))) rfl rfl (λz=>nomatch z) (by decide)) ae))))),?_⟩
 k_units
 refine λp np=>⟨by decide,λp1 n1=>?_⟩
 have u0:=ao np (.dT []);have u1:=ao n1 (.tup [V.int 1,V.int 0]);have s1:=u0.trans u1;refine⟨_,s1.seqT ha,_,rfl,by decide,λp2 n2=>?_⟩;have u2:=ao n2 (.tup [V.int 0,V.int 1]);have s2:=s1.trans u2;refine⟨_,s2.seqT ha,_,rfl,by decide,λp3 n3=>?_⟩;have u3:=ao n3 (.tup [V.int 0,V.int 0]);have s3:=s2.trans u3;have e0:=(u1.trans (u2.trans u3)) _ _ (af (H:=H) (a:=p) (o:=.dT []));have e1:=(u2.trans u3) _ _ (af (H:=upd H p (.dT [])) (a:=p1) (o:=.tup [V.int 1,V.int 0]));have e2:=u3 _ _ (af (H:=upd (upd H p (.dT [])) p1 (.tup [V.int 1,V.int 0])) (a:=p2) (o:=.tup [V.int 0,V.int 1]));have e3:=af (H:=upd (upd (upd H p (.dT [])) p1 (.tup [V.int 1,V.int 0])) p2 (.tup [V.int 0,V.int 1])) (a:=p3) (o:=.tup [V.int 0,V.int 0]);refine⟨_,s3.seqT ha,_,rfl,?_⟩;generalize upd (upd (upd (upd H p (.dT [])) p1 (.tup [V.int 1,V.int 0])) p2 (.tup [V.int 0,V.int 1])) p3 (.tup [V.int 0,V.int 0])=G at s3 e0 e1 e2 e3 ⊢;refine⟨e0,[(kz (1,0),p1,V.int x),(kz (0,1),p2,V.int y),(kz (0,0),p3,V.int z)],rfl,λk hk=>?_,by simp,p,[((1,0),x),((0,1),y),((0,0),z)],rfl,.inl ?_,Ot x y z,by simp,λp5 H5 s5 n5 e5=>?_⟩
 ·simp only[aH,ck,or_false]at hk;rcases hk with rfl|rfl|rfl
  ·exact e1
  ·exact e2
  ·exact e3
 ·rw[af];have e:=gC [] (1,0) x;have e':=gC (ptD [] (1,0) x) (0,1) y;have e'':=gC (ptD (ptD [] (1,0) x) (0,1) y) (0,0) z;show some (HO.dT (bD (bD (bD (dz []) (kz (1,0)) (V.int x)) (kz (0,1)) (V.int y)) (kz (0,0)) (V.int z)))=_;rw[e,e',e''];simp[ptD]
 ·have s4:Same H (upd G p (.dT (cW [(kz (1,0),p1,V.int x),(kz (0,1),p2,V.int y),(kz (0,0),p3,V.int z)] []))):=s3.more np;exact q p5 H5 (s4.trans s5) (s4.free n5) e5
def rfL (f:Int×Int×Int)(lo:Int)(m:Nat):List PD:=(aR m).map λ(j:Nat)=>fmD f.1 f.2.1 (f.2.2+(lo+(j:Int)))
theorem Gc (f:Int×Int×Int)(lo:Int)(m:Nat):rfL f lo (m+1)=rfL f lo m++[fmD f.1 f.2.1 (f.2.2+(lo+(m:Int)))]:=by
 unfold rfL;rw[gl,aM];rfl
theorem cw (f:Int×Int×Int)(lo:Int)(m:Nat):(rfL f lo m).length=m:=by unfold rfL;rw[aB,e7]
theorem PdOk.mono {d e A B:Nat}{f:PD}(h:PdOk d A f)(h1:d<=e)(h2:A<=B):PdOk e B f:=⟨sv h.dg h1,h.nd,λx hx=>aP (h.sz x hx) (d6 (by decide) h2)⟩
structure DDs (H:Hp)(as:List Addr)(fs:List PD):Prop where
 len:as.length=fs.length
 get:∀(i:Nat) (a:Addr) (f:PD),as[i]?=some a->fs[i]?=some f->DD H a f
theorem DDs.on {H H':Hp}{as:List Addr}{fs:List PD}(h:DDs H as fs)(s:Same H H'):DDs H' as fs:=⟨h.len,λi a f e1 e2=>(h.get i a f e1 e2).same s⟩
theorem DDs.app {H:Hp}{as bs:List Addr}{fs gs:List PD}(h:DDs H as fs)(k:DDs H bs gs):DDs H (as++bs) (fs++gs):=by
 refine⟨by simp[h.len,k.len],λi a f e1 e2=>?_⟩;by_cases hi:i<as.length
 ·rw[cK hi]at e1;rw[cK (by rw[←h.len];exact hi)]at e2;exact h.get i a f e1 e2
 ·rw[cO (by omega)]at e1;rw[cO (by have:=h.len;omega),←h.len]at e2;exact k.get _ a f e1 e2
structure PdsOk (B:Nat)(ds:List Nat)(fs:List PD):Prop where
 len:ds.length=fs.length
 get:∀(i d:Nat) (f:PD),ds[i]?=some d->fs[i]?=some f->PdOk d B f
theorem Ou {H:Hp}{a D:Addr}{f:PD}{xs ys:List V}(h:DD H a f)(e:H D=some (.lst xs)):DD (L2.upd H D (.lst ys)) a f:=by
 rcases h with z|⟨o,z⟩
 ·exact .inl (by rw[aq (aW z e (λw=>nomatch w))];exact z)
 ·exact .inr ⟨o,by rw[aq (aW z e (λw=>nomatch w))];exact z⟩
theorem DDs.upL {H:Hp}{D:Addr}{as:List Addr}{fs:List PD}{xs ys:List V}(h:DDs H as fs)(e:H D=some (.lst xs)):DDs (L2.upd H D (.lst ys)) as fs:=⟨h.len,λi a f e1 e2=>Ou (h.get i a f e1 e2) e⟩
theorem sJ {H:Hp}{p p1:Addr}{v:Int}(e0:H p=some (.dT [])):L2.upd H p (.dT (cW [(kz (0,0),p1,V.int v)] [])) p=some (.dT (dz [((0,0),v)])):=by
 rw[af];have e:=gC [] (0,0) v;show some (HO.dT (bD (dz []) (kz (0,0)) (V.int v)))=_;rw[e];simp[ptD]
def Ov (K:W.Frag):Sp:=λvs H Q _=>∃(A:Addr) (as:List Addr) (fs:List PD) (ds:List Nat) (B:Nat),vs=[.ref A]∧SqL K H A (as.map V.ref)∧DDs H as fs∧PdsOk B ds fs∧ds.sum<=60∧fs.length<=40∧B<=20000∧cv H Q (pdD fs)
theorem gK {P:Program}{w:World}{K:W.Frag}{mg:Str->Option Value}{base:Heap}(T:Tx K mg):FnOk P w K mg base CX0 3 T.RA T.RB ["pairs"] (Ov K):=by
 refine T.QC.ok sc_pair_product (λvs H Q E h=>?_) (λcdv A outer s H vs Q E hr h=>?_)
 ·obtain⟨A,as,fs,ds,B,rfl,_⟩:=h;rfl
 obtain⟨A,as,fs,ds,B,rfl,hA,hD,hO,hs,l40,lB,q⟩:=h;refine⟨_,((am (ax (i:=1) sc_pair_product.nd rfl (Or.inl rfl) (by exact dC (dD hr.units) (cU (aK (aa ac (aa ac ae))) ac dB) rfl rfl (λz=>nomatch z) (by decide)))
  (am (bL PassesOwn.never rfl (bY (pv 0)) (aS (i:=2) sc_pair_product.nd rfl (Or.inl rfl)) (ak (ax (i:=1) sc_pair_product.nd rfl (Or.inl rfl) (au (FnOk.mono (Oq T) (by decide)) hr rfl T.VI T.Ur.kp T.VJ .nil ai (aa (pv 1) (aa (pv 2) ae))))))
  (ak (av (pv 1)))))),?_⟩
 dsimp only[az]
 k_typeOf
 refine λp np=>⟨by decide,λp1 n1=>?_⟩
 have u0:=ao np (.dT []);have u1:=ao n1 (.tup [V.int 0,V.int 0]);have e0:=u1 _ _ (af (H:=H) (a:=p) (o:=.dT []));have e1:=af (H:=L2.upd H p (.dT [])) (a:=p1) (o:=.tup [V.int 0,V.int 0]);refine⟨e0,[(kz (0,0),p1,V.int 1)],rfl,λk hk=>by rw[bR.mp hk];exact e1,by simp,?_⟩;have ed:=sJ (p1:=p1) (v:=1) e0;have s1:Same H (L2.upd (L2.upd (L2.upd H p (.dT [])) p1 (.tup [V.int 0,V.int 0])) p (.dT (cW [(kz (0,0),p1,V.int 1)] []))):=(u0.trans u1).more np;generalize L2.upd (L2.upd (L2.upd H p (.dT [])) p1 (.tup [V.int 0,V.int 0])) p (.dT (cW [(kz (0,0),p1,V.int 1)] []))=G at ed s1 ⊢;dsimp only[az]
 k_typeOf
 obtain⟨Pv,hPv⟩:∃Pv:Nat->L2.St->Hp->Prop,∀i σ H',Pv i σ H'↔∃(a:Addr) (r:Option V),σ=[some (V.ref A),some (V.ref a),r]∧H' a=some (.dT (dz (pdD (fs.take i))))∧H a=none∧PdOk (ds.take i).sum ((B+24)*i) (pdD (fs.take i))∧Same H H':=⟨_,λ_ _ _=>Iff.rfl⟩
 refine⟨⟨_,s1.seq hA⟩,dA (xs:=as.map V.ref) Pv ((hPv _ _ _).mpr ⟨p,none,rfl,ed,np,by rw[IC,IC,Nat.mul_zero];exact pd_one,s1⟩) (λi σ H' _ z=>by obtain⟨_,_,_,_,_,_,z⟩:=(hPv i σ H').mp z;exact z.seq hA) ?_ ?_⟩
 ·intro i v σ H' hv hp;obtain⟨a,r,rfl,ea,na,ok,sx⟩:=(hPv _ _ _).mp hp;rw[aQ]at hv;obtain⟨b,hb,rfl⟩:=cc.mp hv;have hi:=(be.mp hb).1;have hi2:i<fs.length:=by have:=hD.len;omega
  have hi3:i<ds.length:=by have:=hO.len;omega
  have o2:=hO.get i _ _ (aJ hi3) (aJ hi2);have hb2:=(hD.get i b _ hb (aJ hi2)).same sx;have es:(ds.take (i+1)).sum=(ds.take i).sum+ds[i]:=by rw[←dm hi3,tj,gi,ID];omega
  have le:(ds.take (i+1)).sum<=ds.sum:=by
   have:=congrArg List.sum (List.take_append_drop (i+1) ds);rw[tj]at this;omega
  have mB:(B+24)*i<=20024*40:=dO (by omega) (by omega)
  k_units
  refine⟨a,b,_,_,_,_,_,_,rfl,.inl ea,hb2,ok,o2,by omega,by omega,by omega,λq' H2 s2 n2 e2=>(hPv _ _ _).mpr ⟨q',_,rfl,?_,sx.free n2,?_,sx.trans s2⟩⟩
  ·rw[e2,←dm hi2,jr]
  ·rw[es,←dm hi2,jr,g9,IA];exact (Fz ok o2 (by omega)).mono (aw _) (by omega)
 intro σ H' hp;obtain⟨a,r,rfl,ea,na,ok,sx⟩:=(hPv _ _ _).mp hp;rw[aB,hD.len,Au (aw _)]at ea
 k_units
 exact q a H' sx na ea
def Gd (H:Hp)(Q:VK)(fs:List PD):Prop:=∀(L:Addr) (as:List Addr) (H':Hp),Same H H'->H L=none->H' L=some (.lst (as.map V.ref))->DDs H' as fs->Q (.ref L) H'
def Ow (K:W.Frag):Sp:=λvs H Q _=>∃(p:Addr) (f:Int×Int×Int) (lo hi:Int),vs=[.ref p,.int lo,.int hi]∧SqT K H p [.int f.1,.int f.2.1,.int f.2.2]∧-100<=lo∧lo<=100∧-100<=hi∧hi<=100∧Gd H Q (rfL f lo (hi+1-lo).toNat)
theorem jy {P:Program}{w:World}{K:W.Frag}{mg:Str->Option Value}{base:Heap}(T:Tx K mg):FnOk P w K mg base CX0 3 T.RQ T.RS ["form","low","high"] (Ow K):=by
 refine T.QL.ok Nc (λvs H Q E h=>?_) (λcdv A outer s H vs Q E hr h=>?_)
 ·obtain⟨p,f,lo,hi,rfl,_⟩:=h;rfl
 obtain⟨p,f,lo,hi,rfl,hp,l1,l2,h1,h2,q⟩:=h;refine⟨_,((ak (av (cD rfl (cu rfl (bu rfl bZ) (bG 0 "form" (by decide) rfl (Or.inl rfl) (Or.inl rfl) ⟨_,rfl⟩ cq)) (yO rfl T.Qn (aa (pv 1) (aa (ag aI (pv 2) ac) ae))) (λ_ _ _ _=>(au (FnOk.mono (Gb T) (by decide)) hr rfl T.Us T.Rz.kp T.Ut .nil ai (aa (au (FnOk.mono (zJ T) (by decide)) hr rfl T.RO T.Re.kp T.RP .nil ai (aa (pv 1) (aa (pv 0) ae))) ae))))))),?_⟩
 k_units
 refine⟨by omega,by omega,by omega,by omega,λD nD=>?_⟩;have lm:(hi+1-lo).toNat<=201:=by omega
 generalize (hi+1-lo).toNat=m at q lm;obtain⟨Pc,hPc⟩:∃Pc:Nat->Hp->Prop,∀j Hx,Pc j Hx↔∃as:List Addr,Hx D=some (.lst (as.map V.ref))∧DDs Hx as (rfL f lo j)∧Same H Hx:=⟨_,λ_ _=>Iff.rfl⟩
 refine qR Pc ((hPc _ _).mpr ⟨[],af,⟨rfl,λi a f e=>by simp at e⟩,ao nD _⟩) ?_ ?_
 ·intro j Hx hj hc;obtain⟨as,k1,k2,k3⟩:=(hPc _ _).mp hc
  (iterate 3 (k_units;(try simp only[bst,dH]));k_units)
  refine⟨p,f.1,f.2.1,f.2.2,_,rfl,k3.seqT hp,λr nr=>⟨r,f.1,f.2.1,f.2.2+(lo+(j:Int)),rfl,SqT.of af,λa H2 s2 n2 e2=>?_⟩⟩;have u1:=(ao nr (.tup [V.int f.1,V.int f.2.1,V.int (f.2.2+(lo+(j:Int)))])).trans s2;have kl:=k2.len;rw[cw]at kl;refine⟨_,u1 _ _ k1,by rw[aB];exact bB (by omega),(hPc _ _).mpr ⟨as++[a],by rw[af,aM];rfl,?_,(k3.trans u1).more nD⟩⟩;rw[Gc];refine ((k2.on u1).app ⟨rfl,λi b g e1 e3=>?_⟩).upL (u1 _ _ k1)
  cases i with
  | zero=>cases Option.some.inj e1;cases Option.some.inj e3;exact .inl e2
  | succ i=>simp at e1
 intro Hx hc;obtain⟨as,k1,k2,k3⟩:=(hPc _ _).mp hc;exact q D as Hx k3 nD k1 k2
def Ge:Sp:=λvs H Q _=>∃x:Addr,(∃i far:Int,vs=[.ref x,.int i,.int far])∧cv H Q onD
theorem sK {P:Program}{w:World}{K:W.Frag}{mg:Str->Option Value}{base:Heap}(T:Tx K mg):FnOk P w K mg base CX0 1 T.Ri T.Tc ["self","i","far"] Ge:=by
 refine T.Wg.ok No (λvs H Q E h=>?_) (λcdv A outer s H vs Q E hr h=>?_)
 ·obtain⟨x,⟨i,far,rfl⟩,_⟩:=h;rfl
 obtain⟨x,⟨i,far,rfl⟩,q⟩:=h;refine⟨_,((ak (av (by exact dC (dD hr.units) (cU (aK (aa ac (aa ac ae))) ac dB) rfl rfl (λz=>nomatch z) (by decide))))),?_⟩
 k_units
 refine λp np=>⟨by decide,λp1 n1=>?_⟩
 have u0:=ao np (.dT []);have u1:=ao n1 (.tup [V.int 0,V.int 0]);have e0:=u1 _ _ (af (H:=H) (a:=p) (o:=.dT []));have e1:=af (H:=L2.upd H p (.dT [])) (a:=p1) (o:=.tup [V.int 0,V.int 0]);exact⟨e0,[(kz (0,0),p1,V.int 1)],rfl,λk hk=>by rw[bR.mp hk];exact e1,by simp,q p _ ((u0.trans u1).more np) np (sJ (p1:=p1) (v:=1) e0)⟩
theorem eQ (f:Int×Int×Int)(lo n k:Int):∀m:Nat,prI ((rfL f lo m).map λg=>evD g n k)=aX (atF f n k+lo-1) m
 | 0=>rfl
 | m+1=>by
  rw[Gc,aM,bF,gW,sw,eQ f lo n k m,zE];show _=aX _ m*(atF f n k+lo-1+(m:Int)+1);congr 1;unfold atF;omega
def mx (x:Int):Int:=if 0 > x then 0 else x
theorem fJ (far:Int)(f:Int×Int×Int)(n k:Int):atF (aN far f) n k=atF f n k+mx (far*f.1):=by
 show f.1*n+f.2.1*k+(f.2.2+mx (far*f.1))=f.1*n+f.2.1*k+f.2.2+mx (far*f.1);omega
def cnt (lo hi:Int):Nat:=(hi+1-lo).toNat
def stL (h l:Int×Int×Int)(i far:Int):List PD:=rfL h 1 (cnt 1 (i*h.1))++rfL l (i*l.1+1) (cnt (i*l.1+1) (mx (far*l.1)))++rfL (ar h l) (i*(ar h l).1+1) (cnt (i*(ar h l).1+1) (mx (far*(ar h l).1)))
def upL (h l:Int×Int×Int)(far:Int):List PD:=rfL h 1 (cnt 1 h.2.1)++rfL (aN far l) (l.2.1+1) (cnt (l.2.1+1) 0)++rfL (aN far (ar h l)) ((ar h l).2.1+1) (cnt ((ar h l).2.1+1) 0)
def dnL (h l:Int×Int×Int)(far:Int):List PD:=rfL (aN far l) 1 (cnt 1 l.2.1)++rfL (aN far (ar h l)) 1 (cnt 1 (ar h l).2.1)
def kD (v:Int):PD:=[((0,0),v)]
def stD (p:Prt)(i far:Nat):PD:=match p with
 | .cho h l=>pdD (stL h l i far)
 | .wei f=>fmD f.1 f.2.1 (f.2.2+(i:Int)*f.1)
 | .pow _=>onD
 | .gro f=>kD (f.1 ^ i*f.2 ^ (far-i))
def upD (p:Prt)(far:Nat):PD:=match p with
 | .cho h l=>pdD (upL h l far)
 | .wei _=>onD
 | .pow f=>kD f.1
 | .gro _=>onD
def dnD (p:Prt)(far:Nat):PD:=match p with
 | .cho h l=>pdD (dnL h l far)
 | .wei _=>onD
 | .pow f=>kD f.2
 | .gro _=>onD
def dgF:Prt->Nat
 | .cho _ _=>12
 | .wei _=>1
 | _=>0
theorem Gf {B:Nat}{a b c:Int}(ha:Bd B a)(hb:Bd B b)(hc:Bd B c):PdOk 1 B (fmD a b c):=⟨M4 a b c,M5 a b c,M6 (cJ ha) (cJ hb) (cJ hc)⟩
theorem zR {B:Nat}{v:Int}(h:Bd B v):PdOk 0 B (kD v):=⟨λx hx=>by simp[kD]at hx;subst hx;dsimp only;omega,by unfold ndD kD;simp,λx hx=>by simp[kD]at hx;subst hx;exact cJ h⟩
theorem gL (v n k:Int):evD (kD v) n k=v:=by unfold evD kD;rw[cA,eO];unfold mon;simp
theorem zS {B:Nat}:∀(m:Nat) (fs:List PD) (ds:List Nat),fs.length=m->PdsOk B ds fs->ds.sum<=60->PdOk ds.sum ((B+24)*fs.length) (pdD fs)
 | 0,fs,ds,hm,h,_=>by
  obtain rfl:=eY hm;obtain rfl:=eY h.len;exact pd_one
 | m+1,fs,ds,hm,h,hs=>by
  obtain⟨gs,g,rfl⟩:∃gs g,fs=gs++[g]:=⟨fs.dropLast,fs.getLast (λz=>by rw[z]at hm;simp at hm),(eZ _).symm⟩
  have hl:=h.len;obtain⟨es,e,rfl⟩:∃es e,ds=es++[e]:=⟨ds.dropLast,ds.getLast (λz=>by rw[z]at hl;simp at hl),(eZ _).symm⟩
  simp only[b8,jL]at hl hm;have hes:es.length=gs.length:=by omega
  rw[tj,gi,ID]at hs ⊢;have i1:=zS m gs es (by omega) ⟨hes,λi d f e1 e2=>h.get i d f (by rw[cK (be.mp e1).1];exact e1) (by rw[cK (be.mp e2).1];exact e2)⟩ (by omega);have i2:PdOk e B g:=h.get gs.length e g (by rw[←hes,cO (aw _),hJ];rfl) (by rw[cO (aw _),hJ];rfl);rw[jr,b8,jL,g9,IA,Nat.add_zero];exact (Fz i1 i2 (by omega)).mono (aw _) (by omega)
theorem gN:∀m:Nat,(bK m 1).sum=m
 | 0=>rfl
 | m+1=>by rw[d0,gi,gN m];omega
theorem gO {B:Nat}{fs:List PD}(h:∀f∈fs,PdOk 1 B f)(l:fs.length<=60):PdsOk B (bK fs.length 1) fs∧PdOk fs.length ((B+24)*fs.length) (pdD fs):=by
 have h1:PdsOk B (bK fs.length 1) fs:=⟨Aj,λi d f e1 e2=>by
  have:d=1:=List.eq_of_mem_replicate (ci e1);subst this;exact h f (ci e2)⟩
 have h2:=zS _ fs _ rfl h1 (by rw[gN];exact l);rw[gN]at h2;exact⟨h1,h2⟩
theorem fK {f:Int×Int×Int}{lo:Int}{m:Nat}(h1:Bd 8 f.1)(h2:Bd 8 f.2.1)(h3:Bd 8 f.2.2)(hl:-50<=lo)(hm:lo+m<=50):∀g∈rfL f lo m,PdOk 1 10 g:=λg hg=>by
 unfold rfL at hg;obtain⟨j,hj,rfl⟩:=bw.mp hg;have:=cM.mp hj;refine Gf (h1.mono (by decide)) (h2.mono (by decide)) ?_;have b:Bd 8 (lo+(j:Int)):=Bd.of_lt (m:=51) (by omega) (by decide);exact (h3.add b).mono (by decide)
theorem fL (x:Int):0<=mx x∧x<=mx x:=by unfold mx;split <;> omega
structure Sml (h l:Int×Int×Int)(i far:Nat):Prop where
 c:cF h l
 i1:i<=far
 f2:far<=2
theorem sL {h l:Int×Int×Int}{i far:Nat}(s:Sml h l i far):(0<=(i:Int)*h.1∧(i:Int)*h.1<=6)∧((i:Int)*l.1<=mx ((far:Int)*l.1)∧-6<=(i:Int)*l.1∧(i:Int)*l.1<=6∧mx ((far:Int)*l.1)<=6)∧((i:Int)*(ar h l).1<=mx ((far:Int)*(ar h l).1)∧-12<=(i:Int)*(ar h l).1∧(i:Int)*(ar h l).1<=12∧mx ((far:Int)*(ar h l).1)<=12)∧
  (i:Int)*h.1+(mx ((far:Int)*l.1)-(i:Int)*l.1)+(mx ((far:Int)*(ar h l).1)-(i:Int)*(ar h l).1)<=12:=by
 obtain⟨⟨⟨a1,a2,_⟩,⟨b1,b2,_⟩,_⟩,i1,f2⟩:=s;have e:(ar h l).1=h.1-l.1:=rfl;rw[e];generalize h.1=x at *;generalize l.1=y at *;unfold mx;have hi:i=0∨i=1∨i=2:=by omega
 have hf:far=0∨far=1∨far=2:=by omega
 rcases hf with rfl|rfl|rfl <;> rcases hi with rfl|rfl|rfl <;> (try omega) <;> (refine⟨⟨?_,?_⟩,⟨?_,?_,?_,?_⟩,⟨?_,?_,?_,?_⟩,?_⟩ <;> (try split) <;> (try split) <;> omega)
theorem bd8 {x:Int}(h1:-100<=x)(h2:x<=100):Bd 8 x:=Bd.of_lt (m:=101) (by omega) (by decide)
theorem eR {h l:Int×Int×Int}(c:cF h l):(Bd 8 h.1∧Bd 8 h.2.1∧Bd 8 h.2.2)∧(Bd 8 l.1∧Bd 8 l.2.1∧Bd 8 l.2.2)∧(Bd 8 (ar h l).1∧Bd 8 (ar h l).2.1∧Bd 8 (ar h l).2.2):=by
 obtain⟨⟨a1,a2,a3,a4,a5,a6⟩,⟨b1,b2,b3,b4,b5,b6⟩,_⟩:=c;refine⟨⟨bd8 (by omega) (by omega),bd8 (by omega) (by omega),bd8 (by omega) (by omega)⟩,⟨bd8 (by omega) (by omega),bd8 (by omega) (by omega),bd8 (by omega) (by omega)⟩,bd8 ?_ ?_,bd8 ?_ ?_,bd8 ?_ ?_⟩
 ·show -100<=h.1-l.1;omega
 ·show h.1-l.1<=100;omega
 ·show -100<=h.2.1-l.2.1;omega
 ·show h.2.1-l.2.1<=100;omega
 ·show -100<=h.2.2-l.2.2;omega
 ·show h.2.2-l.2.2<=100;omega
theorem zT {h l:Int×Int×Int}{i far:Nat}(s:Sml h l i far):(stL h l i far).length<=12∧∀f∈stL h l i far,PdOk 1 10 f:=by
 obtain⟨⟨p1,p2⟩,⟨q1,q2,q3,q4⟩,⟨r1,r2,r3,r4⟩,t⟩:=sL s;obtain⟨⟨c1,c2,c3⟩,⟨c4,c5,c6⟩,⟨c7,c8,c9⟩⟩:=eR s.c;have m1:=(fL ((far:Int)*l.1)).1;have m2:=(fL ((far:Int)*(ar h l).1)).1;refine⟨?_,λf hf=>?_⟩
 ·unfold stL;rw[b8,b8,cw,cw,cw];unfold cnt;omega
 ·unfold stL at hf;rcases cx.mp hf with hf|hf
  ·rcases cx.mp hf with hf|hf
   ·exact fK c1 c2 c3 (by decide) (by unfold cnt;omega) f hf
   ·exact fK c4 c5 c6 (by omega) (by unfold cnt;omega) f hf
  ·exact fK c7 c8 c9 (by omega) (by unfold cnt;omega) f hf
theorem Ox {h l:Int×Int×Int}{i far:Nat}(s:Sml h l i far)(n k:Int):evD (pdD (stL h l i far)) n k=aX (atF h n k) ((i:Int)*h.1).toNat*(aX (atF l n k+(i:Int)*l.1) (cnt ((i:Int)*l.1+1) (mx ((far:Int)*l.1)))*aX (atF (ar h l) n k+(i:Int)*(ar h l).1) (cnt ((i:Int)*(ar h l).1+1) (mx ((far:Int)*(ar h l).1)))):=by
 obtain⟨_,ok⟩:=zT s;rw[(jt n k _ (stL h l i far) 1 rfl λf hf=>(ok f hf).dg).1];unfold stL;rw[aM,aM,js,js,eQ,eQ,eQ,dJ];congr 1
 ·congr 1
  ·omega
  ·unfold cnt;omega
 ·congr 1
  ·congr 1;omega
  ·congr 1;omega
theorem Oy {h l:Int×Int×Int}(c:cF h l)(n k:Nat):0<=atF h n k:=by
 obtain⟨⟨a1,_,a3,_,a5,_⟩,_⟩:=c;have:=Aw a1 (Int.natCast_nonneg n);have:=Aw a3 (Int.natCast_nonneg k);show 0<=h.1*(n:Int)+h.2.1*(k:Int)+h.2.2;omega
def gQ (p:Prt)(far n k:Nat)(z:Int×Int):Prop:=Frc z∧Bd 20000 z.1∧Bd 650 z.2∧match p with
 | .cho h l=>FB (atF h n k).toNat (atF l n k+mx ((far:Int)*l.1)) (atF (ar h l) n k+mx ((far:Int)*(ar h l).1)) z
 | .wei _=>z=(1,1)
 | .pow f=>z=(f.1 ^ k,f.2 ^ k)
 | .gro f=>z=(f.1 ^ n,f.2 ^ (n+far))
theorem jz {h l:Int×Int×Int}{far:Nat}(c:cF h l)(f2:far<=2):(upL h l far).length<=12∧(∀f∈upL h l far,PdOk 1 10 f)∧(dnL h l far).length<=12∧∀f∈dnL h l far,PdOk 1 10 f:=by
 obtain⟨_,⟨q1,q2,q3,q4⟩,⟨r1,r2,r3,r4⟩,t⟩:=sL (i:=0) ⟨c,aY far,f2⟩;obtain⟨⟨a1,a2,a3,a4,a5,a6⟩,⟨b1,b2,b3,b4,b5,b6⟩,_⟩:=id c;obtain⟨⟨c1,c2,c3⟩,⟨c4,c5,c6⟩,⟨c7,c8,c9⟩⟩:=eR c;have m1:=(fL ((far:Int)*l.1)).1;have m2:=(fL ((far:Int)*(ar h l).1)).1;have e1:(ar h l).2.1=h.2.1-l.2.1:=rfl;have e2:(ar h l).2.2=h.2.2-l.2.2:=rfl;have k1:Bd 8 (aN far l).2.2:=bd8 (by show -100<=l.2.2+mx _;omega) (by show l.2.2+mx _<=100;omega);have k2:Bd 8 (aN far (ar h l)).2.2:=bd8 (by show -100<=(ar h l).2.2+mx _;omega) (by show (ar h l).2.2+mx _<=100;omega);refine⟨?_,λf hf=>?_,?_,λf hf=>?_⟩
 ·unfold upL;rw[b8,b8,cw,cw,cw];unfold cnt;omega
 ·unfold upL at hf;rcases cx.mp hf with hf|hf
  ·rcases cx.mp hf with hf|hf
   ·exact fK c1 c2 c3 (by decide) (by unfold cnt;omega) f hf
   ·exact fK (f:=aN far l) c4 c5 k1 (by omega) (by unfold cnt;omega) f hf
  ·exact fK (f:=aN far (ar h l)) c7 c8 k2 (by omega) (by unfold cnt;omega) f hf
 ·unfold dnL;rw[b8,cw,cw];unfold cnt;omega
 ·unfold dnL at hf;rcases cx.mp hf with hf|hf
  ·exact fK (f:=aN far l) c4 c5 k1 (by decide) (by unfold cnt;omega) f hf
  ·exact fK (f:=aN far (ar h l)) c7 c8 k2 (by decide) (by unfold cnt;omega) f hf
def gR:Sp:=λvs H Q _=>∃(x:Addr) (far:Int),vs=[.ref x,.int far]∧cv H Q onD
theorem jA {H:Hp}{Q:VK}{v:Int}(q:cv H Q (kD v))(p:Addr)(np:H p=none)(p1:Addr)(n1:L2.upd H p (.dT []) p1=none):
  L2.upd (L2.upd H p (.dT [])) p1 (.tup [V.int 0,V.int 0]) p=some (.dT [])∧∃ks:List (List Key×Addr×V),[(V.ref p1,V.int v)]=ks.map (λx=>(V.ref x.2.1,x.2.2))∧(∀x∈ks,L2.upd (L2.upd H p (.dT [])) p1 (.tup [V.int 0,V.int 0]) x.2.1=some (.tup (x.1.map kV)))∧ks.length<=15∧
   Q (V.ref p) (L2.upd (L2.upd (L2.upd H p (.dT [])) p1 (.tup [V.int 0,V.int 0])) p (.dT (cW ks []))):=by
 have u0:=ao np (.dT []);have u1:=ao n1 (.tup [V.int 0,V.int 0]);have e0:=u1 _ _ (af (H:=H) (a:=p) (o:=.dT []));have e1:=af (H:=L2.upd H p (.dT [])) (a:=p1) (o:=.tup [V.int 0,V.int 0]);exact⟨e0,[(kz (0,0),p1,V.int v)],rfl,λk hk=>by rw[bR.mp hk];exact e1,by simp,q p _ ((u0.trans u1).more np) np (sJ (p1:=p1) (v:=v) e0)⟩
theorem jB {P:Program}{w:World}{K:W.Frag}{mg:Str->Option Value}{base:Heap}(T:Tx K mg):FnOk P w K mg base CX0 1 T.Q5 T.Td ["self","far"] gR:=by
 refine T.Wh.ok Np (λvs H Q E h=>?_) (λcdv A outer s H vs Q E hr h=>?_)
 ·obtain⟨x,far,rfl,_⟩:=h;rfl
 obtain⟨x,far,rfl,q⟩:=h;refine⟨_,((ak (av (by exact dC (dD hr.units) (cU (aK (aa ac (aa ac ae))) ac dB) rfl rfl (λz=>nomatch z) (by decide))))),?_⟩
 k_units
 exact λp np=>⟨by decide,λp1 n1=>jA (v:=1) q p np p1 n1⟩
theorem jC {P:Program}{w:World}{K:W.Frag}{mg:Str->Option Value}{base:Heap}(T:Tx K mg):FnOk P w K mg base CX0 1 T.Q7 T.Te ["self","far"] gR:=by
 refine T.Wi.ok Nq (λvs H Q E h=>?_) (λcdv A outer s H vs Q E hr h=>?_)
 ·obtain⟨x,far,rfl,_⟩:=h;rfl
 obtain⟨x,far,rfl,q⟩:=h;refine⟨_,((ak (av (by exact dC (dD hr.units) (cU (aK (aa ac (aa ac ae))) ac dB) rfl rfl (λz=>nomatch z) (by decide))))),?_⟩
 k_units
 exact λp np=>⟨by decide,λp1 n1=>jA (v:=1) q p np p1 n1⟩
def Gg:Sp:=λvs H Q _=>∃(x:Addr) (n k far:Int),vs=[.ref x,.int n,.int k,.int far]∧mkT H Q 1 1
theorem zU {P:Program}{w:World}{K:W.Frag}{mg:Str->Option Value}{base:Heap}(T:Tx K mg):FnOk P w K mg base CX0 1 T.Rk T.Tf ["self","n","k","far"] Gg:=by
 refine T.Wj.ok Nr (λvs H Q E h=>?_) (λcdv A outer s H vs Q E hr h=>?_)
 ·obtain⟨x,n,k,far,rfl,_⟩:=h;rfl
 obtain⟨x,n,k,far,rfl,q⟩:=h;refine⟨_,((ak (av (aK (aa ac (aa ac ae)))))),?_⟩
 k_units
 exact⟨by decide,q⟩
def Gh (K:W.Frag)(C:Addr):Sp:=λvs H Q _=>∃(x dx p:Addr) (f:Int×Int×Int) (i:Nat) (far:Int),vs=[.ref x,.int (i:Int),.int far]∧H x=some (.ins C dx (jv p))∧SqT K H p [.int f.1,.int f.2.1,.int f.2.2]∧Bd 400 f.1∧i<=2∧cv H Q (fmD f.1 f.2.1 (f.2.2+(i:Int)*f.1))
theorem Gi {P:Program}{w:World}{K:W.Frag}{mg:Str->Option Value}{base:Heap}(T:Tx K mg):FnOk P w K mg base CX0 3 T.TJ T.TK ["self","i","far"] (Gh K T.Qj):=by
 refine T.Wv.ok Ny (λvs H Q E h=>?_) (λcdv A outer s H vs Q E hr h=>?_)
 ·obtain⟨x,dx,p,f,i,far,rfl,_⟩:=h;rfl
 obtain⟨x,dx,p,f,i,far,rfl,hx,hp,bf,i2,q⟩:=h;refine⟨_,((ak (av (au (FnOk.mono (Gb T) (by decide)) hr rfl T.Us T.Rz.kp T.Ut .nil ai (aa (au (FnOk.mono (zJ T) (by decide)) hr rfl T.RO T.Re.kp T.RP .nil ai (aa (bS (pv 0) rfl) (aa (ag aT (pv 1) (ah aj (bS (pv 0) rfl) ac (λ_ _=>rfl))) ae))) ae))))),?_⟩
 k_units
 exact⟨T.Qj,dx,_,hx,T.Qq,T.Rn,_,rfl,T.Qj,dx,_,hx,T.Qq,T.Rn,_,rfl,p,rfl,_,hp,_,rfl,_,rfl,(Bd.of_lt (m:=3) (k:=2) (x:=(i:Int)) (by omega) (by decide)).fits bf (by decide),p,f.1,f.2.1,f.2.2,_,rfl,hp,λr nr=>⟨r,f.1,f.2.1,f.2.2+(i:Int)*f.1,rfl,SqT.of af,λa H2 s2 n2 e2=>q a H2 ((ao nr _).trans s2) ((ao nr _).free n2) e2⟩⟩
def sM (K:W.Frag)(C:Addr)(up:Bool):Sp:=λvs H Q _=>∃(x dx p:Addr) (f:Int×Int) (far:Int),vs=[.ref x,.int far]∧H x=some (.ins C dx (dY p))∧SqT K H p [.int f.1,.int f.2]∧cv H Q (kD (if up then f.1 else f.2))
theorem Gj {P:Program}{w:World}{K:W.Frag}{mg:Str->Option Value}{base:Heap}(T:Tx K mg):FnOk P w K mg base CX0 1 T.TU T.TV ["self","far"] (sM K T.Qi true):=by
 refine T.Wy.ok NC (λvs H Q E h=>?_) (λcdv A outer s H vs Q E hr h=>?_)
 ·obtain⟨x,dx,p,f,far,rfl,_⟩:=h;rfl
 obtain⟨x,dx,p,f,far,rfl,hx,hp,q⟩:=h;refine⟨_,((ak (av (by exact dC (dD hr.units) (cU (aK (aa ac (aa ac ae))) (ah aj (bS (pv 0) rfl) ac (λ_ _=>rfl)) dB) rfl rfl (λz=>nomatch z) (by decide))))),?_⟩
 k_units
 refine λp' np=>⟨by decide,λp1 n1=>?_⟩
 have u:=(ao np (.dT [])).trans (ao n1 (.tup [V.int 0,V.int 0]));exact⟨T.Qi,dx,_,u _ _ hx,T.Qp,T.Q_,_,rfl,p,rfl,_,u.seqT hp,_,rfl,jA q p' np p1 n1⟩
theorem Gk {P:Program}{w:World}{K:W.Frag}{mg:Str->Option Value}{base:Heap}(T:Tx K mg):FnOk P w K mg base CX0 1 T.TW T.TX ["self","far"] (sM K T.Qi false):=by
 refine T.Wz.ok ND (λvs H Q E h=>?_) (λcdv A outer s H vs Q E hr h=>?_)
 ·obtain⟨x,dx,p,f,far,rfl,_⟩:=h;rfl
 obtain⟨x,dx,p,f,far,rfl,hx,hp,q⟩:=h;refine⟨_,((ak (av (by exact dC (dD hr.units) (cU (aK (aa ac (aa ac ae))) (ah aj (bS (pv 0) rfl) ac (λ_ _=>rfl)) dB) rfl rfl (λz=>nomatch z) (by decide))))),?_⟩
 k_units
 refine λp' np=>⟨by decide,λp1 n1=>?_⟩
 have u:=(ao np (.dT [])).trans (ao n1 (.tup [V.int 0,V.int 0]));exact⟨T.Qi,dx,_,u _ _ hx,T.Qp,T.Q_,_,rfl,p,rfl,_,u.seqT hp,_,rfl,jA q p' np p1 n1⟩
def Gm (K:W.Frag)(C:Addr):Sp:=λvs H Q E=>∃(x dx p:Addr) (n k:Nat) (far:Int),vs=[.ref x,.int (n:Int),.int (k:Int),.int far]∧H x=some (.ins C dx (dY p))∧jw K C true [.ref x,.int (n:Int),.int (k:Int)] H Q E
theorem Gn {P:Program}{w:World}{K:W.Frag}{mg:Str->Option Value}{base:Heap}(T:Tx K mg):FnOk P w K mg base CX0 3 T.TY T.TZ ["self","n","k","far"] (Gm K T.Qi):=by
 refine T.WA.ok NE (λvs H Q E h=>?_) (λcdv A outer s H vs Q E hr h=>?_)
 ·obtain⟨x,dx,p,n,k,far,rfl,_⟩:=h;rfl
 obtain⟨x,dx,p,n,k,far,rfl,hx,z⟩:=h;refine⟨_,((ak (av (aL (pv 0) T.Qp T.Vu (FnOk.mono (FM T) (by decide)) hr T.U8 .nil ai (aa (pv 1) (aa (pv 2) ae)))))),?_⟩
 k_units
 exact⟨dx,_,hx,rfl,z⟩
def Go (K:W.Frag)(C:Addr):Sp:=λvs H Q _=>∃(x dx p:Addr) (f:Int×Int) (i far:Nat),vs=[.ref x,.int (i:Int),.int (far:Int)]∧H x=some (.ins C dx (dY p))∧SqT K H p [.int f.1,.int f.2]∧Bd 100 f.1∧Bd 100 f.2∧i<=far∧far<=2∧cv H Q (kD (f.1 ^ i*f.2 ^ (far-i)))
theorem Gp {P:Program}{w:World}{K:W.Frag}{mg:Str->Option Value}{base:Heap}(T:Tx K mg):FnOk P w K mg base CX0 2 T.T7 T.T8 ["self","i","far"] (Go K T.Qh):=by
 refine T.WE.ok NH (λvs H Q E h=>?_) (λcdv A outer s H vs Q E hr h=>?_)
 ·obtain⟨x,dx,p,f,i,far,rfl,_⟩:=h;rfl
 obtain⟨x,dx,p,f,i,far,rfl,hx,hp,b1,b2,hi,hf,q⟩:=h;refine⟨_,((ak (av (by exact dC (dD hr.units) (cU (aK (aa ac (aa ac ae))) (ag aT (au (FnOk.mono (fI T) (by decide)) hr rfl T.Qu T.Qs.kp T.Qv .nil ai (aa (ah aj (bS (pv 0) rfl) ac (λ_ _=>rfl)) (aa (pv 1) ae))) (au (FnOk.mono (fI T) (by decide)) hr rfl T.Qu T.Qs.kp T.Qv .nil ai (aa (ah aj (bS (pv 0) rfl) ac (λ_ _=>rfl)) (aa (ag cf (pv 2) (pv 1)) ae)))) dB) rfl rfl (λz=>nomatch z) (by decide))))),?_⟩
 k_units
 refine λp' np=>⟨by decide,λp1 n1=>?_⟩
 have u:=(ao np (.dT [])).trans (ao n1 (.tup [V.int 0,V.int 0]));exact⟨T.Qh,dx,_,u _ _ hx,T.Ql,T.QG,_,rfl,p,rfl,_,u.seqT hp,_,rfl,f.1,i,rfl,b1,by omega,T.Qh,dx,_,u _ _ hx,T.Ql,T.QG,_,rfl,p,rfl,_,u.seqT hp,_,rfl,f.2,far-i,by rw[show (far:Int)-(i:Int)=((far-i:Nat):Int) by omega],b2,by omega,_,rfl,_,rfl,(bO b1 i).fits (bO b2 (far-i)) (by omega),jA q p' np p1 n1⟩
def Gq (K:W.Frag)(C:Addr):Sp:=λvs H Q _=>∃(x dx p:Addr) (f:Int×Int) (n far:Nat) (k:Int),vs=[.ref x,.int (n:Int),.int k,.int (far:Int)]∧H x=some (.ins C dx (dY p))∧SqT K H p [.int f.1,.int f.2]∧Bd 100 f.1∧Bd 100 f.2∧n+far<=500∧mkT H Q (f.1 ^ n) (f.2 ^ (n+far))
theorem Gr {P:Program}{w:World}{K:W.Frag}{mg:Str->Option Value}{base:Heap}(T:Tx K mg):FnOk P w K mg base CX0 2 T.T9 T.T_ ["self","n","k","far"] (Gq K T.Qh):=by
 refine T.WF.ok NI (λvs H Q E h=>?_) (λcdv A outer s H vs Q E hr h=>?_)
 ·obtain⟨x,dx,p,f,n,far,k,rfl,_⟩:=h;rfl
 obtain⟨x,dx,p,f,n,far,k,rfl,hx,hp,b1,b2,hn,q⟩:=h;refine⟨_,((ak (av (aK (aa (au (FnOk.mono (fI T) (by decide)) hr rfl T.Qu T.Qs.kp T.Qv .nil ai (aa (ah aj (bS (pv 0) rfl) ac (λ_ _=>rfl)) (aa (pv 1) ae))) (aa (au (FnOk.mono (fI T) (by decide)) hr rfl T.Qu T.Qs.kp T.Qv .nil ai (aa (ah aj (bS (pv 0) rfl) ac (λ_ _=>rfl)) (aa (ag aI (pv 1) (pv 3)) ae))) ae)))))),?_⟩
 k_units
 exact⟨T.Qh,dx,_,hx,T.Ql,T.QG,_,rfl,p,rfl,_,hp,_,rfl,f.1,n,rfl,b1,by omega,T.Qh,dx,_,hx,T.Ql,T.QG,_,rfl,p,rfl,_,hp,_,rfl,f.2,n+far,by rw[Int.natCast_add],b2,hn,by decide,q⟩
def cG (A B C:List PD):Nat->List PD
 | 0=>A
 | 1=>A++B
 | _=>A++B++C
theorem zV {A B C:List PD}(h1:A.length<=30)(h2:B.length<=30)(h3:C.length<=30)(j:Nat):(cG A B C j).length<=90:=by
 match j with
 | 0=>show A.length<=90;omega
 | 1=>show (A++B).length<=90;rw[b8];omega
 | j+2=>show (A++B++C).length<=90;rw[b8,b8];omega
theorem zW {H G H2:Hp}{F N:Addr}{as bs:List Addr}{fs gs hs:List PD}{Pv:Hp->Prop}(nF:H F=none) (s:Same H G) (eF:G F=some (.lst (as.map V.ref))) (d:DDs G as fs) (s2:Same G H2) (e2:H2 N=some (.lst (bs.map V.ref))) (d2:DDs H2 bs gs) (lf:fs.length<=90) (lg:gs.length<=90) (eh:hs=fs++gs)
  (k:∀as',L2.upd H2 F (.lst (as.map V.ref++bs.map V.ref)) F=some (.lst (as'.map V.ref))->DDs (L2.upd H2 F (.lst (as.map V.ref++bs.map V.ref))) as' hs->Same H (L2.upd H2 F (.lst (as.map V.ref++bs.map V.ref)))->Pv (L2.upd H2 F (.lst (as.map V.ref++bs.map V.ref)))):
  ∃xs,H2 F=some (.lst xs)∧∃zs,H2 N=some (.lst zs)∧xs.length+zs.length<=sizeLine∧Pv (L2.upd H2 F (.lst (xs++zs))):=by
 refine⟨_,s2 _ _ eF,_,e2,?_,k (as++bs) (by rw[af,aM]) ?_ ((s.trans s2).more nF)⟩
 ·rw[aB,aB,d.len,d2.len];exact aP (show fs.length+gs.length<=180 by omega) (by decide)
 ·rw[eh];exact ((d.on s2).app d2).upL (s2 _ _ eF)
def Gs (K:W.Frag)(C:Addr):Sp:=λvs H Q _=>∃(x dx p L q t:Addr) (h l:Int×Int×Int) (i far:Nat),vs=[.ref x,.int (i:Int),.int (far:Int)]∧H x=some (.ins C dx (eP p L))∧H L=some (.lst [.ref q,.ref t])∧SqT K H p [.int h.1,.int h.2.1,.int h.2.2]∧SqT K H q [.int l.1,.int l.2.1,.int l.2.2]∧SqT K H t [.int (ar h l).1,.int (ar h l).2.1,.int (ar h l).2.2]∧Sml h l i far∧cv H Q (pdD (stL h l i far))
theorem Gt {P:Program}{w:World}{K:W.Frag}{mg:Str->Option Value}{base:Heap}(T:Tx K mg):FnOk P w K mg base CX0 5 T.Tp T.Tq ["self","i","far"] (Gs K T.Qg):=by
 refine T.Wo.ok sc_Choose_step (λvs H Q E h=>?_) (λcdv A outer s H vs Q E hr h=>?_)
 ·obtain⟨x,dx,p,L,q,t,h,l,i,far,rfl,_⟩:=h;rfl
 obtain⟨x,dx,p,L,q,t,h,l,i,far,rfl,hx,hL,hp,hq,ht,sm,z⟩:=h;refine⟨_,((am (ax (i:=3) sc_Choose_step.nd rfl (Or.inl rfl) (au (FnOk.mono (jy T) (by decide)) hr rfl T.QU T.QL.kp T.QV .nil ai (aa (bS (pv 0) rfl) (aa ac (aa (ag aT (pv 1) (ah aj (bS (pv 0) rfl) ac (λ_ _=>rfl))) ae)))))
  (am (bL PassesOwn.never rfl (bY (bS (pv 0) rfl)) (aS (i:=4) sc_Choose_step.nd rfl (Or.inl rfl)) (ak (du (fZ PySem.F.plainAttrs_list PySem.F.slot_list_extend PySem.F.type_list_extend yZ (pv 3) (aa (au (FnOk.mono (jy T) (by decide)) hr rfl T.QU T.QL.kp T.QV .nil ai (aa (pv 4) (aa (ag aI (ag aT (pv 1) (ah aj (pv 4) ac (λ_ _=>rfl))) ac) (aa (a0 (fX rfl) rfl T.QI f_ (aa (ag aT (pv 2) (ah aj (pv 4) ac (λ_ _=>rfl))) (aa ac ae))) ae)))) ae)))))
  (ak (av (au (FnOk.mono (gK T) (by decide)) hr rfl T.QJ T.QC.kp T.QK .nil ai (aa (pv 3) ae))))))),?_⟩
 obtain⟨⟨p1,p2⟩,⟨q1,q2,q3,q4⟩,⟨r1,r2,r3,r4⟩,_⟩:=sL sm;obtain⟨⟨c1,_,_⟩,⟨c4,_,_⟩,⟨c7,_,_⟩⟩:=eR sm.c;have i2:=sm.i1;have f2:=sm.f2;have bi:Bd 8 (i:Int):=bd8 (by omega) (by omega);have bf:Bd 8 (far:Int):=bd8 (by omega) (by omega);dsimp only[az]
 k_typeOf
 refine⟨T.Qg,dx,_,hx,T.Qk,T.QQ,_,rfl,T.Qg,dx,_,hx,T.Qk,T.QQ,_,rfl,p,rfl,_,hp,_,rfl,_,rfl,bi.fits c1 (by decide),p,h,1,_,rfl,hp,by decide,by decide,by omega,by omega,λF as H1 s1 nF eF dF=>?_⟩;dsimp only[az]
 k_typeOf
 refine⟨T.Qg,dx,_,s1 _ _ hx,T.Qk,T.Um,_,rfl,L,rfl,⟨_,SqL.of (s1 _ _ hL)⟩,?_⟩;obtain⟨A0,hA0⟩:∃A0,A0=rfL h 1 (cnt 1 ((i:Int)*h.1)):=⟨_,rfl⟩
 obtain⟨B0,hB0⟩:∃B0,B0=rfL l ((i:Int)*l.1+1) (cnt ((i:Int)*l.1+1) (mx ((far:Int)*l.1))):=⟨_,rfl⟩
 obtain⟨C0,hC0⟩:∃C0,C0=rfL (ar h l) ((i:Int)*(ar h l).1+1) (cnt ((i:Int)*(ar h l).1+1) (mx ((far:Int)*(ar h l).1))):=⟨_,rfl⟩
 have m1:=(fL ((far:Int)*l.1)).1;have m2:=(fL ((far:Int)*(ar h l).1)).1;have lA:A0.length<=30:=by rw[hA0,cw];unfold cnt;omega
 have lB:B0.length<=30:=by rw[hB0,cw];unfold cnt;omega
 have lC:C0.length<=30:=by rw[hC0,cw];unfold cnt;omega
 obtain⟨Pv,hPv⟩:∃Pv:Nat->L2.St->Hp->Prop,∀j σ H',Pv j σ H'↔∃(as:List Addr) (r:Option V),σ=[some (V.ref x),some (V.int (i:Int)),some (V.int (far:Int)),some (V.ref F),r]∧H' F=some (.lst (as.map V.ref))∧DDs H' as (cG A0 B0 C0 j)∧Same H H':=⟨_,λ_ _ _=>Iff.rfl⟩
 refine dA (xs:=[V.ref q,V.ref t]) Pv ((hPv _ _ _).mpr ⟨as,none,rfl,eF,by rw[show cG A0 B0 C0 0=A0 from rfl,hA0];exact dF,s1⟩) (λj σ H' _ y=>by obtain⟨_,_,_,_,_,y⟩:=(hPv j σ H').mp y;exact y.seq (SqL.of hL)) ?_ ?_
 ·intro j v σ G hv hp';obtain⟨as,r,rfl,eG,dG,sG⟩:=(hPv _ _ _).mp hp';obtain⟨u,f,rfl,eu,b1,lo,lo',hi,hi',gs,lgs,hgs,ehs⟩:∃(u:Addr) (f:Int×Int×Int),v=V.ref u∧SqT K H u [.int f.1,.int f.2.1,.int f.2.2]∧Bd 8 f.1∧-100<=(i:Int)*f.1+1∧(i:Int)*f.1+1<=100∧-100<=mx ((far:Int)*f.1)∧mx ((far:Int)*f.1)<=100∧∃gs,gs.length<=30∧gs=rfL f ((i:Int)*f.1+1) (cnt ((i:Int)*f.1+1) (mx ((far:Int)*f.1)))∧cG A0 B0 C0 (j+1)=cG A0 B0 C0 j++gs:=by
   match j,hv with
   | 0,hv=>exact⟨q,l,(Option.some.inj hv).symm,hq,c4,by omega,by omega,by omega,by omega,B0,lB,hB0,rfl⟩
   | 1,hv=>exact⟨t,ar h l,(Option.some.inj hv).symm,ht,c7,by omega,by omega,by omega,by omega,C0,lC,hC0,rfl⟩
   | j+2,hv=>simp at hv
  k_units
  refine⟨fx (SqL.of eG),_,sG.seqT eu,_,rfl,_,rfl,bi.fits b1 (by decide),_,sG.seqT eu,_,rfl,_,rfl,bf.fits b1 (by decide),u,f,_,_,rfl,sG.seqT eu,lo,lo',hi,hi',λN bs H2 s2 n2 e2 d2=>?_⟩;exact⟨N,rfl,zW nF sG eG dG s2 e2 d2 (zV lA lB lC j) (by have w:=lgs;rw[hgs]at w;exact aP w (by decide)) (by rw[ehs,hgs];rfl) λas' e3 d3 s3=>(hPv _ _ _).mpr ⟨as',_,rfl,e3,d3,s3⟩⟩
 intro σ G hp';obtain⟨as2,r,rfl,eG,dG,sG⟩:=(hPv _ _ _).mp hp';have ef:cG A0 B0 C0 2=stL h l i far:=by rw[hA0,hB0,hC0];rfl
 obtain⟨sl,so⟩:=zT sm
 k_units
 exact⟨F,as2,stL h l i far,bK (stL h l i far).length 1,10,rfl,SqL.of eG,by rw[←ef];exact dG,(gO so (by omega)).1,by rw[gN];omega,by omega,by decide,λa H3 s3 n3 e3=>z a H3 (sG.trans s3) (sG.free n3) e3⟩
def Gu (K:W.Frag)(C:Addr):Sp:=λvs H Q _=>∃(x dx p L q t:Addr) (h l:Int×Int×Int) (far:Nat),vs=[.ref x,.int (far:Int)]∧H x=some (.ins C dx (eP p L))∧H L=some (.lst [.ref q,.ref t])∧SqT K H p [.int h.1,.int h.2.1,.int h.2.2]∧SqT K H q [.int l.1,.int l.2.1,.int l.2.2]∧SqT K H t [.int (ar h l).1,.int (ar h l).2.1,.int (ar h l).2.2]∧cF h l∧far<=2∧cv H Q (pdD (upL h l far))
theorem Gv {P:Program}{w:World}{K:W.Frag}{mg:Str->Option Value}{base:Heap}(T:Tx K mg):FnOk P w K mg base CX0 5 T.Ts T.Tt ["self","far"] (Gu K T.Qg):=by
 refine T.Wp.ok sc_Choose_up (λvs H Q E h=>?_) (λcdv A outer s H vs Q E hr h=>?_)
 ·obtain⟨x,dx,p,L,q,t,h,l,far,rfl,_⟩:=h;rfl
 obtain⟨x,dx,p,L,q,t,h,l,far,rfl,hx,hL,hp,hq,ht,c,f2,z⟩:=h;refine⟨_,((am (ax (i:=2) sc_Choose_up.nd rfl (Or.inl rfl) (au (FnOk.mono (jy T) (by decide)) hr rfl T.QU T.QL.kp T.QV .nil ai (aa (bS (pv 0) rfl) (aa ac (aa (ah aj (bS (pv 0) rfl) ac (λ_ _=>rfl)) ae)))))
  (am (bL PassesOwn.never rfl (bY (aL (pv 0) T.Qk T.Uk (FnOk.mono (zK T) (by decide)) hr T.Tl .nil ai (aa (pv 1) ae))) (aS (i:=3) sc_Choose_up.nd rfl (Or.inl rfl)) (ak (du (fZ PySem.F.plainAttrs_list PySem.F.slot_list_extend PySem.F.type_list_extend yZ (pv 2) (aa (au (FnOk.mono (jy T) (by decide)) hr rfl T.QU T.QL.kp T.QV .nil ai (aa (pv 3) (aa (ag aI (ah aj (pv 3) ac (λ_ _=>rfl)) ac) (aa ac ae)))) ae)))))
  (ak (av (au (FnOk.mono (gK T) (by decide)) hr rfl T.QJ T.QC.kp T.QK .nil ai (aa (pv 2) ae))))))),?_⟩
 obtain⟨⟨a1,a2,a3,a4,a5,a6⟩,⟨b1,b2,b3,b4,b5,b6⟩,_⟩:=id c;obtain⟨⟨c1,c2,_⟩,⟨c4,c5,_⟩,⟨c7,c8,_⟩⟩:=eR c;have bf:Bd 8 (far:Int):=bd8 (by omega) (by omega);have e1:(ar h l).2.1=h.2.1-l.2.1:=rfl;dsimp only[az]
 k_typeOf
 refine⟨T.Qg,dx,_,hx,T.Qk,T.QQ,_,rfl,T.Qg,dx,_,hx,T.Qk,T.QQ,_,rfl,p,rfl,_,hp,_,rfl,p,h,1,_,rfl,hp,by decide,by decide,by omega,by omega,λF as H1 s1 nF eF dF=>?_⟩;dsimp only[az]
 k_typeOf
 refine⟨dx,_,s1 _ _ hx,rfl,x,dx,p,L,q,t,l,ar h l,(far:Int),rfl,s1 _ _ hx,s1 _ _ hL,s1.seqT hq,s1.seqT ht,bf.mono (by decide),c4.mono (by decide),c7.mono (by decide),λD u v H2 s2 nD eD eu ev=>⟨D,rfl,⟨_,SqL.of eD⟩,?_⟩⟩;obtain⟨A0,hA0⟩:∃A0:List PD,A0=rfL h 1 (cnt 1 h.2.1):=⟨_,rfl⟩
 obtain⟨B0,hB0⟩:∃B0,B0=rfL (aN far l) (l.2.1+1) (cnt (l.2.1+1) 0):=⟨_,rfl⟩
 obtain⟨C0,hC0⟩:∃C0,C0=rfL (aN far (ar h l)) ((ar h l).2.1+1) (cnt ((ar h l).2.1+1) 0):=⟨_,rfl⟩
 have lA:A0.length<=30:=by rw[hA0];first|(rw[cw];unfold cnt;omega)|simp
 have lB:B0.length<=30:=by rw[hB0,cw];unfold cnt;omega
 have lC:C0.length<=30:=by rw[hC0,cw];unfold cnt;omega
 have s12:=s1.trans s2;have nDF:D≠F:=λw=>by rw[w,eF]at nD;cases nD
 obtain⟨Pv,hPv⟩:∃Pv:Nat->L2.St->Hp->Prop,∀j σ H',Pv j σ H'↔∃(as:List Addr) (r:Option V),σ=[some (V.ref x),some (V.int (far:Int)),some (V.ref F),r]∧H' F=some (.lst (as.map V.ref))∧DDs H' as (cG A0 B0 C0 j)∧Same H H'∧H' D=some (.lst [.ref u,.ref v])∧H' u=some (T3 (aN far l))∧H' v=some (T3 (aN far (ar h l))):=⟨_,λ_ _ _=>Iff.rfl⟩
 refine dA (xs:=[V.ref u,V.ref v]) Pv ((hPv _ _ _).mpr ⟨as,none,rfl,s2 _ _ eF,by rw[show cG A0 B0 C0 0=A0 from rfl,hA0];exact dF.on s2,s12,eD,eu,ev⟩) (λj σ H' _ y=>by obtain⟨_,_,_,_,_,_,y,_⟩:=(hPv j σ H').mp y;exact SqL.of y) ?_ ?_
 ·intro j v' σ G hv hp';obtain⟨as,r,rfl,eG,dG,sG,gD,gu,gv⟩:=(hPv _ _ _).mp hp';obtain⟨u',f,rfl,eu',d1,d2,gs,lgs,hgs,ehs⟩:∃(u':Addr) (f:Int×Int×Int),v'=V.ref u'∧G u'=some (T3 f)∧-50<=f.2.1∧f.2.1<=50∧∃gs,gs.length<=30∧gs=rfL f (f.2.1+1) (cnt (f.2.1+1) (0))∧cG A0 B0 C0 (j+1)=cG A0 B0 C0 j++gs:=by
   match j,hv with
   | 0,hv=>exact⟨u,aN far l,(Option.some.inj hv).symm,gu,by show -50<=l.2.1;omega,by show l.2.1<=50;omega,B0,lB,hB0,rfl⟩
   | 1,hv=>exact⟨v,aN far (ar h l),(Option.some.inj hv).symm,gv,by show -50<=(ar h l).2.1;omega,by show (ar h l).2.1<=50;omega,C0,lC,hC0,rfl⟩
   | j+2,hv=>simp at hv
  k_units
  refine⟨fx (SqL.of eG),_,SqT.of eu',_,rfl,_,rfl,u',f,_,_,rfl,SqT.of eu',by omega,by omega,by omega,by omega,λN bs H3 s3 n3 e3 d3=>?_⟩;exact⟨N,rfl,zW nF sG eG dG s3 e3 d3 (zV lA lB lC j) (by have w:=lgs;rw[hgs]at w;exact aP w (by decide)) (by rw[ehs,hgs];rfl) λas' e4 d4 s4=>(hPv _ _ _).mpr ⟨as',_,rfl,e4,d4,s4,by rw[aq nDF];exact s3 _ _ gD,by rw[aq (aW gu eG (λw=>nomatch w))];exact s3 _ _ gu,by rw[aq (aW gv eG (λw=>nomatch w))];exact s3 _ _ gv⟩⟩
 intro σ G hp';obtain⟨as2,r,rfl,eG,dG,sG,_⟩:=(hPv _ _ _).mp hp';have ef:cG A0 B0 C0 2=upL h l far:=by rw[hA0,hB0,hC0];rfl
 obtain⟨o1,o2,o3,o4⟩:=jz (far:=far) c f2
 k_units
 exact⟨F,as2,upL h l far,bK (upL h l far).length 1,10,rfl,SqL.of eG,by rw[←ef];exact dG,(gO o2 (by omega)).1,by rw[gN];omega,by omega,by decide,λa H3 s3 n3 e3=>z a H3 (sG.trans s3) (sG.free n3) e3⟩
def Gw (K:W.Frag)(C:Addr):Sp:=λvs H Q _=>∃(x dx p L q t:Addr) (h l:Int×Int×Int) (far:Nat),vs=[.ref x,.int (far:Int)]∧H x=some (.ins C dx (eP p L))∧H L=some (.lst [.ref q,.ref t])∧SqT K H p [.int h.1,.int h.2.1,.int h.2.2]∧SqT K H q [.int l.1,.int l.2.1,.int l.2.2]∧SqT K H t [.int (ar h l).1,.int (ar h l).2.1,.int (ar h l).2.2]∧cF h l∧far<=2∧cv H Q (pdD (dnL h l far))
theorem Gx {P:Program}{w:World}{K:W.Frag}{mg:Str->Option Value}{base:Heap}(T:Tx K mg):FnOk P w K mg base CX0 5 T.Tu T.Tv ["self","far"] (Gw K T.Qg):=by
 refine T.Wq.ok sc_Choose_down (λvs H Q E h=>?_) (λcdv A outer s H vs Q E hr h=>?_)
 ·obtain⟨x,dx,p,L,q,t,h,l,far,rfl,_⟩:=h;rfl
 obtain⟨x,dx,p,L,q,t,h,l,far,rfl,hx,hL,hp,hq,ht,c,f2,z⟩:=h;refine⟨_,((am (ax (i:=2) sc_Choose_down.nd rfl (Or.inl rfl) (bT ae))
  (am (bL PassesOwn.never rfl (bY (aL (pv 0) T.Qk T.Uk (FnOk.mono (zK T) (by decide)) hr T.Tl .nil ai (aa (pv 1) ae))) (aS (i:=3) sc_Choose_down.nd rfl (Or.inl rfl)) (ak (du (fZ PySem.F.plainAttrs_list PySem.F.slot_list_extend PySem.F.type_list_extend yZ (pv 2) (aa (au (FnOk.mono (jy T) (by decide)) hr rfl T.QU T.QL.kp T.QV .nil ai (aa (pv 3) (aa ac (aa (ah aj (pv 3) ac (λ_ _=>rfl)) ae)))) ae)))))
  (ak (av (au (FnOk.mono (gK T) (by decide)) hr rfl T.QJ T.QC.kp T.QK .nil ai (aa (pv 2) ae))))))),?_⟩
 obtain⟨⟨a1,a2,a3,a4,a5,a6⟩,⟨b1,b2,b3,b4,b5,b6⟩,_⟩:=id c;obtain⟨⟨c1,c2,_⟩,⟨c4,c5,_⟩,⟨c7,c8,_⟩⟩:=eR c;have bf:Bd 8 (far:Int):=bd8 (by omega) (by omega);have e1:(ar h l).2.1=h.2.1-l.2.1:=rfl;dsimp only[az]
 k_typeOf
 refine⟨by decide,λF nF=>?_⟩;have s1:=ao nF (.lst []);have eF:L2.upd H F (.lst []) F=some (.lst (([]:List Addr).map V.ref)):=af;obtain⟨as,has⟩:∃as:List Addr,as=[]:=⟨_,rfl⟩
 have dF:DDs (L2.upd H F (.lst [])) as []:=by rw[has];exact⟨rfl,λi a f e=>by simp at e⟩
 rw[←has]at eF;generalize L2.upd H F (.lst [])=H1 at s1 eF dF ⊢;dsimp only[az]
 k_typeOf
 refine⟨dx,_,s1 _ _ hx,rfl,x,dx,p,L,q,t,l,ar h l,(far:Int),rfl,s1 _ _ hx,s1 _ _ hL,s1.seqT hq,s1.seqT ht,bf.mono (by decide),c4.mono (by decide),c7.mono (by decide),λD u v H2 s2 nD eD eu ev=>⟨D,rfl,⟨_,SqL.of eD⟩,?_⟩⟩;obtain⟨A0,hA0⟩:∃A0:List PD,A0=[]:=⟨_,rfl⟩
 obtain⟨B0,hB0⟩:∃B0,B0=rfL (aN far l) 1 (cnt 1 l.2.1):=⟨_,rfl⟩
 obtain⟨C0,hC0⟩:∃C0,C0=rfL (aN far (ar h l)) 1 (cnt 1 (ar h l).2.1):=⟨_,rfl⟩
 have lA:A0.length<=30:=by rw[hA0];first|(rw[cw];unfold cnt;omega)|simp
 have lB:B0.length<=30:=by rw[hB0,cw];unfold cnt;omega
 have lC:C0.length<=30:=by rw[hC0,cw];unfold cnt;omega
 have s12:=s1.trans s2;have nDF:D≠F:=λw=>by rw[w,eF]at nD;cases nD
 obtain⟨Pv,hPv⟩:∃Pv:Nat->L2.St->Hp->Prop,∀j σ H',Pv j σ H'↔∃(as:List Addr) (r:Option V),σ=[some (V.ref x),some (V.int (far:Int)),some (V.ref F),r]∧H' F=some (.lst (as.map V.ref))∧DDs H' as (cG A0 B0 C0 j)∧Same H H'∧H' D=some (.lst [.ref u,.ref v])∧H' u=some (T3 (aN far l))∧H' v=some (T3 (aN far (ar h l))):=⟨_,λ_ _ _=>Iff.rfl⟩
 refine dA (xs:=[V.ref u,V.ref v]) Pv ((hPv _ _ _).mpr ⟨as,none,rfl,s2 _ _ eF,by rw[show cG A0 B0 C0 0=A0 from rfl,hA0];exact dF.on s2,s12,eD,eu,ev⟩) (λj σ H' _ y=>by obtain⟨_,_,_,_,_,_,y,_⟩:=(hPv j σ H').mp y;exact SqL.of y) ?_ ?_
 ·intro j v' σ G hv hp';obtain⟨as,r,rfl,eG,dG,sG,gD,gu,gv⟩:=(hPv _ _ _).mp hp';obtain⟨u',f,rfl,eu',d1,d2,gs,lgs,hgs,ehs⟩:∃(u':Addr) (f:Int×Int×Int),v'=V.ref u'∧G u'=some (T3 f)∧-50<=f.2.1∧f.2.1<=50∧∃gs,gs.length<=30∧gs=rfL f (1) (cnt (1) (f.2.1))∧cG A0 B0 C0 (j+1)=cG A0 B0 C0 j++gs:=by
   match j,hv with
   | 0,hv=>exact⟨u,aN far l,(Option.some.inj hv).symm,gu,by show -50<=l.2.1;omega,by show l.2.1<=50;omega,B0,lB,hB0,rfl⟩
   | 1,hv=>exact⟨v,aN far (ar h l),(Option.some.inj hv).symm,gv,by show -50<=(ar h l).2.1;omega,by show (ar h l).2.1<=50;omega,C0,lC,hC0,rfl⟩
   | j+2,hv=>simp at hv
  k_units
  refine⟨fx (SqL.of eG),_,SqT.of eu',_,rfl,u',f,_,_,rfl,SqT.of eu',by omega,by omega,by omega,by omega,λN bs H3 s3 n3 e3 d3=>?_⟩;exact⟨N,rfl,zW nF sG eG dG s3 e3 d3 (zV lA lB lC j) (by have w:=lgs;rw[hgs]at w;exact aP w (by decide)) (by rw[ehs,hgs];rfl) λas' e4 d4 s4=>(hPv _ _ _).mpr ⟨as',_,rfl,e4,d4,s4,by rw[aq nDF];exact s3 _ _ gD,by rw[aq (aW gu eG (λw=>nomatch w))];exact s3 _ _ gu,by rw[aq (aW gv eG (λw=>nomatch w))];exact s3 _ _ gv⟩⟩
 intro σ G hp';obtain⟨as2,r,rfl,eG,dG,sG,_⟩:=(hPv _ _ _).mp hp';have ef:cG A0 B0 C0 2=dnL h l far:=by rw[hA0,hB0,hC0];rfl
 obtain⟨o1,o2,o3,o4⟩:=jz (far:=far) c f2
 k_units
 exact⟨F,as2,dnL h l far,bK (dnL h l far).length 1,10,rfl,SqL.of eG,by rw[←ef];exact dG,(gO o4 (by omega)).1,by rw[gN];omega,by omega,by decide,λa H3 s3 n3 e3=>z a H3 (sG.trans s3) (sG.free n3) e3⟩
def Gy {K:W.Frag}{mg:Str->Option Value}(T:Tx K mg)(H:Hp)(q:Addr)(i far:Nat)(Q:VK)(E:XK):Prop:=
 (∃x x_1,H q=some (HO.ins T.Qg x x_1)∧bQ (Str.ofString "step") x_1=none∧Gs K T.Qg [V.ref q,V.int (i:Int),V.int (far:Int)] H Q E)∨
 (∃x x_1,H q=some (HO.ins T.Qj x x_1)∧bQ (Str.ofString "step") x_1=none∧Gh K T.Qj [V.ref q,V.int (i:Int),V.int (far:Int)] H Q E)∨
 (∃x x_1,H q=some (HO.ins T.Qi x x_1)∧bQ (Str.ofString "step") x_1=none∧Ge [V.ref q,V.int (i:Int),V.int (far:Int)] H Q E)∨
 (∃x x_1,H q=some (HO.ins T.Qh x x_1)∧bQ (Str.ofString "step") x_1=none∧Go K T.Qh [V.ref q,V.int (i:Int),V.int (far:Int)] H Q E)
def Oz {K:W.Frag}{mg:Str->Option Value}(T:Tx K mg)(H:Hp)(q:Addr)(far:Nat)(Q:VK)(E:XK):Prop:=
 (∃x x_1,H q=some (HO.ins T.Qg x x_1)∧bQ (Str.ofString "up") x_1=none∧Gu K T.Qg [V.ref q,V.int (far:Int)] H Q E)∨
 (∃x x_1,H q=some (HO.ins T.Qj x x_1)∧bQ (Str.ofString "up") x_1=none∧gR [V.ref q,V.int (far:Int)] H Q E)∨
 (∃x x_1,H q=some (HO.ins T.Qi x x_1)∧bQ (Str.ofString "up") x_1=none∧sM K T.Qi true [V.ref q,V.int (far:Int)] H Q E)∨
 (∃x x_1,H q=some (HO.ins T.Qh x x_1)∧bQ (Str.ofString "up") x_1=none∧gR [V.ref q,V.int (far:Int)] H Q E)
def OA {K:W.Frag}{mg:Str->Option Value}(T:Tx K mg)(H:Hp)(q:Addr)(far:Nat)(Q:VK)(E:XK):Prop:=
 (∃x x_1,H q=some (HO.ins T.Qg x x_1)∧bQ (Str.ofString "down") x_1=none∧Gw K T.Qg [V.ref q,V.int (far:Int)] H Q E)∨
 (∃x x_1,H q=some (HO.ins T.Qj x x_1)∧bQ (Str.ofString "down") x_1=none∧gR [V.ref q,V.int (far:Int)] H Q E)∨
 (∃x x_1,H q=some (HO.ins T.Qi x x_1)∧bQ (Str.ofString "down") x_1=none∧sM K T.Qi false [V.ref q,V.int (far:Int)] H Q E)∨
 (∃x x_1,H q=some (HO.ins T.Qh x x_1)∧bQ (Str.ofString "down") x_1=none∧gR [V.ref q,V.int (far:Int)] H Q E)
def OB {K:W.Frag}{mg:Str->Option Value}(T:Tx K mg)(H:Hp)(q:Addr)(n k far:Nat)(Q:VK)(E:XK):Prop:=
 (∃x x_1,H q=some (HO.ins T.Qg x x_1)∧bQ (Str.ofString "floor") x_1=none∧zM K T.Qg [V.ref q,V.int (n:Int),V.int (k:Int),V.int (far:Int)] H Q E)∨
 (∃x x_1,H q=some (HO.ins T.Qj x x_1)∧bQ (Str.ofString "floor") x_1=none∧Gg [V.ref q,V.int (n:Int),V.int (k:Int),V.int (far:Int)] H Q E)∨
 (∃x x_1,H q=some (HO.ins T.Qi x x_1)∧bQ (Str.ofString "floor") x_1=none∧Gm K T.Qi [V.ref q,V.int (n:Int),V.int (k:Int),V.int (far:Int)] H Q E)∨
 (∃x x_1,H q=some (HO.ins T.Qh x x_1)∧bQ (Str.ofString "floor") x_1=none∧Gq K T.Qh [V.ref q,V.int (n:Int),V.int (k:Int),V.int (far:Int)] H Q E)
theorem Gz {K:W.Frag}{mg:Str->Option Value}{T:Tx K mg}{H0 H:Hp}{q:Addr}{p:Prt}{i far:Nat}{Q:VK}{E:XK}(hc:PcAt T H0 H q p)(ho:bJ p)(hi:i<=far)(hf:far<=2)(z:cv H Q (stD p i far)):Gy T H q i far Q E:=by
 match p,hc,ho,z with
 | .cho h l,⟨dx,a,L,b,t,h1,h2,h3,h4,h5,h6⟩,ho,z=>exact .inl ⟨dx,_,h1,rfl,q,dx,a,L,b,t,h,l,i,far,rfl,h1,h4,SqT.of h2,SqT.of h5,SqT.of h6,⟨ho,hi,hf⟩,z⟩
 | .wei f,⟨dx,a,h1,h2⟩,ho,z=>exact .inr (.inl ⟨dx,_,h1,rfl,q,dx,a,f,i,far,rfl,h1,SqT.of h2,ho.1.mono (by decide),by omega,z⟩)
 | .pow f,⟨dx,a,h1,h2⟩,ho,z=>exact .inr (.inr (.inl ⟨dx,_,h1,rfl,q,⟨_,_,rfl⟩,z⟩))
 | .gro f,⟨dx,a,h1,h2⟩,ho,z=>exact .inr (.inr (.inr ⟨dx,_,h1,rfl,q,dx,a,f,i,far,rfl,h1,SqT.of h2,ho.2.2.1.mono (by decide),ho.2.2.2.mono (by decide),hi,hf,z⟩))
theorem GA {K:W.Frag}{mg:Str->Option Value}{T:Tx K mg}{H0 H:Hp}{q:Addr}{p:Prt}{far:Nat}{Q:VK}{E:XK}(hc:PcAt T H0 H q p)(ho:bJ p)(hf:far<=2)(z:cv H Q (upD p far)):Oz T H q far Q E:=by
 match p,hc,ho,z with
 | .cho h l,⟨dx,a,L,b,t,h1,h2,h3,h4,h5,h6⟩,ho,z=>exact .inl ⟨dx,_,h1,rfl,q,dx,a,L,b,t,h,l,far,rfl,h1,h4,SqT.of h2,SqT.of h5,SqT.of h6,ho,hf,z⟩
 | .wei f,⟨dx,a,h1,h2⟩,ho,z=>exact .inr (.inl ⟨dx,_,h1,rfl,q,_,rfl,z⟩)
 | .pow f,⟨dx,a,h1,h2⟩,ho,z=>exact .inr (.inr (.inl ⟨dx,_,h1,rfl,q,dx,a,f,_,rfl,h1,SqT.of h2,z⟩))
 | .gro f,⟨dx,a,h1,h2⟩,ho,z=>exact .inr (.inr (.inr ⟨dx,_,h1,rfl,q,_,rfl,z⟩))
theorem GB {K:W.Frag}{mg:Str->Option Value}{T:Tx K mg}{H0 H:Hp}{q:Addr}{p:Prt}{far:Nat}{Q:VK}{E:XK}(hc:PcAt T H0 H q p)(ho:bJ p)(hf:far<=2)(z:cv H Q (dnD p far)):OA T H q far Q E:=by
 match p,hc,ho,z with
 | .cho h l,⟨dx,a,L,b,t,h1,h2,h3,h4,h5,h6⟩,ho,z=>exact .inl ⟨dx,_,h1,rfl,q,dx,a,L,b,t,h,l,far,rfl,h1,h4,SqT.of h2,SqT.of h5,SqT.of h6,ho,hf,z⟩
 | .wei f,⟨dx,a,h1,h2⟩,ho,z=>exact .inr (.inl ⟨dx,_,h1,rfl,q,_,rfl,z⟩)
 | .pow f,⟨dx,a,h1,h2⟩,ho,z=>exact .inr (.inr (.inl ⟨dx,_,h1,rfl,q,dx,a,f,_,rfl,h1,SqT.of h2,z⟩))
 | .gro f,⟨dx,a,h1,h2⟩,ho,z=>exact .inr (.inr (.inr ⟨dx,_,h1,rfl,q,_,rfl,z⟩))
theorem OC {z:Int×Int}{m d:Nat}{c:Nat}(hz:Frc z)(hd:m+d<2 ^ 13)(h18:d<=24)(hc:c<=2 ^ 4000)(h:z.1*((asc m d:Nat):Int)=(c:Int)*z.2):Bd 20000 z.1∧Bd 650 z.2:=by
 obtain⟨y1,y2⟩:=hz;have ab:=gF d hd;have ap:=zL m d;have hn:z.1.natAbs*asc m d=c*z.2.natAbs:=by
  have:=congrArg Int.natAbs h;rw[cP,cP,dN,dN]at this;exact this
 have dv:z.2.natAbs∣asc m d:=by
  have:z.2.natAbs∣z.1.natAbs*asc m d:=by rw[hn];exact Nat.dvd_mul_left _ _
  exact Nat.Coprime.dvd_of_dvd_mul_left (by rw[Nat.Coprime,As];exact y2) this
 have le:=Nat.le_of_dvd ap dv;have ab':asc m d<2 ^ (13*d+1):=by have:=ab;unfold Bd at this;rw[dN]at this;exact this
 have b2:z.2.natAbs<2 ^ 313:=a_ (cr le ab') (d6 (by decide) (by omega));refine⟨?_,a_ b2 (d6 (by decide) (by decide))⟩;have le1:z.1.natAbs<=c*z.2.natAbs:=by rw[←hn];exact Nat.le_mul_of_pos_right _ ap
 show z.1.natAbs<2 ^ 20000;refine cr (aP le1 (dO hc (cJ b2))) ?_;rw[←sY];exact tm (by decide) (by decide)
theorem GC {K:W.Frag}{mg:Str->Option Value}{T:Tx K mg}{H0 H:Hp}{q:Addr}{p:Prt}{n k far:Nat}{Q:VK}{E:XK}(hc:PcAt T H0 H q p)(ho:bJ p)(hf:far<=2)(hn:n<=30)(hk:k<=31)(fin:∀z,gQ p far n k z->∀(r:Addr) (H':Hp),Same H H'->H' r=some (T2 z)->Q (.ref r) H'):OB T H q n k far Q E:=by
 match p,hc,ho,fin with
 | .cho h l,⟨dx,a,L,b,t,h1,h2,h3,h4,h5,h6⟩,ho,fin=>
  obtain⟨_,⟨q1,q2,q3,q4⟩,⟨r1,r2,r3,r4⟩,tt⟩:=sL (i:=0) ⟨ho,aY far,hf⟩;obtain⟨⟨a1,a2,a3,a4,a5,a6⟩,⟨b1,b2,b3,b4,b5,b6⟩,_⟩:=id ho;have m1:=fL ((far:Int)*l.1);have m2:=fL ((far:Int)*(ar h l).1);have sm:∀x:Int,-12<=x->x<=12->Bd 10 x:=λx p1 p2=>Bd.of_lt (m:=13) (by omega) (by decide);have hb:=FQ (n:=n) (k:=k) ⟨a1,a2⟩ ⟨a3,a4⟩ ⟨a5,a6⟩ (by omega) (by omega);have hb2:atF h n k<=300:=by
   have x1:h.1*(n:Int)<=3*(n:Int):=dQ a2 (by omega);have x2:h.2.1*(k:Int)<=3*(k:Int):=dQ a4 (by omega);show h.1*(n:Int)+h.2.1*(k:Int)+h.2.2<=300;omega
  have hp:=Oy ho n k;have hs:=zO h l n k;have e1:(ar h l).1=h.1-l.1:=rfl;have e2:(ar h l).2.1=h.2.1-l.2.1:=rfl;have e3:(ar h l).2.2=h.2.2-l.2.2:=rfl;refine .inl ⟨dx,_,h1,rfl,q,dx,a,L,b,t,l,ar h l,h,far,n,k,rfl,h1,h4,SqT.of h2,SqT.of h5,SqT.of h6,by omega,by omega,by omega,sm _ (by omega) (by omega),sm _ (by omega) (by omega),sm _ (by omega) (by omega),sm _ (by omega) (by omega),sm _ (by omega) (by omega),by omega,by omega,by omega,by omega,?_,?_⟩
  ·rw[fJ,fJ];omega
  ·rw[fJ,fJ];intro z hz r H' s1 er;refine fin z ?_ r H' s1 er;rcases hz with ⟨g1,rfl⟩|⟨x0,x1,m,g1,g2,g3,g4,g5,g6⟩
   ·exact⟨zP 0,Bd.zero _,Bd.one (by decide),.inl ⟨g1,rfl⟩⟩
   ·have hm:(m:Int)=atF h n k:=by rw[g3,if_neg (by omega)]
    obtain⟨z1,z2⟩:=OC (d:=x0+x1-m) g5 (by omega) (by omega) (aP (ss _ _) (d6 (by decide) (show x0+x1<=4000 by omega))) g6;exact⟨g5,z1,z2,.inr ⟨x0,x1,g1,g2,by rw[show (atF h n k).toNat=m by omega];exact M8 g4 g6⟩⟩
 | .wei f,⟨dx,a,h1,h2⟩,ho,fin=>exact .inr (.inl ⟨dx,_,h1,rfl,q,_,_,_,rfl,λr nr=>fin (1,1) ⟨zP 1,Bd.one (by decide),Bd.one (by decide),rfl⟩ r _ (ao nr _) af⟩)
 | .pow f,⟨dx,a,h1,h2⟩,ho,fin=>
  obtain⟨o1,o2,o3,o4⟩:=ho;exact .inr (.inr (.inl ⟨dx,_,h1,rfl,q,dx,a,n,k,far,rfl,h1,q,dx,a,f.1,f.2,n,k,rfl,h1,SqT.of h2,o3.mono (by decide),o4.mono (by decide),by omega,by omega,λr nr=>fin (f.1 ^ k,f.2 ^ k) ⟨N4 o1 k,(bO o3 k).mono (by omega),(bO o4 k).mono (by omega),rfl⟩ r _ (ao nr _) af⟩))
 | .gro f,⟨dx,a,h1,h2⟩,ho,fin=>
  obtain⟨o1,o2,o3,o4⟩:=ho;have g:Frc (f.1 ^ n,f.2 ^ (n+far)):=by
   refine⟨?_,?_⟩
   ·show 1<=f.2 ^ (n+far);have:0<f.2 ^ (n+far):=Int.pow_pos (show 0<f.2 by have:=o1.1;omega);omega
   ·show aU (f.1 ^ n).natAbs (f.2 ^ (n+far)).natAbs=1;rw[Av,Av];exact Nat.Coprime.pow n (n+far) o1.2
  exact .inr (.inr (.inr ⟨dx,_,h1,rfl,q,dx,a,f,n,far,k,rfl,h1,SqT.of h2,o3.mono (by decide),o4.mono (by decide),by omega,λr nr=>fin (f.1 ^ n,f.2 ^ (n+far)) ⟨g,(bO o3 n).mono (by omega),(bO o4 (n+far)).mono (by omega),rfl⟩ r _ (ao nr _) af⟩))
structure Flos (far n k:Nat)(ps:List Prt)(zs:List (Int×Int)):Prop where
 len:zs.length=ps.length
 get:∀(i:Nat) (p:Prt) (z:Int×Int),ps[i]?=some p->zs[i]?=some z->gQ p far n k z
def OD {K:W.Frag}{mg:Str->Option Value}(T:Tx K mg):Sp:=λvs H Q _=>∃(x:Addr) (H0:Hp) (rs:List Addr) (ps:List Prt) (n k far:Nat),vs=[.ref x,.int (n:Int),.int (k:Int),.int (far:Int)]∧TermAt T H0 H x rs ps∧ps.length<=6∧(∀p∈ps,bJ p)∧far<=2∧n<=30∧k<=31∧∀zs,Flos far n k ps zs->∀r H',Same H H'->H' r=some (T2 (bq zs))->Q (.ref r) H'
theorem OE {P:Program}{w:World}{K:W.Frag}{mg:Str->Option Value}{base:Heap}(T:Tx K mg):FnOk P w K mg base CX0 17 T.Ue T.Uf ["self","n","k","far"] (OD T):=by
 refine T.WJ.ok NL (λvs H Q E h=>?_) (λcdv A outer s H vs Q E hr h=>?_)
 ·obtain⟨x,H0,rs,ps,n,k,far,rfl,_⟩:=h;rfl
 obtain⟨x,H0,rs,ps,n,k,far,rfl,⟨dx,P1,P2,qs,h1,h2,h3,h4,h5,h6⟩,l6,hO,hf,hn,hk,z⟩:=h;refine⟨_,((ak (av (au (FnOk.mono (FF T) (by decide)) hr rfl T.UE T.Se.kp T.UF .nil ai (aa (cD rfl (cu rfl (bu rfl (bu rfl (bu rfl bZ))) (bG 1 "n" (by decide) rfl (Or.inl rfl) (Or.inl rfl) ⟨_,rfl⟩ (bG 2 "k" (by decide) rfl (Or.inl rfl) (Or.inl rfl) ⟨_,rfl⟩ (bG 3 "far" (by decide) rfl (Or.inl rfl) (Or.inl rfl) ⟨_,rfl⟩ cq)))) (bY (bS (pv 0) rfl)) (λ_ _ _ _=>(bH (aL (pv 0) T.Qk T.Ul (FnOk.mono (zN T) (by decide)) hr T.TB .nil ai (aa (pv 1) (aa (pv 2) (aa (pv 3) ae)))) (bH (aL (pv 0) T.Qq T.VD (FnOk.mono (zU T) (by decide)) hr T.Tg .nil ai (aa (pv 1) (aa (pv 2) (aa (pv 3) ae)))) (bH (aL (pv 0) T.Qp T.Vx (FnOk.mono (Gn T) (by decide)) hr T.Va .nil ai (aa (pv 1) (aa (pv 2) (aa (pv 3) ae)))) (aL (pv 0) T.Ql T.Vn (FnOk.mono (Gr T) (by decide)) hr T.Vd .nil ai (aa (pv 1) (aa (pv 2) (aa (pv 3) ae))))))))) ae))))),?_⟩
 k_units
 refine⟨_,_,_,h1,T.Qr,T.QR,_,rfl,P2,rfl,⟨_,SqL.of h5⟩,λD nD=>?_⟩;obtain⟨Pc,hPc⟩:∃Pc:Nat->Hp->Prop,∀j Hx,Pc j Hx↔∃(us:List Addr) (zs:List (Int×Int)),Hx D=some (.lst (us.map V.ref))∧us.length=j∧zs.length=j∧(∀(i:Nat) (u:Addr) (p:Prt) (y:Int×Int),us[i]?=some u->ps[i]?=some p->zs[i]?=some y->Hx u=some (T2 y)∧gQ p far n k y)∧Same H Hx:=⟨_,λ_ _=>Iff.rfl⟩
 refine eE (xs:=qs.map V.ref) Pc ((hPc _ _).mpr ⟨[],[],af,rfl,rfl,λi u p y h1=>by simp at h1,ao nD _⟩) (λi Hx _ z=>by obtain⟨_,_,_,_,_,_,z⟩:=(hPc i Hx).mp z;exact z.seq (SqL.of h5)) ?_ ?_
 ·intro j v Hx hv hc;obtain⟨us,zs,k1,k2,k2',k3,k4⟩:=(hPc _ _).mp hc;rw[aQ]at hv;obtain⟨q,hq,rfl⟩:=cc.mp hv;have hj:=(be.mp hq).1;have hj2:j<ps.length:=by have:=h6.len;omega
  have hpo:=hO _ (eX hj2);have hpc:=(h6.get j q _ hq (aJ hj2)).kp (kpS (H0:=H0) k4);have fin:∀y,gQ ps[j] far n k y->∀(r:Addr) (Hy:Hp),Same Hx Hy->Hy r=some (T2 y)->∃ys,Hy D=some (.lst ys)∧ys.length<sizeLine∧Pc (j+1) (L2.upd Hy D (.lst (ys++[V.ref r]))):=λy hy r Hy s1 e1=>by
   refine⟨_,s1 _ _ k1,by rw[aB];exact bB (by omega),(hPc _ _).mpr ⟨us++[r],zs++[y],by rw[af];simp,by simp[k2],by simp[k2'],λi u' p' y' q1 q2 q3=>?_,(k4.trans s1).more nD⟩⟩;by_cases hi:i<us.length
   ·rw[cK hi]at q1;rw[cK (by omega)]at q3;obtain⟨e,f⟩:=k3 i u' p' y' q1 q2 q3;have e:=s1 _ _ e;exact⟨by rw[aq (aW e (s1 _ _ k1) (λz=>nomatch z))];exact e,f⟩
   ·rw[cO (by omega)]at q1 q3;have hi2:i-us.length=0:=by
     have:=(be.mp q1).1;simp at this;omega
    rw[hi2]at q1;rw[show i-zs.length=0 by omega]at q3;obtain rfl:=Option.some.inj q1;obtain rfl:=Option.some.inj q3;have hij:i=j:=by omega
    subst hij;rw[aJ hj2]at q2;obtain rfl:=Option.some.inj q2;exact⟨by rw[aq (aW e1 (s1 _ _ k1) (λz=>nomatch z))];exact e1,hy⟩
  clear hc hPc;generalize ps[j]=p at hpo hpc fin
  (iterate 3 (k_units;(try simp only[bst,dH]));k_units)
  exact GC hpc hpo hf hn hk fin
 intro Hx hc;obtain⟨us,zs,k1,k2,k2',k3,k4⟩:=(hPc _ _).mp hc;rw[aB,h6.len]at k2 k2';have fl:Flos far n k ps zs:=⟨k2',λi p y e1 e2=>by
  have hi:i<us.length:=by have:=(be.mp e1).1;omega
  exact (k3 i _ p y (aJ hi) e1 e2).2⟩
 refine⟨D,us,zs,rfl,SqL.of k1,⟨by omega,λi a f e1 e2=>?_⟩,by omega,⟨650,by omega,by decide,λf hf'=>?_⟩,λ_ r nr=>?_⟩
 ·have hi:i<ps.length:=by have:=(be.mp e1).1;omega
  exact SqT.of (k3 i a _ f e1 (aJ hi) e2).1
 ·obtain⟨i,hi,rfl⟩:=IE hf';obtain⟨g1,g2,g3,_⟩:=fl.get i _ _ (aJ (by omega)) (aJ hi);exact⟨g1,g2,g3⟩
 ·exact z zs fl r _ (k4.trans (ao nr _)) af
structure DHs (H:Hp)(as:List Addr)(fs:List PD):Prop where
 len:as.length=fs.length
 get:∀(i:Nat) (a:Addr) (f:PD),as[i]?=some a->fs[i]?=some f->H a=some (.dT (dz f))
theorem DHs.on {H H':Hp}{as:List Addr}{fs:List PD}(h:DHs H as fs)(s:Same H H'):DHs H' as fs:=⟨h.len,λi a f e1 e2=>s _ _ (h.get i a f e1 e2)⟩
theorem DHs.snoc {H:Hp}{as:List Addr}{fs:List PD}{p:Addr}{f:PD}(h:DHs H as fs)(e:H p=some (.dT (dz f))):DHs H (as++[p]) (fs++[f]):=by
 have l:=h.len;refine⟨by simp[l],λi a g e1 e2=>?_⟩;by_cases hi:i<as.length
 ·rw[cK hi]at e1;rw[cK (by omega)]at e2;exact h.get i a g e1 e2
 ·have hl:=(be.mp e1).1;have ei:i=as.length:=by simp at hl;omega
  subst ei;rw[cO (aw _),hJ]at e1;rw[cO (by omega),l,hJ]at e2
  cases Option.some.inj e1
  cases Option.some.inj e2
  exact e
theorem DHs.upL {H:Hp}{D:Addr}{as:List Addr}{fs:List PD}{xs ys:List V}(h:DHs H as fs)(e:H D=some (.lst xs)):DHs (L2.upd H D (.lst ys)) as fs:=⟨h.len,λi a f e1 e2=>by
 have:=h.get i a f e1 e2;rw[aq (aW this e (λw=>nomatch w))];exact this⟩
def OF (H:Hp)(Q:VK)(fs:List PD):Prop:=∀(L:Addr) (as:List Addr) (H':Hp),Same H H'->H L=none->H' L=some (.lst (as.map V.ref))->DHs H' as fs->Q (.ref L) H'
def OG {K:W.Frag}{mg:Str->Option Value}(T:Tx K mg):Sp:=λvs H Q _=>∃(x:Addr) (H0:Hp) (rs:List Addr) (ps:List Prt) (far:Nat),vs=[.ref x,.int (far:Int)]∧TermAt T H0 H x rs ps∧ps.length<=6∧(∀p∈ps,bJ p)∧far<=2∧(ps.map dgF).sum<=60∧
 ∀(F L U W:Addr) (as:List Addr) (H':Hp),Same H H'->H L=none->H' F=some (.tup [.ref L,.ref U,.ref W])->H' L=some (.lst (as.map V.ref))->DHs H' as ((aR (far+1)).map λi=>pdD (ps.map λp=>stD p i far))->H' U=some (.dT (dz (pdD (ps.map λp=>upD p far))))->H' W=some (.dT (dz (pdD (ps.map λp=>dnD p far))))->Q (.ref F) H'
theorem OH {X:Cx}{K:W.Frag}{tg l:Expr}{tl:TE}(hK:X.K=K)(hl:PE X l tl):PI X tg l (yN K tl):=by subst hK;exact bY hl
theorem zX {K:W.Frag}{a:Addr}{qs:List Addr}{fs:List PD}{fv:List (Nat×Str)}{te:TE}{Q:VK}{σ:L2.St}{H1:Hp}{D:Addr}(nD:H1 D=none) (hA:SqL K H1 a (qs.map V.ref)) (hd:fs.length=qs.length) (hl:fs.length<=900)
  (hs:∀(i:Nat) (q:Addr) (f:PD) (Hx:Hp) (R:VK),qs[i]?=some q->fs[i]?=some f->Same H1 Hx->cv Hx R f->te (bst fv σ (some (V.ref q))) Hx R) (he:Gd H1 Q fs):fy (Itl K a) fv te Q σ H1 D:=by
 obtain⟨Pc,hPc⟩:∃Pc:Nat->Hp->Prop,∀j Hx,Pc j Hx↔∃as:List Addr,Hx D=some (.lst (as.map V.ref))∧DDs Hx as (fs.take j)∧Same H1 Hx:=⟨_,λ_ _=>Iff.rfl⟩
 refine eE (xs:=qs.map V.ref) Pc ((hPc _ _).mpr ⟨[],af,⟨by simp,λi a f e=>by simp at e⟩,ao nD _⟩) (λi Hx _ z=>by obtain⟨_,_,_,z⟩:=(hPc i Hx).mp z;exact z.seq hA) ?_ ?_
 ·intro j v Hx hv hc;obtain⟨as,k1,k2,k3⟩:=(hPc _ _).mp hc;rw[aQ]at hv;obtain⟨q,hq,rfl⟩:=cc.mp hv;have hj:j<fs.length:=by have:=(be.mp hq).1;omega
  refine hs j q _ Hx _ hq (aJ hj) k3 λp H2 s2 np ep=>?_;have lk:=k2.len;rw[cB]at lk;refine⟨_,s2 _ _ k1,by rw[aB];exact bB (by omega),(hPc _ _).mpr ⟨as++[p],by rw[af,aM];rfl,?_,(k3.trans s2).more nD⟩⟩;rw[←dm hj];exact ((k2.on s2).app ⟨rfl,λi a f e1 e2=>by
   match i,e1,e2 with
   | 0,e1,e2=>obtain rfl:=Option.some.inj e1;obtain rfl:=Option.some.inj e2;exact .inl ep
   | i+1,e1,_=>simp at e1⟩).upL (s2 _ _ k1)
 intro Hx hc;obtain⟨as,k1,k2,k3⟩:=(hPc _ _).mp hc;rw[aB,←hd,c_]at k2;exact he D as Hx k3 nD k1 k2
theorem GD {n:Nat}{fs:List PD}{fv:List (Nat×Str)}{te:TE}{Q:VK}{σ:L2.St}{H1:Hp}{D:Addr}(nD:H1 D=none) (hd:fs.length=n) (hl:n<=900)
  (hs:∀(i:Nat) (f:PD) (Hx:Hp) (R:VK),i<n->fs[i]?=some f->Same H1 Hx->cv Hx R f->te (bst fv σ (some (V.int (0+(i:Int))))) Hx R) (he:OF H1 Q fs):fy (Itr 0 n) fv te Q σ H1 D:=by
 obtain⟨Pc,hPc⟩:∃Pc:Nat->Hp->Prop,∀j Hx,Pc j Hx↔∃as:List Addr,Hx D=some (.lst (as.map V.ref))∧DHs Hx as (fs.take j)∧Same H1 Hx:=⟨_,λ_ _=>Iff.rfl⟩
 refine qR Pc ((hPc _ _).mpr ⟨[],af,⟨by simp,λi a f e=>by simp at e⟩,ao nD _⟩) ?_ ?_
 ·intro j Hx hjn hc;obtain⟨as,k1,k2,k3⟩:=(hPc _ _).mp hc;have hj:j<fs.length:=by omega
  refine hs j _ Hx _ hjn (aJ hj) k3 λp H2 s2 np ep=>?_;have lk:=k2.len;rw[cB]at lk;refine⟨_,s2 _ _ k1,by rw[aB];exact bB (by omega),(hPc _ _).mpr ⟨as++[p],by rw[af,aM];rfl,?_,(k3.trans s2).more nD⟩⟩;rw[←dm hj];exact ((k2.on s2).snoc ep).upL (s2 _ _ k1)
 intro Hx hc;obtain⟨as,k1,k2,k3⟩:=(hPc _ _).mp hc;rw[←hd,c_]at k2;exact he D as Hx k3 nD k1 k2
theorem OI {f:Int×Int}{i far:Nat}(h1:Bd 70 f.1)(h2:Bd 20 f.2)(hi:i<=far)(hf:far<=2):Bd 410 (f.1 ^ i*f.2 ^ (far-i)):=
 ((bO h1 i).mul (bO h2 (far-i))).mono (by omega)
theorem zY {p:Prt}{i far:Nat}(ho:bJ p)(hi:i<=far)(hf:far<=2):PdOk (dgF p) 410 (stD p i far):=by
 match p,ho with
 | .cho h l,ho=>
  obtain⟨l12,ok⟩:=zT (h:=h) (l:=l) ⟨ho,hi,hf⟩;exact ((gO ok (by omega)).2).mono l12 (by omega)
 | .wei f,⟨h1,h2,h3⟩=>exact Gf (h1.mono (by decide)) (h2.mono (by decide)) (((h3.mono (show 300<=2+300 by decide)).add ((Bd.of_lt (m:=3) (k:=2) (show ((i:Int)).natAbs<3 by omega) (by decide)).mul h1)).mono (by decide))
 | .pow f,_=>exact pd_one.mono (aw _) (by decide)
 | .gro f,⟨_,_,h1,h2⟩=>exact zR (OI h1 h2 hi hf)
theorem jD {p:Prt}{far:Nat}(ho:bJ p)(hf:far<=2):PdOk (dgF p) 410 (upD p far)∧PdOk (dgF p) 410 (dnD p far):=by
 match p,ho with
 | .cho h l,ho=>
  obtain⟨l12,ok,m12,ok2⟩:=jz (far:=far) ho hf;exact⟨((gO ok (by omega)).2).mono l12 (by omega),((gO ok2 (by omega)).2).mono m12 (by omega)⟩
 | .wei f,_=>exact⟨pd_one.mono (aY _) (by decide),pd_one.mono (aY _) (by decide)⟩
 | .pow f,⟨_,_,h1,h2⟩=>exact⟨zR (h1.mono (by decide)),zR (h2.mono (by decide))⟩
 | .gro f,_=>exact⟨pd_one.mono (aw _) (by decide),pd_one.mono (aw _) (by decide)⟩
theorem sN {ps:List Prt}{g:Prt->PD}(h:∀p∈ps,PdOk (dgF p) 410 (g p)):PdsOk 410 (ps.map dgF) (ps.map g):=⟨by simp,λi d f e1 e2=>by
 rw[aQ]at e1 e2;obtain⟨p,hp,rfl⟩:=cc.mp e1;rw[hp]at e2;obtain rfl:=Option.some.inj e2;exact h p (ci hp)⟩
theorem zZ {α β:Type}{xs:List α}{g:α->β}{i:Nat}{y:β}(h:(xs.map g)[i]?=some y):∃x,xs[i]?=some x∧y=g x:=by
 rw[aQ]at h;obtain⟨x,hx,rfl⟩:=cc.mp h;exact⟨x,hx,rfl⟩
theorem z5 {P:Program}{w:World}{K:W.Frag}{mg:Str->Option Value}{base:Heap}(T:Tx K mg):FnOk P w K mg base CX0 8 T.Ug T.Uh ["self","far"] (OG T):=by
 refine T.WL.ok sc_Term_frame (λvs H Q E h=>?_) (λcdv A outer s H vs Q E hr h=>?_)
 ·obtain⟨x,H0,rs,ps,far,rfl,_⟩:=h;rfl
 obtain⟨x,H0,rs,ps,far,rfl,hx,l6,hO,hf,hs,z⟩:=h;refine⟨_,((am (MF (i:=2) rfl (MG rfl (bu rfl (bu rfl bZ)) (bG 1 "far" (by decide) rfl (Or.inl rfl) (Or.inl rfl) ⟨_,rfl⟩ (bG 0 "self" (by decide) rfl (Or.inl rfl) (Or.inl rfl) ⟨_,rfl⟩ cq))) (cR rfl T.Qn (aa (ag aI (pv 1) ac) ae)) (λ_ _ _ _=>(au (FnOk.mono (gK T) (by decide)) hr rfl T.QJ T.QC.kp T.QK .nil ai (aa (cD rfl (cu rfl (bu rfl (bu rfl bZ)) (bG 0 "i" (by decide) rfl (Or.inl rfl) (Or.inl rfl) ⟨_,rfl⟩ (bG 1 "far" (by decide) rfl (Or.inl rfl) (Or.inl rfl) ⟨_,rfl⟩ cq))) (OH (K:=K) rfl (MH (K:=K) rfl (pv 2) rfl)) (λ_ _ _ _=>(bH (aL (pv 0) T.Qk T.Vh (FnOk.mono (Gt T) (by decide)) hr T.U0 .nil ai (aa (pv 1) (aa (pv 2) ae))) (bH (aL (pv 0) T.Qq T.VB (FnOk.mono (Gi T) (by decide)) hr T.U6 .nil ai (aa (pv 1) (aa (pv 2) ae))) (bH (aL (pv 0) T.Qp T.Vy (FnOk.mono (sK T) (by decide)) hr T.Rj .nil ai (aa (pv 1) (aa (pv 2) ae))) (aL (pv 0) T.Ql T.Vm (FnOk.mono (Gp T) (by decide)) hr T.Vc .nil ai (aa (pv 1) (aa (pv 2) ae)))))))) ae))) sc_Term_frame.nd rfl rfl)
  (am (ax (i:=3) sc_Term_frame.nd rfl (Or.inl rfl) (au (FnOk.mono (gK T) (by decide)) hr rfl T.QJ T.QC.kp T.QK .nil ai (aa (cD rfl (cu rfl (bu rfl bZ) (bG 1 "far" (by decide) rfl (Or.inl rfl) (Or.inl rfl) ⟨_,rfl⟩ cq)) (bY (bS (pv 0) rfl)) (λ_ _ _ _=>(bH (aL (pv 0) T.Qk T.Vi (FnOk.mono (Gv T) (by decide)) hr T.U1 .nil ai (aa (pv 1) ae)) (bH (aL (pv 0) T.Qq T.VE (FnOk.mono (jB T) (by decide)) hr T.Q6 .nil ai (aa (pv 1) ae)) (bH (aL (pv 0) T.Qp T.Vv (FnOk.mono (Gj T) (by decide)) hr T.U9 .nil ai (aa (pv 1) ae)) (aL (pv 0) T.Ql T.Vp (FnOk.mono (jB T) (by decide)) hr T.Q6 .nil ai (aa (pv 1) ae))))))) ae)))
  (am (ax (i:=4) sc_Term_frame.nd rfl (Or.inl rfl) (au (FnOk.mono (gK T) (by decide)) hr rfl T.QJ T.QC.kp T.QK .nil ai (aa (cD rfl (cu rfl (bu rfl bZ) (bG 1 "far" (by decide) rfl (Or.inl rfl) (Or.inl rfl) ⟨_,rfl⟩ cq)) (bY (bS (pv 0) rfl)) (λ_ _ _ _=>(bH (aL (pv 0) T.Qk T.Vj (FnOk.mono (Gx T) (by decide)) hr T.U4 .nil ai (aa (pv 1) ae)) (bH (aL (pv 0) T.Qq T.VC (FnOk.mono (jC T) (by decide)) hr T.Q8 .nil ai (aa (pv 1) ae)) (bH (aL (pv 0) T.Qp T.Vw (FnOk.mono (Gk T) (by decide)) hr T.U_ .nil ai (aa (pv 1) ae)) (aL (pv 0) T.Ql T.Vo (FnOk.mono (jC T) (by decide)) hr T.Q8 .nil ai (aa (pv 1) ae))))))) ae)))
  (ak (av (aK (aa (pv 2) (aa (pv 3) (aa (pv 4) ae)))))))))),?_⟩
 obtain⟨dx,P1,P2,qs,h1,h2,h3,h4,h5,h6⟩:=id hx;have lq:qs.length=ps.length:=h6.len;have pcs:∀{Hx:Hp}{j:Nat}{q:Addr}{p:Prt},Same H Hx->qs[j]?=some q->ps[j]?=some p->PcAt T H0 Hx q p∧bJ p:=λ{Hx j q p} s e1 e2=>⟨(h6.get j q p e1 e2).kp (kpS s),hO p (ci e2)⟩
 dsimp only[az]
 k_typeOf
 refine⟨by omega,by omega,λD nD=>?_⟩;rw[show ((far:Int)+1).toNat=far+1 by omega];refine GD (fs:=(aR (far+1)).map λi=>pdD (ps.map λp=>stD p i far)) nD (by simp) (by omega) (λi f Hx R hi hfi sx z1=>?_) (λL as H1 s1 nL eL dL=>?_)
 ·rw[aQ,fR hi]at hfi;obtain rfl:=Option.some.inj hfi
  (iterate 3 (k_units;(try simp only[bst,dH,dP]));k_units)
  refine⟨_,_,_,sx _ _ h1,T.Qr,T.QR,_,rfl,P2,rfl,⟨_,SqL.of (sx _ _ h5)⟩,λD2 nD2=>?_⟩;refine zX (fs:=ps.map λp=>stD p i far) nD2 (SqL.of (sx _ _ h5)) (by simp[lq]) (by simp;omega) (λj q f Hy R2 hq hfj sy z2=>?_) (λL2 as2 H2 s2 nL2 eL2 dL2=>?_)
  ·obtain⟨p,hp,rfl⟩:=zZ hfj;obtain⟨c1,c2⟩:=pcs (sx.trans sy) hq hp
   (iterate 3 (k_units;(try simp only[bst,dH,dP]));k_units)
   exact Gz c1 c2 (by omega) hf z2
  ·exact⟨L2,as2,_,ps.map dgF,410,rfl,SqL.of eL2,dL2,sN (λp hp=>zY (hO p hp) (by omega) hf),hs,by simp;omega,by decide,λp3 H3 s3 n3 e3=>z1 p3 H3 (s2.trans s3) (s2.free n3) e3⟩
 dsimp only[az]
 k_typeOf
 refine⟨_,_,_,s1 _ _ h1,T.Qr,T.QR,_,rfl,P2,rfl,⟨_,SqL.of (s1 _ _ h5)⟩,λD2 nD2=>?_⟩;refine zX (fs:=ps.map λp=>upD p far) nD2 (SqL.of (s1 _ _ h5)) (by simp[lq]) (by simp;omega) (λj q f Hy R2 hq hfj sy z2=>?_) (λL2 as2 H2 s2 nL2 eL2 dL2=>?_)
 ·obtain⟨p,hp,rfl⟩:=zZ hfj;obtain⟨c1,c2⟩:=pcs (s1.trans sy) hq hp
  (iterate 3 (k_units;(try simp only[bst,dH,dP]));k_units)
  exact GA c1 c2 hf z2
 refine⟨L2,as2,_,ps.map dgF,410,rfl,SqL.of eL2,dL2,sN (λp hp=>(jD (hO p hp) hf).1),hs,by simp;omega,by decide,λU H3 s3 n3 e3=>?_⟩;have s13:=s1.trans (s2.trans s3);dsimp only[az]
 k_typeOf
 refine⟨_,_,_,s13 _ _ h1,T.Qr,T.QR,_,rfl,P2,rfl,⟨_,SqL.of (s13 _ _ h5)⟩,λD4 nD4=>?_⟩;refine zX (fs:=ps.map λp=>dnD p far) nD4 (SqL.of (s13 _ _ h5)) (by simp[lq]) (by simp;omega) (λj q f Hy R2 hq hfj sy z2=>?_) (λL4 as4 H4 s4 nL4 eL4 dL4=>?_)
 ·obtain⟨p,hp,rfl⟩:=zZ hfj;obtain⟨c1,c2⟩:=pcs (s13.trans sy) hq hp
  (iterate 3 (k_units;(try simp only[bst,dH,dP]));k_units)
  exact GB c1 c2 hf z2
 refine⟨L4,as4,_,ps.map dgF,410,rfl,SqL.of eL4,dL4,sN (λp hp=>(jD (hO p hp) hf).2),hs,by simp;omega,by decide,λW H5 s5 n5 e5=>?_⟩;dsimp only[az]
 k_typeOf
 refine⟨by decide,λF nF=>?_⟩;have s35:=s4.trans (s5.trans (ao nF (.tup [V.ref L,V.ref U,V.ref W])));have s15:=(s2.trans s3).trans s35;exact z F L U W as _ (s1.trans s15) nL af (s15 _ _ eL) (dL.on s15) (s35 _ _ e3) (ao nF _ _ _ e5)
def cell (ns:List Int)(k:Nat):Int:=ns.getD k 0
def OJ (K:W.Frag):Sp:=λvs H Q _=>∃(a:Addr) (ns:List Int) (k:Nat),vs=[.ref a,.int (k:Int)]∧SqL K H a (ns.map V.int)∧Q (.int (cell ns k)) H
theorem z6 {P:Program}{w:World}{K:W.Frag}{mg:Str->Option Value}{base:Heap}(T:Tx K mg):FnOk P w K mg base CX0 1 T.Sf T.Sg ["_law_script","_law_k"] (OJ K):=by
 refine T.Rf.ok Ni (λvs H Q E h=>?_) (λcdv A outer s H vs Q E hr h=>?_)
 ·obtain⟨a,ns,k,rfl,_⟩:=h;rfl
 obtain⟨a,ns,k,rfl,hS,q⟩:=h;refine⟨_,((am (aF (aD dw (pv 1) (a0 fu rfl T.Qz fB (aa (pv 0) ae)) (aC _)) (ak (av (ah bA (pv 0) (pv 1) (λ_ _=>rfl)))) aG)
  (ak (av ac)))),?_⟩
 k_units
 refine⟨_,.inl hS,?_⟩;rw[aB];unfold cell at q;refine bC (λh=>?_) (λh=>?_)
 ·have h':k<ns.length:=by omega
  rw[P8,aJ h']at q;exact⟨_,hS,_,Ky h',q⟩
 ·rw[P8,IF (by omega)]at q;exact q
def OK:Sp:=λvs H Q _=>∃i:Int,vs=[.int i]∧Q (.bl true) H
theorem jE {P:Program}{w:World}{K:W.Frag}{mg:Str->Option Value}{base:Heap}(T:Tx K mg):FnOk P w K mg base CX0 1 T.Sm T.Sn ["_law_found"] OK:=by
 refine T.QM.ok Nk (λvs H Q E h=>?_) (λcdv A outer s H vs Q E hr h=>?_)
 ·obtain⟨i,rfl,_⟩:=h;rfl
 obtain⟨i,rfl,q⟩:=h;refine⟨_,((ak (av (Do (a0 f7 rfl T.QB fD (aa (pv 0) (aa (fT (v:=.ty "int") rfl T.W_ Ks rfl) ae))) (Dn (Jv (a0 f7 rfl T.QB fD (aa (pv 0) (aa (fT (v:=.ty "bool") rfl T.Xa Kt rfl) ae))))))))),?_⟩
 k_units
 refine⟨_,.int _,true,rfl,?_⟩;rw[if_pos rfl];refine⟨_,.int _,false,rfl,?_⟩
 simpa using q
def OL:Sp:=λvs H Q _=>∃(c m:Int),vs=[.int c,.int m]∧(m=10 ^ 60∨m=10 ^ 20)∧∀n:Int,n.natAbs<m.natAbs->Q (.int n) H
theorem GE {P:Program}{w:World}{K:W.Frag}{mg:Str->Option Value}{base:Heap}(T:Tx K mg):FnOk P w K mg base CX0 1 T.Sj T.Sk ["_law_cell","_law_most"] OL:=by
 refine T.Sl.ok Nj (λvs H Q E h=>?_) (λcdv A outer s H vs Q E hr h=>?_)
 ·obtain⟨c,m,rfl,_⟩:=h;rfl
 obtain⟨c,m,rfl,hm,q⟩:=h;refine⟨_,((am (aF (aD br (ag aZ (pv 0) ac) ac (aC _)) (ak (av (ag aI (ag cf (ag aZ (ag cC (pv 0) ac) (ag cf (ag fk ac (pv 1)) ac)) (pv 1)) ac))) aG)
  (am (aF (aD br (ag aZ (pv 0) ac) ac (aC _)) (ak (av (ag cf (ag aZ (ag cC (pv 0) ac) ac) ac))) aG)
  (ak (av (ag cf (ag aZ (ag cC (pv 0) ac) ac) ac)))))),?_⟩
 k_units
 have d:pA c 3:=⟨by decide,by decide⟩
 have big:10 ^ 18<=m.natAbs∧(0:Int)<m:=by rcases hm with rfl|rfl <;> decide
 refine⟨by decide,bC (λh=>?_) (λh=>⟨by decide,bC (λh2=>?_) (λh2=>?_)⟩)⟩
 ·have h1:=dc (c / 3) (show (2*m-1:Int)≠0 by omega);have h2:=dq (c / 3) (show (0:Int)<2*m-1 by omega);exact⟨d,.inl ⟨by decide,by decide⟩,by omega,q _ (by omega)⟩
 ·exact⟨d,by decide,q _ (by omega)⟩
 ·exact⟨d,by decide,q _ (by omega)⟩
def OM:Sp:=λvs H Q _=>∃(c:Int) (k:Nat),vs=[.int c,.int (k:Int)]∧k<=10∧∀n:Int,0<=n->Q (.int n) H
theorem fM {P:Program}{w:World}{K:W.Frag}{mg:Str->Option Value}{base:Heap}(T:Tx K mg):FnOk P w K mg base CX0 1 T.Ss T.Su ["_law_cell","_law_k"] OM:=by
 refine T.Qt.ok sc__law_mixed (λvs H Q E h=>?_) (λcdv A outer s H vs Q E hr h=>?_)
 ·obtain⟨c,k,rfl,_⟩:=h;rfl
 obtain⟨c,k,rfl,hk,q⟩:=h;refine⟨_,((am (aF (aD br (ag aZ (pv 0) ac) ac (aC _)) (am (ax (i:=2) sc__law_mixed.nd rfl (Or.inl rfl) (ag cC (a0 fW rfl T.QH f9 (aa (pv 0) ae)) ac))
  (am (bL PassesOwn.never rfl (cR rfl T.Qn (aa (pv 1) ae)) (aS (i:=3) sc__law_mixed.nd rfl (Or.inl rfl)) (ak (ax (i:=2) sc__law_mixed.nd rfl (Or.inl rfl) (ag eo (pv 2) (ag fm ac ac)))))
  (ak (av (pv 2))))) aG)
  (am (ax (i:=2) sc__law_mixed.nd rfl (Or.inl rfl) (ag aZ (ag aI (pv 0) (ag fk ac (pv 1))) ac))
  (am (ax (i:=2) sc__law_mixed.nd rfl (Or.inl rfl) (ag aZ (ag aI (ag aI (ag aT (pv 2) (pv 2)) (ag fk ac (pv 2))) (pv 1)) ac))
  (ak (av (ag aZ (ag aT (pv 2) (pv 2)) ac))))))),?_⟩
 k_units
 have bd12:((10:Int) ^ hV 12).natAbs<2 ^ 9000:=a_ (show _<2 ^ 40 by decide) (d6 (by decide) (by decide));refine⟨by decide,bC (λh=>⟨⟨by decide,by decide⟩,by omega,by omega,?_⟩) (λh=>?_)⟩
 ·have h0:0<=(if c<0 then -c else c) / 2:=by split <;> omega
  generalize (if c<0 then -c else c) / 2=n0 at h0;rw[dk];obtain⟨Pv,hPv⟩:∃Pv:Nat->L2.St->Hp->Prop,∀i σ H',Pv i σ H'↔∃(n:Int) (r3:Option V),σ=[some (V.int c),some (V.int (k:Int)),some (V.int n),r3]∧0<=n∧H'=H:=⟨_,λ_ _ _=>Iff.rfl⟩
  refine eI Pv ((hPv _ _ _).mpr ⟨n0,none,rfl,h0,rfl⟩) ?_ ?_
  ·intro i σ H' hi hp;obtain⟨n,r3,rfl,hn,rfl⟩:=(hPv _ _ _).mp hp
   k_units
   exact⟨⟨by decide,by decide,by decide⟩,by decide,bd12,(hPv _ _ _).mpr ⟨n.fdiv ((10:Int) ^ hV 12),_,rfl,Int.fdiv_nonneg hn (by decide),rfl⟩⟩
  ·intro σ H' hp;obtain⟨n,r3,rfl,hn,rfl⟩:=(hPv _ _ _).mp hp
   k_units
   exact q n hn
 ·obtain⟨m,hm,m0,m1⟩:∃m:Int,(c+7919*(k:Int)) % 2147483629=m∧0<=m∧m<2147483629:=⟨_,rfl,by omega,by omega⟩
  rw[hm];obtain⟨m',hm',m0',m1'⟩:∃m':Int,(m*m+16807*m+(k:Int)) % 2147483629=m'∧0<=m'∧m'<2147483629:=⟨_,rfl,dc _ (by decide),dq _ (by decide)⟩
  rw[hm'];have bm:Bd 31 m:=Bd.of_lt (m:=2147483629) (by omega) (by decide);have bm':Bd 31 m':=Bd.of_lt (m:=2147483629) (by omega) (by decide);exact⟨.inl ⟨by decide,by decide⟩,by decide,bm.fits bm (by decide),.inl ⟨by decide,by decide⟩,by decide,bm'.fits bm' (by decide),by decide,q _ (dc _ (by decide))⟩
def GF (H:Hp)(Q:VK)(p:Prt):Prop:=∀(r:Addr) (H':Hp),Same H H'->PtAt H' r p->Q (.ref r) H'
def ON:Sp:=λvs H Q _=>∃a b m:Int,vs=[.int a,.int b,.int m]∧1<=m∧m<=3∧0<=a∧0<=b∧∀h l,cF h l->GF H Q (.cho h l)
theorem OO {P:Program}{w:World}{K:W.Frag}{mg:Str->Option Value}{base:Heap}(T:Tx K mg):FnOk P w K mg base CX0 1 T.Sv T.Sw ["_law_one","_law_other","_law_most"] ON:=by
 refine T.UK.ok sc__law_forms (λvs H Q E h=>?_) (λcdv A outer s H vs Q E hr h=>?_)
 ·obtain⟨a,b,m,rfl,_⟩:=h;rfl
 obtain⟨a,b,m,rfl,m1,m3,ha,hb,k⟩:=h;refine⟨_,((am (ax (i:=3) sc__law_forms.nd rfl (Or.inl rfl) (aK (aa (ag aZ (pv 0) (ag aI (pv 2) ac)) (aa (ag aZ (ag cC (pv 0) ac) (ag aI (pv 2) ac)) (aa (ag aZ (ag cC (pv 0) ac) ac) ae)))))
  (ez (aF (aD br (ag aZ (ag cC (pv 0) ac) ac) ac (aC _)) (ak (ax (i:=4) sc__law_forms.nd rfl (Or.inl rfl) (aK (aa (ag aZ (pv 1) (ag aI (ah aj (pv 3) ac (λ_ _=>rfl)) ac)) (aa (ag cf (ag aZ (ag cC (pv 1) ac) ac) ac) (aa (ag aZ (ag cC (pv 1) ac) (ag aI (ah aj (pv 3) ac (λ_ _=>rfl)) ac)) ae)))))) (ak (ax (i:=4) sc__law_forms.nd rfl (Or.inl rfl) (aK (aa (ag cf (ag aZ (pv 1) (ag aI (ag fk ac (pv 2)) ac)) (pv 2)) (aa (ag cf (ag aZ (ag cC (pv 1) ac) (ag aI (ag fk ac (pv 2)) ac)) (pv 2)) (aa (ag cf (ag aZ (ag cC (pv 1) ac) ac) ac) ae)))))))
  (ez (aF (PW.pt (ph (aD br (ah aj (pv 4) ac (λ_ _=>rfl)) ac (aC _)) (pe (aD dw (ah aj (pv 4) ac (λ_ _=>rfl)) ac (aC _))))) (ak (ax (i:=4) sc__law_forms.nd rfl (Or.inl rfl) (aK (aa ac (aa (pw pB (ah aj (pv 4) ac (λ_ _=>rfl))) (aa (ah aj (pv 4) ac (λ_ _=>rfl)) ae)))))) aG)
  (ez (aF (PW.pt (ph (aD br (ah aj (pv 4) ac (λ_ _=>rfl)) (ah aj (pv 3) ac (λ_ _=>rfl)) (aC _)) (pe (aD fV (ah aj (pv 4) ac (λ_ _=>rfl)) (ah aj (pv 3) ac (λ_ _=>rfl)) (aC _))))) (ak (ax (i:=4) sc__law_forms.nd rfl (Or.inl rfl) (aK (aa (ah aj (pv 4) ac (λ_ _=>rfl)) (aa (ah aj (pv 3) ac (λ_ _=>rfl)) (aa (ah aj (pv 4) ac (λ_ _=>rfl)) ae)))))) aG)
  (ak (av (aK (aa bX (aa (pv 3) (aa (pv 4) ae))))))))))),?_⟩
 have d:∀c:Int,0<c->c<2 ^ 30->pA a c∧pA b c:=λc h1 h2=>⟨⟨h1,h2⟩,⟨h1,h2⟩⟩
 dsimp only[az]
 k_typeOf
 refine⟨by omega,(d _ (by decide) (by decide)).1,by omega,(d _ (by decide) (by decide)).1,by decide,by decide,λp np=>?_⟩;obtain⟨h,hh⟩:∃h:Int×Int×Int,h=(a % (m+1),a / 4 % (m+1),a / 16 % 10):=⟨_,rfl⟩
 have hb':0<=h.1∧h.1<=3∧0<=h.2.1∧h.2.1<=3∧0<=h.2.2∧h.2.2<=9:=by
  have f1:=dc a (show m+1≠0 by omega);have f2:=dq a (show 0<m+1 by omega);have f3:=dc (a / 4) (show m+1≠0 by omega);have f4:=dq (a / 4) (show 0<m+1 by omega);rw[hh];refine⟨?_,?_,?_,?_,?_,?_⟩ <;> (dsimp only;omega)
 obtain⟨G,hG⟩:∃G,G=L2.upd H p (.tup [V.int (a % (m+1)),V.int (a / 4 % (m+1)),V.int (a / 16 % 10)]):=⟨_,rfl⟩
 have gp:G p=some (T3 h):=by rw[hG,hh];exact af
 have s0:Same H G:=by rw[hG];exact ao np _
 rw[←hG];clear hG hh;obtain⟨M,hM⟩:∃M:(Int×Int×Int->Prop)->L2.St->Hp->Prop,∀C σ H',M C σ H'↔∃(q:Addr) (l:Int×Int×Int),σ=[some (V.int a),some (V.int b),some (V.int m),some (V.ref p),some (V.ref q)]∧H' q=some (T3 l)∧(-3<=l.1∧l.1<=3∧-3<=l.2.1∧l.2.1<=3∧-9<=l.2.2∧l.2.2<=9)∧C l∧Same G H':=⟨_,λ_ _ _=>Iff.rfl⟩
 refine eA (M λ_=>True) ?_ ?_
 ·k_units
  refine⟨(d _ (by decide) (by decide)).1,by decide,bC (λz=>?_) (λz=>?_)⟩
  ·refine⟨_,SqT.of gp,_,rfl,_,rfl,by omega,(d _ (by decide) (by decide)).2,by decide,(d _ (by decide) (by decide)).2,_,SqT.of gp,_,rfl,_,rfl,by omega,by decide,λq nq=>?_⟩;have e1:=dc b (show h.1+1≠0 by omega);have e2:=dq b (show 0<h.1+1 by omega);have e3:=dc (b / 12) (show h.2.2+1≠0 by omega);have e4:=dq (b / 12) (show 0<h.2.2+1 by omega);exact (hM _ _ _).mpr ⟨q,(b % (h.1+1),b / 4 % 3-1,b / 12 % (h.2.2+1)),rfl,af,⟨by dsimp only;omega,by dsimp only;omega,by dsimp only;omega,by dsimp only;omega,by dsimp only;omega,by dsimp only;omega⟩,trivial,ao nq _⟩
  ·refine⟨.inl ⟨by decide,by decide⟩,by omega,(d _ (by decide) (by decide)).2,.inl ⟨by decide,by decide⟩,by omega,(d _ (by decide) (by decide)).2,by decide,by decide,λq nq=>?_⟩;have e1:=dc b (show 2*m+1≠0 by omega);have e2:=dq b (show 0<2*m+1 by omega);have e3:=dc (b / 7) (show 2*m+1≠0 by omega);have e4:=dq (b / 7) (show 0<2*m+1 by omega);exact (hM _ _ _).mpr ⟨q,(b % (2*m+1)-m,b / 7 % (2*m+1)-m,b / 49 % 19-9),rfl,af,⟨by dsimp only;omega,by dsimp only;omega,by dsimp only;omega,by dsimp only;omega,by dsimp only;omega,by dsimp only;omega⟩,trivial,ao nq _⟩
 intro σ H1 hm;obtain⟨q,l,rfl,eq,lb,_,s1⟩:=(hM _ _ _).mp hm;refine eA (M λl=>¬(l.1=0∧l.2.1<0)) ?_ ?_
 ·k_units
  refine⟨_,SqT.of eq,_,rfl,?_⟩
  k_units
  refine bC (λz=>⟨_,SqT.of eq,_,rfl,?_⟩) (λz=>(hM _ _ _).mpr ⟨q,l,rfl,eq,lb,λy=>z y.1,s1⟩)
  k_units
  refine bC (λz2=>?_) (λz2=>(hM _ _ _).mpr ⟨q,l,rfl,eq,lb,λy=>z2 y.2,s1⟩);exact⟨_,SqT.of eq,_,rfl,_,rfl,_,SqT.of eq,_,rfl,by decide,λq2 nq2=>(hM _ _ _).mpr ⟨q2,(0,-l.2.1,l.2.2),rfl,af,⟨by dsimp only;omega,by dsimp only;omega,by dsimp only;omega,by dsimp only;omega,by dsimp only;omega,by dsimp only;omega⟩,by dsimp only;omega,s1.trans (ao nq2 _)⟩⟩
 clear hm lb eq s1;intro σ H1 hm;obtain⟨q,l,rfl,eq,lb,c1,s1⟩:=(hM _ _ _).mp hm;refine eA (M λl=>¬(l.1=0∧l.2.1<0)∧¬(h.1-l.1=0∧h.2.1-l.2.1<0)) ?_ ?_
 ·k_units
  refine⟨_,SqT.of eq,_,rfl,_,SqT.of (s1 _ _ gp),_,rfl,?_⟩
  k_units
  refine bC (λz=>⟨_,SqT.of eq,_,rfl,_,SqT.of (s1 _ _ gp),_,rfl,_,rfl,_,rfl,bC (λz2=>?_) (λz2=>(hM _ _ _).mpr ⟨q,l,rfl,eq,lb,⟨c1,λy=>z2 (by omega)⟩,s1⟩)⟩) (λz=>(hM _ _ _).mpr ⟨q,l,rfl,eq,lb,⟨c1,λy=>z (by omega)⟩,s1⟩);exact⟨_,SqT.of eq,_,rfl,_,SqT.of (s1 _ _ gp),_,rfl,_,SqT.of eq,_,rfl,by decide,λq2 nq2=>(hM _ _ _).mpr ⟨q2,(l.1,h.2.1,l.2.2),rfl,af,⟨by dsimp only;omega,by dsimp only;omega,by dsimp only;omega,by dsimp only;omega,by dsimp only;omega,by dsimp only;omega⟩,by dsimp only;omega,s1.trans (ao nq2 _)⟩⟩
 clear hm lb eq s1;intro σ H1 hm;obtain⟨q,l,rfl,eq,lb,⟨c1,c2⟩,s1⟩:=(hM _ _ _).mp hm
 k_units
 exact⟨by decide,λr nr=>k h l ⟨hb',lb,c1,c2⟩ r _ ((s0.trans s1).trans (ao nr _)) ⟨p,q,af,ao nr _ _ _ (s1 _ _ gp),ao nr _ _ _ eq⟩⟩
def OP:Sp:=λvs H Q _=>∃a b:Int,vs=[.int a,.int b]∧∀f:Int×Int,Frc f->f.1≠0->Bd 70 f.1->Bd 20 f.2->∀(r:Addr) (H':Hp),Same H H'->H' r=some (T2 f)->Q (.ref r) H'
theorem GG {P:Program}{w:World}{K:W.Frag}{mg:Str->Option Value}{base:Heap}(T:Tx K mg):FnOk P w K mg base CX0 2 T.Sx T.Sy ["_law_one","_law_other"] OP:=by
 refine T.Sz.ok sc__law_ratio (λvs H Q E h=>?_) (λcdv A outer s H vs Q E hr h=>?_)
 ·obtain⟨a,b,rfl,_⟩:=h;rfl
 obtain⟨a,b,rfl,k⟩:=h;refine⟨_,((am (ax (i:=2) sc__law_ratio.nd rfl (Or.inl rfl) (au (FnOk.mono (GE T) (by decide)) hr rfl T.UG T.Sl.kp T.UH .nil ai (aa (pv 0) (aa (ag fm ac ac) ae))))
  (ez (aF (aD br (pv 2) ac (aC _)) (ak (ax (i:=2) sc__law_ratio.nd rfl (Or.inl rfl) ac)) aG)
  (am (ax (i:=3) sc__law_ratio.nd rfl (Or.inl rfl) (au (FnOk.mono (fM T) (by decide)) hr rfl T.Qw T.Qt.kp T.Qx .nil ai (aa (pv 1) (aa ac ae))))
  (am (ax (i:=4) sc__law_ratio.nd rfl (Or.inl rfl) (ah bA (bT (aa ac (aa (ag aI ac (ag aZ (ag cC (pv 3) ac) ac)) (aa (ag aI ac (ag aZ (ag cC (pv 3) ac) (ag fm ac ac))) ae)))) (ag aZ (pv 3) ac) (λ_ _=>rfl)))
  (am (ax (i:=5) sc__law_ratio.nd rfl (Or.inl rfl) (au (FnOk.mono (FD T) (by decide)) hr rfl T.UI T.Sr.kp T.UJ .nil ai (aa (pv 2) (aa (pv 4) ae))))
  (ak (av (aK (aa (ag eo (pv 2) (pv 5)) (aa (ag eo (pv 4) (pv 5)) ae))))))))))),?_⟩
 dsimp only[az]
 k_typeOf
 refine⟨⟨by decide,by decide,by decide⟩,a,_,rfl,.inr rfl,λt ht=>?_⟩;obtain⟨M,hM⟩:∃M:L2.St->Hp->Prop,∀σ H',M σ H'↔∃t:Int,σ=[some (V.int a),some (V.int b),some (V.int t),none,none,none]∧t≠0∧Bd 70 t∧H'=H:=⟨_,λ_ _=>Iff.rfl⟩
 have bt:Bd 70 t:=a_ ht (by decide);refine eA M ?_ ?_
 ·k_units
  exact bC (λz=>(hM _ _).mpr ⟨1,rfl,by decide,Bd.one (by decide),rfl⟩) (λz=>(hM _ _).mpr ⟨t,rfl,z,bt,rfl⟩)
 clear bt ht;intro σ H1 hm;obtain⟨t',rfl,t0,bt,rfl⟩:=(hM _ _).mp hm;dsimp only[az]
 k_typeOf
 refine⟨b,3,rfl,by decide,λm hm0=>?_⟩;dsimp only[az]
 k_typeOf
 refine⟨⟨by decide,by decide⟩,by decide,⟨by decide,by decide⟩,⟨by decide,by decide,by decide⟩,by decide,by decide,λp np=>⟨by decide,_,SqL.of af,?_⟩⟩;have e6:(10:Int) ^ hV 6=1000000:=rfl;obtain⟨bo,hbo,b1,b2⟩:∃bo:Int,atI [V.int 1,V.int (1+m / 3 % 9),V.int (1+m / 3 % (10:Int) ^ hV 6)] (m % 3)=some (V.int bo)∧1<=bo∧bo<=1000000:=by
  rw[e6];have:m % 3=0∨m % 3=1∨m % 3=2:=by omega
  rcases this with z|z|z <;> rw[z]
  ·exact⟨_,rfl,by omega,by omega⟩
  ·exact⟨_,rfl,by omega,by omega⟩
  ·exact⟨_,rfl,by omega,by omega⟩
 refine⟨_,hbo,?_⟩;clear hbo;have u1:=ao np (.lst [V.int 1,V.int (1+m / 3 % 9),V.int (1+m / 3 % (10:Int) ^ hV 6)]);generalize L2.upd H1 p (.lst [V.int 1,V.int (1+m / 3 % 9),V.int (1+m / 3 % (10:Int) ^ hV 6)])=G at u1;dsimp only[az]
 k_typeOf
 refine⟨t',bo,rfl,?_⟩
 k_units
 obtain⟨g1,g2,g3,g4,g5,g6⟩:=Fk (t:=t') (b:=bo) (s:=((aU t'.natAbs bo.natAbs:Nat):Int)) (by omega) (by rw[if_neg (by omega)]);have small:(((aU t'.natAbs bo.natAbs:Nat):Int)).natAbs<2 ^ 9000:=by
  rw[dN];exact cr (At _ (by omega)) (cr (show bo.natAbs<=1000000 by omega) (a_ (show 1000000<2 ^ 20 by decide) (d6 (by decide) (by decide))))
 have f0:t'.fdiv ((aU t'.natAbs bo.natAbs:Nat):Int)≠0:=λz=>by rw[z]at g3;omega
 refine⟨g1,small,g1,small,by decide,λr nr=>k (_,_) ⟨g5,g6⟩ f0 (FE (sr g1 g3) bt) (FE (sr g1 g4) (Bd.of_lt (m:=1000001) (by omega) (by decide))) r _ (u1.trans (ao nr _)) af⟩
theorem OQ {a b X Y:Prop}[Decidable a][Decidable b](h1:a->b->X)(h2:Y):if a then (if b then X else Y) else Y:=by
 by_cases ha:a
 ·rw[if_pos ha];by_cases hb:b
  ·rw[if_pos hb];exact h1 ha hb
  ·rw[if_neg hb];exact h2
 ·rw[if_neg ha];exact h2
def gS:Prt->Bool
 | .cho _ _=>true
 | _=>false
def OR (K:W.Frag):Sp:=λvs H Q _=>∃(A:Addr) (x y z m:Int),vs=[.ref A,.int m]∧H A=some (.lst [.int x,.int y,.int z])∧0<=m∧m<=3∧∀p,bJ p->(gS p=true->m≠0)->GF H Q p
theorem OS {P:Program}{w:World}{K:W.Frag}{mg:Str->Option Value}{base:Heap}(T:Tx K mg):FnOk P w K mg base CX0 3 T.SA T.SB ["_law_cells","_law_most"] (OR K):=by
 refine T.UN.ok sc__law_part (λvs H Q E h=>?_) (λcdv A outer s H vs Q E hr h=>?_)
 ·obtain⟨A,x,y,z,m,rfl,_⟩:=h;rfl
 obtain⟨A,x,y,z,m,rfl,hA,hm0,hm3,k⟩:=h;refine⟨_,((am (ax (i:=2) sc__law_part.nd rfl (Or.inl rfl) (ag aZ (au (FnOk.mono (fM T) (by decide)) hr rfl T.Qw T.Qt.kp T.Qx .nil ai (aa (ah bA (pv 0) ac (λ_ _=>rfl)) (aa ac ae))) ac))
  (am (aF (PW.pt (ph (aD dw (pv 2) ac (aC _)) (pe (aD fV (pv 1) ac (aC _))))) (ak (av (au (FnOk.mono (OO T) (by decide)) hr rfl T.VT T.UK.kp T.VU .nil ai (aa (au (FnOk.mono (fM T) (by decide)) hr rfl T.Qw T.Qt.kp T.Qx .nil ai (aa (ah bA (pv 0) ac (λ_ _=>rfl)) (aa ac ae))) (aa (au (FnOk.mono (fM T) (by decide)) hr rfl T.Qw T.Qt.kp T.Qx .nil ai (aa (ah bA (pv 0) ac (λ_ _=>rfl)) (aa ac ae))) (aa (pv 1) ae)))))) aG)
  (am (aF (aD br (pv 2) ac (aC _)) (ak (av (aK (aa bX (aa (au (FnOk.mono (GG T) (by decide)) hr rfl T.UL T.Sz.kp T.UM .nil ai (aa (ah bA (pv 0) ac (λ_ _=>rfl)) (aa (ah bA (pv 0) ac (λ_ _=>rfl)) ae))) ae))))) aG)
  (am (aF (aD br (pv 2) ac (aC _)) (ak (av (aK (aa bX (aa (au (FnOk.mono (GG T) (by decide)) hr rfl T.UL T.Sz.kp T.UM .nil ai (aa (ah bA (pv 0) ac (λ_ _=>rfl)) (aa (ah bA (pv 0) ac (λ_ _=>rfl)) ae))) ae))))) aG)
  (ak (av (aK (aa bX (aa (ft yX rfl T.QS gt (aa (cD rfl (cu rfl bZ cq) (bY (pv 0)) (λ_ _ _ _=>(au (FnOk.mono (GE T) (by decide)) hr rfl T.UG T.Sl.kp T.UH .nil ai (aa (pv 0) (aa (ag fm ac ac) ae))))) ae)) ae)))))))))),?_⟩
 dsimp only[az]
 k_typeOf
 refine⟨_,SqL.of hA,_,rfl,x,0,rfl,by decide,λwy w0=>⟨wy,rfl,by decide,?_⟩⟩;dsimp only[az]
 k_typeOf
 refine OQ (λ_ m0=>⟨_,SqL.of hA,_,rfl,y,1,rfl,by decide,λn1 p1=>⟨_,SqL.of hA,_,rfl,z,2,rfl,by decide,λn2 p2=>⟨n1,n2,m,rfl,by omega,hm3,p1,p2,λh l c=>k (.cho h l) c λ_=>by omega⟩⟩⟩) ?_;dsimp only[az]
 k_typeOf
 refine bC (λ_=>⟨_,SqL.of hA,_,rfl,_,SqL.of hA,_,rfl,y,z,rfl,λf h1 h2 h3 h4 a H1 s1 ea=>⟨by decide,λr nr=>?_⟩⟩) (λ_=>?_)
 ·exact k (.pow f) ⟨h1,h2,h3,h4⟩ (λz=>nomatch z) r _ (s1.trans (ao nr _)) ⟨a,af,ao nr _ _ _ ea⟩
 dsimp only[az]
 k_typeOf
 refine bC (λ_=>⟨_,SqL.of hA,_,rfl,_,SqL.of hA,_,rfl,y,z,rfl,λf h1 h2 h3 h4 a H1 s1 ea=>⟨by decide,λr nr=>?_⟩⟩) (λ_=>?_)
 ·exact k (.gro f) ⟨h1,h2,h3,h4⟩ (λz=>nomatch z) r _ (s1.trans (ao nr _)) ⟨a,af,ao nr _ _ _ ea⟩
 k_units
 refine⟨⟨_,SqL.of hA⟩,λD nD=>?_⟩;obtain⟨Pc,hPc⟩:∃Pc:Nat->Hp->Prop,∀j Hx,Pc j Hx↔∃us:List Int,Hx D=some (.lst (us.map V.int))∧us.length=j∧(∀u∈us,Bd 300 u)∧Same H Hx:=⟨_,λ_ _=>Iff.rfl⟩
 refine eE (xs:=[V.int x,V.int y,V.int z]) Pc ((hPc _ _).mpr ⟨[],af,rfl,λu hu=>by simp at hu,ao nD _⟩) (λi Hx _ y=>by obtain⟨_,_,_,_,y⟩:=(hPc i Hx).mp y;exact y.seq (SqL.of hA)) ?_ ?_
 ·intro j v Hx hv hc;obtain⟨us,k1,k2,k3,k4⟩:=(hPc _ _).mp hc;obtain⟨c,rfl,hj⟩:∃c:Int,v=V.int c∧j<3:=by
   match j,hv with
   | 0,hv=>exact⟨x,(Option.some.inj hv).symm,by decide⟩
   | 1,hv=>exact⟨y,(Option.some.inj hv).symm,by decide⟩
   | 2,hv=>exact⟨z,(Option.some.inj hv).symm,by decide⟩
   | j+3,hv=>simp at hv
  (iterate 3 (k_units;(try simp only[bst,dH]));k_units)
  refine⟨⟨by decide,by decide,by decide⟩,c,_,rfl,.inl rfl,λu hu=>⟨_,k1,by rw[aB];exact bB (by omega),(hPc _ _).mpr ⟨us++[u],by rw[af];simp,by simp[k2],λv hv=>?_,k4.more nD⟩⟩⟩;rcases cx.mp hv with hv|hv
  ·exact k3 v hv
  ·rw[bR.mp hv];exact a_ hu (aP (show _<=2 ^ 200 by decide) (d6 (by decide) (by decide)))
 intro Hx hc;obtain⟨us,k1,k2,k3,k4⟩:=(hPc _ _).mp hc
 match us,k2 with
 | [a,b,c],_=>
  refine⟨D,rfl,_,.inl ⟨SqL.of k1,λq nq=>⟨by decide,λr nr=>?_⟩⟩⟩;have u1:=ao nq (.tup ([a,b,c].map V.int));exact k (.wei (a,b,c)) ⟨k3 a (by simp),k3 b (by simp),k3 c (by simp)⟩ (λz=>nomatch z) r _ ((k4.trans u1).trans (ao nr _)) ⟨q,af,ao nr _ _ _ af⟩
def OT (K:W.Frag):Sp:=λvs H Q _=>∃(A M:Addr) (ns:List Int),vs=[.ref A,.ref M]∧SqL K H A (ns.map V.int)∧H M=some (.lst [.int 3,.int 1])∧
 ∀(L:Addr) (rs:List Addr) (ps:List Prt) (H':Hp),Same H H'->H L=none->H' L=some (.lst (rs.map V.ref))->Pts H' rs ps->(∀p∈ps,bJ p)->1<=ps.length->ps.length<=6->(ps.map dgF).sum<=60->Q (.ref L) H'
theorem OU (p:Prt):dgF p<=1+12*(if gS p=true then 1 else 0):=by cases p <;> simp[dgF,gS]
theorem OV {P:Program}{w:World}{K:W.Frag}{mg:Str->Option Value}{base:Heap}(T:Tx K mg):FnOk P w K mg base CX0 4 T.SC T.SD ["_law_script","_law_mosts"] (OT K):=by
 refine T.UO.ok sc__law_parts (λvs H Q E h=>?_) (λcdv A outer s H vs Q E hr h=>?_)
 ·obtain⟨A,M,ns,rfl,_⟩:=h;rfl
 obtain⟨A,M,ns,rfl,hA,hM,k⟩:=h;refine⟨_,((am (ax (i:=2) sc__law_parts.nd rfl (Or.inl rfl) (bT ae))
  (am (bL PassesOwn.never rfl (cR rfl T.Qn (aa (ag aI ac (ag aZ (au (FnOk.mono (z6 T) (by decide)) hr rfl T.Sh T.Rf.kp T.Si .nil ai (aa (pv 0) (aa ac ae))) ac)) ae)) (aS (i:=3) sc__law_parts.nd rfl (Or.inr rfl)) (am (ax (i:=4) sc__law_parts.nd rfl (Or.inl rfl) (au (FnOk.mono (OS T) (by decide)) hr rfl T.VW T.UN.kp T.VX .nil ai (aa (cD rfl (cu rfl (bu rfl (bu rfl bZ)) (bG 0 "_law_script" (by decide) rfl (Or.inl rfl) (Or.inl rfl) ⟨_,rfl⟩ (bG 3 "_law_k" (by decide) rfl (Or.inl rfl) (Or.inl rfl) ⟨_,rfl⟩ cq))) (cR rfl T.Qn (aa ac ae)) (λ_ _ _ _=>(au (FnOk.mono (z6 T) (by decide)) hr rfl T.Sh T.Rf.kp T.Si .nil ai (aa (pv 1) (aa (ag aI (ag aI ac (ag fk ac (pv 2))) (pv 0)) ae))))) (aa (ah bA (pv 1) ac (λ_ _=>rfl)) ae))))
  (ez (aF (aD br (ah aj (pv 4) ac (λ_ _=>rfl)) bX (aC _)) (ak (ax (i:=1) sc__law_parts.nd rfl (Or.inl rfl) (ag fw (Ec Eh (pv 1) (yV ac) JZ) (bT (aa ac ae))))) aG)
  (ak (du (fZ PySem.F.plainAttrs_list PySem.F.slot_list_append PySem.F.type_list_append el (pv 2) (aa (pv 4) ae)))))))
  (ak (av (pv 2)))))),?_⟩
 dsimp only[az]
 k_typeOf
 refine⟨by decide,λL nL=>?_⟩
 k_units
 have u0:=ao nL (.lst []);refine⟨A,ns,0,rfl,u0.seq hA,_,rfl,by decide,by omega,by omega,?_⟩;have i0:=dc (cell ns 0) (show (6:Int)≠0 by decide);have i6:=dq (cell ns 0) (show (0:Int)<6 by decide);obtain⟨N,hN,N1,N6⟩:∃N,(1+cell ns 0 % 6).toNat=N∧1<=N∧N<=6:=⟨_,rfl,by omega,by omega⟩
 rw[hN];obtain⟨Pv,hPv⟩:∃Pv:Nat->L2.St->Hp->Prop,∀i σ H',Pv i σ H'↔∃(rs:List Addr) (ps:List Prt) (M':Addr) (m0 m1:Int) (c:Nat) (r3 r4:Option V),σ=[some (V.ref A),some (V.ref M'),some (V.ref L),r3,r4]∧H' L=some (.lst (rs.map V.ref))∧Pts H' rs ps∧(∀p∈ps,bJ p)∧ps.length=i∧H' M'=some (.lst [V.int m0,V.int m1])∧((m0=3∧m1=1∧c=0)∨(m0=1∧m1=0∧c=1)∨(m0=0∧m1=0∧c=2))∧(ps.map dgF).sum<=i+12*c∧Same H H'∧M'≠L:=⟨_,λ_ _ _=>Iff.rfl⟩
 have nML:M≠L:=λz=>by rw[z,nL]at hM;cases hM
 refine eI Pv ((hPv _ _ _).mpr ⟨[],[],M,3,1,0,none,none,rfl,af,⟨rfl,λi r p e=>by simp at e⟩,λp hp=>by simp at hp,rfl,u0 _ _ hM,.inl ⟨rfl,rfl,rfl⟩,by simp,u0,nML⟩) ?_ ?_
 ·intro i σ H1 hi hp;obtain⟨rs,ps,M',m0,m1,c,r3,r4,rfl,eL,hP,hO,lp,eM,h30,hdg,s1,nML'⟩:=(hPv _ _ _).mp hp;dsimp only[az]
  k_typeOf
  refine⟨by decide,by decide,λD nD=>?_⟩;obtain⟨Pc,hPc⟩:∃Pc:Nat->Hp->Prop,∀j Hx,Pc j Hx↔Hx D=some (.lst (((aR j).map λj=>cell ns (1+3*i+j)).map V.int))∧Same H1 Hx:=⟨_,λ_ _=>Iff.rfl⟩
  refine qR Pc ((hPc _ _).mpr ⟨af,ao nD _⟩) ?_ ?_
  ·intro j Hx hj hc;obtain⟨k1,k2⟩:=(hPc _ _).mp hc
   (iterate 3 (k_units;(try simp only[bst,dH]));k_units)
   have e:(1:Int)+3*(0+(i:Int))+(0+(j:Int))=((1+3*i+j:Nat):Int):=by omega
   have hj3:j<3:=hj;refine⟨.inl ⟨by decide,by decide⟩,A,ns,1+3*i+j,by rw[e],(s1.trans k2).seq hA,_,k1,by rw[aB,aB,e7];exact bB (by omega),(hPc _ _).mpr ⟨?_,k2.more nD⟩⟩;rw[af,gl,aM,aM];rfl
  intro Hx hc;obtain⟨k1,k2⟩:=(hPc _ _).mp hc;refine⟨_,SqL.of (k2 _ _ eM),_,(show atI [V.int m0,V.int m1] ((0:Nat):Int)=some (V.int m0) from gr rfl),D,_,_,_,m0,rfl,k1,by omega,by omega,λp hp hpc r H2 s2 hr2=>?_⟩;have s12:=k2.trans s2;obtain⟨M2,hM2⟩:∃M2:L2.St->Hp->Prop,∀σ H',M2 σ H'↔∃(M'':Addr) (m0 m1:Int) (c:Nat),σ=[some (V.ref A),some (V.ref M''),some (V.ref L),some (V.int (0+(i:Int))),some (V.ref r)]∧H' M''=some (.lst [V.int m0,V.int m1])∧((m0=3∧m1=1∧c=0)∨(m0=1∧m1=0∧c=1)∨(m0=0∧m1=0∧c=2))∧(ps.map dgF).sum+dgF p<=i+1+12*c∧Same H2 H'∧M''≠L:=⟨_,λ_ _=>Iff.rfl⟩
  have dp:=OU p;refine eA M2 ?_ ?_
  ·have hd:∃(sh:Str) (xs:List V),H2 r=some (.tup (.str sh :: xs))∧(sh=Str.ofString "choose" ↔ gS p=true):=by
    match p,hr2 with
    | .cho f l,⟨a,b,h1,_⟩=>exact⟨_,_,h1,by simp[gS]⟩
    | .wei f,⟨a,h1,_⟩=>exact⟨_,_,h1,⟨λz=>absurd z (by decide),λz=>nomatch z⟩⟩
    | .pow f,⟨a,h1,_⟩=>exact⟨_,_,h1,⟨λz=>absurd z (by decide),λz=>nomatch z⟩⟩
    | .gro f,⟨a,h1,_⟩=>exact⟨_,_,h1,⟨λz=>absurd z (by decide),λz=>nomatch z⟩⟩
   obtain⟨sh,xs,er,hsh⟩:=hd
   k_units
   refine⟨_,SqT.of er,_,(show atI (V.str sh :: xs) ((0:Nat):Int)=some (V.str sh) from gr rfl),?_⟩
   k_units
   refine bC (λhy=>?_) (λhy=>(hM2 _ _).mpr ⟨M',m0,m1,c,rfl,s12 _ _ eM,h30,?_,Same.refl _,nML'⟩)
   ·have hc:=hsh.mp hy;have hm:=hpc hc;rw[if_pos hc]at dp;have ec:ej [V.int m0,V.int m1] (some 1) none=[V.int m1]:=rfl;refine⟨_,SqL.of (s12 _ _ eM),λp1 n1=>⟨by decide,λp2 n2=>?_⟩⟩;rw[ec]at n2 ⊢;have v1:=ao n1 (.lst [V.int m1]);have v2:=ao n2 (.lst [V.int 0]);refine⟨_,v2 _ _ af,_,af,by show 1+1<=sizeLine;decide,λp3 n3=>?_⟩;have v3:=ao n3 (.lst ([V.int m1]++[V.int 0]));have eLx:=(v1.trans v2) _ _ (s12 _ _ eL);exact (hM2 _ _).mpr ⟨p3,m1,0,c+1,rfl,af,by omega,by omega,(v1.trans v2).trans v3,λz=>by rw[z,eLx]at n3;cases n3⟩
   ·have hc:¬gS p=true:=λz=>hy (hsh.mpr z);rw[if_neg hc]at dp;omega
  intro σ H3 hm;obtain⟨M'',m0',m1',c',rfl,eM2,h302,hdg2,s3,nML2⟩:=(hM2 _ _).mp hm
  k_units
  have eL3:=s3 _ _ (s12 _ _ eL);have kt:∀a xs,H1 a=some (.tup xs)->L2.upd H3 L (.lst (rs.map V.ref++[V.ref r])) a=some (.tup xs):=λa xs e=>by
   rw[aq (aW e eL (λz=>nomatch z))];exact s3 _ _ (s12 _ _ e)
  refine⟨fx (SqL.of eL3),_,eL3,by rw[aB,hP.len];exact bB (by omega),(hPv _ _ _).mpr ⟨rs++[r],ps++[p],M'',m0',m1',c',_,_,rfl,by rw[af,aM];rfl,?_,λp' hp'=>?_,by simp[lp],by rw[aq nML2];exact eM2,h302,by rw[aM,tj,bF,gW,gi,ID];omega,((s1.trans s12).trans s3).more nL,nML2⟩⟩
  ·refine (hP.kt kt).snoc (hr2.kt λa xs e=>?_);rw[aq (aW (s3 _ _ e) eL3 (λz=>nomatch z))];exact s3 _ _ e
  ·rcases cx.mp hp' with z|z
   ·exact hO p' z
   ·rw[bR.mp z];exact hp
 ·intro σ H1 hp;obtain⟨rs,ps,M',m0,m1,c,r3,r4,rfl,eL,hP,hO,lp,eM,h30,hdg,s1,nML'⟩:=(hPv _ _ _).mp hp
  k_units
  exact k L rs ps H1 s1 nL eL hP hO (by omega) (by omega) (by omega)
section
variable {h l:Int×Int×Int}{far:Nat}
theorem OW (c:cF h l)(f2:far<=2)(n k:Int):evD (pdD (upL h l far)) n k=aX (atF h n k) h.2.1.toNat*(upl (atF l n k+mx ((far:Int)*l.1)) l.2.1*upl (atF (ar h l) n k+mx ((far:Int)*(ar h l).1)) (ar h l).2.1):=by
 obtain⟨u1,u2,d1,d2⟩:=jz (far:=far) c f2;rw[(jt n k _ (upL h l far) 1 rfl λf hf=>(u2 f hf).dg).1];unfold upL;rw[aM,aM,js,js,eQ,eQ,eQ,dJ,fJ,fJ];unfold upl cnt;congr 1
 ·congr 1 <;> omega
 ·congr 1 <;> congr 1 <;> omega
theorem OX (c:cF h l)(f2:far<=2)(n k:Int):evD (pdD (dnL h l far)) n k=dnl (atF l n k+mx ((far:Int)*l.1)) l.2.1*dnl (atF (ar h l) n k+mx ((far:Int)*(ar h l).1)) (ar h l).2.1:=by
 obtain⟨u1,u2,d1,d2⟩:=jz (far:=far) c f2;rw[(jt n k _ (dnL h l far) 1 rfl λf hf=>(d2 f hf).dg).1];unfold dnL;rw[aM,js,eQ,eQ,fJ,fJ];unfold dnl cnt;congr 1 <;> congr 1 <;> omega
end
def cH (p:Prt)(far:Nat)(n k:Int):List Int:=((aR (far+1)).map λi=>evD (stD p i far) n k)++[evD (upD p far) n k,evD (dnD p far) n k]
theorem OY (p:Prt)(far:Nat)(n k:Int):(cH p far n k).length=far+3:=by unfold cH;simp
def aE (h l:Int×Int×Int)(j:Nat):Int×Int×Int:=if j=0 then l else ar h l
def cI (h l:Int×Int×Int)(far:Nat)(n k:Int)(i:Nat):Nat->Int
 | 0=>aX (atF h n k) ((i:Int)*h.1).toNat
 | j+1=>cI h l far n k i j*aX (atF (aE h l j) n k+(i:Int)*(aE h l j).1) (cnt ((i:Int)*(aE h l j).1+1) (mx ((far:Int)*(aE h l j).1)))
def uI (h l:Int×Int×Int)(far:Nat)(n k:Int):Nat->Int
 | 0=>aX (atF h n k) h.2.1.toNat
 | j+1=>uI h l far n k j*upl (atF (aE h l j) n k+mx ((far:Int)*(aE h l j).1)) (aE h l j).2.1
def dI (h l:Int×Int×Int)(far:Nat)(n k:Int):Nat->Int
 | 0=>1
 | j+1=>dI h l far n k j*dnl (atF (aE h l j) n k+mx ((far:Int)*(aE h l j).1)) (aE h l j).2.1
theorem GH {h l:Int×Int×Int}{far:Nat}(c:cF h l)(f2:far<=2)(n k:Int):((aR (far+1)).map λi=>cI h l far n k i 2)++[uI h l far n k 2,dI h l far n k 2]=cH (.cho h l) far n k:=by
 unfold cH;congr 1
 ·refine jP λi hi=>?_;have hi':=cM.mp hi;show cI h l far n k i 2=evD (pdD (stL h l i far)) n k;rw[Ox ⟨c,by omega,f2⟩];show aX _ _*aX _ _*aX _ _=_;rw[dJ];rfl
 ·show [aX _ _*upl _ _*upl _ _,1*dnl _ _*dnl _ _]=[evD (pdD (upL h l far)) n k,evD (pdD (dnL h l far)) n k]
  rw[OW c f2,OX c f2,dJ,g8];rfl
theorem jF {f:Int×Int×Int}(h1:Bd 8 f.1)(h2:Bd 8 f.2.1)(h3:Bd 8 f.2.2){n k:Int}(hn:Bd 31 n)(hk:Bd 31 k):Bd 42 (atF f n k):=by
 unfold atF;exact (((h1.mul hn).add (h2.mul hk)).add (h3.mono (by decide))).mono (by decide)
def OZ {K:W.Frag}{mg:Str->Option Value}(T:Tx K mg):Sp:=λvs H Q _=>∃(r:Addr) (p:Prt),vs=[.ref r]∧PtAt H r p∧mkP T H Q p
theorem O0 {P:Program}{w:World}{K:W.Frag}{mg:Str->Option Value}{base:Heap}(T:Tx K mg):FnOk P w K mg base CX0 4 T.SK T.SL ["_law_part_here"] (OZ T):=by
 refine T.UQ.ok Nn (λvs H Q E h=>?_) (λcdv A outer s H vs Q E hr h=>?_)
 ·obtain⟨r,p,rfl,_⟩:=h;rfl
 obtain⟨r,p,rfl,hp,k⟩:=h;refine⟨_,((am (aF (aD br (ah aj (pv 0) ac (λ_ _=>rfl)) bX (aC _)) (ak (av (eg T.Vg (FnOk.mono (FO T) (by decide)) hr rfl T.Vf T.UZ .nil ai (aa (ah aj (pv 0) ac (λ_ _=>rfl)) (aa (ah aj (pv 0) ac (λ_ _=>rfl)) ae))))) aG)
  (am (aF (aD br (ah aj (pv 0) ac (λ_ _=>rfl)) bX (aC _)) (ak (av (eg T.VA (FnOk.mono (FI T) (by decide)) hr rfl T.Vz T.U5 .nil ai (aa (ah aj (pv 0) ac (λ_ _=>rfl)) ae)))) aG)
  (am (aF (aD br (ah aj (pv 0) ac (λ_ _=>rfl)) bX (aC _)) (ak (av (eg T.Vt (FnOk.mono (FK T) (by decide)) hr rfl T.Vs T.U7 .nil ai (aa (ah aj (pv 0) ac (λ_ _=>rfl)) ae)))) aG)
  (ak (av (eg T.Vl (FnOk.mono (FL T) (by decide)) hr rfl T.Vk T.Vb .nil ai (aa (ah aj (pv 0) ac (λ_ _=>rfl)) ae)))))))),?_⟩
 match p,hp,k with
 | .cho h l,⟨a,b,hr',ha,hb⟩,k=>
  dsimp only[az]
  k_typeOf
  refine⟨_,SqT.of hr',_,rfl,?_⟩
  k_units
  exact⟨_,SqT.of hr',_,rfl,_,SqT.of hr',_,rfl,FX ha hb k⟩
 | .wei f,⟨a,hr',ha⟩,k=>
  dsimp only[az]
  k_typeOf
  refine⟨_,SqT.of hr',_,rfl,?_⟩
  k_units
  rw[if_neg (by decide)];refine⟨_,SqT.of hr',_,rfl,?_⟩
  k_units
  exact⟨_,SqT.of hr',_,rfl,FY ha k⟩
 | .pow f,⟨a,hr',ha⟩,k=>
  dsimp only[az]
  k_typeOf
  refine⟨_,SqT.of hr',_,rfl,?_⟩
  k_units
  rw[if_neg (by decide)];refine⟨_,SqT.of hr',_,rfl,?_⟩
  k_units
  rw[if_neg (by decide)];refine⟨_,SqT.of hr',_,rfl,?_⟩
  k_units
  exact⟨_,SqT.of hr',_,rfl,FZ ha k⟩
 | .gro f,⟨a,hr',ha⟩,k=>
  dsimp only[az]
  k_typeOf
  refine⟨_,SqT.of hr',_,rfl,?_⟩
  k_units
  rw[if_neg (by decide)];refine⟨_,SqT.of hr',_,rfl,?_⟩
  k_units
  rw[if_neg (by decide)];refine⟨_,SqT.of hr',_,rfl,?_⟩
  k_units
  rw[if_neg (by decide)];exact⟨_,SqT.of hr',_,rfl,F4 ha k⟩
def z7 (K:W.Frag):Sp:=λvs H Q _=>∃(p q:Addr) (f d:Int×Int),vs=[.ref p,.ref q]∧H p=some (T2 f)∧SqT K H q [.int d.1,.int d.2]∧Frc f∧f.1*d.2=d.1*f.2∧Bd 200000 f.1∧Bd 200000 f.2∧Bd 200000 d.1∧Bd 200000 d.2∧Q (.bl true) H
theorem O1 {P:Program}{w:World}{K:W.Frag}{mg:Str->Option Value}{base:Heap}(T:Tx K mg):FnOk P w K mg base CX0 2 T.SI T.SJ ["_law_found","_law_due_here"] (z7 K):=by
 refine T.UP.ok Nm (λvs H Q E h=>?_) (λcdv A outer s H vs Q E hr h=>?_)
 ·obtain⟨p,q,f,d,rfl,_⟩:=h;rfl
 obtain⟨p,q',⟨x,y⟩,d,rfl,hp,hd,⟨y1,y2⟩,e,c1,c2,c3,c4,q⟩:=h;refine⟨_,((am (aF (PW.pt (cn (b_ (b9 (a0 f7 rfl T.QB fD (aa (pv 0) (aa (fT (v:=.ty "tuple") rfl T.QS gt rfl) ae))))) (de (aD fo (a0 fu rfl T.Qz fB (aa (pv 0) ae)) ac (aC _))))) (ak (av cm)) aG)
  (am (aF (PW.pt (cn (b_ (b9 (au (FnOk.mono (jE T) (by decide)) hr rfl T.QY T.QM.kp T.QZ .nil ai (aa (ah aj (pv 0) ac (λ_ _=>rfl)) ae)))) (de (b_ (b9 (au (FnOk.mono (jE T) (by decide)) hr rfl T.QY T.QM.kp T.QZ .nil ai (aa (ah aj (pv 0) ac (λ_ _=>rfl)) ae))))))) (ak (av cm)) aG)
  (am (aF (PW.pt (cn (aD dw (ah aj (pv 0) ac (λ_ _=>rfl)) ac (aC _)) (de (aD fo (au (FnOk.mono (FD T) (by decide)) hr rfl T.UI T.Sr.kp T.UJ .nil ai (aa (ah aj (pv 0) ac (λ_ _=>rfl)) (aa (ah aj (pv 0) ac (λ_ _=>rfl)) ae))) ac (aC _))))) (ak (av cm)) aG)
  (ak (av (pD br (ag aT (ah aj (pv 0) ac (λ_ _=>rfl)) (ah aj (pv 1) ac (λ_ _=>rfl))) (ag aT (ah aj (pv 1) ac (λ_ _=>rfl)) (ah aj (pv 0) ac (λ_ _=>rfl))) (aC _)))))))),?_⟩
 k_units
 have y1':1<=y:=y1;refine⟨_,.tup hp,true,rfl,?_⟩;rw[if_neg (by decide)];refine⟨_,.inr (SqT.of hp),?_⟩;rw[if_neg (by simp)];refine⟨_,SqT.of hp,_,rfl,_,rfl,true,rfl,?_⟩;rw[if_neg (by decide)];refine⟨_,SqT.of hp,_,rfl,_,rfl,true,rfl,?_⟩;rw[if_neg (by decide)];refine⟨_,SqT.of hp,_,rfl,_,rfl,?_⟩;rw[if_neg (show ¬y<1 by omega)];refine⟨_,SqT.of hp,_,rfl,_,SqT.of hp,_,rfl,x,y,rfl,?_⟩
 k_units
 have y2':aU x.natAbs y.natAbs=1:=y2;rw[y2'];have e':x*d.2=d.1*y:=e;rw[if_neg (by simp)];exact⟨_,SqT.of hp,_,rfl,_,hd,_,rfl,_,rfl,_,rfl,c1.fits c4 (by decide),_,hd,_,rfl,_,SqT.of hp,_,rfl,_,rfl,_,rfl,c3.fits c2 (by decide),by rw[decide_eq_true e'];exact q⟩
def O2 (K:W.Frag):Sp:=λvs H Q _=>∃(p:Addr) (f:Int×Int×Int) (n k:Int),vs=[.ref p,.int n,.int k]∧SqT K H p [.int f.1,.int f.2.1,.int f.2.2]∧Bd 400 f.1∧Bd 400 f.2.1∧Bd 40 n∧Bd 40 k∧Q (.int (atF f n k)) H
theorem jG {P:Program}{w:World}{K:W.Frag}{mg:Str->Option Value}{base:Heap}(T:Tx K mg):FnOk P w K mg base CX0 1 T.SE T.SF ["_law_form","_law_n","_law_k"] (O2 K):=by
 refine T.QN.ok Nl (λvs H Q E h=>?_) (λcdv A outer s H vs Q E hr h=>?_)
 ·obtain⟨p,f,n,k,rfl,_⟩:=h;rfl
 obtain⟨p,f,n,k,rfl,hp,ba,bb,bn,bk,q⟩:=h;refine⟨_,((ak (av (ag aI (ag aI (ag aT (ah aj (pv 0) ac (λ_ _=>rfl)) (pv 1)) (ag aT (ah aj (pv 0) ac (λ_ _=>rfl)) (pv 2))) (ah aj (pv 0) ac (λ_ _=>rfl)))))),?_⟩
 k_units
 exact⟨_,hp,_,rfl,_,rfl,ba.fits bn (by decide),_,hp,_,rfl,_,rfl,bb.fits bk (by decide),_,hp,_,rfl,_,rfl,q⟩
def O3 (K:W.Frag):Sp:=λvs H Q _=>∃(p:Addr) (f:Int×Int) (n:Nat),vs=[.ref p,.int (n:Int)]∧SqT K H p [.int f.1,.int f.2]∧Bd 100 f.1∧Bd 100 f.2∧n<=500∧mkT H Q (f.1 ^ n) (f.2 ^ n)
theorem jH {P:Program}{w:World}{K:W.Frag}{mg:Str->Option Value}{base:Heap}(T:Tx K mg):FnOk P w K mg base CX0 1 T.SG T.SH ["_law_fraction","_law_many"] (O3 K):=by
 refine T.QO.ok sc__law_raised (λvs H Q E h=>?_) (λcdv A outer s H vs Q E hr h=>?_)
 ·obtain⟨p,f,n,rfl,_⟩:=h;rfl
 obtain⟨p,f,n,rfl,hp,b1,b2,n5,q⟩:=h;refine⟨_,((am (ax (i:=2) sc__law_raised.nd rfl (Or.inl rfl) ac)
  (am (ax (i:=3) sc__law_raised.nd rfl (Or.inl rfl) ac)
  (am (bL PassesOwn.never rfl (cR rfl T.Qn (aa (pv 1) ae)) (aS (i:=4) sc__law_raised.nd rfl (Or.inl rfl)) (am (ax (i:=2) sc__law_raised.nd rfl (Or.inl rfl) (ag aT (pv 2) (ah aj (pv 0) ac (λ_ _=>rfl))))
  (ak (ax (i:=3) sc__law_raised.nd rfl (Or.inl rfl) (ag aT (pv 3) (ah aj (pv 0) ac (λ_ _=>rfl)))))))
  (ak (av (aK (aa (pv 2) (aa (pv 3) ae))))))))),?_⟩
 k_units
 refine⟨by omega,by omega,?_⟩;rw[dk];refine eI (λi σ H'=>∃r:Option V,σ=[some (V.ref p),some (V.int (n:Int)),some (V.int (f.1 ^ i)),some (V.int (f.2 ^ i)),r]∧H'=H) ⟨none,by simp,rfl⟩ ?_ ?_
 ·rintro i σ H' hi ⟨r,rfl,rfl⟩
  k_units
  exact⟨_,hp,_,rfl,_,rfl,(bO b1 i).fits b1 (by omega),_,hp,_,rfl,_,rfl,(bO b2 i).fits b2 (by omega),⟨(fQ f.1 i).symm,(fQ f.2 i).symm,_,rfl⟩⟩
 ·rintro σ H' ⟨r,rfl,rfl⟩
  k_units
  exact⟨by decide,q⟩
def riL (x lo:Int)(m:Nat):Int:=aX (x+lo-1) m
theorem O4 (x lo:Int)(m:Nat):riL x lo (m+1)=riL x lo m*(x+(lo+(m:Int))):=by
 show aX (x+lo-1) m*(x+lo-1+(m:Int)+1)=_;congr 1;omega
theorem sO {b:Nat}{x:Int}(hx:Bd b x)(hb:9<=b):∀m:Nat,m<=400->Bd ((b+1)*m+1) (aX x m)
 | 0,_=>Bd.one (by omega)
 | m+1,hm=>by
  have ih:=sO hx hb m (by omega);have h1:Bd b ((m:Int)+1):=(Bd.of_lt (m:=512) (by omega) (by decide):Bd 9 ((m:Int)+1)).mono hb;have h2:=hx.add h1;show Bd _ (aX x m*(x+(m:Int)+1));rw[Int.add_assoc];exact (ih.mul h2).mono (by rw[tz];omega)
def O5:Sp:=λvs H Q _=>∃(x lo hi:Int),vs=[.int x,.int lo,.int hi]∧Bd 50 x∧-40<=lo∧lo<=40∧-40<=hi∧hi<=300∧Q (.int (riL x lo (cnt lo hi))) H
theorem gf {P:Program}{w:World}{K:W.Frag}{mg:Str->Option Value}{base:Heap}(T:Tx K mg):FnOk P w K mg base CX0 1 T.SX T.SY ["_law_x","_law_low","_law_high"] O5:=by
 refine T.Qy.ok sc__law_rise (λvs H Q E h=>?_) (λcdv A outer s H vs Q E hr h=>?_)
 ·obtain⟨x,lo,hi,rfl,_⟩:=h;rfl
 obtain⟨x,lo,hi,rfl,bx,l1,l2,h1,h2,q⟩:=h;refine⟨_,((am (ax (i:=3) sc__law_rise.nd rfl (Or.inl rfl) ac)
  (am (bL PassesOwn.never rfl (yO rfl T.Qn (aa (pv 1) (aa (ag aI (pv 2) ac) ae))) (aS (i:=4) sc__law_rise.nd rfl (Or.inl rfl)) (ak (ax (i:=3) sc__law_rise.nd rfl (Or.inl rfl) (ag aT (pv 3) (ag aI (pv 0) (pv 4))))))
  (ak (av (pv 3)))))),?_⟩
 k_units
 refine⟨by omega,by omega,by omega,by omega,?_⟩;have hm:(hi+1-lo).toNat<=341:=by omega
 have bxl:Bd 51 (x+lo-1):=by
  rw[show x+lo-1=x+(lo-1) by omega];exact bx.add ((Bd.of_lt (m:=64) (show (lo-1).natAbs<64 by omega) (by decide):Bd 6 (lo-1)).mono (by decide))
 refine eI (λi σ H'=>∃r:Option V,σ=[some (V.int x),some (V.int lo),some (V.int hi),some (V.int (riL x lo i)),r]∧H'=H) ⟨none,rfl,rfl⟩ ?_ ?_
 ·rintro i σ H' hi' ⟨r,rfl,rfl⟩
  k_units
  have bi:Bd 50 (lo+(i:Int)):=(Bd.of_lt (m:=512) (show (lo+(i:Int)).natAbs<512 by omega) (by decide):Bd 9 (lo+(i:Int))).mono (by decide);refine⟨(sO bxl (by decide) i (by omega)).fits (bx.add bi) (by omega),?_,_,rfl⟩;exact (O4 x lo i).symm
 ·rintro σ H' ⟨r,rfl,rfl⟩
  k_units
  exact q
def Nz (f:PD):Prop:=∀x∈f,x.2≠0
def O6 (K:W.Frag):Sp:=λvs H Q _=>∃(a:Addr) (f:PD) (d:Nat),vs=[.ref a]∧H a=some (.dT (dz f))∧Deg d f∧Nz f∧∀H',Same H H'->Q (.bl true) H'
theorem z8 {P:Program}{w:World}{K:W.Frag}{mg:Str->Option Value}{base:Heap}(T:Tx K mg):FnOk P w K mg base CX0 2 T.SM T.SN ["_law_found"] (O6 K):=by
 refine T.Rg.ok sc__law_is_dict (λvs H Q E h=>?_) (λcdv A outer s H vs Q E hr h=>?_)
 ·obtain⟨a,f,d,rfl,_⟩:=h;rfl
 obtain⟨a,f,d,rfl,ea,hd,hz,q⟩:=h;refine⟨_,((am (aF (b_ (b9 (a0 f7 rfl T.QB fD (aa (pv 0) (aa (fT (v:=.ty "dict") rfl T.Ra jn rfl) ae))))) (ak (av cm)) aG)
  (am (jk (bL PassesOwn.never rfl (jj (pv 0)) (fj rfl (cy (aS (i:=1) sc__law_is_dict.nd rfl (Or.inl rfl)) (cy (aS (i:=2) sc__law_is_dict.nd rfl (Or.inl rfl)) fh))) (am (aF (PW.pt (cn (b_ (b9 (a0 f7 rfl T.QB fD (aa (pv 1) (aa (fT (v:=.ty "tuple") rfl T.QS gt rfl) ae))))) (cn (aD fo (a0 fu rfl T.Qz fB (aa (pv 1) ae)) ac (aC _)) (cn (b_ (b9 (au (FnOk.mono (jE T) (by decide)) hr rfl T.QY T.QM.kp T.QZ .nil ai (aa (pv 2) ae)))) (de (aD br (pv 2) ac (aC _))))))) (ak (av cm)) aG)
  (ak (aF (PW.pt (cn (b_ (b9 (au (FnOk.mono (jE T) (by decide)) hr rfl T.QY T.QM.kp T.QZ .nil ai (aa (ah aj (pv 1) ac (λ_ _=>rfl)) ae)))) (cn (b_ (b9 (au (FnOk.mono (jE T) (by decide)) hr rfl T.QY T.QM.kp T.QZ .nil ai (aa (ah aj (pv 1) ac (λ_ _=>rfl)) ae)))) (de (aD dw (a0 (MI rfl) rfl T.Ro qP (aa (pv 1) ae)) ac (aC _)))))) (ak (av cm)) aG)))))
  (ak (av cm))))),?_⟩
 dsimp only[az]
 k_typeOf
 refine⟨_,.dT ea,true,rfl,?_⟩;rw[if_neg (by decide)];dsimp only[az]
 k_typeOf
 refine⟨dz f,.inl ea,λo tw=>?_⟩;obtain⟨Pz,hPz⟩:∃Pz:Nat->L2.St->Hp->Prop,∀i σ H'',Pz i σ H''↔(∃r1 r2:Option V,σ=[some (V.ref a),r1,r2])∧Same (upd H a (.frz o (.dT (dz f)))) H'':=⟨_,λ_ _ _=>Iff.rfl⟩
 refine rT Pz ((hPz _ _ _).mpr ⟨⟨none,none,rfl⟩,Same.refl _⟩) (λi σ H'' _ h=>((hPz _ _ _).mp h).2 _ _ af) ?_ ?_
 ·intro i kk x t c σ H'' hkk hp nt hc;obtain⟨⟨r1,r2,rfl⟩,sS⟩:=(hPz _ _ _).mp hp;obtain⟨y,hy,rfl,rfl⟩:=gI hkk;have dy:=hd y (ci hy);have zy:=hz y (ci hy);have u1:=ao nt (.tup [V.ref c,V.int y.2])
  k_units
  refine⟨_,SqT.of af,rfl,?_⟩;have hc1:=u1 _ _ hc;have s1:=sS.trans u1;generalize upd H'' t (.tup [V.ref c,V.int y.2])=G5 at hc1 s1 ⊢
  k_units
  have at0:atI [V.int y.1.1,V.int y.1.2] 0=some (V.int y.1.1):=rfl;have at1:atI [V.int y.1.1,V.int y.1.2] 1=some (V.int y.1.2):=rfl;refine⟨_,.tup hc1,true,rfl,?_⟩;rw[if_neg (by decide)];refine⟨_,.inr (SqT.of hc1),?_⟩;rw[if_neg (by simp[kz])];refine⟨_,rfl,true,rfl,?_⟩;rw[if_neg (by decide),if_neg zy];refine⟨_,SqT.of hc1,_,at0,_,rfl,true,rfl,?_⟩;rw[if_neg (by decide)];refine⟨_,SqT.of hc1,_,at1,_,rfl,true,rfl,?_⟩;rw[if_neg (by decide)];refine⟨_,_,SqT.of hc1,?_⟩;rw[if_neg (by split <;> omega)];exact (hPz _ _ _).mpr ⟨⟨_,_,rfl⟩,s1⟩
 intro σ H'' hp;obtain⟨⟨r1,r2,rfl⟩,sS⟩:=(hPz _ _ _).mp hp;refine⟨H,a,o,dz f,tw,sS _ _ af,?_⟩
 k_units
 exact q _ (sI sS)
def pwL (x:Int)(m:Nat):List Int:=(aR m).map λj=>x ^ j
theorem GI (x:Int):pwL x (0+1)=[1]:=by simp[pwL]
theorem sP (x:Int)(m:Nat):pwL x (m+1)=pwL x m++[x ^ m]:=by unfold pwL;rw[gl,aM];rfl
theorem GJ (x:Int)(m:Nat):(pwL x m).length=m:=by unfold pwL;rw[aB,e7]
theorem GK {x:Int}{m j:Nat}(h:j<m):(pwL x m)[j]?=some (x ^ j):=by unfold pwL;rw[aQ,fR h];rfl
def O7 (K:W.Frag):Sp:=λvs H Q _=>∃(a:Addr) (f:PD) (d B:Nat) (n k:Int),vs=[.ref a,.int n,.int k]∧DD H a f∧PdOk d B f∧d<=60∧B<=1000000∧Bd 31 n∧Bd 31 k∧∀H',Same H H'->Q (.int (evD f n k)) H'
theorem O8 {P:Program}{w:World}{K:W.Frag}{mg:Str->Option Value}{base:Heap}(T:Tx K mg):FnOk P w K mg base CX0 2 T.SV T.SW ["_law_some","_law_n","_law_k"] (O7 K):=by
 refine T.UT.ok sc__law_pair_at (λvs H Q E h=>?_) (λcdv A outer s H vs Q E hr h=>?_)
 ·obtain⟨a,f,d,B,n,k,rfl,_⟩:=h;rfl
 obtain⟨a,f,d,B,n,k,rfl,ha,pf,d60,lB,hn,hk,q⟩:=h;refine⟨_,((am (ax (i:=3) sc__law_pair_at.nd rfl (Or.inl rfl) (bT (aa ac (aa ac ae))))
  (am (jk (bL PassesOwn.never rfl (L0 (pv 0)) (aS (i:=4) sc__law_pair_at.nd rfl (Or.inl rfl)) (ak (ax (i:=3) sc__law_pair_at.nd rfl (Or.inl rfl) (bT (aa (a0 (fX rfl) rfl T.QI f_ (aa (ah bA (pv 3) ac (λ_ _=>rfl)) (aa (ah aj (pv 4) ac (λ_ _=>rfl)) ae))) (aa (a0 (fX rfl) rfl T.QI f_ (aa (ah bA (pv 3) ac (λ_ _=>rfl)) (aa (ah aj (pv 4) ac (λ_ _=>rfl)) ae))) ae)))))))
  (am (ax (i:=5) sc__law_pair_at.nd rfl (Or.inl rfl) (bT (aa (bT (aa ac ae)) (aa (bT (aa ac ae)) ae))))
  (am (bL PassesOwn.never rfl (cR rfl T.Qn (aa (ah bA (pv 3) ac (λ_ _=>rfl)) ae)) (aS (i:=6) sc__law_pair_at.nd rfl (Or.inl rfl)) (ak (du (fZ PySem.F.plainAttrs_list PySem.F.slot_list_append PySem.F.type_list_append el (ah bA (pv 5) ac (λ_ _=>rfl)) (aa (ag aT (ah bA (ah bA (pv 5) ac (λ_ _=>rfl)) (pw pB ac) (λ_ _=>rfl)) (pv 1)) ae)))))
  (am (bL PassesOwn.never rfl (cR rfl T.Qn (aa (ah bA (pv 3) ac (λ_ _=>rfl)) ae)) (aS (i:=6) sc__law_pair_at.nd rfl (Or.inl rfl)) (ak (du (fZ PySem.F.plainAttrs_list PySem.F.slot_list_append PySem.F.type_list_append el (ah bA (pv 5) ac (λ_ _=>rfl)) (aa (ag aT (ah bA (ah bA (pv 5) ac (λ_ _=>rfl)) (pw pB ac) (λ_ _=>rfl)) (pv 2)) ae)))))
  (am (ax (i:=7) sc__law_pair_at.nd rfl (Or.inl rfl) ac)
  (am (jk (bL PassesOwn.never rfl (jj (pv 0)) (fj rfl (cy (aS (i:=4) sc__law_pair_at.nd rfl (Or.inl rfl)) (cy (aS (i:=8) sc__law_pair_at.nd rfl (Or.inl rfl)) fh))) (ak (ax (i:=7) sc__law_pair_at.nd rfl (Or.inl rfl) (ag aI (pv 7) (ag aT (ag aT (pv 8) (ah bA (ah bA (pv 5) ac (λ_ _=>rfl)) (ah aj (pv 4) ac (λ_ _=>rfl)) (λ_ _=>rfl))) (ah bA (ah bA (pv 5) ac (λ_ _=>rfl)) (ah aj (pv 4) ac (λ_ _=>rfl)) (λ_ _=>rfl))))))))
  (ak (av (pv 7))))))))))),?_⟩
 dsimp only[az]
 k_typeOf
 refine⟨by decide,λM nM=>?_⟩;dsimp only[az]
 k_typeOf
 have u0:=ao nM (.lst [V.int 0,V.int 0]);have ha0:=ha.same u0;have eM0:=af (H:=H) (a:=M) (o:=.lst [V.int 0,V.int 0]);have nMa:M≠a:=λw=>by obtain⟨oa,e⟩:=ha.some;rw[w,e]at nM;cases nM
 generalize L2.upd H M (.lst [V.int 0,V.int 0])=G0 at u0 ha0 eM0 ⊢;refine⟨dz f,ha0,λo tw=>?_⟩;obtain⟨Pv,hPv⟩:∃Pv:Nat->L2.St->Hp->Prop,∀i σ H',Pv i σ H'↔∃(m0 m1:Nat) (Mr:Addr) (r4:Option V),σ=[some (V.ref a),some (V.int n),some (V.int k),some (V.ref Mr),r4,none,none,none,none]∧H' Mr=some (.lst [V.int (m0:Int),V.int (m1:Int)])∧m0<=60∧m1<=60∧(∀x∈f.take i,x.1.1<=m0∧x.1.2<=m1)∧Same (upd G0 a (.frz o (.dT (dz f)))) H':=⟨_,λ_ _ _=>Iff.rfl⟩
 refine L1 Pv ((hPv _ _ _).mpr ⟨0,0,M,none,rfl,by rw[aq nMa];exact eM0,by decide,by decide,λx hx=>by simp at hx,Same.refl _⟩) (λi σ H' _ h=>by obtain⟨_,_,_,_,_,_,_,_,_,sS⟩:=(hPv _ _ _).mp h;exact sS _ _ af) ?_ ?_
 ·intro i kk v c σ H' hk' hp hc;obtain⟨m0,m1,Mr,r4,rfl,eM,l0,l1,hx,sS⟩:=(hPv _ _ _).mp hp;obtain⟨y,hy,rfl,rfl⟩:=gI hk';have dy:=pf.dg y (ci hy)
  k_units
  refine⟨_,SqL.of eM,_,rfl,_,SqT.of hc,_,rfl,_,rfl,_,rfl,_,SqL.of eM,_,rfl,_,SqT.of hc,_,rfl,_,rfl,_,rfl,by decide,λN nN=>(hPv _ _ _).mpr ⟨(if y.1.1 > (m0:Int) then y.1.1 else (m0:Int)).toNat,(if y.1.2 > (m1:Int) then y.1.2 else (m1:Int)).toNat,N,_,rfl,?_,by split <;> omega,by split <;> omega,λx hx'=>?_,sS.trans (ao nN _)⟩⟩
  ·rw[af];have e1:(((if y.1.1 > (m0:Int) then y.1.1 else (m0:Int)).toNat:Nat):Int)=if y.1.1 > (m0:Int) then y.1.1 else (m0:Int):=by split <;> omega
   have e2:(((if y.1.2 > (m1:Int) then y.1.2 else (m1:Int)).toNat:Nat):Int)=if y.1.2 > (m1:Int) then y.1.2 else (m1:Int):=by split <;> omega
   rw[e1,e2]
  ·rw[gJ hy]at hx';rcases cx.mp hx' with h|h
   ·have:=hx x h;constructor
    ·split <;> omega
    ·split <;> omega
   ·rw[bR.mp h];constructor
    ·split <;> omega
    ·split <;> omega
 intro σ H' hp;rw[gb]at hp;obtain⟨m0,m1,Mr,r4,rfl,eM,l0,l1,hx,sS⟩:=(hPv _ _ _).mp hp;rw[c_]at hx;have nMr:Mr≠a:=aW eM (sS _ _ af) (λw=>nomatch w);refine⟨G0,a,o,dz f,tw,sS _ _ af,?_⟩;have s1:=u0.trans (sI sS);have eM1:bkH G0 a H' Mr=some (.lst [V.int (m0:Int),V.int (m1:Int)]):=by rw[cj nMr];exact eM
 generalize bkH G0 a H'=G1 at s1 eM1 ⊢;clear sS hp hPv Pv tw eM eM0 ha0 u0 nMa nMr;dsimp only[az]
 k_typeOf
 refine⟨by decide,λp1 n1=>⟨by decide,λp2 n2=>⟨by decide,λp3 n3=>?_⟩⟩⟩;have v1:=ao n1 (.lst [V.int 1]);have v2:=ao n2 (.lst [V.int 1]);have v3:=ao n3 (.lst [V.ref p1,V.ref p2]);have e1:=(v2.trans v3) _ _ (af (H:=G1) (a:=p1) (o:=.lst [V.int 1]));have e2:=v3 _ _ (af (H:=L2.upd G1 p1 (.lst [V.int 1])) (a:=p2) (o:=.lst [V.int 1]));have e3:=af (H:=L2.upd (L2.upd G1 p1 (.lst [V.int 1])) p2 (.lst [V.int 1])) (a:=p3) (o:=.lst [V.ref p1,V.ref p2]);have n12:p2≠p1:=λw=>by rw[w,af]at n2;cases n2
 have n13:p3≠p1:=λw=>by rw[w,v2 _ _ af]at n3;cases n3
 have n23:p3≠p2:=λw=>by rw[w,af]at n3;cases n3
 have nM1:Mr≠p1:=λw=>by rw[w,n1]at eM1;cases eM1
 have nM2:Mr≠p2:=λw=>by rw[←w,v1 _ _ eM1]at n2;cases n2
 have f1:H p1=none:=s1.free n1;have f2:H p2=none:=(s1.trans v1).free n2;have s4:=((s1.trans v1).trans v2).trans v3;have eM4:=v3 _ _ (v2 _ _ (v1 _ _ eM1));generalize L2.upd (L2.upd (L2.upd G1 p1 (.lst [V.int 1])) p2 (.lst [V.int 1])) p3 (.lst [V.ref p1,V.ref p2])=G4 at e1 e2 e3 s4 eM4 ⊢;clear v1 v2 v3 n1 n2 n3 eM1 s1;dsimp only[az]
 k_typeOf
 refine⟨_,SqL.of eM4,_,rfl,_,rfl,by omega,by omega,?_⟩;rw[dk];obtain⟨Pw,hPw⟩:∃Pw:Nat->L2.St->Hp->Prop,∀i σ H',Pw i σ H'↔∃r6:Option V,σ=[some (V.ref a),some (V.int n),some (V.int k),some (V.ref Mr),r4,some (V.ref p3),r6,none,none]∧H' p1=some (.lst ((pwL n (i+1)).map V.int))∧H' p2=some (.lst [V.int 1])∧H' p3=some (.lst [V.ref p1,V.ref p2])∧H' Mr=some (.lst [V.int (m0:Int),V.int (m1:Int)])∧Same H H':=⟨_,λ_ _ _=>Iff.rfl⟩
 refine eI Pw ((hPw _ _ _).mpr ⟨none,rfl,by rw[GI];exact e1,e2,e3,eM4,s4⟩) ?_ ?_
 ·intro i σ H' hi hp;obtain⟨r6,rfl,g1,g2,g3,gM,sS⟩:=(hPw _ _ _).mp hp
  k_units
  have bn:Bd 31 n:=hn;have li:i<60:=by omega
  refine⟨_,SqL.of g3,_,rfl,fx (SqL.of g1),_,SqL.of g3,_,rfl,_,rfl,_,SqL.of g1,V.int (n ^ i),by rw[sP,aM];exact Ee _ _,_,rfl,(bO bn i).fits bn (by omega),_,rfl,_,g1,by rw[aB,GJ];exact bB (by omega),(hPw _ _ _).mpr ⟨_,rfl,?_,by rw[aq n12];exact g2,by rw[aq n13];exact g3,by rw[aq nM1];exact gM,sS.more f1⟩⟩;rw[af,sP n (i+1),aM,fQ];rfl
 intro σ H' hp;obtain⟨r6,rfl,g1,g2,g3,gM,sS⟩:=(hPw _ _ _).mp hp;clear hp hPw Pw e1 e2 e3 eM4 s4;dsimp only[az]
 k_typeOf
 refine⟨_,SqL.of gM,_,rfl,_,rfl,by omega,by omega,?_⟩;rw[dk];obtain⟨Pw,hPw⟩:∃Pw:Nat->L2.St->Hp->Prop,∀i σ H',Pw i σ H'↔∃r6:Option V,σ=[some (V.ref a),some (V.int n),some (V.int k),some (V.ref Mr),r4,some (V.ref p3),r6,none,none]∧H' p1=some (.lst ((pwL n (m0+1)).map V.int))∧H' p2=some (.lst ((pwL k (i+1)).map V.int))∧H' p3=some (.lst [V.ref p1,V.ref p2])∧Same H H':=⟨_,λ_ _ _=>Iff.rfl⟩
 refine eI Pw ((hPw _ _ _).mpr ⟨r6,rfl,g1,by rw[GI];exact g2,g3,sS⟩) ?_ ?_
 ·intro i σ H' hi hp;obtain⟨r6,rfl,g1,g2,g3,sS⟩:=(hPw _ _ _).mp hp
  k_units
  have bn:Bd 31 k:=hk;have li:i<60:=by omega
  refine⟨_,SqL.of g3,_,rfl,fx (SqL.of g2),_,SqL.of g3,_,rfl,_,rfl,_,SqL.of g2,V.int (k ^ i),by rw[sP,aM];exact Ee _ _,_,rfl,(bO bn i).fits bn (by omega),_,rfl,_,g2,by rw[aB,GJ];exact bB (by omega),(hPw _ _ _).mpr ⟨_,rfl,by rw[aq (Ne.symm n12)];exact g1,?_,by rw[aq n23];exact g3,sS.more f2⟩⟩;rw[af,sP k (i+1),aM,fQ];rfl
 clear g1 g2 g3 sS;intro σ H' hp;obtain⟨r6',rfl,g1,g2,g3,sS⟩:=(hPw _ _ _).mp hp;clear hp hPw Pw;dsimp only[az]
 k_typeOf
 dsimp only[az]
 k_typeOf
 refine⟨dz f,ha.same sS,λo2 tw2=>?_⟩;obtain⟨oa,ea⟩:=ha.some;have na1:p1≠a:=λw=>by rw[w,ea]at f1;cases f1
 have na2:p2≠a:=λw=>by rw[w,ea]at f2;cases f2
 have na3:p3≠a:=λw=>by
  rcases ha.same sS with e|⟨o',e⟩ <;> (rw[w,e]at g3;cases g3)
 obtain⟨Pz,hPz⟩:∃Pz:Nat->L2.St->Hp->Prop,∀i σ H'',Pz i σ H''↔∃r4 r8:Option V,σ=[some (V.ref a),some (V.int n),some (V.int k),some (V.ref Mr),r4,some (V.ref p3),r6',some (V.int (evD (f.take i) n k)),r8]∧H'' p1=some (.lst ((pwL n (m0+1)).map V.int))∧H'' p2=some (.lst ((pwL k (m1+1)).map V.int))∧H'' p3=some (.lst [V.ref p1,V.ref p2])∧Same (upd H' a (.frz o2 (.dT (dz f)))) H'':=⟨_,λ_ _ _=>Iff.rfl⟩
 refine rT Pz ((hPz _ _ _).mpr ⟨r4,none,rfl,by rw[aq na1];exact g1,by rw[aq na2];exact g2,by rw[aq na3];exact g3,Same.refl _⟩) (λi σ H'' _ h=>by obtain⟨_,_,_,_,_,_,sS⟩:=(hPz _ _ _).mp h;exact sS _ _ af) ?_ ?_
 ·intro i kk x t c σ H'' hkk hp nt hc;obtain⟨q4,q8,rfl,j1,j2,j3,sS2⟩:=(hPz _ _ _).mp hp;obtain⟨y,hy,rfl,rfl⟩:=gI hkk;have dy:=pf.dg y (ci hy);have my:=hx y (ci hy);have by':Bd (B+1) y.2:=cr (pf.sz y (ci hy)) (tm (by decide) (gU _))
  have u1:=ao nt (.tup [V.ref c,V.int y.2]);have bn:Bd 1861 (n ^ y.1.1.toNat):=(bO hn _).mono (by omega);have bk:Bd 1861 (k ^ y.1.2.toNat):=(bO hk _).mono (by omega);have a1:atI ((pwL n (m0+1)).map V.int) y.1.1=some (V.int (n ^ y.1.1.toNat)):=by
   have:=gr (xs:=(pwL n (m0+1)).map V.int) (j:=y.1.1.toNat) (v:=V.int (n ^ y.1.1.toNat)) (by rw[aQ,GK (by omega)];rfl);rw[Ax (by omega)]at this;exact this
  have a2:atI ((pwL k (m1+1)).map V.int) y.1.2=some (V.int (k ^ y.1.2.toNat)):=by
   have:=gr (xs:=(pwL k (m1+1)).map V.int) (j:=y.1.2.toNat) (v:=V.int (k ^ y.1.2.toNat)) (by rw[aQ,GK (by omega)];rfl);rw[Ax (by omega)]at this;exact this
  k_units
  refine⟨_,SqT.of af,rfl,_,_,rfl,_,_,rfl,rfl,?_⟩;have hc1:=u1 _ _ hc;have i1:=u1 _ _ j1;have i2:=u1 _ _ j2;have i3:=u1 _ _ j3;have sS3:=sS2.trans u1;generalize upd H'' t (.tup [V.ref c,V.int y.2])=G5 at hc1 i1 i2 i3 sS3 ⊢;refine⟨_,SqL.of i3,_,rfl,_,rfl,_,SqT.of hc1,_,rfl,_,rfl,_,_,rfl,SqL.of i1,_,a1,_,rfl,_,rfl,by'.fits bn (by omega),_,SqL.of i3,_,rfl,_,rfl,_,SqT.of hc1,_,rfl,_,rfl,_,_,rfl,SqL.of i2,_,a2,?_⟩;have ev:evD (f.take (i+1)) n k=evD (f.take i) n k+y.2*n ^ y.1.1.toNat*k ^ y.1.2.toNat:=by
   rw[gJ hy];unfold evD;rw[Fp,cA,eO];unfold mon;rw[Int.add_zero,dJ]
  exact⟨_,rfl,(by'.mul bn).fits bk (by omega),(hPz _ _ _).mpr ⟨some (V.ref c),some (V.int y.2),by rw[ev],i1,i2,i3,sS3⟩⟩
 intro σ H'' hp;rw[gb]at hp;obtain⟨q4,q8,rfl,j1,j2,j3,sS2⟩:=(hPz _ _ _).mp hp;rw[c_];refine⟨H',a,o2,dz f,tw2,sS2 _ _ af,?_⟩
 k_units
 exact q _ (sS.trans (sI sS2))
theorem sQ {n:Nat}{ns:List Int}{fv:List (Nat×Str)}{te:TE}{Q:VK}{σ:L2.St}{H1:Hp}{D:Addr}(nD:H1 D=none) (hd:ns.length=n) (hl:n<=900)
  (hs:∀(i:Nat) (v:Int) (Hx:Hp) (R:VK),i<n->ns[i]?=some v->Same H1 Hx->(∀H',Same Hx H'->R (.int v) H')->te (bst fv σ (some (V.int (0+(i:Int))))) Hx R) (he:gw H1 Q (ns.map V.int)):fy (Itr 0 n) fv te Q σ H1 D:=by
 obtain⟨Pc,hPc⟩:∃Pc:Nat->Hp->Prop,∀j Hx,Pc j Hx↔Hx D=some (.lst ((ns.take j).map V.int))∧Same H1 Hx:=⟨_,λ_ _=>Iff.rfl⟩
 refine qR Pc ((hPc _ _).mpr ⟨af,ao nD _⟩) ?_ ?_
 ·intro j Hx hjn hc;obtain⟨k1,k3⟩:=(hPc _ _).mp hc;have hj:j<ns.length:=by omega
  refine hs j _ Hx _ hjn (aJ hj) k3 λH2 s2=>?_;refine⟨_,s2 _ _ k1,by rw[aB,cB];exact bB (by omega),(hPc _ _).mpr ⟨?_,(k3.trans s2).more nD⟩⟩;rw[af,←dm hj,aM];rfl
 intro Hx hc;obtain⟨k1,k3⟩:=(hPc _ _).mp hc;rw[←hd,c_]at k1;exact he D Hx k3 nD k1
theorem O9 {K:W.Frag}{a:Addr}{as ns:List Int}{fv:List (Nat×Str)}{te:TE}{Q:VK}{σ:L2.St}{H1:Hp}{D:Addr}(nD:H1 D=none) (hA:SqL K H1 a (as.map V.int)) (hd:ns.length=as.length) (hl:ns.length<=900)
  (hs:∀(i:Nat) (q v:Int) (Hx:Hp) (R:VK),as[i]?=some q->ns[i]?=some v->Same H1 Hx->(∀H',Same Hx H'->R (.int v) H')->te (bN fv σ (some (V.int (i:Int))) (some (V.int q))) Hx R) (he:gw H1 Q (ns.map V.int)):jd K (Ite K a) fv te Q σ H1 D:=by
 refine⟨λi m H=>m=as.length-i∧i<=as.length∧H D=some (.lst ((ns.take i).map V.int))∧Same H1 H,⟨_,rfl,aY _,af,ao nD _⟩,?_⟩
 rintro i m H ⟨rfl,hi,k1,k3⟩
 have q1:=k3.seq hA;by_cases hlt:i<as.length
 ·have hj:i<ns.length:=by omega
  refine .inr ⟨⟨_,V.int as[i],q1,by rw[aQ,aJ hlt];rfl⟩,λH'=>H' D=some (.lst ((ns.take (i+1)).map V.int))∧Same H1 H',λH' p'=>⟨as.length-(i+1),by omega,rfl,hlt,p'⟩,λv H' y=>?_⟩;obtain⟨pa,x1,hn,e1,e2,y1⟩:=y;subst e1 e2;have y2:=y1 _ q1;rw[aQ,aJ hlt]at y2
  cases y2
  have u1:=ao hn (.tup [V.int (i:Int),V.int as[i]]);refine⟨pa,_,_,rfl,SqT.of af,?_⟩;refine hs i _ _ _ _ (aJ hlt) (aJ hj) (k3.trans u1) λH2 s2=>?_;refine⟨_,s2 _ _ (u1 _ _ k1),by rw[aB,cB];exact bB (by omega),?_,((k3.trans u1).trans s2).more nD⟩;rw[af,←dm hj,aM];rfl
 ·have e:i=as.length:=by omega
  subst e;rw[←hd,c_]at k1;exact .inl ⟨⟨_,q1,by rw[aB];exact aw _⟩,he D H k3 nD k1⟩
theorem O_ {K:W.Frag}{a b:Addr}{as bs ns:List Int}{fv:List (Nat×Str)}{te:TE}{Q:VK}{σ:L2.St}{H1:Hp}{D:Addr}(nD:H1 D=none) (hA:SqL K H1 a (as.map V.int)) (hB:SqL K H1 b (bs.map V.int)) (hd:ns.length=as.length) (hb:bs.length=as.length) (hl:ns.length<=900)
  (hs:∀(i:Nat) (q r v:Int) (Hx:Hp) (R:VK),as[i]?=some q->bs[i]?=some r->ns[i]?=some v->Same H1 Hx->(∀H',Same Hx H'->R (.int v) H')->te (bN fv σ (some (V.int q)) (some (V.int r))) Hx R) (he:gw H1 Q (ns.map V.int)):jd K (Itz K a b) fv te Q σ H1 D:=by
 obtain⟨Pc,hPc⟩:∃Pc:Nat->Hp->Prop,∀j Hx,Pc j Hx↔Hx D=some (.lst ((ns.take j).map V.int))∧Same H1 Hx:=⟨_,λ_ _=>Iff.rfl⟩
 refine K4 (xs:=as.map V.int) (ys:=bs.map V.int) Pc ((hPc _ _).mpr ⟨af,ao nD _⟩) (λi Hx _ _ z=>by obtain⟨_,z⟩:=(hPc i Hx).mp z;exact⟨z.seq hA,z.seq hB⟩) ?_ ?_
 ·intro j v1 v2 p Hx h1 h2 hc np;obtain⟨k1,k3⟩:=(hPc _ _).mp hc;rw[aQ]at h1 h2;obtain⟨q,hq,rfl⟩:=cc.mp h1;obtain⟨r,hr,rfl⟩:=cc.mp h2;have hj:j<ns.length:=by have:=(be.mp hq).1;omega
  have u1:=ao np (.tup [V.int q,V.int r]);refine hs j q r _ _ _ hq hr (aJ hj) (k3.trans u1) λH2 s2=>?_;refine⟨_,s2 _ _ (u1 _ _ k1),by rw[aB,cB];exact bB (by omega),(hPc _ _).mpr ⟨?_,((k3.trans u1).trans s2).more nD⟩⟩;rw[af,←dm hj,aM];rfl
 intro Hx hc;obtain⟨k1,k3⟩:=(hPc _ _).mp hc;rw[aB,aB,hb,Nat.min_self,←hd,c_]at k1;exact he D Hx k3 nD k1
theorem fN {x:Int}{m:Nat}(hx:Bd 50 x)(hm:m<=20):Bd 1100 (aX x m):=(sO hx (by decide) m (by omega)).mono (by omega)
theorem eS {h l:Int×Int×Int}(ho:cF h l)(j:Nat):-3<=(aE h l j).1∧(aE h l j).1<=6∧-3<=(aE h l j).2.1∧(aE h l j).2.1<=6∧-9<=(aE h l j).2.2∧(aE h l j).2.2<=18:=by
 obtain⟨⟨a1,a2,a3,a4,a5,a6⟩,⟨b1,b2,b3,b4,b5,b6⟩,_⟩:=ho;unfold aE
 split
 ·omega
 ·show -3<=h.1-l.1∧h.1-l.1<=6∧-3<=h.2.1-l.2.1∧h.2.1-l.2.1<=6∧-9<=h.2.2-l.2.2∧h.2.2-l.2.2<=18;omega
section
variable {h l:Int×Int×Int}{far:Nat}{n k:Int}(ho:cF h l)(f2:far<=2)(bn:Bd 31 n)(bk:Bd 31 k)
include ho f2 bn bk
theorem GL (j:Nat):Bd 42 (atF (aE h l j) n k):=by
 obtain⟨w1,w2,w3,w4,w5,w6⟩:=eS ho j;exact jF (Bd.of_lt (m:=256) (by omega) (by decide)) (Bd.of_lt (m:=256) (by omega) (by decide)) (Bd.of_lt (m:=256) (by omega) (by decide)) bn bk
theorem jI (j:Nat):Bd 43 (atF (aE h l j) n k+mx ((far:Int)*(aE h l j).1))∧0<=mx ((far:Int)*(aE h l j).1)∧mx ((far:Int)*(aE h l j).1)<=12:=by
 obtain⟨w1,w2,w3,w4,w5,w6⟩:=eS ho j;have b:0<=mx ((far:Int)*(aE h l j).1)∧mx ((far:Int)*(aE h l j).1)<=12:=by
  unfold mx;have i2:far=0∨far=1∨far=2:=by omega
  rcases i2 with rfl|rfl|rfl <;> (split <;> omega)
 exact⟨(GL ho f2 bn bk j).add ((Bd.of_lt (m:=256) (by omega) (by decide):Bd 8 _).mono (by decide)),b⟩
theorem z9 {i:Nat}(hi:i<=2):∀j,Bd (1100*(j+1)) (cI h l far n k i j)
 | 0=>by
  obtain⟨⟨c1,c2,c3⟩,_⟩:=eR ho;have a2:=ho.1.2.1;refine fN ((jF c1 c2 c3 bn bk).mono (by decide)) ?_;have i2:i=0∨i=1∨i=2:=by omega
  rcases i2 with rfl|rfl|rfl <;> omega
 | j+1=>by
  obtain⟨w1,w2,w3,w4,w5,w6⟩:=eS ho j;obtain⟨_,m0,m1⟩:=jI ho f2 bn bk j;have ij:Bd 8 ((i:Int)*(aE h l j).1)∧-6<=(i:Int)*(aE h l j).1:=by
   have i2:i=0∨i=1∨i=2:=by omega
   rcases i2 with rfl|rfl|rfl <;> exact⟨Bd.of_lt (m:=256) (by omega) (by decide),by omega⟩
  refine ((z9 hi j).mul (fN (m:=cnt ((i:Int)*(aE h l j).1+1) (mx ((far:Int)*(aE h l j).1))) (((GL ho f2 bn bk j).add (ij.1.mono (by decide))).mono (by decide)) ?_)).mono (by omega);unfold cnt;omega
theorem z_:∀j,Bd (1100*(j+1)) (uI h l far n k j)
 | 0=>by
  obtain⟨⟨c1,c2,c3⟩,_⟩:=eR ho;have a2:=ho.1.2.2.2.1;exact fN ((jF c1 c2 c3 bn bk).mono (by decide)) (by omega)
 | j+1=>by
  obtain⟨w1,w2,w3,w4,w5,w6⟩:=eS ho j;obtain⟨m2,m0,m1⟩:=jI ho f2 bn bk j;refine ((z_ j).mul (fN ((m2.add ((Bd.of_lt (m:=256) (by omega) (by decide):Bd 8 (aE h l j).2.1).mono (by decide))).mono (by decide)) ?_)).mono (by omega);omega
theorem Aa:∀j,Bd (1100*(j+1)) (dI h l far n k j)
 | 0=>Bd.one (by decide)
 | j+1=>by
  obtain⟨w1,w2,w3,w4,w5,w6⟩:=eS ho j;obtain⟨m2,m0,m1⟩:=jI ho f2 bn bk j;refine ((Aa j).mul (fN (m2.mono (by decide)) ?_)).mono (by omega);omega
end
def Pa (K:W.Frag):Sp:=λvs H Q _=>∃(r:Addr) (h l:Int×Int×Int) (far:Nat) (n k:Int),vs=[.ref r,.int (far:Int),.int n,.int k]∧PtAt H r (.cho h l)∧cF h l∧far<=2∧Bd 31 n∧Bd 31 k∧gw H Q ((cH (.cho h l) far n k).map V.int)
theorem Pb {P:Program}{w:World}{K:W.Frag}{mg:Str->Option Value}{base:Heap}(T:Tx K mg):FnOk P w K mg base CX0 2 T.SZ T.S0 ["_law_part_here","_law_far","_law_n","_law_k"] (Pa K):=by
 refine T.UU.ok sc__law_choose (λvs H Q E h=>?_) (λcdv A outer s H vs Q E hr h=>?_)
 ·obtain⟨r,h,l,far,n,k,rfl,_⟩:=h;rfl
 obtain⟨r,h,l,far,n,k,rfl,⟨pa,pb,er,ea,eb⟩,ho,f2,bn,bk,q⟩:=h;refine⟨_,((am (ax (i:=4) sc__law_choose.nd rfl (Or.inr rfl) (au (FnOk.mono (jG T) (by decide)) hr rfl T.Q0 T.QN.kp T.Q1 .nil ai (aa (ah aj (pv 0) ac (λ_ _=>rfl)) (aa (pv 2) (aa (pv 3) ae)))))
  (am (Ew (i:=5) rfl (cu rfl (bu rfl (bu rfl bZ)) (bG 4 "_law_upper" (by decide) rfl (Or.inl rfl) (Or.inl rfl) ⟨_,rfl⟩ (bG 0 "_law_part_here" (by decide) rfl (Or.inl rfl) (Or.inl rfl) ⟨_,rfl⟩ cq))) (cR rfl T.Qn (aa (ag aI (pv 1) ac) ae)) (λ_ _ _ _=>(au (FnOk.mono (gf T) (by decide)) hr rfl T.QE T.Qy.kp T.QF .nil ai (aa (pv 1) (aa ac (aa (ag aT (pv 0) (ah (dj (K:=K) rfl) (ah (dj (K:=K) rfl) (pv 2) ac (λ_ _=>rfl)) ac (λ_ _=>rfl))) ae))))) sc__law_choose.nd rfl rfl)
  (am (ax (i:=6) sc__law_choose.nd rfl (Or.inl rfl) (au (FnOk.mono (gf T) (by decide)) hr rfl T.QE T.Qy.kp T.QF .nil ai (aa (pv 4) (aa ac (aa (ah aj (ah aj (pv 0) ac (λ_ _=>rfl)) ac (λ_ _=>rfl)) ae)))))
  (am (ax (i:=7) sc__law_choose.nd rfl (Or.inl rfl) ac)
  (am (bL PassesOwn.never rfl (bY (bT (aa (ah aj (pv 0) ac (λ_ _=>rfl)) (aa (ft yX rfl T.QS gt (aa (cD rfl (cu rfl (bu rfl bZ) (bG 0 "_law_part_here" (by decide) rfl (Or.inl rfl) (Or.inl rfl) ⟨_,rfl⟩ cq)) (cR rfl T.Qn (aa ac ae)) (λ_ _ _ _=>(ag cf (ah (dj (K:=K) rfl) (ah (dj (K:=K) rfl) (pv 1) ac (λ_ _=>rfl)) (pv 0) (λ_ _=>rfl)) (ah (dj (K:=K) rfl) (ah (dj (K:=K) rfl) (pv 1) ac (λ_ _=>rfl)) (pv 0) (λ_ _=>rfl))))) ae)) ae)))) (aS (i:=8) sc__law_choose.nd rfl (Or.inr rfl)) (am (ax (i:=9) sc__law_choose.nd rfl (Or.inr rfl) (au (FnOk.mono (jG T) (by decide)) hr rfl T.Q0 T.QN.kp T.Q1 .nil ai (aa (pv 8) (aa (pv 2) (aa (pv 3) ae)))))
  (am (ax (i:=10) sc__law_choose.nd rfl (Or.inl rfl) (pv 9))
  (am (ax (i:=11) sc__law_choose.nd rfl (Or.inr rfl) ac)
  (ez (aF (aD fV (ah aj (pv 8) ac (λ_ _=>rfl)) ac (aC _)) (am (ax (i:=10) sc__law_choose.nd rfl (Or.inl rfl) (ag aI (pv 9) (ag aT (pv 1) (ah aj (pv 8) ac (λ_ _=>rfl)))))
  (ak (ax (i:=11) sc__law_choose.nd rfl (Or.inr rfl) (ag aT (pv 1) (ah aj (pv 8) ac (λ_ _=>rfl)))))) aG)
  (am (Ff (i:=5) rfl (zi rfl (bu rfl (bu rfl (bu rfl bZ))) (zh 9 "_law_x" rfl (Or.inl rfl) (Or.inl rfl) ⟨_,rfl⟩ (zh 8 "_law_low" rfl (Or.inl rfl) (Or.inl rfl) ⟨_,rfl⟩ (zh 11 "_law_last" rfl (Or.inl rfl) (Or.inl rfl) ⟨_,rfl⟩ rn)))) (EF rfl T.VH (aa (pv 5) ae)) (λ_ _ _ _=>(ag aT (pv 1) (au (FnOk.mono (gf T) (by decide)) hr rfl T.QE T.Qy.kp T.QF .nil ai (aa (pv 2) (aa (ag aI (ag aT (pv 0) (ah (dj (K:=K) rfl) (pv 3) ac (λ_ _=>rfl))) ac) (aa (pv 4) ae)))))) sc__law_choose.nd rfl rfl)
  (ez (aF (aD dw (ah aj (pv 8) ac (λ_ _=>rfl)) ac (aC _)) (ak (ax (i:=6) sc__law_choose.nd rfl (Or.inl rfl) (ag aT (pv 6) (au (FnOk.mono (gf T) (by decide)) hr rfl T.QE T.Qy.kp T.QF .nil ai (aa (pv 10) (aa (ag aI (ah aj (pv 8) ac (λ_ _=>rfl)) ac) (aa ac ae))))))) aG)
  (ak (aF (aD fV (ah aj (pv 8) ac (λ_ _=>rfl)) ac (aC _)) (ak (ax (i:=7) sc__law_choose.nd rfl (Or.inl rfl) (ag aT (pv 7) (au (FnOk.mono (gf T) (by decide)) hr rfl T.QE T.Qy.kp T.QF .nil ai (aa (pv 10) (aa ac (aa (ah aj (pv 8) ac (λ_ _=>rfl)) ae))))))) aG)))))))))
  (ak (av (ag fw (pv 5) (bT (aa (pv 6) (aa (pv 7) ae)))))))))))),?_⟩
 dsimp only[az]
 k_typeOf
 obtain⟨⟨c1,c2,c3⟩,⟨c4,c5,c6⟩,⟨c7,c8,c9⟩⟩:=eR ho;obtain⟨U,hU⟩:∃U:Int,U=atF h n k:=⟨_,rfl⟩
 have bU:Bd 42 U:=by rw[hU];exact jF c1 c2 c3 bn bk
 refine⟨_,SqT.of er,_,rfl,pa,h,n,k,rfl,SqT.of ea,c1.mono (by decide),c2.mono (by decide),bn.mono (by decide),bk.mono (by decide),?_⟩;rw[←hU];obtain⟨⟨a1,a2,a3,a4,a5,a6⟩,⟨b1,b2,b3,b4,b5,b6⟩,_⟩:=id ho;dsimp only[az]
 k_typeOf
 refine⟨by omega,by omega,λD0 nD0=>?_⟩;rw[show ((far:Int)+1).toNat=far+1 by omega];refine sQ (ns:=(aR (far+1)).map λi=>cI h l far n k i 0) nD0 (by simp) (by omega) (λi d Hx R hi hd sx hR=>?_) (λF0 H1 s1 nF0 eF0=>?_)
 ·rw[aQ,fR hi]at hd
  cases hd
  (iterate 3 (k_units;(try simp only[bst]));k_units)
  have ii:0<=(i:Int)*h.1∧(i:Int)*h.1<=6:=by
   have i2:i=0∨i=1∨i=2:=by omega
   rcases i2 with rfl|rfl|rfl <;> omega
  rw[dP (i:Int)];refine⟨_,rfl,_,rfl,_,rfl,_,SqT.of (sx _ _ er),_,rfl,_,rfl,_,SqT.of (sx _ _ ea),_,rfl,_,rfl,(Bd.of_lt (m:=16) (show (i:Int).natAbs<16 by omega) (by decide):Bd 4 (i:Int)).fits c1 (by decide),U,1,_,rfl,bU.mono (by decide),by decide,by decide,by omega,by omega,?_⟩;have e:riL U 1 (cnt 1 ((i:Int)*h.1))=cI h l far n k i 0:=by
   show aX (U+1-1) _=aX (atF h n k) _;rw[hU];congr 1
   ·omega
   ·unfold cnt;congr 1;omega
  rw[e];exact hR _ (Same.refl _)
 dsimp only[az]
 k_typeOf
 refine⟨_,SqT.of (s1 _ _ er),_,rfl,_,rfl,_,SqT.of (s1 _ _ ea),_,rfl,U,1,h.2.1,rfl,bU.mono (by decide),by decide,by decide,by omega,by omega,?_⟩;have e0:riL U 1 (cnt 1 h.2.1)=uI h l far n k 0:=by
  show aX (U+1-1) _=aX (atF h n k) _;rw[hU];congr 1
  ·omega
  ·unfold cnt;congr 1;omega
 rw[e0];dsimp only[az]
 k_typeOf
 dsimp only[az]
 k_typeOf
 refine⟨_,SqT.of (s1 _ _ er),_,rfl,by decide,by decide,λD1 nD1=>?_⟩;refine sQ (ns:=[(ar h l).1,(ar h l).2.1,(ar h l).2.2]) nD1 (by simp) (by decide) (λi d Hx R hi hd sx hR=>?_) (λF1 H2 s2 nF1 eF1=>?_)
 ·(iterate 3 (k_units;(try simp only[bst]));k_units)
  rw[dP (i:Int)];have er':=sx _ _ (s1 _ _ er);have ea':=sx _ _ (s1 _ _ ea);have eb':=sx _ _ (s1 _ _ eb);have i3:i=0∨i=1∨i=2:=by omega
  rcases i3 with rfl|rfl|rfl <;> (cases hd;exact⟨_,rfl,_,rfl,_,SqT.of er',_,rfl,_,rfl,_,SqT.of ea',_,rfl,_,rfl,_,rfl,_,SqT.of er',_,rfl,_,rfl,_,SqT.of eb',_,rfl,_,rfl,_,rfl,hR _ (Same.refl _)⟩)
 refine⟨F1,rfl,_,.inl ⟨SqL.of eF1,λtq ntq=>⟨by decide,λLw nLw=>⟨⟨_,SqL.of af⟩,?_⟩⟩⟩⟩;have u3:=ao ntq (.tup (([(ar h l).1,(ar h l).2.1,(ar h l).2.2]:List Int).map V.int));have u4:=ao nLw (.lst [V.ref pb,V.ref tq]);have et3:=u4 _ _ (af (H:=H2) (a:=tq) (o:=.tup (([(ar h l).1,(ar h l).2.1,(ar h l).2.2]:List Int).map V.int)));have eL3:=af (H:=L2.upd H2 tq (.tup (([(ar h l).1,(ar h l).2.1,(ar h l).2.2]:List Int).map V.int))) (a:=Lw) (o:=.lst [V.ref pb,V.ref tq]);have s3:=s2.trans (u3.trans u4);have eb3:=s3 _ _ (s1 _ _ eb);have eF3:=s3 _ _ eF0;generalize L2.upd (L2.upd H2 tq (.tup (([(ar h l).1,(ar h l).2.1,(ar h l).2.2]:List Int).map V.int))) Lw (.lst [V.ref pb,V.ref tq])=H3 at u4 et3 eL3 s3 eb3 eF3 ⊢;have s13:=s1.trans s3;clear u3 u4 nLw ntq eF1 nF1 nD1 nF0 nD0 eF0 s2 H2;obtain⟨Pv,hPv⟩:∃Pv:Nat->L2.St->Hp->Prop,∀j σ H',Pv j σ H'↔∃(F:Addr) (r8 r9 r10 r11:Option V),σ=[some (V.ref r),some (V.int (far:Int)),some (V.int n),some (V.int k),some (V.int U),some (V.ref F),some (V.int (uI h l far n k j)),some (V.int (dI h l far n k j)),r8,r9,r10,r11]∧H' F=some (.lst (((aR (far+1)).map λi=>cI h l far n k i j).map V.int))∧Same H3 H':=⟨_,λ_ _ _=>Iff.rfl⟩
 refine dA (xs:=[V.ref pb,V.ref tq]) Pv ((hPv _ _ _).mpr ⟨F0,none,none,none,none,rfl,eF3,Same.refl _⟩) (λi σ H' _ z=>by obtain⟨_,_,_,_,_,_,_,z⟩:=(hPv i σ H').mp z;exact SqL.of (z _ _ eL3)) ?_ ?_
 ·intro j v σ H' hv hp;obtain⟨F,r8,r9,r10,r11,rfl,eF,sS⟩:=(hPv _ _ _).mp hp;obtain⟨a,rfl,ha,j2⟩:∃a,v=V.ref a∧H3 a=some (T3 (aE h l j))∧j<2:=by
   have j2:j<2:=by have:=(be.mp hv).1;simpa using this
   have j3:j=0∨j=1:=by omega
   rcases j3 with rfl|rfl <;> cases hv
   ·exact⟨pb,rfl,eb3,j2⟩
   ·exact⟨tq,rfl,et3,j2⟩
  obtain⟨w1,w2,w3,w4,w5,w6⟩:=eS ho j;have y1:Bd 8 (aE h l j).1:=Bd.of_lt (m:=256) (by omega) (by decide);have y2:Bd 8 (aE h l j).2.1:=Bd.of_lt (m:=256) (by omega) (by decide);have y3:Bd 8 (aE h l j).2.2:=Bd.of_lt (m:=256) (by omega) (by decide);have ha':=sS _ _ ha;obtain⟨x,hx⟩:∃x,x=atF (aE h l j) n k:=⟨_,rfl⟩
  have bx:Bd 42 x:=by rw[hx];exact jF y1 y2 y3 bn bk
  k_units
  refine⟨a,aE h l j,n,k,rfl,SqT.of ha',y1.mono (by decide),y2.mono (by decide),bn.mono (by decide),bk.mono (by decide),?_⟩;rw[←hx];generalize hlo:aE h l j=lo at *;obtain⟨lst,hlst⟩:∃m:Int,m=mx ((far:Int)*lo.1):=⟨_,rfl⟩
  have blst:0<=lst∧lst<=12:=by
   rw[hlst];unfold mx;have i2:far=0∨far=1∨far=2:=by omega
   rcases i2 with rfl|rfl|rfl <;> (split <;> omega)
  obtain⟨M,hM⟩:∃M:L2.St->Hp->Prop,∀σ H'',M σ H''↔σ=[some (V.ref r),some (V.int (far:Int)),some (V.int n),some (V.int k),some (V.int U),some (V.ref F),some (V.int (uI h l far n k j)),some (V.int (dI h l far n k j)),some (V.ref a),some (V.int x),some (V.int (x+lst)),some (V.int lst)]∧H''=H':=⟨_,λ_ _=>Iff.rfl⟩
  refine eA M ?_ ?_
  ·k_units
   refine⟨_,SqT.of ha',_,rfl,_,rfl,?_⟩;have f4:Bd 4 (far:Int):=Bd.of_lt (m:=16) (show (far:Int).natAbs<16 by omega) (by decide);have fz:0<=(far:Int)*lo.1∨lo.1<=0:=by
    have i2:far=0∨far=1∨far=2:=by omega
    rcases i2 with rfl|rfl|rfl <;> omega
   refine bC (λz=>?_) (λz=>?_)
   ·have e:lst=(far:Int)*lo.1:=by rw[hlst];unfold mx;rw[if_neg (by omega)]
    refine⟨_,SqT.of ha',_,rfl,_,rfl,f4.fits y1 (by decide),_,SqT.of ha',_,rfl,_,rfl,f4.fits y1 (by decide),(hM _ _).mpr ⟨?_,rfl⟩⟩;rw[e]
   ·have e:lst=0:=by
     rw[hlst];unfold mx;have i2:far=0∨far=1∨far=2:=by omega
     rcases i2 with rfl|rfl|rfl <;> (split <;> omega)
    refine (hM _ _).mpr ⟨?_,rfl⟩;rw[e,Int.add_zero]
  intro σ H'' hm;obtain⟨rfl,rfl⟩:=(hM _ _).mp hm;clear hm hM M
  k_units
  refine⟨_,SqL.of eF,λD2 nD2=>?_⟩;refine O9 (as:=(aR (far+1)).map λi=>cI h l far n k i j) (ns:=(aR (far+1)).map λi=>cI h l far n k i (j+1)) nD2 (SqL.of eF) (by simp) (by simp;omega) (λi q d Hx R hq hd sx hR=>?_) (λF5 H5 s5 nF5 eF5=>?_)
  ·have hi:i<far+1:=by have:=(be.mp hq).1;simpa using this
   rw[aQ,fR hi]at hq hd
   cases hq;cases hd
   (iterate 3 (k_units;(try simp only[bN]));k_units)
   have i2:i<=2:=by omega
   have ij:Bd 8 ((i:Int)*lo.1)∧-6<=(i:Int)*lo.1∧(i:Int)*lo.1<=12:=by
    have i2:i=0∨i=1∨i=2:=by omega
    rcases i2 with rfl|rfl|rfl <;> exact⟨Bd.of_lt (m:=256) (by omega) (by decide),by omega,by omega⟩
   refine⟨_,rfl,_,rfl,_,rfl,_,SqT.of (sx _ _ ha'),_,rfl,_,rfl,(Bd.of_lt (m:=16) (show (i:Int).natAbs<16 by omega) (by decide):Bd 4 (i:Int)).fits y1 (by decide),_,rfl,x,(i:Int)*lo.1+1,lst,rfl,bx.mono (by decide),by omega,by omega,by omega,by omega,?_⟩;have e:riL x ((i:Int)*lo.1+1) (cnt ((i:Int)*lo.1+1) lst)=aX (x+(i:Int)*lo.1) (cnt ((i:Int)*lo.1+1) lst):=by
    show aX (x+((i:Int)*lo.1+1)-1) _=_;congr 1;omega
   have e2:cI h l far n k i (j+1)=cI h l far n k i j*aX (x+(i:Int)*lo.1) (cnt ((i:Int)*lo.1+1) lst):=by
    show cI h l far n k i j*aX (atF (aE h l j) n k+(i:Int)*(aE h l j).1) (cnt ((i:Int)*(aE h l j).1+1) (mx ((far:Int)*(aE h l j).1)))=_;rw[hlo,hx,hlst]
   rw[e];refine⟨_,rfl,(z9 ho f2 bn bk i2 j).fits (fN (m:=cnt ((i:Int)*lo.1+1) lst) ((bx.add (ij.1.mono (by decide))).mono (by decide)) (by unfold cnt;omega)) (by omega),?_⟩;rw[←e2];exact hR _ (Same.refl _)
  have bm:Bd 43 (x+lst):=bx.add ((Bd.of_lt (m:=256) (by omega) (by decide):Bd 8 lst).mono (by decide));obtain⟨M,hM⟩:∃M:L2.St->Hp->Prop,∀σ H'',M σ H''↔σ=[some (V.ref r),some (V.int (far:Int)),some (V.int n),some (V.int k),some (V.int U),some (V.ref F5),some (V.int (uI h l far n k (j+1))),some (V.int (dI h l far n k j)),some (V.ref a),some (V.int x),some (V.int (x+lst)),some (V.int lst)]∧H''=H5:=⟨_,λ_ _=>Iff.rfl⟩
  have eu:uI h l far n k (j+1)=uI h l far n k j*upl (x+lst) lo.2.1:=by
   show uI h l far n k j*upl (atF (aE h l j) n k+mx ((far:Int)*(aE h l j).1)) (aE h l j).2.1=_;rw[hlo,hx,hlst]
  have ed:dI h l far n k (j+1)=dI h l far n k j*dnl (x+lst) lo.2.1:=by
   show dI h l far n k j*dnl (atF (aE h l j) n k+mx ((far:Int)*(aE h l j).1)) (aE h l j).2.1=_;rw[hlo,hx,hlst]
  have ha5:=s5 _ _ ha'
  k_units
  refine eA M ?_ ?_
  ·k_units
   refine⟨_,SqT.of ha5,_,rfl,_,rfl,?_⟩;refine bC (λz=>?_) (λz=>?_)
   ·refine⟨_,SqT.of ha5,_,rfl,_,rfl,x+lst,lo.2.1+1,0,rfl,bm.mono (by decide),by omega,by omega,by decide,by decide,?_⟩;have e:riL (x+lst) (lo.2.1+1) (cnt (lo.2.1+1) 0)=upl (x+lst) lo.2.1:=by
     show aX (x+lst+(lo.2.1+1)-1) _=aX _ _;unfold cnt;congr 1
     ·omega
     ·congr 1;omega
    rw[e];refine⟨_,rfl,(z_ ho f2 bn bk j).fits (fN (m:=(-lo.2.1).toNat) ((bm.add (y2.mono (by decide))).mono (by decide)) (by omega)) (by omega),(hM _ _).mpr ⟨?_,rfl⟩⟩;rw[eu]
   ·refine (hM _ _).mpr ⟨?_,rfl⟩;have e:upl (x+lst) lo.2.1=1:=by unfold upl;rw[show (-lo.2.1).toNat=0 by omega];rfl
    rw[eu,e,sV]
  intro σ H'' hm;obtain⟨rfl,rfl⟩:=(hM _ _).mp hm;clear hm hM M
  k_units
  refine⟨_,SqT.of ha5,_,rfl,_,rfl,?_⟩;refine bC (λz=>?_) (λz=>?_)
  ·refine⟨_,SqT.of ha5,_,rfl,x+lst,1,lo.2.1,rfl,bm.mono (by decide),by decide,by decide,by omega,by omega,?_⟩;have e:riL (x+lst) 1 (cnt 1 lo.2.1)=dnl (x+lst) lo.2.1:=by
    show aX (x+lst+1-1) _=aX _ _;unfold cnt;congr 1
    ·omega
    ·congr 1;omega
   rw[e];refine⟨_,rfl,(Aa ho f2 bn bk j).fits (fN (m:=lo.2.1.toNat) (bm.mono (by decide)) (by omega)) (by omega),(hPv _ _ _).mpr ⟨F5,some (V.ref a),some (V.int x),some (V.int (x+lst)),some (V.int lst),?_,eF5,sS.trans s5⟩⟩;rw[ed]
  ·refine (hPv _ _ _).mpr ⟨F5,some (V.ref a),some (V.int x),some (V.int (x+lst)),some (V.int lst),?_,eF5,sS.trans s5⟩;have e:dnl (x+lst) lo.2.1=1:=by unfold dnl;rw[show lo.2.1.toNat=0 by omega];rfl
   rw[ed,e,sV]
 intro σ H' hp;obtain⟨F,r8,r9,r10,r11,rfl,eF,sS⟩:=(hPv _ _ _).mp hp
 k_units
 refine⟨by decide,λp np=>?_⟩;have u1:=ao np (.lst [V.int (uI h l far n k 2),V.int (dI h l far n k 2)]);refine⟨_,u1 _ _ eF,_,af,?_,λp1 n1=>?_⟩
 ·simp only[aB,e7,cb,dE];exact cJ (bB (by omega))
 have sA:=s13.trans (sS.trans u1);refine q _ _ (sA.trans (ao n1 _)) (sA.free n1) ?_;rw[af,←GH ho f2,aM];rfl
theorem GM (n:Nat)(c:Int):(bK n [V.int c]).flatten=(bK n c).map V.int:=by
 induction n with
 | zero=>rfl
 | succ n ih=>rw[d0,sX,ih,d0];rfl
def Pd (K:W.Frag):Sp:=λvs H Q _=>∃(r:Addr) (p:Prt) (far:Nat) (n k:Int),vs=[.ref r,.int (far:Int),.int n,.int k]∧PtAt H r p∧bJ p∧far<=2∧Bd 31 n∧Bd 31 k∧gw H Q ((cH p far n k).map V.int)
theorem Pe {P:Program}{w:World}{K:W.Frag}{mg:Str->Option Value}{base:Heap}(T:Tx K mg):FnOk P w K mg base CX0 3 T.S1 T.S2 ["_law_part_here","_law_far","_law_n","_law_k"] (Pd K):=by
 refine T.UV.ok sc__law_due (λvs H Q E h=>?_) (λcdv A outer s H vs Q E hr h=>?_)
 ·obtain⟨r,p,far,n,k,rfl,_⟩:=h;rfl
 obtain⟨r,p,far,n,k,rfl,hp,ok,f2,bn,bk,q⟩:=h;refine⟨_,((am (aF (aD br (ah aj (pv 0) ac (λ_ _=>rfl)) bX (aC _)) (ak (av (au (FnOk.mono (Pb T) (by decide)) hr rfl T.V6 T.UU.kp T.V7 .nil ai (aa (pv 0) (aa (pv 1) (aa (pv 2) (aa (pv 3) ae))))))) aG)
  (am (aF (aD br (ah aj (pv 0) ac (λ_ _=>rfl)) bX (aC _)) (ak (av (ag fw (cD rfl (cu rfl (bu rfl (bu rfl (bu rfl bZ))) (bG 0 "_law_part_here" (by decide) rfl (Or.inl rfl) (Or.inl rfl) ⟨_,rfl⟩ (bG 2 "_law_n" (by decide) rfl (Or.inl rfl) (Or.inl rfl) ⟨_,rfl⟩ (bG 3 "_law_k" (by decide) rfl (Or.inl rfl) (Or.inl rfl) ⟨_,rfl⟩ cq)))) (cR rfl T.Qn (aa (ag aI (pv 1) ac) ae)) (λ_ _ _ _=>(au (FnOk.mono (jG T) (by decide)) hr rfl T.Q0 T.QN.kp T.Q1 .nil ai (aa (ah (dj (K:=K) rfl) (pv 1) ac (λ_ _=>rfl)) (aa (ag aI (pv 2) (pv 0)) (aa (pv 3) ae)))))) (bT (aa ac (aa ac ae)))))) aG)
  (am (aF (aD br (ah aj (pv 0) ac (λ_ _=>rfl)) bX (aC _)) (ak (av (ag fw (ag Et (bT (aa ac ae)) (ag aI (pv 1) ac)) (bT (aa (ah aj (ah aj (pv 0) ac (λ_ _=>rfl)) ac (λ_ _=>rfl)) (aa (ah aj (ah aj (pv 0) ac (λ_ _=>rfl)) ac (λ_ _=>rfl)) ae)))))) aG)
  (am (ax (i:=4) sc__law_due.nd rfl (Or.inl rfl) (bT ae))
  (am (bL PassesOwn.never rfl (cR rfl T.Qn (aa (ag aI (pv 1) ac) ae)) (aS (i:=5) sc__law_due.nd rfl (Or.inl rfl)) (ak (du (fZ PySem.F.plainAttrs_list PySem.F.slot_list_append PySem.F.type_list_append el (pv 4) (aa (ag aT (ah aj (au (FnOk.mono (jH T) (by decide)) hr rfl T.Q2 T.QO.kp T.Q3 .nil ai (aa (ah aj (pv 0) ac (λ_ _=>rfl)) (aa (pv 5) ae))) ac (λ_ _=>rfl)) (ah aj (au (FnOk.mono (jH T) (by decide)) hr rfl T.Q2 T.QO.kp T.Q3 .nil ai (aa (ah aj (pv 0) ac (λ_ _=>rfl)) (aa (ag cf (pv 1) (pv 5)) ae))) ac (λ_ _=>rfl))) ae)))))
  (ak (av (ag fw (pv 4) (bT (aa ac (aa ac ae)))))))))))),?_⟩
 match p,hp,ok,q with
 | .cho h l,⟨a,b,er,ha,hb⟩,ok,q=>
  dsimp only[az]
  k_typeOf
  refine⟨_,SqT.of er,_,rfl,?_⟩
  k_units
  exact⟨r,h,l,far,n,k,rfl,⟨a,b,er,ha,hb⟩,ok,f2,bn,bk,q⟩
 | .wei f,⟨a,er,ha⟩,⟨o1,o2,o3⟩,q=>
  dsimp only[az]
  k_typeOf
  refine⟨_,SqT.of er,_,rfl,?_⟩
  k_units
  rw[if_neg (by decide)];refine⟨_,SqT.of er,_,rfl,?_⟩
  k_units
  refine⟨by omega,by omega,λD0 nD0=>?_⟩;rw[show ((far:Int)+1).toNat=far+1 by omega];refine sQ (ns:=(aR (far+1)).map λi=>evD (stD (.wei f) i far) n k) nD0 (by simp) (by omega) (λi d Hx R hi hd sx hR=>?_) (λF0 H1 s1 nF0 eF0=>?_)
  ·rw[aQ,fR hi]at hd
   cases hd
   (iterate 3 (k_units;(try simp only[bst]));k_units)
   rw[dP (i:Int)];have bi:Bd 31 (i:Int):=(Bd.of_lt (m:=16) (show (i:Int).natAbs<16 by omega) (by decide):Bd 4 (i:Int)).mono (by decide);refine⟨_,rfl,_,rfl,_,SqT.of (sx _ _ er),_,rfl,_,rfl,_,rfl,_,rfl,a,f,n+(i:Int),k,rfl,SqT.of (sx _ _ ha),o1.mono (by decide),o2.mono (by decide),(bn.add bi).mono (by decide),bk.mono (by decide),?_⟩;have e:atF f (n+(i:Int)) k=evD (stD (.wei f) i far) n k:=by
    show _=evD (fmD f.1 f.2.1 (f.2.2+(i:Int)*f.1)) n k;rw[zE];unfold atF;grind
   rw[e];exact hR _ (Same.refl _)
  k_units
  refine⟨by decide,λp np=>?_⟩;have u1:=ao np (.lst [V.int 1,V.int 1]);refine⟨_,u1 _ _ eF0,_,af,?_,λp1 n1=>?_⟩
  ·simp only[aB,e7,cb,dE];exact cJ (bB (by omega))
  have sA:=s1.trans u1;refine q _ _ (sA.trans (ao n1 _)) (sA.free n1) ?_;rw[af];unfold cH;rw[aM (l₁:=(aR (far+1)).map _)];show _=some (HO.lst (_++[V.int (evD onD n k),V.int (evD onD n k)]));rw[gd]
 | .pow f,⟨a,er,ha⟩,_,q=>
  dsimp only[az]
  k_typeOf
  refine⟨_,SqT.of er,_,rfl,?_⟩
  k_units
  rw[if_neg (by decide)];refine⟨_,SqT.of er,_,rfl,?_⟩
  k_units
  rw[if_neg (by decide)];refine⟨_,SqT.of er,_,rfl,?_⟩
  k_units
  refine⟨by decide,λp np=>⟨_,af,by omega,by omega,by simp only[cb,dE];exact cJ (bB (by omega)),λp1 n1=>?_⟩⟩;rw[show ((far:Int)+1).toNat=far+1 by omega,GM]at *;have u1:=ao np (.lst [V.int 1]);have u2:=ao n1 (.lst ((bK (far+1) (1:Int)).map V.int));have e1:=af (H:=L2.upd H p (.lst [V.int 1])) (a:=p1) (o:=.lst ((bK (far+1) (1:Int)).map V.int));have s2:=u1.trans u2;generalize L2.upd (L2.upd H p (.lst [V.int 1])) p1 (.lst ((bK (far+1) (1:Int)).map V.int))=H2 at e1 s2 ⊢;have er2:=s2 _ _ er;have ha2:=s2 _ _ ha;refine⟨_,SqT.of er2,_,rfl,_,rfl,_,SqT.of ha2,_,rfl,_,SqT.of er2,_,rfl,_,rfl,_,SqT.of ha2,_,rfl,by decide,λp2 n2=>?_⟩;have u3:=ao n2 (.lst [V.int f.1,V.int f.2]);refine⟨_,u3 _ _ e1,_,af,?_,λp3 n3=>?_⟩
  ·simp only[aB,Aj,cb,dE];exact cJ (bB (by omega))
  have sA:=s2.trans u3;refine q _ _ (sA.trans (ao n3 _)) (sA.free n3) ?_;rw[af];unfold cH;rw[aM (l₁:=(aR (far+1)).map _)];show _=some (HO.lst (((aR (far+1)).map λ_=>evD onD n k).map V.int++[V.int (evD (kD f.1) n k),V.int (evD (kD f.2) n k)]));rw[gd,gL,gL,List.map_const',e7]
 | .gro f,⟨a,er,ha⟩,⟨_,_,o1,o2⟩,q=>
  dsimp only[az]
  k_typeOf
  refine⟨_,SqT.of er,_,rfl,?_⟩
  k_units
  rw[if_neg (by decide)];refine⟨_,SqT.of er,_,rfl,?_⟩
  k_units
  rw[if_neg (by decide)];refine⟨_,SqT.of er,_,rfl,?_⟩
  k_units
  rw[if_neg (by decide)];refine⟨by decide,λF nF=>?_⟩;refine⟨by omega,by omega,?_⟩;rw[show ((far:Int)+1).toNat=far+1 by omega];obtain⟨Pv,hPv⟩:∃Pv:Nat->L2.St->Hp->Prop,∀i σ H',Pv i σ H'↔∃r5:Option V,σ=[some (V.ref r),some (V.int (far:Int)),some (V.int n),some (V.int k),some (V.ref F),r5]∧H' F=some (.lst (((aR i).map λi=>evD (stD (.gro f) i far) n k).map V.int))∧Same H H':=⟨_,λ_ _ _=>Iff.rfl⟩
  refine eI Pv ((hPv _ _ _).mpr ⟨none,rfl,af,ao nF _⟩) ?_ ?_
  ·intro i σ H' hi hp;obtain⟨r5,rfl,eF,sS⟩:=(hPv _ _ _).mp hp
   k_units
   rw[dP (i:Int)];have er':=sS _ _ er;have ha':=sS _ _ ha;refine⟨fx (SqL.of eF),_,SqT.of er',_,rfl,a,f,i,rfl,SqT.of ha',o1.mono (by decide),o2.mono (by decide),by omega,λp1 n1=>?_⟩;have u1:=ao n1 (.tup [V.int (f.1 ^ i),V.int (f.2 ^ i)]);rw[show (far:Int)-(i:Int)=((far-i:Nat):Int) by omega];refine⟨_,rfl,_,SqT.of af,_,rfl,_,SqT.of (u1 _ _ er'),_,rfl,a,f,far-i,rfl,SqT.of (u1 _ _ ha'),o1.mono (by decide),o2.mono (by decide),by omega,λp2 n2=>?_⟩;have u2:=ao n2 (.tup [V.int (f.1 ^ (far-i)),V.int (f.2 ^ (far-i))]);refine⟨_,rfl,_,SqT.of af,_,rfl,_,rfl,_,rfl,(bO o1 i).fits (bO o2 (far-i)) (by omega),_,u2 _ _ (u1 _ _ eF),by simp only[aB,e7];exact bB (by omega),(hPv _ _ _).mpr ⟨_,rfl,?_,(sS.trans (u1.trans u2)).more nF⟩⟩;rw[af,gl,aM,aM];show _=some (HO.lst (_++[V.int (evD (kD (f.1 ^ i*f.2 ^ (far-i))) n k)]));rw[gL]
  intro σ H' hp;obtain⟨r5,rfl,eF,sS⟩:=(hPv _ _ _).mp hp
  k_units
  refine⟨by decide,λp np=>?_⟩;have u1:=ao np (.lst [V.int 1,V.int 1]);refine⟨_,u1 _ _ eF,_,af,?_,λp1 n1=>?_⟩
  ·simp only[aB,e7,cb,dE];exact cJ (bB (by omega))
  have sA:=sS.trans u1;refine q _ _ (sA.trans (ao n1 _)) (sA.free n1) ?_;rw[af];unfold cH;rw[aM (l₁:=(aR (far+1)).map _)];show _=some (HO.lst (_++[V.int (evD onD n k),V.int (evD onD n k)]));rw[gd]
def Pf (K:W.Frag):Sp:=λvs H Q _=>∃(F L U W:Addr) (as:List Addr) (fs:List PD) (f g:PD) (far d:Nat),vs=[.ref F,.int (far:Int)]∧H F=some (.tup [.ref L,.ref U,.ref W])∧H L=some (.lst (as.map V.ref))∧DHs H as fs∧fs.length=far+1∧far<=2∧H U=some (.dT (dz f))∧H W=some (.dT (dz g))∧(∀f∈fs,Deg d f∧Nz f)∧(Deg d f∧Nz f)∧(Deg d g∧Nz g)∧∀H',Same H H'->Q (.bl true) H'
theorem GN {P:Program}{w:World}{K:W.Frag}{mg:Str->Option Value}{base:Heap}(T:Tx K mg):FnOk P w K mg base CX0 3 T.SR T.SS ["_law_found","_law_far"] (Pf K):=by
 refine T.SU.ok sc__law_is_frame (λvs H Q E h=>?_) (λcdv A outer s H vs Q E hr h=>?_)
 ·obtain⟨F,L,U,W,as,fs,f,g,far,d,rfl,_⟩:=h;rfl
 obtain⟨F,L,U,W,as,fs,f,g,far,d,rfl,eF,eL,hD,lf,f2,eU,eW,ofs,⟨f3,f4⟩,⟨g3,g4⟩,q⟩:=h;refine⟨_,((am (aF (PW.pt (cn (b_ (b9 (a0 f7 rfl T.QB fD (aa (pv 0) (aa (fT (v:=.ty "tuple") rfl T.QS gt rfl) ae))))) (cn (aD fo (a0 fu rfl T.Qz fB (aa (pv 0) ae)) ac (aC _)) (de (b_ (b9 (a0 f7 rfl T.QB fD (aa (ah aj (pv 0) ac (λ_ _=>rfl)) (aa (fT (v:=.ty "list") rfl T.VG Ey rfl) ae))))))))) (ak (av cm)) aG)
  (am (aF (PW.pt (cn (aD fo (a0 fu rfl T.Qz fB (aa (ah aj (pv 0) ac (λ_ _=>rfl)) ae)) (ag aI (pv 1) ac) (aC _)) (cn (b_ (b9 (au (FnOk.mono (z8 T) (by decide)) hr rfl T.SO T.Rg.kp T.SQ .nil ai (aa (ah aj (pv 0) ac (λ_ _=>rfl)) ae)))) (de (b_ (b9 (au (FnOk.mono (z8 T) (by decide)) hr rfl T.SO T.Rg.kp T.SQ .nil ai (aa (ah aj (pv 0) ac (λ_ _=>rfl)) ae)))))))) (ak (av cm)) aG)
  (am (bL PassesOwn.never rfl (bY (ah aj (pv 0) ac (λ_ _=>rfl))) (aS (i:=2) sc__law_is_frame.nd rfl (Or.inl rfl)) (ak (aF (b_ (b9 (au (FnOk.mono (z8 T) (by decide)) hr rfl T.SO T.Rg.kp T.SQ .nil ai (aa (pv 2) ae)))) (ak (av cm)) aG)))
  (ak (av cm)))))),?_⟩
 dsimp only[az]
 k_typeOf
 refine⟨_,.tup eF,true,rfl,?_⟩;rw[if_neg (by decide)];refine⟨_,.inr (SqT.of eF),?_⟩;rw[if_neg (by simp)];refine⟨_,SqT.of eF,_,rfl,_,.lst eL,true,rfl,?_⟩;rw[if_neg (by decide)];have las:as.length=far+1:=by rw[hD.len,lf]
 dsimp only[az]
 k_typeOf
 refine⟨_,SqT.of eF,_,rfl,L,rfl,_,.inl (SqL.of eL),?_⟩
 (iterate 3 (k_units;(try simp only[aB]));k_units)
 rw[if_neg (by omega)];refine⟨_,SqT.of eF,_,rfl,U,f,d,rfl,eU,f3,f4,λH1 s1=>⟨true,rfl,?_⟩⟩;rw[if_neg (by decide)];refine⟨_,SqT.of (s1 _ _ eF),_,rfl,W,g,d,rfl,s1 _ _ eW,g3,g4,λH2 s2=>⟨true,rfl,?_⟩⟩;rw[if_neg (by decide)];have s12:=s1.trans s2;refine⟨_,SqT.of (s12 _ _ eF),_,rfl,L,rfl,⟨_,SqL.of (s12 _ _ eL)⟩,?_⟩;obtain⟨Pv,hPv⟩:∃Pv:Nat->L2.St->Hp->Prop,∀i σ H',Pv i σ H'↔∃r2:Option V,σ=[some (V.ref F),some (V.int (far:Int)),r2]∧Same H H':=⟨_,λ_ _ _=>Iff.rfl⟩
 refine dA (xs:=as.map V.ref) Pv ((hPv _ _ _).mpr ⟨none,rfl,s12⟩) (λi σ H' _ z=>by obtain⟨_,_,z⟩:=(hPv i σ H').mp z;exact SqL.of (z _ _ eL)) ?_ ?_
 ·intro j v σ H' hv hp;obtain⟨r2,rfl,sS⟩:=(hPv _ _ _).mp hp;rw[aQ]at hv;obtain⟨a,ha,rfl⟩:=cc.mp hv;have jl:j<fs.length:=by rw[←hD.len];exact (be.mp ha).1
  obtain⟨o1,o2⟩:=ofs _ (eX jl)
  k_units
  refine⟨a,fs[j],d,rfl,sS _ _ (hD.get j a _ ha (aJ jl)),o1,o2,λH3 s3=>⟨true,rfl,?_⟩⟩;rw[if_neg (by decide)];exact (hPv _ _ _).mpr ⟨_,rfl,sS.trans s3⟩
 intro σ H' hp;obtain⟨r2,rfl,sS⟩:=(hPv _ _ _).mp hp
 k_units
 exact q _ sS
def duC (U:Nat)(X Y:Int):Int×Int:=if X<0∨Y<0 then (0,1) else (((fct U:Nat):Int),((fct X.toNat:Nat):Int)*((fct Y.toNat:Nat):Int))
def duF (p:Prt)(far n k:Nat):Int×Int:=match p with
 | .cho h l=>duC (atF h n k).toNat (atF l n k+mx ((far:Int)*l.1)) (atF (ar h l) n k+mx ((far:Int)*(ar h l).1))
 | .wei _=>(1,1)
 | .pow f=>(f.1 ^ k,f.2 ^ k)
 | .gro f=>(f.1 ^ n,f.2 ^ n*f.2 ^ far)
theorem Pg {U:Nat}{X Y:Int}{z:Int×Int}(h:FB U X Y z):z.1*(duC U X Y).2=(duC U X Y).1*z.2:=by
 unfold duC;rcases h with ⟨c,rfl⟩|⟨x,y,e1,e2,e3⟩
 ·rw[if_pos c]
 ·rw[if_neg (by omega),e1,e2,dk,dk];exact e3
theorem GO {p:Prt}{far n k:Nat}{z:Int×Int}(h:gQ p far n k z):z.1*(duF p far n k).2=(duF p far n k).1*z.2:=by
 obtain⟨_,_,_,h⟩:=h
 match p,h with
 | .cho h l,h'=>exact Pg h'
 | .wei _,h'=>subst h';rfl
 | .pow f,h'=>subst h';rfl
 | .gro f,h'=>
  subst h';show f.1 ^ n*(f.2 ^ n*f.2 ^ far)=f.1 ^ n*f.2 ^ (n+far);rw[Iz]
theorem Ab:∀m:Nat,aX 0 m=((fct m:Nat):Int)
 | 0=>rfl
 | m+1=>by
  show aX 0 m*(0+(m:Int)+1)=((fct m*(m+1):Nat):Int)
  rw[Ab m,g_,dP];rfl
theorem GP (x:Int):riL 0 1 (cnt 1 x)=((fct x.toNat:Nat):Int):=by
 show aX (0+1-1) _=_;rw[show ((0:Int)+1-1)=0 by decide,Ab];unfold cnt;rw[show (x+1-1).toNat=x.toNat by omega]
theorem sR {m:Nat}(h:m<=300):Bd 3001 ((fct m:Nat):Int):=by
 rw[←Ab];exact (sO (b:=9) (Bd.zero _) (by decide) m (by omega)).mono (by omega)
def lX (h l:Int×Int×Int)(far n k j:Nat):Int:=atF (aE h l j) n k+mx ((far:Int)*(aE h l j).1)
def bI (h l:Int×Int×Int)(far n k:Nat):Nat->Int
 | 0=>1
 | j+1=>bI h l far n k j*((fct (lX h l far n k j).toNat:Nat):Int)
def Ph (K:W.Frag):Sp:=λvs H Q _=>∃(r:Addr) (p:Prt) (far n k:Nat),vs=[.ref r,.int (far:Int),.int (n:Int),.int (k:Int)]∧PtAt H r p∧bJ p∧far<=2∧n<=20∧k<=20∧∀r H',Same H H'->H' r=some (T2 (duF p far n k))->Q (.ref r) H'
theorem Pj {P:Program}{w:World}{K:W.Frag}{mg:Str->Option Value}{base:Heap}(T:Tx K mg):FnOk P w K mg base CX0 3 T.S3 T.S4 ["_law_part_here","_law_far","_law_n","_law_k"] (Ph K):=by
 refine T.UW.ok sc__law_floor (λvs H Q E h=>?_) (λcdv A outer s H vs Q E hr h=>?_)
 ·obtain⟨r,p,far,n,k,rfl,_⟩:=h;rfl
 obtain⟨r,p,far,n,k,rfl,hp,ok,f2,n2,k2,q⟩:=h;refine⟨_,((am (aF (aD br (ah aj (pv 0) ac (λ_ _=>rfl)) bX (aC _)) (ak (av (aK (aa ac (aa ac ae))))) aG)
  (am (aF (aD br (ah aj (pv 0) ac (λ_ _=>rfl)) bX (aC _)) (ak (av (au (FnOk.mono (jH T) (by decide)) hr rfl T.Q2 T.QO.kp T.Q3 .nil ai (aa (ah aj (pv 0) ac (λ_ _=>rfl)) (aa (pv 3) ae))))) aG)
  (am (aF (aD br (ah aj (pv 0) ac (λ_ _=>rfl)) bX (aC _)) (am (JC (au (FnOk.mono (jH T) (by decide)) hr rfl T.Q2 T.QO.kp T.Q3 .nil ai (aa (ah aj (pv 0) ac (λ_ _=>rfl)) (aa (pv 2) ae))) (fj rfl (cy (aS (i:=4) sc__law_floor.nd rfl (Or.inl rfl)) (cy (aS (i:=5) sc__law_floor.nd rfl (Or.inl rfl)) fh))))
  (ak (av (aK (aa (pv 4) (aa (ag aT (pv 5) (ah aj (au (FnOk.mono (jH T) (by decide)) hr rfl T.Q2 T.QO.kp T.Q3 .nil ai (aa (ah aj (pv 0) ac (λ_ _=>rfl)) (aa (pv 1) ae))) ac (λ_ _=>rfl))) ae)))))) aG)
  (am (ax (i:=6) sc__law_floor.nd rfl (Or.inl rfl) ac)
  (am (bL PassesOwn.never rfl (bY (bT (aa (ah aj (pv 0) ac (λ_ _=>rfl)) (aa (ft yX rfl T.QS gt (aa (cD rfl (cu rfl (bu rfl bZ) (bG 0 "_law_part_here" (by decide) rfl (Or.inl rfl) (Or.inl rfl) ⟨_,rfl⟩ cq)) (cR rfl T.Qn (aa ac ae)) (λ_ _ _ _=>(ag cf (ah (dj (K:=K) rfl) (ah (dj (K:=K) rfl) (pv 1) ac (λ_ _=>rfl)) (pv 0) (λ_ _=>rfl)) (ah (dj (K:=K) rfl) (ah (dj (K:=K) rfl) (pv 1) ac (λ_ _=>rfl)) (pv 0) (λ_ _=>rfl))))) ae)) ae)))) (aS (i:=7) sc__law_floor.nd rfl (Or.inl rfl)) (am (ax (i:=8) sc__law_floor.nd rfl (Or.inl rfl) (ag aI (au (FnOk.mono (jG T) (by decide)) hr rfl T.Q0 T.QN.kp T.Q1 .nil ai (aa (pv 7) (aa (pv 2) (aa (pv 3) ae)))) (ag aT (pv 1) (a0 (fX rfl) rfl T.QI f_ (aa (ah aj (pv 7) ac (λ_ _=>rfl)) (aa ac ae))))))
  (am (aF (aD dw (pv 8) ac (aC _)) (ak (av (aK (aa ac (aa ac ae))))) aG)
  (ak (ax (i:=6) sc__law_floor.nd rfl (Or.inl rfl) (ag aT (pv 6) (au (FnOk.mono (gf T) (by decide)) hr rfl T.QE T.Qy.kp T.QF .nil ai (aa ac (aa ac (aa (pv 8) ae))))))))))
  (ak (av (aK (aa (au (FnOk.mono (gf T) (by decide)) hr rfl T.QE T.Qy.kp T.QF .nil ai (aa ac (aa ac (aa (au (FnOk.mono (jG T) (by decide)) hr rfl T.Q0 T.QN.kp T.Q1 .nil ai (aa (ah aj (pv 0) ac (λ_ _=>rfl)) (aa (pv 2) (aa (pv 3) ae)))) ae)))) (aa (pv 6) ae))))))))))),?_⟩
 match p,hp,ok,q with
 | .wei f,⟨a,er,ha⟩,_,q=>
  dsimp only[az]
  k_typeOf
  refine⟨_,SqT.of er,_,rfl,?_⟩
  k_units
  exact⟨by decide,λp1 n1=>q _ _ (ao n1 _) af⟩
 | .pow f,⟨a,er,ha⟩,⟨_,_,o1,o2⟩,q=>
  dsimp only[az]
  k_typeOf
  refine⟨_,SqT.of er,_,rfl,?_⟩
  k_units
  rw[if_neg (by decide)];refine⟨_,SqT.of er,_,rfl,?_⟩
  k_units
  exact⟨_,SqT.of er,_,rfl,a,f,k,rfl,SqT.of ha,o1.mono (by decide),o2.mono (by decide),by omega,λp1 n1=>q _ _ (ao n1 _) af⟩
 | .gro f,⟨a,er,ha⟩,⟨_,_,o1,o2⟩,q=>
  dsimp only[az]
  k_typeOf
  refine⟨_,SqT.of er,_,rfl,?_⟩
  k_units
  rw[if_neg (by decide)];refine⟨_,SqT.of er,_,rfl,?_⟩
  k_units
  rw[if_neg (by decide)];refine⟨_,SqT.of er,_,rfl,?_⟩
  k_units
  refine⟨_,SqT.of er,_,rfl,a,f,n,rfl,SqT.of ha,o1.mono (by decide),o2.mono (by decide),by omega,λp1 n1=>?_⟩;have u1:=ao n1 (.tup [V.int (f.1 ^ n),V.int (f.2 ^ n)]);refine⟨_,rfl,_,SqT.of af,rfl,_,_,rfl,_,_,rfl,rfl,_,SqT.of (u1 _ _ er),_,rfl,a,f,far,rfl,SqT.of (u1 _ _ ha),o1.mono (by decide),o2.mono (by decide),by omega,λp2 n2=>?_⟩;have u2:=ao n2 (.tup [V.int (f.1 ^ far),V.int (f.2 ^ far)]);refine⟨_,rfl,_,SqT.of af,_,rfl,_,rfl,_,rfl,(bO o2 n).fits (bO o2 far) (by omega),by decide,λp3 n3=>q _ _ ((u1.trans u2).trans (ao n3 _)) af⟩
 | .cho h l,⟨pa,pb,er,ea,eb⟩,ho,q=>
  dsimp only[az]
  k_typeOf
  refine⟨_,SqT.of er,_,rfl,?_⟩
  k_units
  rw[if_neg (by decide)];refine⟨_,SqT.of er,_,rfl,?_⟩
  k_units
  rw[if_neg (by decide)];refine⟨_,SqT.of er,_,rfl,?_⟩
  k_units
  rw[if_neg (by decide)];refine⟨_,SqT.of er,_,rfl,by decide,by decide,λD1 nD1=>?_⟩;refine sQ (ns:=[(ar h l).1,(ar h l).2.1,(ar h l).2.2]) nD1 (by simp) (by decide) (λi d Hx R hi hd sx hR=>?_) (λF1 H2 s2 nF1 eF1=>?_)
  ·(iterate 3 (k_units;(try simp only[bst]));k_units)
   rw[dP (i:Int)];have er':=sx _ _ er;have ea':=sx _ _ ea;have eb':=sx _ _ eb;have i3:i=0∨i=1∨i=2:=by omega
   rcases i3 with rfl|rfl|rfl <;> (cases hd;exact⟨_,rfl,_,rfl,_,SqT.of er',_,rfl,_,rfl,_,SqT.of ea',_,rfl,_,rfl,_,rfl,_,SqT.of er',_,rfl,_,rfl,_,SqT.of eb',_,rfl,_,rfl,_,rfl,hR _ (Same.refl _)⟩)
  refine⟨F1,rfl,_,.inl ⟨SqL.of eF1,λtq ntq=>⟨by decide,λLw nLw=>⟨⟨_,SqL.of af⟩,?_⟩⟩⟩⟩;have u3:=ao ntq (.tup (([(ar h l).1,(ar h l).2.1,(ar h l).2.2]:List Int).map V.int));have u4:=ao nLw (.lst [V.ref pb,V.ref tq]);have et3:=u4 _ _ (af (H:=H2) (a:=tq) (o:=.tup (([(ar h l).1,(ar h l).2.1,(ar h l).2.2]:List Int).map V.int)));have eL3:=af (H:=L2.upd H2 tq (.tup (([(ar h l).1,(ar h l).2.1,(ar h l).2.2]:List Int).map V.int))) (a:=Lw) (o:=.lst [V.ref pb,V.ref tq]);have s3:=s2.trans (u3.trans u4);have eb3:=s3 _ _ eb;generalize L2.upd (L2.upd H2 tq (.tup (([(ar h l).1,(ar h l).2.1,(ar h l).2.2]:List Int).map V.int))) Lw (.lst [V.ref pb,V.ref tq])=H3 at u4 et3 eL3 s3 eb3 ⊢;clear u3 u4 nLw ntq eF1 nF1 nD1 s2 H2;have bn:Bd 31 (n:Int):=(Bd.of_lt (m:=32) (show (n:Int).natAbs<32 by omega) (by decide):Bd 5 (n:Int)).mono (by decide);have bk:Bd 31 (k:Int):=(Bd.of_lt (m:=32) (show (k:Int).natAbs<32 by omega) (by decide):Bd 5 (k:Int)).mono (by decide);have lxb:∀j,lX h l far n k j<=300:=λj=>by
   obtain⟨w1,w2,w3,w4,w5,w6⟩:=eS ho j;obtain⟨_,m0,m1⟩:=jI ho f2 bn bk j;unfold lX atF;have g1:(aE h l j).1*(n:Int)<=6*(n:Int):=dQ w2 (by omega);have g2:(aE h l j).2.1*(k:Int)<=6*(k:Int):=dQ w4 (by omega);omega
  obtain⟨Pv,hPv⟩:∃Pv:Nat->L2.St->Hp->Prop,∀j σ H',Pv j σ H'↔∃(r7 r8:Option V),σ=[some (V.ref r),some (V.int (far:Int)),some (V.int (n:Int)),some (V.int (k:Int)),none,none,some (V.int (bI h l far n k j)),r7,r8]∧(∀i,i<j->0<=lX h l far n k i)∧Bd (3001*(j+1)) (bI h l far n k j)∧Same H3 H':=⟨_,λ_ _ _=>Iff.rfl⟩
  refine dA (xs:=[V.ref pb,V.ref tq]) Pv ((hPv _ _ _).mpr ⟨none,none,rfl,λi hi=>by omega,Bd.one (by decide),Same.refl _⟩) (λi σ H' _ z=>by obtain⟨_,_,_,_,_,z⟩:=(hPv i σ H').mp z;exact SqL.of (z _ _ eL3)) ?_ ?_
  ·intro j v σ H' hv hp;obtain⟨r7,r8,rfl,pos,bb,sS⟩:=(hPv _ _ _).mp hp;obtain⟨a,rfl,ha,j2⟩:∃a,v=V.ref a∧H3 a=some (T3 (aE h l j))∧j<2:=by
    have j2:j<2:=by have:=(be.mp hv).1;simpa using this
    have j3:j=0∨j=1:=by omega
    rcases j3 with rfl|rfl <;> cases hv
    ·exact⟨pb,rfl,eb3,j2⟩
    ·exact⟨tq,rfl,et3,j2⟩
   obtain⟨w1,w2,w3,w4,w5,w6⟩:=eS ho j;have y1:Bd 8 (aE h l j).1:=Bd.of_lt (m:=256) (by omega) (by decide);have y2:Bd 8 (aE h l j).2.1:=Bd.of_lt (m:=256) (by omega) (by decide);have ha':=sS _ _ ha;have f4:Bd 4 (far:Int):=Bd.of_lt (m:=16) (show (far:Int).natAbs<16 by omega) (by decide);have em:(far:Int)*(if 0 > (aE h l j).1 then 0 else (aE h l j).1)=mx ((far:Int)*(aE h l j).1):=by
    unfold mx;have i2:far=0∨far=1∨far=2:=by omega
    rcases i2 with rfl|rfl|rfl <;> (split <;> split <;> omega)
   have bmx:Bd 8 (if 0 > (aE h l j).1 then 0 else (aE h l j).1):=by split;exact Bd.zero _;exact y1
   k_units
   refine⟨a,aE h l j,n,k,rfl,SqT.of ha',y1.mono (by decide),y2.mono (by decide),bn.mono (by decide),bk.mono (by decide),?_⟩;refine⟨_,SqT.of ha',_,rfl,_,rfl,f4.fits bmx (by decide),?_⟩;rw[em];refine⟨_,rfl,bC (λz=>⟨by decide,λp np=>?_⟩) (λz=>?_)⟩
   ·refine q _ _ ((s3.trans sS).trans (ao np _)) ?_;have e:duF (.cho h l) far n k=(0,1):=by
     show duC _ (lX h l far n k 0) (lX h l far n k 1)=_;unfold duC;refine if_pos ?_;have j3:j=0∨j=1:=by omega
     rcases j3 with rfl|rfl
     ·exact .inl z
     ·exact .inr z
    rw[af,e]
   have z':¬lX h l far n k j<0:=z;have zb:=lxb j;refine⟨0,1,lX h l far n k j,rfl,Bd.zero _,by decide,by decide,by omega,by omega,?_⟩;rw[GP];have fb:Bd 3001 ((fct (lX h l far n k j).toNat:Nat):Int):=sR (by omega);refine⟨_,rfl,bb.fits fb (by omega),(hPv _ _ _).mpr ⟨some (V.ref a),some (V.int (lX h l far n k j)),rfl,λi hi=>?_,(bb.mul fb).mono (by omega),sS⟩⟩;by_cases ij:i=j
   ·rw[ij];omega
   ·exact pos i (by omega)
  intro σ H' hp;obtain⟨r7,r8,rfl,pos,bb,sS⟩:=(hPv _ _ _).mp hp
  k_units
  have s13:=s3.trans sS;obtain⟨⟨c1,c2,c3⟩,_⟩:=eR ho;obtain⟨⟨a1,a2,a3,a4,a5,a6⟩,_⟩:=id ho;have hU:0<=atF h n k∧atF h n k<=300:=by
   unfold atF;have g1:h.1*(n:Int)<=3*(n:Int):=dQ a2 (by omega);have g2:h.2.1*(k:Int)<=3*(k:Int):=dQ a4 (by omega);have g3:0<=h.1*(n:Int):=Aw a1 (by omega);have g4:0<=h.2.1*(k:Int):=Aw a3 (by omega);omega
  refine⟨_,SqT.of (s13 _ _ er),_,rfl,pa,h,n,k,rfl,SqT.of (s13 _ _ ea),c1.mono (by decide),c2.mono (by decide),bn.mono (by decide),bk.mono (by decide),0,1,atF h n k,rfl,Bd.zero _,by decide,by decide,by omega,by omega,?_⟩;rw[GP];refine⟨by decide,λp np=>q _ _ (s13.trans (ao np _)) ?_⟩;have e:duF (.cho h l) far n k=(((fct (atF h n k).toNat:Nat):Int),bI h l far n k 2):=by
   show duC _ (lX h l far n k 0) (lX h l far n k 1)=_;unfold duC;have p0:=pos 0 (by simp);have p1:=pos 1 (by simp);rw[if_neg (by omega)];show _=(_,1*_*_)
   rw[g8]
  rw[af,e]
def duV (far:Nat)(n k:Int)(p:Prt)(t:Nat):Int:=if t<far+1 then evD (stD p t far) n k else if t=far+1 then evD (upD p far) n k else evD (dnD p far) n k
theorem GQ (p:Prt)(far:Nat)(n k:Int):cH p far n k=(aR (far+3)).map (duV far n k p):=by
 rw[gl,gl,aM,aM,jK];unfold cH;congr 1
 ·refine jP λt ht=>?_;have:=cM.mp ht;unfold duV;rw[if_pos this]
 ·show _=[duV far n k p (far+1),duV far n k p (far+2)]
  unfold duV;rw[if_neg (by omega),if_pos rfl,if_neg (by omega),if_neg (by omega)]
def cZ (ps:List Prt)(far:Nat)(n k:Int):List Int:=(aR (far+3)).map λt=>prI (ps.map λp=>duV far n k p t)
theorem jJ (ps:List Prt)(far:Nat)(n k:Int):(cZ ps far n k).length=far+3:=by unfold cZ;simp
theorem Pk {ps:List Prt}{far t:Nat}{n k:Int}(h:t<far+3):(cZ ps far n k)[t]?=some (prI (ps.map λp=>duV far n k p t)):=by unfold cZ;rw[aQ,fR h];rfl
theorem Pl (far:Nat)(n k:Int):cZ [] far n k=bK (far+3) 1:=by
 unfold cZ;show (aR (far+3)).map (λ_=>(1:Int))=_;rw[List.map_const',e7]
theorem Pm {p:Prt}{far:Nat}{n k:Int}(ho:bJ p)(f2:far<=2)(bn:Bd 31 n)(bk:Bd 31 k):∀v∈cH p far n k,Bd 3400 v:=by
 match p,ho with
 | .cho h l,ho=>
  rw[←GH ho f2];intro v hv;rcases cx.mp hv with h1|h1
  ·obtain⟨i,hi,rfl⟩:=bw.mp h1;have:=cM.mp hi;exact (z9 ho f2 bn bk (by omega) 2).mono (by decide)
  ·simp only[aH,ck,or_false]at h1;rcases h1 with rfl|rfl
   ·exact (z_ ho f2 bn bk 2).mono (by decide)
   ·exact (Aa ho f2 bn bk 2).mono (by decide)
 | .wei f,⟨o1,o2,o3⟩=>
  intro v hv;unfold cH at hv;rcases cx.mp hv with h1|h1
  ·obtain⟨i,hi,rfl⟩:=bw.mp h1;have:=cM.mp hi;show Bd 3400 (evD (fmD f.1 f.2.1 (f.2.2+(i:Int)*f.1)) n k);rw[zE];have bi:Bd 9 (i:Int):=Bd.of_lt (m:=512) (by omega) (by decide);exact (((o1.mul bn).add (o2.mul bk)).add (((o3.mono (by decide:300<=309)).add (bi.mul o1)).mono (by decide))).mono (by decide)
  ·simp only[aH,ck,or_false]at h1;rcases h1 with rfl|rfl <;> (show Bd 3400 (evD onD n k);rw[gd];exact Bd.one (by decide))
 | .pow f,⟨_,_,o1,o2⟩=>
  intro v hv;unfold cH at hv;rcases cx.mp hv with h1|h1
  ·obtain⟨i,hi,rfl⟩:=bw.mp h1;show Bd 3400 (evD onD n k);rw[gd];exact Bd.one (by decide)
  ·simp only[aH,ck,or_false]at h1;rcases h1 with rfl|rfl
   ·show Bd 3400 (evD (kD f.1) n k);rw[gL];exact o1.mono (by decide)
   ·show Bd 3400 (evD (kD f.2) n k);rw[gL];exact o2.mono (by decide)
 | .gro f,⟨_,_,o1,o2⟩=>
  intro v hv;unfold cH at hv;rcases cx.mp hv with h1|h1
  ·obtain⟨i,hi,rfl⟩:=bw.mp h1;have:=cM.mp hi;show Bd 3400 (evD (kD (f.1 ^ i*f.2 ^ (far-i))) n k);rw[gL];exact ((bO o1 i).mul (bO o2 (far-i))).mono (by omega)
  ·simp only[aH,ck,or_false]at h1;rcases h1 with rfl|rfl <;> (show Bd 3400 (evD onD n k);rw[gd];exact Bd.one (by decide))
theorem GR {p:Prt}{far t:Nat}{n k:Int}(ho:bJ p)(f2:far<=2)(bn:Bd 31 n)(bk:Bd 31 k)(ht:t<far+3):Bd 3400 (duV far n k p t):=
 Pm ho f2 bn bk _ (by rw[GQ];exact bw.mpr ⟨t,cM.mpr ht,rfl⟩)
theorem GS {B:Nat}:∀(m:Nat) (xs:List Int),xs.length=m->(∀x∈xs,Bd B x)->Bd (B*m+1) (prI xs)
 | 0,xs,h,_=>by obtain rfl:=eY h;exact Bd.one (by omega)
 | m+1,xs,h,hb=>by
  obtain⟨ys,y,rfl⟩:∃gs g,xs=gs++[g]:=⟨xs.dropLast,xs.getLast (λz=>by rw[z]at h;simp at h),(eZ _).symm⟩
  rw[sw];exact ((GS m ys (by simpa using h) λx hx=>hb x (fP _ hx)).mul (hb y (by simp))).mono (by rw[tz];omega)
theorem Pn {ps:List Prt}{far t:Nat}{n k:Int}(ho:∀p∈ps,bJ p)(l6:ps.length<=6)(f2:far<=2)(bn:Bd 31 n)(bk:Bd 31 k)(ht:t<far+3):Bd 20401 (prI (ps.map λp=>duV far n k p t)):=
 (GS _ _ (aB ..) λx hx=>by obtain⟨p,hp,rfl⟩:=bw.mp hx;exact GR (ho p hp) f2 bn bk ht).mono (by omega)
theorem GT:∀(m:Nat) (zs ds:List (Int×Int)),zs.length=m->ds.length=m->(∀(i:Nat) (z d:Int×Int),zs[i]?=some z->ds[i]?=some d->z.1*d.2=d.1*z.2)->(bP zs).1*(bP ds).2=(bP ds).1*(bP zs).2
 | 0,zs,ds,h1,h2,_=>by obtain rfl:=eY h1;obtain rfl:=eY h2;rfl
 | m+1,zs,ds,h1,h2,hc=>by
  obtain⟨ys,y,rfl⟩:∃gs g,zs=gs++[g]:=⟨zs.dropLast,zs.getLast (λz=>by rw[z]at h1;simp at h1),(eZ _).symm⟩
  obtain⟨es,e,rfl⟩:∃gs g,ds=gs++[g]:=⟨ds.dropLast,ds.getLast (λz=>by rw[z]at h2;simp at h2),(eZ _).symm⟩
  have l1:ys.length=m:=by simpa using h1
  have l2:es.length=m:=by simpa using h2
  have ih:=GT m ys es l1 l2 λi z d e1 e2=>hc i z d (by rw[cK (be.mp e1).1];exact e1) (by rw[cK (be.mp e2).1];exact e2);have c:=hc m y e (by rw[←l1,cO (aw _),hJ];rfl) (by rw[←l2,cO (aw _),hJ];rfl);rw[gG,gG];show (bP ys).1*y.1*((bP es).2*e.2)=(bP es).1*e.1*((bP ys).2*y.2);grind
theorem GU:∀(m:Nat) (zs:List (Int×Int)),zs.length=m->(∀z∈zs,1<=z.2)->(bP zs).2≠0
 | 0,zs,h,_=>by obtain rfl:=eY h;decide
 | m+1,zs,h,hz=>by
  obtain⟨ys,y,rfl⟩:∃gs g,zs=gs++[g]:=⟨zs.dropLast,zs.getLast (λz=>by rw[z]at h;simp at h),(eZ _).symm⟩
  rw[gG];have i:=GU m ys (by simpa using h) λz hz'=>hz z (fP _ hz');have j:=hz y (by simp);exact IG i (by omega)
theorem Po {far n k:Nat}{ps:List Prt}{zs:List (Int×Int)}(h:Flos far n k ps zs):Frc (bq zs)∧(bq zs).1*(bP (ps.map λp=>duF p far n k)).2=(bP (ps.map λp=>duF p far n k)).1*(bq zs).2∧Bd (20000*ps.length+1) (bq zs).1∧Bd (650*ps.length+1) (bq zs).2:=by
 have all:∀z∈zs,∃p∈ps,gQ p far n k z:=λz hz=>by
  obtain⟨i,hi,rfl⟩:=IE hz;have hp:i<ps.length:=by rw[←h.len];exact hi
  exact⟨ps[i],eX hp,h.get i _ _ (aJ hp) (aJ hi)⟩
 have frc:∀z∈zs,Frc z:=λz hz=>by obtain⟨p,_,f⟩:=all z hz;exact f.1
 obtain⟨d1,d2⟩:=FS zs frc;have c:=GT zs.length zs (ps.map λp=>duF p far n k) rfl (by rw[aB,h.len]) λi z d e1 e2=>by
  rw[aQ]at e2;obtain⟨p,hp,rfl⟩:=cc.mp e2;exact GO (h.get i p z hp e1)
 have z0:=GU zs.length zs rfl λz hz=>(frc z hz).1;have b:=N8 (B:=650) zs λz hz=>by obtain⟨p,_,f⟩:=all z hz;exact⟨f.1,f.2.1,f.2.2.1⟩
 rw[h.len]at b;refine⟨d1,?_,b⟩;refine IB z0 ?_;generalize bP (ps.map λp=>duF p far n k)=D at *;generalize bP zs=Z at *;generalize bq zs=P at *;grind
theorem GV {h l:Int×Int×Int}{far n k:Nat}(ho:cF h l)(f2:far<=2)(n2:n<=20)(k2:k<=20)(j:Nat):lX h l far n k j<=300:=by
 have bn:Bd 31 (n:Int):=(Bd.of_lt (m:=32) (show (n:Int).natAbs<32 by omega) (by decide):Bd 5 (n:Int)).mono (by decide);have bk:Bd 31 (k:Int):=(Bd.of_lt (m:=32) (show (k:Int).natAbs<32 by omega) (by decide):Bd 5 (k:Int)).mono (by decide);obtain⟨w1,w2,w3,w4,w5,w6⟩:=eS ho j;obtain⟨_,m0,m1⟩:=jI ho f2 bn bk j;unfold lX atF;have g1:(aE h l j).1*(n:Int)<=6*(n:Int):=dQ w2 (by omega);have g2:(aE h l j).2.1*(k:Int)<=6*(k:Int):=dQ w4 (by omega);omega
theorem Ac {p:Prt}{far n k:Nat}(ho:bJ p)(f2:far<=2)(n2:n<=20)(k2:k<=20):Bd 20000 (duF p far n k).1∧Bd 6100 (duF p far n k).2:=by
 match p,ho with
 | .cho h l,ho=>
  show Bd 20000 (duC _ (lX h l far n k 0) (lX h l far n k 1)).1∧Bd 6100 (duC _ (lX h l far n k 0) (lX h l far n k 1)).2;have x0:=GV ho f2 n2 k2 0;have x1:=GV ho f2 n2 k2 1;unfold duC
  split
  ·exact⟨Bd.zero _,Bd.one (by decide)⟩
  obtain⟨⟨a1,a2,a3,a4,a5,a6⟩,_⟩:=id ho;have hU:atF h n k<=300:=by
   unfold atF;have g1:h.1*(n:Int)<=3*(n:Int):=dQ a2 (by omega);have g2:h.2.1*(k:Int)<=3*(k:Int):=dQ a4 (by omega);omega
  exact⟨(sR (by omega)).mono (by decide),((sR (m:=(lX h l far n k 0).toNat) (by omega)).mul (sR (m:=(lX h l far n k 1).toNat) (by omega))).mono (by decide)⟩
 | .wei _,_=>exact⟨Bd.one (by decide),Bd.one (by decide)⟩
 | .pow f,⟨_,_,o1,o2⟩=>exact⟨(bO o1 k).mono (by omega),(bO o2 k).mono (by omega)⟩
 | .gro f,⟨_,_,o1,o2⟩=>exact⟨(bO o1 n).mono (by omega),((bO o2 n).mul (bO o2 far)).mono (by omega)⟩
theorem Pp (xs ys:List Int):PyData.eqv (.list (xs.map PyData.int)) (.list (ys.map PyData.int))=decide (xs=ys):=by simp[PyData.eqv,EB]
theorem GW (xs:List Int):PyData.canLay0 (.list (xs.map PyData.int))=true:=by simp[PyData.canLay0,EC]
theorem Pq (xs:List Int):PyData.depth (.list (xs.map PyData.int))<=64:=by simp[PyData.depth,ED]
theorem Pr {K:W.Frag}{a:Addr}{as:List Addr}{ns:List Int}{fv:List (Nat×Str)}{te:TE}{Q:VK}{σ:L2.St}{H1:Hp}{D:Addr}(nD:H1 D=none) (hA:SqL K H1 a (as.map V.ref)) (hd:ns.length=as.length) (hl:ns.length<=900)
  (hs:∀(i:Nat) (q:Addr) (v:Int) (Hx:Hp) (R:VK),as[i]?=some q->ns[i]?=some v->Same H1 Hx->(∀H',Same Hx H'->R (.int v) H')->te (bst fv σ (some (V.ref q))) Hx R) (he:gw H1 Q (ns.map V.int)):fy (Itl K a) fv te Q σ H1 D:=by
 obtain⟨Pc,hPc⟩:∃Pc:Nat->Hp->Prop,∀j Hx,Pc j Hx↔Hx D=some (.lst ((ns.take j).map V.int))∧Same H1 Hx:=⟨_,λ_ _=>Iff.rfl⟩
 refine eE (xs:=as.map V.ref) Pc ((hPc _ _).mpr ⟨af,ao nD _⟩) (λi Hx _ z=>by obtain⟨_,z⟩:=(hPc i Hx).mp z;exact z.seq hA) ?_ ?_
 ·intro j v Hx hv hc;obtain⟨k1,k3⟩:=(hPc _ _).mp hc;rw[aQ]at hv;obtain⟨q,hq,rfl⟩:=cc.mp hv;have hj:j<ns.length:=by have:=(be.mp hq).1;omega
  refine hs j q _ Hx _ hq (aJ hj) k3 λH2 s2=>?_;refine⟨_,s2 _ _ k1,by rw[aB,cB];exact bB (by omega),(hPc _ _).mpr ⟨?_,(k3.trans s2).more nD⟩⟩;rw[af,←dm hj,aM];rfl
 intro Hx hc;obtain⟨k1,k3⟩:=(hPc _ _).mp hc;rw[aB,←hd,c_]at k1;exact he D Hx k3 nD k1
structure FrAt (H:Hp)(F L U W:Addr)(as:List Addr)(fs:List PD)(f g:PD):Prop where
 tp:H F=some (.tup [.ref L,.ref U,.ref W])
 ls:H L=some (.lst (as.map V.ref))
 ds:DHs H as fs
 up:H U=some (.dT (dz f))
 dn:H W=some (.dT (dz g))
theorem FrAt.on {H H':Hp}{F L U W:Addr}{as:List Addr}{fs:List PD}{f g:PD}(h:FrAt H F L U W as fs f g)(s:Same H H'):FrAt H' F L U W as fs f g:=⟨s _ _ h.tp,s _ _ h.ls,h.ds.on s,s _ _ h.up,s _ _ h.dn⟩
structure FrOk (ps:List Prt)(far:Nat)(fs:List PD)(f g:PD):Prop where
 len:fs.length=far+1
 pd:∀x,(x∈fs∨x=f∨x=g)->(∃d B,PdOk d B x∧d<=60∧B<=1000000)∧Nz x
 ev:∀(i:Nat) (x:PD),fs[i]?=some x->∀n k:Int,evD x n k=prI (ps.map λp=>evD (stD p i far) n k)
 eu:∀n k:Int,evD f n k=prI (ps.map λp=>evD (upD p far) n k)
 ew:∀n k:Int,evD g n k=prI (ps.map λp=>evD (dnD p far) n k)
theorem FrOk.due {ps:List Prt}{far:Nat}{fs:List PD}{f g:PD}(h:FrOk ps far fs f g)(n k:Int):(fs++[f,g]).map (λx=>evD x n k)=cZ ps far n k:=by
 unfold cZ;rw[gl,gl,aM,aM,aM,jK];congr 1
 ·refine List.ext_getElem? λi=>?_;rw[aQ,aQ];by_cases hi:i<far+1
  ·have hf:i<fs.length:=by rw[h.len];exact hi
   rw[aJ hf,fR hi];show some (evD fs[i] n k)=some (prI (ps.map λp=>duV far n k p i));rw[h.ev i _ (aJ hf)];unfold duV;simp only[if_pos hi]
  ·rw[IF (by rw[h.len];omega),IF (by simp;omega)];rfl
 ·show [evD f n k,evD g n k]=[prI (ps.map λp=>duV far n k p (far+1)),prI (ps.map λp=>duV far n k p (far+2))]
  rw[h.eu,h.ew];unfold duV;simp only[if_neg (show ¬far+1<far+1 by omega),if_neg (show ¬far+2<far+1 by omega),if_neg (show ¬far+2=far+1 by omega),if_true]
def Ps {K:W.Frag}{mg:Str->Option Value}(T:Tx K mg)(H:Hp)(x:Addr)(ps:List Prt):Prop:=(∃H0 rs,TermAt T H0 H x rs ps)∨∃H0 p,ps=[p]∧PcAt T H0 H x p
def Pt {K:W.Frag}{mg:Str->Option Value}(T:Tx K mg):Sp:=λvs H Q _=>∃(B F x L U W:Addr) (as rs:List Addr) (ps:List Prt) (fs:List PD) (f g:PD) (far:Nat) (n k:Int),vs=[.ref B,.ref F,.ref x,.int (far:Int),.int n,.int k]∧
 H B=some (.lst (rs.map V.ref))∧Pts H rs ps∧ps.length<=6∧(∀p∈ps,bJ p)∧far<=2∧Bd 31 n∧Bd 31 k∧FrAt H F L U W as fs f g∧FrOk ps far fs f g∧Ps T H x ps∧∀H',Same H H'->Q (.bl true) H'
theorem Pts.on' {H H':Hp}{rs:List Addr}{ps:List Prt}(h:Pts H rs ps)(s:Same H H'):Pts H' rs ps:=⟨h.len,λi r p e1 e2=>by
 have:=h.get i r p e1 e2
 match p,this with
 | .cho _ _,⟨a,b,h1,h2,h3⟩=>exact⟨a,b,s _ _ h1,s _ _ h2,s _ _ h3⟩
 | .wei _,⟨a,h1,h2⟩=>exact⟨a,s _ _ h1,s _ _ h2⟩
 | .pow _,⟨a,h1,h2⟩=>exact⟨a,s _ _ h1,s _ _ h2⟩
 | .gro _,⟨a,h1,h2⟩=>exact⟨a,s _ _ h1,s _ _ h2⟩⟩
theorem Ad {P:Program}{w:World}{K:W.Frag}{mg:Str->Option Value}{base:Heap}(T:Tx K mg):FnOk P w K mg base CX0 18 T.S5 T.S6 ["_law_parts_here","_law_frame","_law_term","_law_far","_law_n","_law_k"] (Pt T):=by
 refine T.Rh.ok sc__law_meets (λvs H Q E h=>?_) (λcdv A outer s H vs Q E hr h=>?_)
 ·obtain⟨B,F,x,L,U,W,as,rs,ps,fs,f,g,far,n,k,rfl,_⟩:=h;rfl
 obtain⟨B,F,x,L,U,W,as,rs,ps,fs,f,g,far,n,k,rfl,eB,hP,l6,ok,f2,bn,bk,fA,fO,hT,q⟩:=h;refine⟨_,((am (ax (i:=6) sc__law_meets.nd rfl (Or.inl rfl) (ag Et (bT (aa ac ae)) (ag aI (pv 3) ac)))
  (am (ax (i:=7) sc__law_meets.nd rfl (Or.inl rfl) (aK (aa ac (aa ac ae))))
  (am (bL PassesOwn.never rfl (bY (pv 0)) (aS (i:=8) sc__law_meets.nd rfl (Or.inl rfl)) (ak (Ff (i:=6) rfl (zi rfl bZ rn) (K3 rfl T.VF (aa (pv 6) (aa (au (FnOk.mono (Pe T) (by decide)) hr rfl T.V8 T.UV.kp T.V9 .nil ai (aa (pv 8) (aa (pv 3) (aa (pv 4) (aa (pv 5) ae))))) ae))) (λ_ _ _ _=>(ag aT (pv 0) (pv 1))) sc__law_meets.nd rfl rfl)))
  (am (aF (aD (EA hr.units) (cD rfl (cu rfl (bu rfl (bu rfl bZ)) (bG 4 "_law_n" (by decide) rfl (Or.inl rfl) (Or.inl rfl) ⟨_,rfl⟩ (bG 5 "_law_k" (by decide) rfl (Or.inl rfl) (Or.inl rfl) ⟨_,rfl⟩ cq))) (bY (ag fw (ah aj (pv 1) ac (λ_ _=>rfl)) (bT (aa (ah aj (pv 1) ac (λ_ _=>rfl)) (aa (ah aj (pv 1) ac (λ_ _=>rfl)) ae))))) (λ_ _ _ _=>(au (FnOk.mono (O8 T) (by decide)) hr rfl T.V4 T.UT.kp T.V5 .nil ai (aa (pv 0) (aa (pv 1) (aa (pv 2) ae)))))) (pv 6) (aC _)) (ak (av cm)) aG)
  (am (aF (PW.pt (cn (aD dw (a0 (DL rfl) rfl T.Ro qP (aa (pv 4) (aa (pv 5) ae))) ac (aC _)) (de (aD fV (a0 (fX rfl) rfl T.QI f_ (aa (pv 4) (aa (pv 5) ae))) ac (aC _))))) (ak (av cm)) aG)
  (am (bL PassesOwn.never rfl (bY (pv 0)) (aS (i:=8) sc__law_meets.nd rfl (Or.inl rfl)) (am (ax (i:=9) sc__law_meets.nd rfl (Or.inl rfl) (au (FnOk.mono (Pj T) (by decide)) hr rfl T.V_ T.UW.kp T.Wa .nil ai (aa (pv 8) (aa (pv 3) (aa (pv 4) (aa (pv 5) ae))))))
  (ak (ax (i:=7) sc__law_meets.nd rfl (Or.inl rfl) (aK (aa (ag aT (ah aj (pv 7) ac (λ_ _=>rfl)) (ah aj (pv 9) ac (λ_ _=>rfl))) (aa (ag aT (ah aj (pv 7) ac (λ_ _=>rfl)) (ah aj (pv 9) ac (λ_ _=>rfl))) ae)))))))
  (ak (av (au (FnOk.mono (O1 T) (by decide)) hr rfl T.V0 T.UP.kp T.V1 .nil ai (aa (bH (aL (pv 2) T.Qk T.Ul (FnOk.mono (zN T) (by decide)) hr T.TB .nil ai (aa (pv 4) (aa (pv 5) (aa (pv 3) ae)))) (bH (aL (pv 2) T.Qq T.VD (FnOk.mono (zU T) (by decide)) hr T.Tg .nil ai (aa (pv 4) (aa (pv 5) (aa (pv 3) ae)))) (bH (aL (pv 2) T.Qp T.Vx (FnOk.mono (Gn T) (by decide)) hr T.Va .nil ai (aa (pv 4) (aa (pv 5) (aa (pv 3) ae)))) (bH (aL (pv 2) T.Ql T.Vn (FnOk.mono (Gr T) (by decide)) hr T.Vd .nil ai (aa (pv 4) (aa (pv 5) (aa (pv 3) ae)))) (aL (pv 2) T.Qr T.WZ (FnOk.mono (OE T) (by decide)) hr T.WK .nil ai (aa (pv 4) (aa (pv 5) (aa (pv 3) ae)))))))) (aa (pv 7) ae)))))))))))),?_⟩
 dsimp only[az]
 k_typeOf
 refine⟨by decide,λp0 n0=>⟨_,af,by omega,by omega,by simp only[cb,dE];exact cJ (bB (by omega)),λD0 nD0=>?_⟩⟩;rw[show ((far:Int)+3).toNat=far+3 by omega,GM,←Pl far n k];have u0:=(ao n0 (.lst [V.int 1])).trans (ao nD0 (.lst ((cZ [] far n k).map V.int)));have eD0:=af (H:=L2.upd H p0 (.lst [V.int 1])) (a:=D0) (o:=.lst ((cZ [] far n k).map V.int));generalize L2.upd (L2.upd H p0 (.lst [V.int 1])) D0 (.lst ((cZ [] far n k).map V.int))=H1 at u0 eD0 ⊢;dsimp only[az]
 k_typeOf
 refine⟨by decide,λt1 nt1=>?_⟩;have u1:=ao nt1 (.tup [V.int 1,V.int 1]);have et1:=af (H:=H1) (a:=t1) (o:=.tup [V.int 1,V.int 1]);have eD1:=u1 _ _ eD0;have s1:=u0.trans u1;generalize L2.upd H1 t1 (.tup [V.int 1,V.int 1])=H2 at u1 et1 eD1 s1 ⊢;clear u0 eD0 u1 nt1 nD0 n0;dsimp only[az]
 k_typeOf
 refine⟨⟨_,SqL.of (s1 _ _ eB)⟩,?_⟩;obtain⟨Pv,hPv⟩:∃Pv:Nat->L2.St->Hp->Prop,∀j σ H',Pv j σ H'↔∃(D:Addr) (r8:Option V),σ=[some (V.ref B),some (V.ref F),some (V.ref x),some (V.int (far:Int)),some (V.int n),some (V.int k),some (V.ref D),some (V.ref t1),r8,none]∧H' D=some (.lst ((cZ (ps.take j) far n k).map V.int))∧Same H2 H':=⟨_,λ_ _ _=>Iff.rfl⟩
 refine dA (xs:=rs.map V.ref) Pv ((hPv _ _ _).mpr ⟨D0,none,rfl,by rw[IC];exact eD1,Same.refl _⟩) (λi σ H' _ z=>by obtain⟨_,_,_,_,z⟩:=(hPv i σ H').mp z;exact SqL.of (z _ _ (s1 _ _ eB))) ?_ ?_
 ·intro j v σ H' hv hp;obtain⟨D,r8,rfl,eD,sS⟩:=(hPv _ _ _).mp hp;rw[aQ]at hv;obtain⟨r,hr',rfl⟩:=cc.mp hv;have jl:j<ps.length:=by rw[←hP.len];exact (be.mp hr').1
  have hp1:=(hP.on' (s1.trans sS)).get j r _ hr' (aJ jl);have ok1:=ok _ (eX jl)
  k_units
  refine⟨r,ps[j],far,n,k,rfl,hp1,ok1,f2,bn,bk,λG H3 s3 nG eG=>⟨G,rfl,_,SqL.of (s3 _ _ eD),_,SqL.of eG,λD2 nD2=>?_⟩⟩;refine O_ (as:=cZ (ps.take j) far n k) (bs:=cH ps[j] far n k) (ns:=cZ (ps.take (j+1)) far n k) nD2 (SqL.of (s3 _ _ eD)) (SqL.of eG) (by rw[jJ,jJ]) (by rw[jJ,OY]) (by rw[jJ];omega) (λi q1 r1 v Hx R hq hr1 hv1 sx hR=>?_) (λF5 H5 s5 nF5 eF5=>(hPv _ _ _).mpr ⟨F5,some (V.ref r),rfl,eF5,(sS.trans s3).trans s5⟩);have il:i<far+3:=by have:=(be.mp hq).1;rwa [jJ]at this
  rw[Pk il]at hq hv1;rw[GQ,aQ,fR il]at hr1
  cases hq;cases hr1
  have e:prI ((ps.take (j+1)).map λp=>duV far n k p i)=prI ((ps.take j).map λp=>duV far n k p i)*duV far n k ps[j] i:=by
   rw[←dm jl,aM];exact sw _ _
  have e2:=Option.some.inj hv1;rw[e]at e2
  (iterate 3 (k_units;(try simp only[bN]));k_units)
  refine⟨(Pn (λp hp=>ok p (P9 hp)) (by rw[cB];omega) f2 bn bk il).fits (GR ok1 f2 bn bk il) (by decide),?_⟩;rw[e2];exact hR _ (Same.refl _)
 intro σ H' hp;obtain⟨D,r8,rfl,eD,sS⟩:=(hPv _ _ _).mp hp;rw[aB,hP.len,c_]at eD;have s2:=s1.trans sS;have et2:=sS _ _ et1;clear hp hPv Pv eD1 et1 s1 sS;have fA2:=fA.on s2;dsimp only[az]
 k_typeOf
 refine⟨_,SqT.of fA2.tp,_,rfl,_,SqT.of fA2.tp,_,rfl,_,SqT.of fA2.tp,_,rfl,by decide,λp np=>?_⟩;have u3:=ao np (.lst [V.ref U,V.ref W]);refine⟨L,rfl,_,u3 _ _ fA2.ls,_,af,?_,λC nC=>?_⟩
 ·rw[aB,fA2.ds.len,fO.len];exact cJ (bB (by simp;omega))
 rw[show as.map V.ref++[V.ref U,V.ref W]=(as++[U,W]).map V.ref by rw[aM];rfl];have u4:=u3.trans (ao nC (.lst ((as++[U,W]).map V.ref)));have eC:=af (H:=L2.upd H' p (.lst [V.ref U,V.ref W])) (a:=C) (o:=.lst ((as++[U,W]).map V.ref));generalize L2.upd (L2.upd H' p (.lst [V.ref U,V.ref W])) C (.lst ((as++[U,W]).map V.ref))=H4 at u4 eC ⊢;refine⟨⟨_,SqL.of eC⟩,λD3 nD3=>?_⟩;have fA4:=fA2.on u4;have hD4:DHs H4 (as++[U,W]) (fs++[f,g]):=by
  have:=(fA4.ds.snoc fA4.up).snoc fA4.dn;rw[jK,jK]at this;exact this
 refine Pr (as:=as++[U,W]) (ns:=(fs++[f,g]).map λx=>evD x n k) nD3 (SqL.of eC) (by rw[aB,hD4.len]) (by rw[aB,b8,fO.len];simp;omega) (λi a v Hx R ha hv sx hR=>?_) (λF6 H6 s6 nF6 eF6=>?_)
 ·rw[aQ]at hv;obtain⟨y,hy,rfl⟩:=cc.mp hv;have my:=ci hy;obtain⟨⟨d,b,o1,o2,o3⟩,_⟩:=fO.pd y (by simp only[cx,aH,ck,or_false]at my;exact my)
  (iterate 3 (k_units;(try simp only[bst]));k_units)
  exact⟨_,rfl,_,rfl,a,y,d,b,n,k,rfl,.inl (sx _ _ (hD4.get i a y ha hy)),o1,o2,o3,bn,bk,λH' s'=>hR H' s'⟩
 rw[fO.due]at eF6;have s46:=u4.trans s6;refine⟨_,DV.ints (SqL.of eF6),_,DV.ints (SqL.of (s46 _ _ eD)),GW _,GW _,Pq _,?_⟩;rw[Pp,decide_eq_true rfl];rw[if_neg (by decide)];have s6':=s2.trans s46;have et6:=s46 _ _ et2;clear eC u4 u3 hD4 fA4 nD3 nC np eF6 nF6 eD fA2;dsimp only[az]
 k_typeOf
 refine bC (λz=>q _ s6') (λz=>bC (λy=>q _ s6') (λy=>?_));have hnk:0<=n∧n<=20∧0<=k∧k<=20:=by split at z <;> split at y <;> omega
 obtain⟨n',rfl⟩:∃m:Nat,n=(m:Int):=⟨n.toNat,by omega⟩
 obtain⟨k',rfl⟩:∃m:Nat,k=(m:Int):=⟨k.toNat,by omega⟩
 clear z y;dsimp only[az]
 k_typeOf
 refine⟨⟨_,SqL.of (s6' _ _ eB)⟩,?_⟩;obtain⟨Pv,hPv⟩:∃Pv:Nat->L2.St->Hp->Prop,∀j σ H',Pv j σ H'↔∃(t:Addr) (r8 r9:Option V),σ=[some (V.ref B),some (V.ref F),some (V.ref x),some (V.int (far:Int)),some (V.int (n':Int)),some (V.int (k':Int)),some (V.ref D),some (V.ref t),r8,r9]∧H' t=some (T2 (bP ((ps.take j).map λp=>duF p far n' k')))∧Same H6 H':=⟨_,λ_ _ _=>Iff.rfl⟩
 refine dA (xs:=rs.map V.ref) Pv ((hPv _ _ _).mpr ⟨t1,r8,none,rfl,et6,Same.refl _⟩) (λi σ H' _ z=>by obtain⟨_,_,_,_,_,z⟩:=(hPv i σ H').mp z;exact SqL.of (z _ _ (s6' _ _ eB))) ?_ ?_
 ·intro j v σ H' hv hp;obtain⟨t,r8,r9,rfl,et,sS⟩:=(hPv _ _ _).mp hp;rw[aQ]at hv;obtain⟨r,hr',rfl⟩:=cc.mp hv;have jl:j<ps.length:=by rw[←hP.len];exact (be.mp hr').1
  have hp1:=(hP.on' (s6'.trans sS)).get j r _ hr' (aJ jl);have ok1:=ok _ (eX jl)
  k_units
  refine⟨r,ps[j],far,n',k',rfl,hp1,ok1,f2,by omega,by omega,λm H3 s3 em=>?_⟩;have e:bP ((ps.take (j+1)).map λp=>duF p far n' k')=((bP ((ps.take j).map λp=>duF p far n' k')).1*(duF ps[j] far n' k').1,(bP ((ps.take j).map λp=>duF p far n' k')).2*(duF ps[j] far n' k').2):=by
   rw[←dm jl,aM];exact gG _ _
  have bd:=FT (B:=6100) ((ps.take j).map λp=>duF p far n' k') λf hf=>by
   obtain⟨p,hp,rfl⟩:=bw.mp hf;exact Ac (ok p (P9 hp)) f2 (by omega) (by omega)
  have bd1:=Ac (far:=far) (n:=n') (k:=k') ok1 f2 (by omega) (by omega);have lt:((ps.take j).map λp=>duF p far n' k').length<=6:=by rw[aB,cB];omega
  have et3:=s3 _ _ et
  k_units
  refine⟨_,SqT.of et3,_,rfl,_,SqT.of em,_,rfl,_,rfl,_,rfl,bd.1.fits bd1.1 (by omega),_,SqT.of et3,_,rfl,_,SqT.of em,_,rfl,_,rfl,_,rfl,bd.2.fits bd1.2 (by omega),by decide,λt5 n5=>(hPv _ _ _).mpr ⟨t5,some (V.ref r),some (V.ref m),rfl,?_,(sS.trans s3).trans (ao n5 _)⟩⟩;rw[af,e]
 intro σ H' hp;obtain⟨t,r8',r9,rfl,et,sS⟩:=(hPv _ _ _).mp hp;rw[aB,hP.len,c_]at et;have s7:=s6'.trans sS;have bd:=FT (B:=6100) (ps.map λp=>duF p far n' k') λf hf=>by
  obtain⟨p,hp,rfl⟩:=bw.mp hf;exact Ac (ok p hp) f2 (by omega) (by omega)
 rw[aB]at bd;clear hp hPv Pv et6 s6' sS;dsimp only[az]
 k_typeOf
 have fin:∀zs,Flos far n' k' ps zs->∀r H'',Same H' H''->H'' r=some (T2 (bq zs))->z7 K [V.ref r,V.ref t] H'' Q E0:=λzs hz r H'' s8 e8=>by
  obtain⟨c1,c2,c3,c4⟩:=Po hz;exact⟨r,t,bq zs,_,rfl,e8,SqT.of (s8 _ _ et),c1,c2,c3.mono (by omega),c4.mono (by omega),bd.1.mono (by omega),bd.2.mono (by omega),q _ (s7.trans s8)⟩
 rcases hT with ⟨H0,rs',hT⟩|⟨H0,p,rfl,hc⟩
 ·have hT':=hT.on s7;obtain⟨dx,P1,P2,qs,h1,_⟩:=id hT';exact .inr (.inr (.inr (.inr ⟨dx,_,h1,rfl,x,H0,rs',ps,n',k',far,rfl,hT',l6,ok,f2,by omega,by omega,fin⟩)))
 ·have d:=GC (E:=E0) (Q:=λx H1=>z7 K [x,V.ref t] H1 Q E0) (PcAt.kp hc (kpS s7)) (ok p (by simp)) f2 (show n'<=30 by omega) (show k'<=31 by omega) λz hz r H'' s8 e8=>by
   have c:=GO hz;obtain⟨c1,c2,c3,_⟩:=id hz;refine⟨r,t,z,_,rfl,e8,SqT.of (s8 _ _ et),c1,?_,c2.mono (by decide),c3.mono (by decide),bd.1.mono (by simp),bd.2.mono (by simp),q _ (s7.trans s8)⟩;show z.1*(1*(duF p far n' k').2)=1*(duF p far n' k').1*z.2;rw[g8,g8];exact c
  rcases d with d|d|d|d
  ·exact .inl d
  ·exact .inr (.inl d)
  ·exact .inr (.inr (.inl d))
  ·exact .inr (.inr (.inr (.inl d)))
theorem PcAt.isPart {K:W.Frag}{mg:Str->Option Value}{T:Tx K mg}{H0 H:Hp}{q:Addr}{p:Prt}(h:PcAt T H0 H q p):∃C,TyOf K H (.ref q) (.ref C)∧PySem.W.kitOne K (.ref C) (.ref T.Qo)=some true:=by
 match p,h with
 | .cho f l,⟨dx,a,L,b,t,h1,_⟩=>exact⟨_,T.WP.ty T.Qk h1,T.W5⟩
 | .wei f,⟨dx,a,h1,_⟩=>exact⟨_,T.W4.ty T.Qq h1,T.W6⟩
 | .pow f,⟨dx,a,h1,_⟩=>exact⟨_,T.WW.ty T.Qp h1,T.W7⟩
 | .gro f,⟨dx,a,h1,_⟩=>exact⟨_,T.WR.ty T.Ql h1,T.W8⟩
theorem GX (f:PD):Nz (nzD f):=λx hx=>by simpa using (Ah.mp hx).2
theorem gT:Nz onD:=λx hx=>by simp[onD]at hx;subst hx;decide
theorem Ae {v:Int}(h:v≠0):Nz (kD v):=λx hx=>by simp[kD]at hx;subst hx;exact h
theorem sT (fs:List PD):Nz (pdD fs):=by
 rcases List.eq_nil_or_concat fs with rfl|⟨gs,g,rfl⟩
 ·exact gT
 ·rw[List.concat_eq_append,jr];exact GX _
theorem Af {x:Int}(h:x≠0):∀m:Nat,x ^ m≠0
 | 0=>by rw[gj];decide
 | m+1=>by rw[fQ];exact IG (Af h m) h
theorem Pu {p:Prt}(ho:bJ p)(i far:Nat):Nz (stD p i far):=by
 match p,ho with
 | .cho _ _,_=>exact sT _
 | .wei _,_=>exact GX _
 | .pow _,_=>exact gT
 | .gro f,⟨h1,h2,_,_⟩=>
  have:f.2≠0:=by have:=h1.1;omega
  exact Ae (IG (Af h2 _) (Af this _))
theorem GY {p:Prt}(ho:bJ p)(far:Nat):Nz (upD p far)∧Nz (dnD p far):=by
 match p,ho with
 | .cho _ _,_=>exact⟨sT _,sT _⟩
 | .wei _,_=>exact⟨gT,gT⟩
 | .pow f,⟨h1,h2,_,_⟩=>
  have:f.2≠0:=by have:=h1.1;omega
  exact⟨Ae h2,Ae this⟩
 | .gro _,_=>exact⟨gT,gT⟩
theorem GZ:∀p:Prt,dgF p<=12
 | .cho _ _=>aw 12
 | .wei _=>by show 1<=12;decide
 | .pow _=>aY _
 | .gro _=>aY _
theorem Ag (x:Int):prI [x]=x:=by show 1*x=x;rw[g8]
theorem Px {p:Prt}{far:Nat}(ho:bJ p)(f2:far<=2):FrOk [p] far ((aR (far+1)).map λi=>stD p i far) (upD p far) (dnD p far):=by
 have d12:=GZ p;have ud:=jD (far:=far) ho f2;refine⟨by simp,λx hx=>?_,λi x hx n k=>?_,λn k=>(Ag _).symm,λn k=>(Ag _).symm⟩
 ·rcases hx with hx|rfl|rfl
  ·obtain⟨i,hi,rfl⟩:=bw.mp hx;have:=cM.mp hi;exact⟨⟨_,_,zY ho (by omega) f2,by omega,by decide⟩,Pu ho i far⟩
  ·exact⟨⟨_,_,ud.1,by omega,by decide⟩,(GY ho far).1⟩
  ·exact⟨⟨_,_,ud.2,by omega,by decide⟩,(GY ho far).2⟩
 ·rw[aQ]at hx;obtain⟨j,hj,rfl⟩:=cc.mp hx;have:=be.mp hj;obtain⟨h1,h2⟩:=this;rw[Am]at h2;subst h2;exact (Ag _).symm
theorem fr_all {ps:List Prt}{far:Nat}(ok:∀p∈ps,bJ p)(l6:ps.length<=6)(sm:(ps.map dgF).sum<=60)(f2:far<=2):FrOk ps far ((aR (far+1)).map λi=>pdD (ps.map λp=>stD p i far)) (pdD (ps.map λp=>upD p far)) (pdD (ps.map λp=>dnD p far)):=by
 have one:∀g:Prt->PD,(∀p∈ps,PdOk (dgF p) 410 (g p))->((∃d B,PdOk d B (pdD (ps.map g))∧d<=60∧B<=1000000)∧Nz (pdD (ps.map g)))∧∀n k:Int,evD (pdD (ps.map g)) n k=prI (ps.map λp=>evD (g p) n k):=λg hg=>by
  refine⟨⟨⟨_,_,zS _ _ _ rfl (sN hg) sm,sm,?_⟩,sT _⟩,λn k=>?_⟩
  ·rw[aB];exact aP (P6 _ l6) (by decide)
  ·rw[(jt n k _ (ps.map g) 12 rfl λf hf=>by obtain⟨p,hp,rfl⟩:=bw.mp hf;exact sv (hg p hp).dg (GZ p)).1,s_];rfl
 have st:=λi (hi:i<=far)=>one (λp=>stD p i far) λp hp=>zY (ok p hp) hi f2;have u:=one (λp=>upD p far) λp hp=>(jD (ok p hp) f2).1;have d:=one (λp=>dnD p far) λp hp=>(jD (ok p hp) f2).2;refine⟨by simp,λx hx=>?_,λi x hx n k=>?_,u.2,d.2⟩
 ·rcases hx with hx|rfl|rfl
  ·obtain⟨i,hi,rfl⟩:=bw.mp hx;have:=cM.mp hi;exact (st i (by omega)).1
  ·exact u.1
  ·exact d.1
 ·rw[aQ]at hx;obtain⟨j,hj,rfl⟩:=cc.mp hx;obtain⟨h1,h2⟩:=be.mp hj;rw[Am]at h2;subst h2;rw[e7]at h1;exact (st i (by omega)).2 n k
def Py {K:W.Frag}{mg:Str->Option Value}(T:Tx K mg):Sp:=λvs H Q _=>∃(r:Addr) (p:Prt) (far:Nat) (n k:Int),vs=[.ref r,.int (far:Int),.int n,.int k]∧PtAt H r p∧bJ p∧far<=2∧Bd 31 n∧Bd 31 k∧∀H',Same H H'->Q (.bl true) H'
theorem PB {P:Program}{w:World}{K:W.Frag}{mg:Str->Option Value}{base:Heap}(T:Tx K mg):FnOk P w K mg base CX0 19 T.S9 T.S_ ["_law_part_here","_law_far","_law_n","_law_k"] (Py T):=by
 refine T.UX.ok sc__law_alone (λvs H Q E h=>?_) (λcdv A outer s H vs Q E hr h=>?_)
 ·obtain⟨r,p,far,n,k,rfl,_⟩:=h;rfl
 obtain⟨r,p,far,n,k,rfl,hp,ok,f2,bn,bk,q⟩:=h;refine⟨_,((am (ax (i:=4) sc__law_alone.nd rfl (Or.inr rfl) (au (FnOk.mono (O0 T) (by decide)) hr rfl T.V2 T.UQ.kp T.V3 .nil ai (aa (pv 0) ae)))
  (am (ax (i:=5) sc__law_alone.nd rfl (Or.inl rfl) (aK (aa (cD rfl (cu rfl (bu rfl (bu rfl bZ)) (bG 4 "_law_one" (by decide) rfl (Or.inl rfl) (Or.inl rfl) ⟨_,rfl⟩ (bG 1 "_law_far" (by decide) rfl (Or.inl rfl) (Or.inl rfl) ⟨_,rfl⟩ cq))) (cR rfl T.Qn (aa (ag aI (pv 1) ac) ae)) (λ_ _ _ _=>(bH (aL (pv 1) T.Qk T.Vh (FnOk.mono (Gt T) (by decide)) hr T.U0 .nil ai (aa (pv 0) (aa (pv 2) ae))) (bH (aL (pv 1) T.Qq T.VB (FnOk.mono (Gi T) (by decide)) hr T.U6 .nil ai (aa (pv 0) (aa (pv 2) ae))) (bH (aL (pv 1) T.Qp T.Vy (FnOk.mono (sK T) (by decide)) hr T.Rj .nil ai (aa (pv 0) (aa (pv 2) ae))) (aL (pv 1) T.Ql T.Vm (FnOk.mono (Gp T) (by decide)) hr T.Vc .nil ai (aa (pv 0) (aa (pv 2) ae)))))))) (aa (bH (aL (pv 4) T.Qk T.Vi (FnOk.mono (Gv T) (by decide)) hr T.U1 .nil ai (aa (pv 1) ae)) (bH (aL (pv 4) T.Qq T.VE (FnOk.mono (jB T) (by decide)) hr T.Q6 .nil ai (aa (pv 1) ae)) (bH (aL (pv 4) T.Qp T.Vv (FnOk.mono (Gj T) (by decide)) hr T.U9 .nil ai (aa (pv 1) ae)) (aL (pv 4) T.Ql T.Vp (FnOk.mono (jB T) (by decide)) hr T.Q6 .nil ai (aa (pv 1) ae))))) (aa (bH (aL (pv 4) T.Qk T.Vj (FnOk.mono (Gx T) (by decide)) hr T.U4 .nil ai (aa (pv 1) ae)) (bH (aL (pv 4) T.Qq T.VC (FnOk.mono (jC T) (by decide)) hr T.Q8 .nil ai (aa (pv 1) ae)) (bH (aL (pv 4) T.Qp T.Vw (FnOk.mono (Gk T) (by decide)) hr T.U_ .nil ai (aa (pv 1) ae)) (aL (pv 4) T.Ql T.Vo (FnOk.mono (jC T) (by decide)) hr T.Q8 .nil ai (aa (pv 1) ae))))) ae)))))
  (am (aF (PW.pt (cn (b_ (b9 (au (FnOk.mono (GN T) (by decide)) hr rfl T.UR T.SU.kp T.US .nil ai (aa (pv 5) (aa (pv 1) ae))))) (de (b_ (b9 (a0 Mw rfl T.QB fD (aa (pv 4) (aa (fS (v:=.ref T.Qo) rfl T.Vq rfl) ae)))))))) (ak (av cm)) aG)
  (ak (av (au (FnOk.mono (Ad T) (by decide)) hr rfl T.S7 T.Rh.kp T.S8 .nil ai (aa (bT (aa (pv 0) ae)) (aa (pv 5) (aa (pv 4) (aa (pv 1) (aa (pv 2) (aa (pv 3) ae))))))))))))),?_⟩
 dsimp only[az]
 k_typeOf
 refine⟨r,p,rfl,hp,λx H1 s1 hc=>?_⟩;dsimp only[az]
 k_typeOf
 refine⟨by omega,by omega,λD0 nD0=>?_⟩;rw[show ((far:Int)+1).toNat=far+1 by omega];refine GD (fs:=(aR (far+1)).map λi=>stD p i far) nD0 (by simp) (by omega) (λi y Hx R hi hy sx hR=>?_) (λL as H2 s2 nL eL hD=>?_)
 ·rw[aQ,fR hi]at hy
  cases hy
  (iterate 3 (k_units;(try simp only[bst]));k_units)
  rw[dP (i:Int)];have d:Gy T Hx x i far R E0:=Gz (PcAt.kp hc (kpS sx)) ok (by omega) f2 hR;rcases d with ⟨u,v,h1,h2,h3⟩|⟨u,v,h1,h2,h3⟩|⟨u,v,h1,h2,h3⟩|⟨u,v,h1,h2,h3⟩
  ·exact .inl ⟨_,rfl,_,rfl,u,v,h1,h2,_,rfl,h3⟩
  ·exact .inr (.inl ⟨_,rfl,_,rfl,u,v,h1,h2,_,rfl,h3⟩)
  ·exact .inr (.inr (.inl ⟨_,rfl,_,rfl,u,v,h1,h2,_,rfl,h3⟩))
  ·exact .inr (.inr (.inr ⟨_,rfl,_,rfl,u,v,h1,h2,_,rfl,h3⟩))
 refine GA (T:=T) (H:=H2) (q:=x) (p:=p) (far:=far) (PcAt.kp hc (kpS s2)) ok f2 λU H3 s3 nU eU=>?_;refine GB (T:=T) (H:=H3) (q:=x) (p:=p) (far:=far) (PcAt.kp hc (kpS (s2.trans s3))) ok f2 λW H4 s4 nW eW=>⟨by decide,λF nF=>?_⟩
 have u5:=ao nF (.tup [V.ref L,V.ref U,V.ref W]);have eF:=af (H:=H4) (a:=F) (o:=.tup [V.ref L,V.ref U,V.ref W]);have s5:=s2.trans (s3.trans (s4.trans u5));have fA:FrAt (L2.upd H4 F (.tup [V.ref L,V.ref U,V.ref W])) F L U W as ((aR (far+1)).map λi=>stD p i far) (upD p far) (dnD p far):=
  ⟨eF,u5 _ _ (s4 _ _ (s3 _ _ eL)),hD.on (s3.trans (s4.trans u5)),u5 _ _ (s4 _ _ eU),u5 _ _ eW⟩
 generalize L2.upd H4 F (.tup [V.ref L,V.ref U,V.ref W])=H5 at s5 fA ⊢;have fO:=Px (far:=far) ok f2;have dd:∀y,(y∈((aR (far+1)).map λi=>stD p i far)∨y=upD p far∨y=dnD p far)->Deg 60 y∧Nz y:=λy hy=>by
  obtain⟨⟨d,b,o1,o2,_⟩,o3⟩:=fO.pd y hy;exact⟨sv o1.dg o2,o3⟩
 dsimp only[az]
 k_typeOf
 refine⟨F,L,U,W,as,_,_,_,far,60,rfl,fA.tp,fA.ls,fA.ds,fO.len,f2,fA.up,fA.dn,λy hy=>dd y (.inl hy),dd _ (.inr (.inl rfl)),dd _ (.inr (.inr rfl)),λH6 s6=>⟨true,rfl,?_⟩⟩;rw[if_neg (by decide)];have s16:=s5.trans s6;have hc6:PcAt T H H6 x p:=PcAt.kp hc (kpS s16);obtain⟨C,ty,ki⟩:=PcAt.isPart hc6;refine⟨_,ty,true,ki,?_⟩;rw[if_neg (by decide)];refine⟨by decide,λB nB=>?_⟩;have u7:=ao nB (.lst [V.ref r]);refine⟨B,F,x,L,U,W,as,[r],[p],_,_,_,far,n,k,rfl,af,⟨rfl,λi r' p' e1 e2=>?_⟩,by simp,λp' hp'=>by rw[bR.mp hp'];exact ok,f2,bn,bk,fA.on (s6.trans u7),fO,.inr ⟨H,p,rfl,PcAt.kp hc6 (kpS u7)⟩,λH8 s8=>q _ (s1.trans (s16.trans (u7.trans s8)))⟩
 match i,e1,e2 with
 | 0,e1,e2=>
  cases e1;cases e2
  have hh:Pts H [r] [p]:=⟨rfl,λi a b f1 f2=>by
   match i,f1,f2 with
   | 0,f1,f2=>cases f1;cases f2;exact hp
   | i+1,f1,_=>simp at f1⟩
  exact (hh.on' (s1.trans (s16.trans u7))).get 0 _ _ rfl rfl
 | i+1,e1,_=>simp at e1
theorem sU {H:Hp}{p p1:Addr}(np:H p=none)(n1:L2.upd H p (.dT []) p1=none):L2.upd (L2.upd H p (.dT [])) p1 (.tup [V.int 0,V.int 0]) p=some (.dT [])∧L2.upd (L2.upd H p (.dT [])) p1 (.tup [V.int 0,V.int 0]) p1=some (.tup [V.int 0,V.int 0])∧Same H (L2.upd (L2.upd (L2.upd H p (.dT [])) p1 (.tup [V.int 0,V.int 0])) p (.dT (cW [(kz (0,0),p1,V.int 1)] [])))∧L2.upd (L2.upd (L2.upd H p (.dT [])) p1 (.tup [V.int 0,V.int 0])) p (.dT (cW [(kz (0,0),p1,V.int 1)] [])) p=some (.dT (dz onD)):=by
 have w1:=ao n1 (.tup [V.int 0,V.int 0]);have e0:=w1 _ _ (af (H:=H) (a:=p) (o:=.dT []));exact⟨e0,af,((ao np (.dT [])).trans w1).more np,sJ (p1:=p1) (v:=1) e0⟩
def PF:Sp:=λvs H Q _=>∃(far:Nat),vs=[.int (far:Int)]∧far<=2∧∀H',Same H H'->Q (.bl true) H'
theorem PH {P:Program}{w:World}{K:W.Frag}{mg:Str->Option Value}{base:Heap}(T:Tx K mg):FnOk P w K mg base CX0 3 T.Ta T.Tb ["_law_far"] PF:=by
 refine T.UY.ok sc__law_plain (λvs H Q E h=>?_) (λcdv A outer s H vs Q E hr h=>?_)
 ·obtain⟨far,rfl,_⟩:=h;rfl
 obtain⟨far,rfl,f2,q⟩:=h;refine⟨_,((am (ax (i:=1) sc__law_plain.nd rfl (Or.inl rfl) (Mx T.WV rfl T.Vq))
  (am (aF (PW.pt (cn (aD (EA hr.units) (aL (pv 1) T.Q9 T.WU (FnOk.mono (zU T) (by decide)) hr T.Tg .nil ai (aa ac (aa ac (aa (pv 0) ae)))) (aK (aa ac (aa ac ae))) (aC _)) (cn (aD (Fh (fG (k:=1) hr.units (by decide))) (aL (pv 1) T.Q9 T.WS (FnOk.mono (jB T) (by decide)) hr T.Q6 .nil ai (aa (pv 0) ae)) (by exact dC (dD hr.units) (cU (aK (aa ac (aa ac ae))) ac dB) rfl rfl (λz=>nomatch z) (by decide)) (aC _)) (de (aD (Fh (fG (k:=1) hr.units (by decide))) (aL (pv 1) T.Q9 T.WT (FnOk.mono (jC T) (by decide)) hr T.Q8 .nil ai (aa (pv 0) ae)) (by exact dC (dD hr.units) (cU (aK (aa ac (aa ac ae))) ac dB) rfl rfl (λz=>nomatch z) (by decide)) (aC _)))))) (ak (av cm)) aG)
  (ak (av (Do (pD (Fa (fG (k:=1) hr.units (by decide))) (aL (pv 1) T.Q9 T.Vr (FnOk.mono (sK T) (by decide)) hr T.Rj .nil ai (aa ac (aa (pv 0) ae))) (by exact dC (dD hr.units) (cU (aK (aa ac (aa ac ae))) ac dB) rfl rfl (λz=>nomatch z) (by decide)) (aC _)) (Dn (pD (Fa (fG (k:=1) hr.units (by decide))) (aL (pv 1) T.Q9 T.Vr (FnOk.mono (sK T) (by decide)) hr T.Rj .nil ai (aa (pv 0) (aa (pv 0) ae))) (by exact dC (dD hr.units) (cU (aK (aa ac (aa ac ae))) ac dB) rfl rfl (λz=>nomatch z) (by decide)) (aC _))))))))),?_⟩
 dsimp only[az]
 k_typeOf
 intro x dx nx ndx ne;have u0:Same H (L2.upd (L2.upd H dx (.own x)) x (.ins T.Qo dx [])):=gH nx ndx;have ex:=af (H:=L2.upd H dx (.own x)) (a:=x) (o:=.ins T.Qo dx []);generalize L2.upd (L2.upd H dx (.own x)) x (.ins T.Qo dx [])=H1 at u0 ex ⊢;dsimp only[az]
 k_typeOf
 refine⟨dx,_,ex,rfl,x,2,1,far,rfl,λt nt=>⟨by decide,λp2 n2=>?_⟩⟩;have v1:=ao nt (.tup [V.int 1,V.int 1]);have et:=(ao n2 (.tup [V.int 1,V.int 1])) _ _ (af (H:=H1) (a:=t) (o:=.tup [V.int 1,V.int 1]));have v2:=v1.trans (ao n2 (.tup [V.int 1,V.int 1]));have ep2:=af (H:=L2.upd H1 t (.tup [V.int 1,V.int 1])) (a:=p2) (o:=.tup [V.int 1,V.int 1]);generalize L2.upd (L2.upd H1 t (.tup [V.int 1,V.int 1])) p2 (.tup [V.int 1,V.int 1])=H2 at et v2 ep2 ⊢;refine⟨_,DV.tup (SqT.of et) (.cons (.int 1) (.cons (.int 1) .nil)),_,DV.tup (SqT.of ep2) (.cons (.int 1) (.cons (.int 1) .nil)),rfl,rfl,by decide,?_⟩;rw[if_neg (by decide)];have sd:dX onD onD:=⟨rfl,λy hy=>by simp[onD]at hy;subst hy;rfl⟩
 have ex2:=v2 _ _ ex;have s2:=u0.trans v2;refine⟨dx,_,ex2,rfl,x,far,rfl,λa H3 s3 na ea p np=>⟨by decide,λp1 n1=>?_⟩⟩;obtain⟨e0,e1,w2,od⟩:=sU np n1;refine⟨e0,[(kz (0,0),p1,V.int 1)],rfl,λy hy=>by rw[bR.mp hy];exact e1,by simp,a,rfl,onD,.inl (w2 _ _ ea),onD,.inl od,sd,?_⟩;have ex2:=(s3.trans w2) _ _ ex2;have s2:=s2.trans (s3.trans w2);clear e0 e1 od na np ea s3;generalize L2.upd (L2.upd (L2.upd H3 p (.dT [])) p1 (.tup [V.int 0,V.int 0])) p (.dT (cW [(kz (0,0),p1,V.int 1)] []))=G3 at w2 ex2 s2 ⊢;clear w2 n1;refine⟨dx,_,ex2,rfl,x,far,rfl,λa H4 s3 na ea p np=>⟨by decide,λp1 n1=>?_⟩⟩;obtain⟨e0,e1,w2,od⟩:=sU np n1;refine⟨e0,[(kz (0,0),p1,V.int 1)],rfl,λy hy=>by rw[bR.mp hy];exact e1,by simp,a,rfl,onD,.inl (w2 _ _ ea),onD,.inl od,sd,?_⟩;have ex2:=(s3.trans w2) _ _ ex2;have s2:=s2.trans (s3.trans w2);clear e0 e1 od na np ea s3;generalize L2.upd (L2.upd (L2.upd H4 p (.dT [])) p1 (.tup [V.int 0,V.int 0])) p (.dT (cW [(kz (0,0),p1,V.int 1)] []))=G4 at w2 ex2 s2 ⊢;clear w2 n1;refine⟨dx,_,ex2,rfl,x,⟨0,far,rfl⟩,λa H5 s3 na ea p np=>⟨by decide,λp1 n1=>?_⟩⟩;obtain⟨e0,e1,w2,od⟩:=sU np n1;refine⟨e0,[(kz (0,0),p1,V.int 1)],rfl,λy hy=>by rw[bR.mp hy];exact e1,by simp,a,rfl,onD,.inl (w2 _ _ ea),onD,.inl od,sd,?_⟩;have ex2:=(s3.trans w2) _ _ ex2;have s2:=s2.trans (s3.trans w2);clear e0 e1 od na np ea s3;generalize L2.upd (L2.upd (L2.upd H5 p (.dT [])) p1 (.tup [V.int 0,V.int 0])) p (.dT (cW [(kz (0,0),p1,V.int 1)] []))=G5 at w2 ex2 s2 ⊢;clear w2 n1;refine⟨dx,_,ex2,rfl,x,⟨far,far,rfl⟩,λa H6 s3 na ea p np=>⟨by decide,λp1 n1=>?_⟩⟩;obtain⟨e0,e1,w2,od⟩:=sU np n1;exact⟨e0,[(kz (0,0),p1,V.int 1)],rfl,λy hy=>by rw[bR.mp hy];exact e1,by simp,a,rfl,onD,.inl (w2 _ _ ea),onD,.inl od,sd,q _ (s2.trans (s3.trans w2))⟩
theorem PJ {K:W.Frag}{mg:Str->Option Value}{T:Tx K mg}{H:Hp}{Q:Addr->Hp->Prop}{E:XK}{A:Addr}{rs:List Addr}{ps:List Prt}(hA:H A=some (.lst (rs.map V.ref))) (hP:Pts H rs ps) (hO:∀p∈ps,bJ p) (l1:1<=ps.length) (l6:ps.length<=6)
  (k:∀(x:Addr) (H':Hp),Same H H'->TermAt T H H' x rs ps->Q x H') (x dx:Addr) (hx:H x=none) (hd:H dx=none) (_:dx≠x):
  F7 T [.ref x,.ref A] (L2.upd (L2.upd H dx (.own x)) x (.ins T.Qm dx [])) (λv H2=>v=V.non∧Q x H2) E:=by
 have s1:Same H (L2.upd (L2.upd H dx (.own x)) x (.ins T.Qm dx [])):=gH hx hd;refine⟨x,dx,A,rs,ps,rfl,af,s1 _ _ hA,hP.on s1,hO,l1,l6,λP1 P2 qs H' s2 n1 n2 ex e1 e2 hq=>⟨rfl,?_⟩⟩;have s3:Same H H':=λy o e=>s2 y o (aV e hx) (s1 y o e);exact k x H' s3 ⟨dx,P1,P2,qs,ex,s1.free n1,e1,s1.free n2,e2,hq.from λy e=>s1.free e⟩
def Kn (H H':Hp):Prop:=∀a o,H a=some o->(∀kvs,o≠.dT kvs)->H' a=some o
theorem Kn.pts {H H':Hp}(k:Kn H H'){rs:List Addr}{ps:List Prt}(h:Pts H rs ps):Pts H' rs ps:=h.kt λa xs e=>k a _ e λ_ z=>nomatch z
theorem Kn.pc {K:W.Frag}{mg:Str->Option Value}{T:Tx K mg}{H0 H H':Hp}(k:Kn H H'){r:Addr}{p:Prt}(h:PcAt T H0 H r p):PcAt T H0 H' r p:=by
 have k1:∀{a xs},H a=some (.tup xs)->H' a=some (.tup xs):=λe=>k _ _ e λ_ z=>nomatch z;have k2:∀{a xs},H a=some (.lst xs)->H' a=some (.lst xs):=λe=>k _ _ e λ_ z=>nomatch z;have k3:∀{a C dx fs},H a=some (.ins C dx fs)->H' a=some (.ins C dx fs):=λe=>k _ _ e λ_ z=>nomatch z
 match p,h with
 | .cho f l,⟨dx,a,L,b,t,h1,h2,h3,h4,h5,h6⟩=>exact⟨dx,a,L,b,t,k3 h1,k1 h2,h3,k2 h4,k1 h5,k1 h6⟩
 | .wei f,⟨dx,a,h1,h2⟩=>exact⟨dx,a,k3 h1,k1 h2⟩
 | .pow f,⟨dx,a,h1,h2⟩=>exact⟨dx,a,k3 h1,k1 h2⟩
 | .gro f,⟨dx,a,h1,h2⟩=>exact⟨dx,a,k3 h1,k1 h2⟩
theorem Kn.term {K:W.Frag}{mg:Str->Option Value}{T:Tx K mg}{H0 H H':Hp}(k:Kn H H'){x:Addr}{rs:List Addr}{ps:List Prt}(h:TermAt T H0 H x rs ps):TermAt T H0 H' x rs ps:=by
 obtain⟨dx,P1,P2,qs,h1,h2,h3,h4,h5,h6⟩:=h;exact⟨dx,P1,P2,qs,k _ _ h1 (λ_ z=>nomatch z),h2,k _ _ h3 (λ_ z=>nomatch z),h4,k _ _ h5 (λ_ z=>nomatch z),⟨h6.len,λi q p e1 e2=>k.pc (h6.get i q p e1 e2)⟩⟩
theorem smK {f:PD}(h:Deg 60 f):rH (dz f):=λkv hkv=>by
 obtain⟨y,hy,rfl⟩:=bw.mp hkv;have:=h y hy;refine⟨y.1.1.toNat,y.1.2.toNat,by omega,by omega,?_⟩;rw[Ax (by omega),Ax (by omega)];rfl
theorem PK {K:W.Frag}{a:Addr}{as:List Addr}{fs:List PD}{fv:List (Nat×Str)}{te:TE}{Q:VK}{σ:L2.St}{H1:Hp}{D:Addr}(nD:H1 D=none) (hA:SqL K H1 a (as.map V.ref)) (hd:as.length=fs.length) (hl:fs.length<=900)
  (hs:∀(i:Nat) (q:Addr) (f:PD) (Hx:Hp) (R:VK),as[i]?=some q->fs[i]?=some f->Same H1 Hx->(∀p,Hx p=none->R (.ref p) (L2.upd Hx p (.dT (dz f))))->te (bst fv σ (some (V.ref q))) Hx R)
  (he:∀(bs:List Addr) (Hx:Hp),Same H1 Hx->Hx D=some (.lst (bs.map V.ref))->DHs Hx bs fs->(∀b∈bs,H1 b=none)->Q (.ref D) Hx):fy (Itl K a) fv te Q σ H1 D:=by
 obtain⟨Pc,hPc⟩:∃Pc:Nat->Hp->Prop,∀j Hx,Pc j Hx↔∃bs:List Addr,Hx D=some (.lst (bs.map V.ref))∧DHs Hx bs (fs.take j)∧(∀b∈bs,H1 b=none)∧Same H1 Hx:=⟨_,λ_ _=>Iff.rfl⟩
 refine eE (xs:=as.map V.ref) Pc ((hPc _ _).mpr ⟨[],af,⟨by simp,λi a f e=>by simp at e⟩,by simp,ao nD _⟩) (λi Hx _ z=>by obtain⟨_,_,_,_,z⟩:=(hPc i Hx).mp z;exact z.seq hA) ?_ ?_
 ·intro j v Hx hv hc;obtain⟨bs,k1,k2,k4,k3⟩:=(hPc _ _).mp hc;rw[aQ]at hv;obtain⟨q,hq,rfl⟩:=cc.mp hv;have hj:j<fs.length:=by have:=(be.mp hq).1;omega
  refine hs j q _ Hx _ hq (aJ hj) k3 λp np=>?_;have s2:=ao np (.dT (dz fs[j]));have lk:=k2.len;rw[cB]at lk;refine⟨_,s2 _ _ k1,by rw[aB];exact bB (by omega),(hPc _ _).mpr ⟨bs++[p],by rw[af,aM];rfl,?_,λb hb=>?_,(k3.trans s2).more nD⟩⟩
  ·rw[←dm hj];exact ((k2.on s2).snoc af).upL (s2 _ _ k1)
  ·rcases cx.mp hb with h|h
   ·exact k4 b h
   ·rw[bR.mp h];exact k3.free np
 intro Hx hc;obtain⟨bs,k1,k2,k4,k3⟩:=(hPc _ _).mp hc;rw[aB,hd,c_]at k2;exact he bs Hx k3 k1 k2 k4
def Off (S:List Addr)(H H':Hp):Prop:=∀a o,H a=some o->a∉S->H' a=some o
def G2 (K:W.Frag):Sp:=λvs H Q _=>∃(a:Addr) (ns:List Int),vs=[.ref a]∧SqL K H a (ns.map V.int)∧ns.length<=63∧∀H',Q (.bl true) H'
theorem PL {P:Program}{w:World}{K:W.Frag}{mg:Str->Option Value}{base:Heap}(T:Tx K mg):FnOk P w K mg base CX0 20 T.Q4 T.QP ["_law_script"] (G2 K):=by
 refine T.Wf.ok sc_law (λvs H Q E h=>?_) (λcdv A outer s H vs Q E hr h=>?_)
 ·obtain⟨A,ns,rfl,_⟩:=h;rfl
 obtain⟨A,ns,rfl,hA,l63,q⟩:=h;refine⟨_,((am (ax (i:=1) sc_law.nd rfl (Or.inl rfl) (au (FnOk.mono (OV T) (by decide)) hr rfl T.VY T.UO.kp T.VZ .nil ai (aa (pv 0) (aa (bT (aa ac (aa ac ae))) ae))))
  (am (ax (i:=2) sc_law.nd rfl (Or.inl rfl) (eg T.WY (FnOk.mono (Oh T) (by decide)) hr rfl T.WX T.WH .nil zf (aa (pv 1) ae)))
  (am (ax (i:=3) sc_law.nd rfl (Or.inl rfl) (ag aZ (au (FnOk.mono (fM T) (by decide)) hr rfl T.Qw T.Qt.kp T.Qx .nil ai (aa (au (FnOk.mono (z6 T) (by decide)) hr rfl T.Sh T.Rf.kp T.Si .nil ai (aa (pv 0) (aa ac ae))) (aa ac ae))) ac))
  (am (ax (i:=4) sc_law.nd rfl (Or.inl rfl) (aL (pv 2) T.Qr T.Uo (FnOk.mono (z5 T) (by decide)) hr T.Ui .nil ai (aa (pv 3) ae)))
  (am (aF (b_ (b9 (au (FnOk.mono (GN T) (by decide)) hr rfl T.UR T.SU.kp T.US .nil ai (aa (pv 4) (aa (pv 3) ae))))) (ak (av cm)) aG)
  (am (bL PassesOwn.never rfl (EF rfl T.VH (aa (ag fw (bT (aa ac (aa ac ae))) (Ec Eh (pv 0) (yV ac) (yV ac))) ae)) (fj rfl (cy (aS (i:=5) sc_law.nd rfl (Or.inl rfl)) (cy (aS (i:=6) sc_law.nd rfl (Or.inl rfl)) fh))) (am (ax (i:=7) sc_law.nd rfl (Or.inl rfl) (au (FnOk.mono (fM T) (by decide)) hr rfl T.Qw T.Qt.kp T.Qx .nil ai (aa (pv 6) (aa ac ae))))
  (am (ax (i:=8) sc_law.nd rfl (Or.inl rfl) (aK (aa (ag cf (ag aZ (ag cC (pv 7) ac) ac) ac) (aa (ag cf (ag aZ (ag cC (pv 7) ac) ac) ac) ae))))
  (ez (aF (aD br (ag aZ (pv 7) ac) ac (aC _)) (ak (ax (i:=8) sc_law.nd rfl (Or.inl rfl) (aK (aa (ag cf (ag aZ (au (FnOk.mono (fM T) (by decide)) hr rfl T.Qw T.Qt.kp T.Qx .nil ai (aa (pv 6) (aa ac ae))) (ag fk ac (ag fm ac ac))) (ag fm ac ac)) (aa (ag cf (ag aZ (au (FnOk.mono (fM T) (by decide)) hr rfl T.Qw T.Qt.kp T.Qx .nil ai (aa (pv 6) (aa ac ae))) (ag fk ac (ag fm ac ac))) (ag fm ac ac)) ae))))) aG)
  (ez (aF (aD br (ag aZ (pv 7) ac) ac (aC _)) (ak (ax (i:=8) sc_law.nd rfl (Or.inl rfl) (aK (aa (a0 fW rfl T.QH f9 (aa (ah aj (pv 8) ac (λ_ _=>rfl)) ae)) (aa (a0 fW rfl T.QH f9 (aa (ah aj (pv 8) ac (λ_ _=>rfl)) ae)) ae))))) aG)
  (am (aF (b_ (b9 (au (FnOk.mono (Ad T) (by decide)) hr rfl T.S7 T.Rh.kp T.S8 .nil ai (aa (pv 1) (aa (pv 4) (aa (pv 2) (aa (pv 3) (aa (ah aj (pv 8) ac (λ_ _=>rfl)) (aa (ah aj (pv 8) ac (λ_ _=>rfl)) ae))))))))) (ak (av cm)) aG)
  (ak (aF (b_ (b9 (au (FnOk.mono (PB T) (by decide)) hr rfl T.Wb T.UX.kp T.Wc .nil ai (aa (ah bA (pv 1) (ag aZ (pv 5) (a0 fu rfl T.Qz fB (aa (pv 1) ae))) (λ_ _=>rfl)) (aa (pv 3) (aa (ah aj (pv 8) ac (λ_ _=>rfl)) (aa (ah aj (pv 8) ac (λ_ _=>rfl)) ae))))))) (ak (av cm)) aG))))))))
  (am (ax (i:=9) sc_law.nd rfl (Or.inl rfl) (aK (aa (cD rfl (cu rfl bZ cq) (bY (ah aj (pv 4) ac (λ_ _=>rfl))) (λ_ _ _ _=>(ft zr rfl T.Ra jn (aa (pv 0) ae)))) (aa (ft zr rfl T.Ra jn (aa (ah aj (pv 4) ac (λ_ _=>rfl)) ae)) (aa (ft zr rfl T.Ra jn (aa (ah aj (pv 4) ac (λ_ _=>rfl)) ae)) ae)))))
  (am (bL PassesOwn.never rfl (bY (ag fw (ah aj (pv 4) ac (λ_ _=>rfl)) (bT (aa (ah aj (pv 4) ac (λ_ _=>rfl)) (aa (ah aj (pv 4) ac (λ_ _=>rfl)) ae))))) (aS (i:=10) sc_law.nd rfl (Or.inl rfl)) (ak (du (yY PySem.F.plainAttrs_dict PySem.F.slot_dict_clear PySem.F.type_dict_clear LN (pv 10)))))
  (am (du (yY PySem.F.plainAttrs_list PySem.F.slot_list_clear PySem.F.type_list_clear J9 (ah aj (pv 4) ac (λ_ _=>rfl))))
  (am (ax (i:=11) sc_law.nd rfl (Or.inl rfl) (ag aZ (ag aI (pv 3) ac) ac))
  (am (aF (PW.pt (cn (b_ (b9 (au (FnOk.mono (Ad T) (by decide)) hr rfl T.S7 T.Rh.kp T.S8 .nil ai (aa (pv 1) (aa (aL (pv 2) T.Qr T.Uo (FnOk.mono (z5 T) (by decide)) hr T.Ui .nil ai (aa (pv 11) ae)) (aa (pv 2) (aa (pv 11) (aa ac (aa ac ae))))))))) (de (b_ (b9 (au (FnOk.mono (PH T) (by decide)) hr rfl T.Wd T.UY.kp T.We .nil ai (aa (pv 3) ae))))))) (ak (av cm)) aG)
  (ak (av (pD (MM (fG (k:=3) hr.units (by decide))) (aL (pv 2) T.Qr T.Uo (FnOk.mono (z5 T) (by decide)) hr T.Ui .nil ai (aa (pv 3) ae)) (pv 9) (aC _)))))))))))))))),?_⟩
 dsimp only[az]
 k_typeOf
 refine⟨by decide,λM nM=>⟨A,M,ns,rfl,(ao nM _).seq hA,af,λL rs ps H1 s1 nL eL hP hO l1 l6 hdg=>?_⟩⟩;have s1:=(ao nM _).trans s1;dsimp only[az]
 k_typeOf
 refine PJ eL hP hO l1 l6 λx H2 s2 hx=>?_;obtain⟨dx,P1,P2,qs,h1,h2⟩:=id hx;dsimp only[az]
 k_typeOf
 refine⟨A,ns,0,rfl,(s1.trans s2).seq hA,_,5,rfl,by decide,λm m0=>⟨m,rfl,by decide,?_⟩⟩;obtain⟨far,hfar,f2⟩:∃far:Nat,m % 3=(far:Int)∧far<=2:=⟨(m % 3).toNat,by omega,by omega⟩
 rw[hfar];clear hfar;dsimp only[az]
 k_typeOf
 refine⟨dx,_,h1,rfl,x,_,rs,ps,far,rfl,hx,l6,hO,f2,hdg,λF L' U W as H3 s3 nL' eF eL' dL dU dW=>?_⟩;have fO:=fr_all hO l6 hdg f2;have fA:FrAt H3 F L' U W as ((aR (far+1)).map λi=>pdD (ps.map λp=>stD p i far)) (pdD (ps.map λp=>upD p far)) (pdD (ps.map λp=>dnD p far)):=⟨eF,eL',dL,dU,dW⟩
 dsimp only[az]
 k_typeOf
 have dd:∀y,(y∈((aR (far+1)).map λi=>pdD (ps.map λp=>stD p i far))∨y=pdD (ps.map λp=>upD p far)∨y=pdD (ps.map λp=>dnD p far))->Deg 60 y∧Nz y:=λy hy=>by
  obtain⟨⟨d,b,o1,o2,_⟩,o3⟩:=fO.pd y hy;exact⟨sv o1.dg o2,o3⟩
 refine⟨F,L',U,W,as,_,_,_,far,60,rfl,fA.tp,fA.ls,fA.ds,fO.len,f2,fA.up,fA.dn,λy hy=>dd y (.inl hy),dd _ (.inr (.inl rfl)),dd _ (.inr (.inr rfl)),λH4 s4=>⟨true,rfl,?_⟩⟩;rw[if_neg (by decide)];have s14:=(s1.trans s2).trans (s3.trans s4);have fA4:=fA.on s4;clear eF eL' dL dU dW fA;dsimp only[az]
 k_typeOf
 refine⟨by decide,λp0 n0=>?_⟩;have u0:=ao n0 (.lst [V.int 0,V.int 11]);refine⟨_,(s14.trans u0).seq hA,λS nS=>?_⟩;obtain⟨cs,hcs,lcs⟩:∃cs:List Int,ej (ns.map V.int) (some 19) (some 26)=cs.map V.int∧cs.length<=63:=⟨_,Kr _ _ _,by rw[cB,List.length_drop];omega⟩
 rw[hcs];have v1:=ao nS (.lst (cs.map V.int));refine⟨_,v1 _ _ af,_,af,?_,λp np=>?_⟩
 ·rw[aB];exact cJ (bB (by simp;omega))
 obtain⟨es,hes,les⟩:∃es:List Int,[V.int 0,V.int 11]++cs.map V.int=es.map V.int∧es.length<=65:=⟨[0,11]++cs,by rw[aM];rfl,by simp;omega⟩
 rw[hes];have v2:=u0.trans (v1.trans (ao np (.lst (es.map V.int))));have ep:=af (H:=L2.upd (L2.upd H4 p0 (.lst [V.int 0,V.int 11])) S (.lst (cs.map V.int))) (a:=p) (o:=.lst (es.map V.int));generalize L2.upd (L2.upd (L2.upd H4 p0 (.lst [V.int 0,V.int 11])) S (.lst (cs.map V.int))) p (.lst (es.map V.int))=H5 at v2 ep ⊢;have s15:=s14.trans v2;have fA5:=fA4.on v2;have s25:=s3.trans (s4.trans v2);clear u0 v1 np nS n0 hcs lcs fA4 s14 v2 hes;obtain⟨Pv,hPv⟩:∃Pv:Nat->L2.St->Hp->Prop,∀i σ H',Pv i σ H'↔∃r5 r6 r7 r8:Option V,σ=[some (V.ref A),some (V.ref L),some (V.ref x),some (V.int (far:Int)),some (V.ref F),r5,r6,r7,r8,none,none,none]∧Same H5 H':=⟨_,λ_ _ _=>Iff.rfl⟩
 refine⟨_,SqL.of ep,KP (xs:=es.map V.int) Pv ((hPv _ _ _).mpr ⟨none,none,none,none,rfl,Same.refl _⟩) (λi σ H' _ z=>by obtain⟨_,_,_,_,_,z⟩:=(hPv i σ H').mp z;exact SqL.of (z _ _ ep)) ?_ ?_⟩
 ·intro i v pp σ H' hv hp npp;obtain⟨r5,r6,r7,r8,rfl,sS⟩:=(hPv _ _ _).mp hp;rw[aQ]at hv;obtain⟨c,hc,rfl⟩:=cc.mp hv;have hi:=(be.mp hc).1;have sS:=sS.trans (ao npp (.tup [V.int (i:Int),V.int c]))
  k_units
  refine⟨_,SqT.of af,rfl,_,_,rfl,_,_,rfl,rfl,?_⟩;generalize L2.upd H' pp (.tup [V.int (i:Int),V.int c])=H6 at sS ⊢;refine⟨c,0,rfl,by decide,λm m0=>?_⟩
  k_units
  refine⟨⟨by decide,by decide⟩,by decide,⟨by decide,by decide⟩,by decide,by decide,λt0 nt0=>?_⟩;have d1:=dc (m / 4) (show (41:Int)≠0 by decide);have d2:=dq (m / 4) (show (0:Int)<41 by decide);have d3:=dc (m / 164) (show (41:Int)≠0 by decide);have d4:=dq (m / 164) (show (0:Int)<41 by decide);have b31:∀{y:Int},-1000000000<=y->y<=1000000000->Bd 31 y:=λ{y} h1 h2=>Bd.of_lt (m:=2147483648) (by omega) (by decide);have b1:Bd 31 (m / 4 % 41-20):=b31 (by omega) (by omega);have b2:Bd 31 (m / 164 % 41-20):=b31 (by omega) (by omega);have u7:=ao nt0 (.tup [V.int (m / 4 % 41-20),V.int (m / 164 % 41-20)]);have et0:=af (H:=H6) (a:=t0) (o:=.tup [V.int (m / 4 % 41-20),V.int (m / 164 % 41-20)]);generalize L2.upd H6 t0 (.tup [V.int (m / 4 % 41-20),V.int (m / 164 % 41-20)])=H7 at u7 et0 ⊢;generalize m / 4 % 41-20=y1 at b1 et0;generalize m / 164 % 41-20=y2 at b2 et0;have sS:=sS.trans u7;clear u7 d1 d2 d3 d4 nt0;obtain⟨M1,hM1⟩:∃M1:L2.St->Hp->Prop,∀σ Hx,M1 σ Hx↔∃(t:Addr) (n k:Int),σ=[some (V.ref A),some (V.ref L),some (V.ref x),some (V.int (far:Int)),some (V.ref F),some (V.int (i:Int)),some (V.int c),some (V.int m),some (V.ref t),none,none,none]∧Hx t=some (.tup [V.int n,V.int k])∧Bd 31 n∧Bd 31 k∧Same H5 Hx:=⟨_,λ_ _=>Iff.rfl⟩
  refine eA M1 ?_ ?_
  ·k_units
   refine⟨by decide,bC (λz=>?_) (λz=>(hM1 _ _).mpr ⟨t0,y1,y2,rfl,et0,b1,b2,sS⟩)⟩;have p10:(10:Int) ^ hV 9=1000000000:=by decide
   have cpw:DC 10 9:=⟨by decide,by decide,by decide⟩
   have cml:CMul 2 1000000000:=.inl ⟨by decide,by decide⟩;rw[p10];refine⟨c,1,rfl,by decide,λm1 m10=>⟨cpw,cml,m1,rfl,by decide,cpw,c,2,rfl,by decide,λm2 m20=>⟨cpw,cml,m2,rfl,by decide,cpw,by decide,λt2 nt2=>(hM1 _ _).mpr ⟨t2,_,_,rfl,af,?_,?_,sS.trans (ao nt2 _)⟩⟩⟩⟩
   ·have:=dc m1 (show (2*1000000000:Int)≠0 by decide);have:=dq m1 (show (0:Int)<2*1000000000 by decide);exact b31 (by omega) (by omega)
   ·have:=dc m2 (show (2*1000000000:Int)≠0 by decide);have:=dq m2 (show (0:Int)<2*1000000000 by decide);exact b31 (by omega) (by omega)
  intro σ Hx hm;obtain⟨t1,n1,k1,rfl,et1,c1,c2,sS1⟩:=(hM1 _ _).mp hm;refine eA M1 ?_ ?_
  ·k_units
   refine⟨by decide,bC (λz=>?_) (λz=>(hM1 _ _).mpr ⟨t1,n1,k1,rfl,et1,c1,c2,sS1⟩)⟩;refine⟨_,SqT.of et1,_,rfl,_,rfl,_,SqT.of et1,_,rfl,_,rfl,by decide,λt2 nt2=>(hM1 _ _).mpr ⟨t2,_,_,rfl,af,?_,?_,sS1.trans (ao nt2 _)⟩⟩
   ·split
    ·exact c1.neg
    ·exact c1
   ·split
    ·exact c2.neg
    ·exact c2
  clear hm et1 c1 c2 sS1 sS et0 b1 b2;intro σ Hx hm;obtain⟨t1,n,k,rfl,et1,bn,bk,sS⟩:=(hM1 _ _).mp hm;clear hm hM1 M1
  k_units
  have s2x:=s25.trans sS;refine⟨_,SqT.of et1,_,rfl,_,SqT.of et1,_,rfl,L,F,x,L',U,W,as,rs,ps,_,_,_,far,n,k,rfl,(s2.trans s2x) _ _ eL,(hP.on s2).on s2x,l6,hO,f2,bn,bk,fA5.on sS,fO,.inl ⟨_,rs,hx.on s2x⟩,λH8 s8=>⟨true,rfl,?_⟩⟩;rw[if_neg (by decide)];have s2y:=s2x.trans s8;have hl:1<=rs.length:=by rw[hP.len];exact l1
  obtain⟨j,hj,jl⟩:∃j:Nat,(i:Int) % ((rs.map V.ref).length:Int)=(j:Int)∧j<rs.length:=by
   rw[aB];have:=dc (i:Int) (show (rs.length:Int)≠0 by omega);have:=dq (i:Int) (show 0<(rs.length:Int) by omega);exact⟨((i:Int) % (rs.length:Int)).toNat,by omega,by omega⟩
  have jp:j<ps.length:=by rw[←hP.len];exact jl
  have eL8:=(s2.trans s2y) _ _ eL;refine⟨_,.inl (SqL.of eL8),by rw[aB];omega,_,SqL.of eL8,V.ref rs[j],?_,_,SqT.of (s8 _ _ et1),_,rfl,_,SqT.of (s8 _ _ et1),_,rfl,rs[j],ps[j],far,n,k,rfl,((hP.on s2).on s2y).get j _ _ (aJ jl) (aJ jp),hO _ (eX jp),f2,bn,bk,λH9 s9=>⟨true,rfl,?_⟩⟩
  ·rw[hj];exact gr (by rw[aQ,aJ jl];rfl)
  rw[if_neg (by decide)];exact (hPv _ _ _).mpr ⟨_,_,_,_,rfl,sS.trans (s8.trans s9)⟩
 intro σ H' hp;obtain⟨r5,r6,r7,r8,rfl,sS⟩:=(hPv _ _ _).mp hp;clear hp hPv Pv ep;have fA6:=fA5.on sS;have s26:=s25.trans sS;clear fA5 s25 s15 sS les es;dsimp only[az]
 k_typeOf
 refine⟨_,SqT.of fA6.tp,_,rfl,L',rfl,⟨_,SqL.of fA6.ls⟩,λD nD=>?_⟩;refine PK (as:=as) nD (SqL.of fA6.ls) fA6.ds.len (by rw[fO.len];omega) (λi a y Hx R ha hy sx hR=>?_) (λbs H7 s7 eD hB nB=>?_)
 ·(iterate 3 (k_units;(try simp only[bst]));k_units)
  exact⟨_,.inl (sx _ _ (fA6.ds.get i a y ha hy)),smK (dd y (.inl (ci hy))).1,hR⟩
 have fA7:=fA6.on s7;refine⟨_,SqT.of fA7.tp,_,rfl,U,rfl,_,.inl fA7.up,smK (dd _ (.inr (.inl rfl))).1,λBu nBu=>?_⟩;have w1:=ao nBu (.dT (dz (pdD (ps.map λp=>upD p far))));have fA8:=fA7.on w1;refine⟨_,SqT.of fA8.tp,_,rfl,W,rfl,_,.inl fA8.dn,smK (dd _ (.inr (.inr rfl))).1,λBw nBw=>⟨by decide,λBt nBt=>?_⟩⟩;have w2:=ao nBw (.dT (dz (pdD (ps.map λp=>dnD p far))));have w3:=ao nBt (.tup [V.ref D,V.ref Bu,V.ref Bw]);have eBt:=af (H:=L2.upd (L2.upd H7 Bu (.dT (dz (pdD (ps.map λp=>upD p far))))) Bw (.dT (dz (pdD (ps.map λp=>dnD p far))))) (a:=Bt) (o:=.tup [V.ref D,V.ref Bu,V.ref Bw]);have eBu:=w3 _ _ (w2 _ _ (af (H:=H7) (a:=Bu) (o:=.dT (dz (pdD (ps.map λp=>upD p far))))));have eBw:=w3 _ _ (af (H:=L2.upd H7 Bu (.dT (dz (pdD (ps.map λp=>upD p far))))) (a:=Bw) (o:=.dT (dz (pdD (ps.map λp=>dnD p far)))));have w123:=w1.trans (w2.trans w3);have eD8:=w123 _ _ eD;have hB8:=hB.on w123;have fA9:=fA7.on w123;have f1:H' Bu=none:=s7.free nBu;have f2':H' Bw=none:=(s7.trans w1).free nBw;generalize L2.upd (L2.upd (L2.upd H7 Bu (.dT (dz (pdD (ps.map λp=>upD p far))))) Bw (.dT (dz (pdD (ps.map λp=>dnD p far))))) Bt (.tup [V.ref D,V.ref Bu,V.ref Bw])=H8 at w123 eBt eBu eBw eD8 hB8 fA9 ⊢;have s68:=s7.trans w123;have s28:=s26.trans s68;clear w1 w2 w3 nBu nBw nBt fA8 fA7 eD hB w123 s7;dsimp only[az]
 k_typeOf
 refine⟨_,SqT.of fA9.tp,_,rfl,_,SqT.of fA9.tp,_,rfl,_,SqT.of fA9.tp,_,rfl,by decide,λp np=>?_⟩;have u3:=ao np (.lst [V.ref U,V.ref W]);refine⟨L',rfl,_,u3 _ _ fA9.ls,_,af,?_,λC nC=>?_⟩
 ·rw[aB,fA9.ds.len,fO.len];exact cJ (bB (by simp;omega))
 rw[show as.map V.ref++[V.ref U,V.ref W]=(as++[U,W]).map V.ref by rw[aM];rfl];have u4:=u3.trans (ao nC (.lst ((as++[U,W]).map V.ref)));have eC:=af (H:=L2.upd H8 p (.lst [V.ref U,V.ref W])) (a:=C) (o:=.lst ((as++[U,W]).map V.ref));generalize L2.upd (L2.upd H8 p (.lst [V.ref U,V.ref W])) C (.lst ((as++[U,W]).map V.ref))=H9 at u4 eC ⊢;have fA10:=fA9.on u4;have dS:∀a∈as++[U,W],(∃kvs,H' a=some (.dT kvs))∧∃kvs,H9 a=some (.dT kvs):=λa ha=>by
  have go:∀{G:Hp},FrAt G F L' U W as ((aR (far+1)).map λi=>pdD (ps.map λp=>stD p i far)) (pdD (ps.map λp=>upD p far)) (pdD (ps.map λp=>dnD p far))->∃kvs,G a=some (.dT kvs):=λ{G} g=>by
   rcases cx.mp ha with h|h
   ·obtain⟨i,hi,rfl⟩:=IE h;have hf:=hi;rw[g.ds.len]at hf;exact⟨_,g.ds.get i _ _ (aJ hi) (aJ hf)⟩
   ·simp only[aH,ck,or_false]at h;rcases h with rfl|rfl
    ·exact⟨_,g.up⟩
    ·exact⟨_,g.dn⟩
  exact⟨go fA6,go fA10⟩
 refine⟨⟨_,SqL.of eC⟩,?_⟩;obtain⟨Pv,hPv⟩:∃Pv:Nat->L2.St->Hp->Prop,∀i σ Hx,Pv i σ Hx↔∃r10:Option V,σ=[some (V.ref A),some (V.ref L),some (V.ref x),some (V.int (far:Int)),some (V.ref F),r5,r6,r7,r8,some (V.ref Bt),r10,none]∧Off (as++[U,W]) H9 Hx∧∀a∈as++[U,W],∃kvs,Hx a=some (.dT kvs):=⟨_,λ_ _ _=>Iff.rfl⟩
 have nSl:∀{a:Addr}{o:HO},H9 a=some o->(∀kvs,o≠.dT kvs)->a∉as++[U,W]:=λe h z=>by
  obtain⟨_,kvs,e'⟩:=dS _ z;rw[e]at e';exact h kvs (Option.some.inj e')
 refine dA (xs:=(as++[U,W]).map V.ref) Pv ((hPv _ _ _).mpr ⟨none,rfl,λa o e _=>e,λa ha=>(dS a ha).2⟩) (λi σ Hx _ z=>by obtain⟨_,_,z,_⟩:=(hPv i σ Hx).mp z;exact SqL.of (z _ _ eC (nSl eC λ_ z=>nomatch z))) ?_ ?_
 ·intro i v σ Hx hv hp;obtain⟨r10,rfl,of,al⟩:=(hPv _ _ _).mp hp;rw[aQ]at hv;obtain⟨a,ha,rfl⟩:=cc.mp hv;have ma:=ci ha;obtain⟨kvs,ea⟩:=al a ma
  k_units
  refine⟨.inr (.inr (.inl ⟨rfl,.inr ⟨_,ea⟩⟩)),a,kvs,rfl,rfl,ea,(hPv _ _ _).mpr ⟨_,rfl,λb o e nb=>?_,λb hb=>?_⟩⟩
  ·rw[aq (λz=>nb (by rw[z];exact ma))];exact of b o e nb
  ·by_cases z:b=a
   ·rw[z];exact⟨_,af⟩
   ·obtain⟨kvs',e'⟩:=al b hb;exact⟨kvs',by rw[aq z];exact e'⟩
 intro σ H10 hp;obtain⟨r10,rfl,of,al⟩:=(hPv _ _ _).mp hp;clear hp hPv Pv;have nf:∀{a:Addr}{o:HO},H9 a=some o->(∀kvs,o≠.dT kvs)->H10 a=some o:=λe h=>of _ _ e (nSl e h);have s69:=s68.trans u4;have eF10:=nf fA10.tp (λ_ z=>nomatch z);have eL10:=nf fA10.ls (λ_ z=>nomatch z);have eBt10:=nf (u4 _ _ eBt) (λ_ z=>nomatch z);have eD10:=nf (u4 _ _ eD8) (λ_ z=>nomatch z);have fr:∀{a:Addr} {kvs},H' a=none->H9 a=some (.dT kvs)->H10 a=some (.dT kvs):=λn e=>of _ _ e λz=>by
  obtain⟨⟨kvs',e'⟩,_⟩:=dS _ z;rw[n]at e';cases e'
 have eBu10:=fr f1 (u4 _ _ eBu);have eBw10:=fr f2' (u4 _ _ eBw);have hB10:DHs H10 bs ((aR (far+1)).map λi=>pdD (ps.map λp=>stD p i far)):=⟨hB8.len,λi b f e1 e2=>fr (nB b (ci e1)) (u4 _ _ (hB8.get i b f e1 e2))⟩
 have nDL:D≠L':=λz=>by rw[z,fA6.ls]at nD;cases nD
 have kn:Kn H2 (L2.upd H10 L' (.lst [])):=λa o e h=>by
  have e9:=(s28.trans u4) _ _ e;rw[aq (λz=>by rw[z,nL']at e;cases e)];exact nf e9 h
 dsimp only[az]
 k_typeOf
 refine⟨_,SqT.of eF10,_,rfl,fx (SqL.of eL10),L',rfl,_,eL10,?_⟩;have eBt11:L2.upd H10 L' (.lst []) Bt=some (.tup [V.ref D,V.ref Bu,V.ref Bw]):=by rw[aq (aW eBt10 eL10 (λz=>nomatch z))];exact eBt10
 have eD11:L2.upd H10 L' (.lst []) D=some (.lst (bs.map V.ref)):=by rw[aq nDL];exact eD10
 have eBu11:L2.upd H10 L' (.lst []) Bu=_:=(aq (aW eBu10 eL10 (λz=>nomatch z))).trans eBu10;have eBw11:L2.upd H10 L' (.lst []) Bw=_:=(aq (aW eBw10 eL10 (λz=>nomatch z))).trans eBw10;have hB11:=hB10.upL (ys:=[]) eL10;generalize L2.upd H10 L' (.lst [])=H11 at kn eBt11 eD11 eBu11 eBw11 hB11 ⊢;clear eBt10 eD10 eBu10 eBw10 hB10 nf fr of al nSl dS eC u4 u3 eBt eBu eBw eD8 hB8 fA9 fA10 eF10 eL10 nC np s28 s68 s69 s26 fA6 nD nB f1 f2';obtain⟨ot,hot,o2⟩:∃ot:Nat,((far:Int)+1) % 3=(ot:Int)∧ot<=2:=⟨(((far:Int)+1) % 3).toNat,by omega,by omega⟩
 dsimp only[az]
 k_typeOf
 refine⟨by decide,?_⟩;rw[hot];have hx11:=kn.term hx;obtain⟨dx',P1',P2',qs',h1',_⟩:=id hx11;have eL11:=kn _ _ (s2 _ _ eL) (λ_ z=>nomatch z);have hP11:=kn.pts (hP.on s2);clear kn;dsimp only[az]
 k_typeOf
 refine⟨dx',_,h1',rfl,x,_,rs,ps,ot,rfl,hx11,l6,hO,o2,hdg,λF2 L2' U2 W2 as2 H12 s12 nL2 eF2 eL2 dL2 dU2 dW2=>?_⟩;refine⟨L,F2,x,L2',U2,W2,as2,rs,ps,_,_,_,ot,5,3,rfl,s12 _ _ eL11,hP11.on s12,l6,hO,o2,Bd.of_lt (m:=32) (by decide) (by decide),Bd.of_lt (m:=32) (by decide) (by decide),⟨eF2,eL2,dL2,dU2,dW2⟩,fr_all hO l6 hdg o2,.inl ⟨_,rs,hx11.on s12⟩,λH13 s13=>⟨true,rfl,?_⟩⟩;rw[if_neg (by decide)];refine⟨far,rfl,f2,λH14 s14=>⟨true,rfl,?_⟩⟩;rw[if_neg (by decide)];have sE:=s12.trans (s13.trans s14);refine⟨dx',_,sE _ _ h1',rfl,x,_,rs,ps,far,rfl,hx11.on sE,l6,hO,f2,hdg,λF3 L3 U3 W3 as3 H15 s15 nL3 eF3 eL3 dL3 dU3 dW3=>?_⟩;have sF:=sE.trans s15;have sd:∀y,(y∈((aR (far+1)).map λi=>pdD (ps.map λp=>stD p i far))∨y=pdD (ps.map λp=>upD p far)∨y=pdD (ps.map λp=>dnD p far))->dX y y:=λy hy=>by
  obtain⟨⟨d,b,o1,_,_⟩,_⟩:=fO.pd y hy;exact⟨rfl,λz hz=>E2 o1.nd hz⟩
 exact⟨F3,rfl,L3,D,U3,W3,SqT.of eF3,Bu,Bw,SqT.of (sF _ _ eBt11),as3,SqL.of eL3,bs,SqL.of (sF _ _ eD11),_,dL3.len,hB11.len,λi a f e1 e2=>.inl (dL3.get i a f e1 e2),λi a f e1 e2=>.inl (sF _ _ (hB11.get i a f e1 e2)),λy hy=>sd y (.inl hy),_,sd _ (.inr (.inl rfl)),_,sd _ (.inr (.inr rfl)),.inl dU3,.inl (sF _ _ eBu11),.inl dW3,.inl (sF _ _ eBw11),q _⟩
theorem PM {us:List Value}(h:us.length=1):∃x0,us=[x0]:=by
 match us,h with
 | [x0],_=>exact⟨x0,rfl⟩
theorem PN {us:List Value}(h:us.length=2):∃x0 x1,us=[x0,x1]:=by
 match us,h with
 | [x0,x1],_=>exact⟨x0,x1,rfl⟩
theorem PP {us:List Value}(h:us.length=3):∃x0 x1 x2,us=[x0,x1,x2]:=by
 match us,h with
 | [x0,x1,x2],_=>exact⟨x0,x1,x2,rfl⟩
theorem PQ {us:List Value}(h:us.length=4):∃x0 x1 x2 x3,us=[x0,x1,x2,x3]:=by
 match us,h with
 | [x0,x1,x2,x3],_=>exact⟨x0,x1,x2,x3,rfl⟩
theorem PR {us:List Value}(h:us.length=6):∃x0 x1 x2 x3 x4 x5,us=[x0,x1,x2,x3,x4,x5]:=by
 match us,h with
 | [x0,x1,x2,x3,x4,x5],_=>exact⟨x0,x1,x2,x3,x4,x5,rfl⟩
local macro_rules | `(tactic| o_law)=>`(tactic| (intro _ _ _ _ _ _ us hl;first|(obtain⟨x0,e⟩:=PM hl;subst e;rfl)|(obtain⟨x0,x1,e⟩:=PN hl;subst e;rfl)|(obtain⟨x0,x1,x2,e⟩:=PP hl;subst e;rfl)|(obtain⟨x0,x1,x2,x3,e⟩:=PQ hl;subst e;rfl)|(obtain⟨x0,x1,x2,x3,x4,x5,e⟩:=PR hl;subst e;rfl)))
abbrev fdK (x q:Str) (st:Stmt) (pm:Value) (c:Nat):FuncData:=PySem.W.fnOf x q (i9 st) (f6 st) (aA st) .none .none .none pm none (.ref c) .none
abbrev FU (P:Params) (x q:Str) (st:Stmt) (f:Addr) (pm:Value) (c:Nat):Prop:=Fun (KK P) x q st f (fdK x q st pm c)
theorem fuk {P:Params}{x q:Str}{st:Stmt}{f:Addr}{pm:Value}{c:Nat}(l:(KK P).lookup f=some ⟨.type "function",none,.func (fdK x q st pm c),#[]⟩) (h:PySem.W.codeIn (KK P) (.ref c) q=true) (k:PySem.W.keepIn (KK P) (.ref f)=true):FU P x q st f pm c:=Kg l h k
abbrev pm0:Value:=.str "sumcraft.pairs" 246
abbrev pm1:Value:=.str "sumcraft.ratios" 284
abbrev pm2:Value:=.str "sumcraft.parts" 328
abbrev pm3:Value:=.str "sumcraft.terms" 692
abbrev pm4:Value:=.str "law_sumcraft_k54_frames_by_numbers" 805
theorem kf0 (P:Params):FU P "bare" "bare" tD 63 pm0 62:=fuk (by kernel_rfl) (by kernel_rfl) (by kernel_rfl)
theorem kf1 (P:Params):FU P "pair_times" "pair_times" tE 70 pm0 69:=fuk (by kernel_rfl) (by kernel_rfl) (by kernel_rfl)
theorem kf2 (P:Params):FU P "pair_of_form" "pair_of_form" tF 77 pm0 76:=fuk (by kernel_rfl) (by kernel_rfl) (by kernel_rfl)
theorem kf3 (P:Params):FU P "pair_product" "pair_product" tG 84 pm0 83:=fuk (by kernel_rfl) (by kernel_rfl) (by kernel_rfl)
theorem kf4 (P:Params):FU P "divisor" "divisor" tH 98 pm1 97:=fuk (by kernel_rfl) (by kernel_rfl) (by kernel_rfl)
theorem kf5 (P:Params):FU P "ratio" "ratio" tI 105 pm1 104:=fuk (by kernel_rfl) (by kernel_rfl) (by kernel_rfl)
theorem kf6 (P:Params):FU P "form_value" "form_value" tJ 112 pm2 111:=fuk (by kernel_rfl) (by kernel_rfl) (by kernel_rfl)
theorem kf7 (P:Params):FU P "raised" "raised" tK 119 pm2 118:=fuk (by kernel_rfl) (by kernel_rfl) (by kernel_rfl)
theorem kf8 (P:Params):FU P "raised_from" "raised_from" tL 124 pm2 123:=fuk (by kernel_rfl) (by kernel_rfl) (by kernel_rfl)
theorem kf9 (P:Params):FU P "low_forms" "low_forms" tM 131 pm2 130:=fuk (by kernel_rfl) (by kernel_rfl) (by kernel_rfl)
theorem G6 (P:Params):FU P "power_of" "power_of" tN 138 pm2 137:=fuk (by kernel_rfl) (by kernel_rfl) (by kernel_rfl)
theorem G7 (P:Params):FU P "run_product" "run_product" tO 145 pm2 144:=fuk (by kernel_rfl) (by kernel_rfl) (by kernel_rfl)
theorem G8 (P:Params):FU P "choices" "choices" tP 152 pm2 151:=fuk (by kernel_rfl) (by kernel_rfl) (by kernel_rfl)
theorem G9 (P:Params):FU P "within" "within" tQ 386 pm3 385:=fuk (by kernel_rfl) (by kernel_rfl) (by kernel_rfl)
theorem G_ (P:Params):FU P "check_choose" "check_choose" tR 393 pm3 392:=fuk (by kernel_rfl) (by kernel_rfl) (by kernel_rfl)
theorem Ha (P:Params):FU P "check_base" "check_base" tS 400 pm3 399:=fuk (by kernel_rfl) (by kernel_rfl) (by kernel_rfl)
theorem Hc (P:Params):FU P "piece_of" "piece_of" tT 407 pm3 406:=fuk (by kernel_rfl) (by kernel_rfl) (by kernel_rfl)
theorem Hd (P:Params):FU P "product" "product" tU 414 pm3 413:=fuk (by kernel_rfl) (by kernel_rfl) (by kernel_rfl)
theorem He (P:Params):FU P "_law_cell_at" "_law_cell_at" tV 462 pm4 461:=fuk (by kernel_rfl) (by kernel_rfl) (by kernel_rfl)
theorem Hf (P:Params):FU P "_law_number" "_law_number" tW 469 pm4 468:=fuk (by kernel_rfl) (by kernel_rfl) (by kernel_rfl)
theorem Hg (P:Params):FU P "_law_whole" "_law_whole" tX 476 pm4 475:=fuk (by kernel_rfl) (by kernel_rfl) (by kernel_rfl)
theorem Hh (P:Params):FU P "_law_divisor" "_law_divisor" tY 483 pm4 482:=fuk (by kernel_rfl) (by kernel_rfl) (by kernel_rfl)
theorem Hi (P:Params):FU P "_law_mixed" "_law_mixed" tZ 490 pm4 489:=fuk (by kernel_rfl) (by kernel_rfl) (by kernel_rfl)
theorem Hj (P:Params):FU P "_law_forms" "_law_forms" t6 497 pm4 496:=fuk (by kernel_rfl) (by kernel_rfl) (by kernel_rfl)
theorem Hk (P:Params):FU P "_law_ratio" "_law_ratio" t7 504 pm4 503:=fuk (by kernel_rfl) (by kernel_rfl) (by kernel_rfl)
theorem Hl (P:Params):FU P "_law_part" "_law_part" t8 509 pm4 508:=fuk (by kernel_rfl) (by kernel_rfl) (by kernel_rfl)
theorem Hm (P:Params):FU P "_law_parts" "_law_parts" t9 514 pm4 513:=fuk (by kernel_rfl) (by kernel_rfl) (by kernel_rfl)
theorem Hn (P:Params):FU P "_law_at" "_law_at" t_ 521 pm4 520:=fuk (by kernel_rfl) (by kernel_rfl) (by kernel_rfl)
theorem Ho (P:Params):FU P "_law_raised" "_law_raised" ua 528 pm4 527:=fuk (by kernel_rfl) (by kernel_rfl) (by kernel_rfl)
theorem Hq (P:Params):FU P "_law_alike" "_law_alike" ub 535 pm4 534:=fuk (by kernel_rfl) (by kernel_rfl) (by kernel_rfl)
theorem Hr (P:Params):FU P "_law_made" "_law_made" uc 542 pm4 541:=fuk (by kernel_rfl) (by kernel_rfl) (by kernel_rfl)
theorem Hs (P:Params):FU P "_law_is_dict" "_law_is_dict" ue 549 pm4 548:=fuk (by kernel_rfl) (by kernel_rfl) (by kernel_rfl)
theorem Ht (P:Params):FU P "_law_is_frame" "_law_is_frame" uf 556 pm4 555:=fuk (by kernel_rfl) (by kernel_rfl) (by kernel_rfl)
theorem Hu (P:Params):FU P "_law_pair_at" "_law_pair_at" ug 563 pm4 562:=fuk (by kernel_rfl) (by kernel_rfl) (by kernel_rfl)
theorem Hv (P:Params):FU P "_law_rise" "_law_rise" uh 570 pm4 569:=fuk (by kernel_rfl) (by kernel_rfl) (by kernel_rfl)
theorem Hw (P:Params):FU P "_law_choose" "_law_choose" ui 575 pm4 574:=fuk (by kernel_rfl) (by kernel_rfl) (by kernel_rfl)
theorem Hz (P:Params):FU P "_law_due" "_law_due" uj 580 pm4 579:=fuk (by kernel_rfl) (by kernel_rfl) (by kernel_rfl)
theorem HA (P:Params):FU P "_law_floor" "_law_floor" uk 585 pm4 584:=fuk (by kernel_rfl) (by kernel_rfl) (by kernel_rfl)
theorem HB (P:Params):FU P "_law_meets" "_law_meets" ul 590 pm4 589:=fuk (by kernel_rfl) (by kernel_rfl) (by kernel_rfl)
theorem HC (P:Params):FU P "_law_alone" "_law_alone" um 595 pm4 594:=fuk (by kernel_rfl) (by kernel_rfl) (by kernel_rfl)
theorem HD (P:Params):FU P "_law_plain" "_law_plain" uo 602 pm4 601:=fuk (by kernel_rfl) (by kernel_rfl) (by kernel_rfl)
theorem HE (P:Params):FU P "law" "law" uq 607 pm4 606:=fuk (by kernel_rfl) (by kernel_rfl) (by kernel_rfl)
theorem HF (P:Params):FU P "step" "Part.step" ur 173 pm2 172:=fuk (by kernel_rfl) (by kernel_rfl) (by kernel_rfl)
theorem HG (P:Params):FU P "up" "Part.up" ut 180 pm2 179:=fuk (by kernel_rfl) (by kernel_rfl) (by kernel_rfl)
theorem HH (P:Params):FU P "down" "Part.down" uv 187 pm2 186:=fuk (by kernel_rfl) (by kernel_rfl) (by kernel_rfl)
theorem HI (P:Params):FU P "floor" "Part.floor" uw 194 pm2 193:=fuk (by kernel_rfl) (by kernel_rfl) (by kernel_rfl)
theorem HJ (P:Params):FU P "__init__" "Choose.__init__" ux 215 pm2 214:=fuk (by kernel_rfl) (by kernel_rfl) (by kernel_rfl)
theorem HK (P:Params):FU P "lifted" "Choose.lifted" uy 220 pm2 219:=fuk (by kernel_rfl) (by kernel_rfl) (by kernel_rfl)
theorem HL (P:Params):FU P "worth" "Choose.worth" uz 227 pm2 226:=fuk (by kernel_rfl) (by kernel_rfl) (by kernel_rfl)
theorem HM (P:Params):FU P "step" "Choose.step" uA 234 pm2 233:=fuk (by kernel_rfl) (by kernel_rfl) (by kernel_rfl)
theorem HN (P:Params):FU P "up" "Choose.up" uB 241 pm2 240:=fuk (by kernel_rfl) (by kernel_rfl) (by kernel_rfl)
theorem HP (P:Params):FU P "down" "Choose.down" uC 248 pm2 247:=fuk (by kernel_rfl) (by kernel_rfl) (by kernel_rfl)
theorem HQ (P:Params):FU P "floor" "Choose.floor" uD 253 pm2 252:=fuk (by kernel_rfl) (by kernel_rfl) (by kernel_rfl)
theorem HR (P:Params):FU P "__init__" "Weight.__init__" uE 272 pm2 271:=fuk (by kernel_rfl) (by kernel_rfl) (by kernel_rfl)
theorem HS (P:Params):FU P "worth" "Weight.worth" uF 279 pm2 278:=fuk (by kernel_rfl) (by kernel_rfl) (by kernel_rfl)
theorem HU (P:Params):FU P "step" "Weight.step" uG 286 pm2 285:=fuk (by kernel_rfl) (by kernel_rfl) (by kernel_rfl)
theorem HV (P:Params):FU P "__init__" "Power.__init__" uH 305 pm2 304:=fuk (by kernel_rfl) (by kernel_rfl) (by kernel_rfl)
theorem HW (P:Params):FU P "worth" "Power.worth" uJ 312 pm2 311:=fuk (by kernel_rfl) (by kernel_rfl) (by kernel_rfl)
theorem HX (P:Params):FU P "up" "Power.up" uK 319 pm2 318:=fuk (by kernel_rfl) (by kernel_rfl) (by kernel_rfl)
theorem HY (P:Params):FU P "down" "Power.down" uL 326 pm2 325:=fuk (by kernel_rfl) (by kernel_rfl) (by kernel_rfl)
theorem HZ (P:Params):FU P "floor" "Power.floor" uM 333 pm2 332:=fuk (by kernel_rfl) (by kernel_rfl) (by kernel_rfl)
theorem H_ (P:Params):FU P "__init__" "Growth.__init__" uN 352 pm2 351:=fuk (by kernel_rfl) (by kernel_rfl) (by kernel_rfl)
theorem Ia (P:Params):FU P "worth" "Growth.worth" uO 359 pm2 358:=fuk (by kernel_rfl) (by kernel_rfl) (by kernel_rfl)
theorem Ic (P:Params):FU P "step" "Growth.step" uP 366 pm2 365:=fuk (by kernel_rfl) (by kernel_rfl) (by kernel_rfl)
theorem Ie (P:Params):FU P "floor" "Growth.floor" uQ 373 pm2 372:=fuk (by kernel_rfl) (by kernel_rfl) (by kernel_rfl)
theorem If (P:Params):FU P "__init__" "Term.__init__" uR 426 pm3 425:=fuk (by kernel_rfl) (by kernel_rfl) (by kernel_rfl)
theorem Ig (P:Params):FU P "worth" "Term.worth" uS 438 pm3 437:=fuk (by kernel_rfl) (by kernel_rfl) (by kernel_rfl)
theorem Ih (P:Params):FU P "floor" "Term.floor" uT 443 pm3 442:=fuk (by kernel_rfl) (by kernel_rfl) (by kernel_rfl)
theorem Ii (P:Params):FU P "frame" "Term.frame" uU 448 pm3 447:=fuk (by kernel_rfl) (by kernel_rfl) (by kernel_rfl)
theorem kx0 (P:Params):∀H:Hp,SqT (KK P) H 381 [.int (3),.int (3),.int (9)]:=λH=>.inr ⟨⟨.type "tuple",none,.seq #[.int (3) 707,.int (3) 708,.int (9) 709],#[]⟩,_,_,by kernel_rfl,rfl,rfl,by decide,.cons ⟨_,rfl⟩ (.cons ⟨_,rfl⟩ (.cons ⟨_,rfl⟩ .nil))⟩
theorem kx1 (P:Params):∀H:Hp,SqT (KK P) H 379 [.int (0),.int (0),.int (0)]:=λH=>.inr ⟨⟨.type "tuple",none,.seq #[.int (0) 696,.int (0) 697,.int (0) 698],#[]⟩,_,_,by kernel_rfl,rfl,rfl,by decide,.cons ⟨_,rfl⟩ (.cons ⟨_,rfl⟩ (.cons ⟨_,rfl⟩ .nil))⟩
theorem kx2 (P:Params):∀H:Hp,SqT (KK P) H 380 [.int (-3),.int (-3),.int (-9)]:=λH=>.inr ⟨⟨.type "tuple",none,.seq #[.int (-3) 701,.int (-3) 703,.int (-9) 705],#[]⟩,_,_,by kernel_rfl,rfl,rfl,by decide,.cons ⟨_,rfl⟩ (.cons ⟨_,rfl⟩ (.cons ⟨_,rfl⟩ .nil))⟩
theorem PU {l:PySem.W.OpenLaw}{q:Program}{loose:List Str}{XP:(Str->Option Value)->Heap->Prop}{YP:World->Heap->Prop}{d:DefRec}{K:Params->W.Frag}(hn:l.most=some 63) (hdf:d.params.defaults=[])
  (hY:∀(w:World) (h:Heap),YP w h->(K w.params).In h)
  (F:∀(w:World) (mg:Str->Option Value) (fa:Addr) (h:Heap),(K w.params).In h->h.Ns mainGlobals mg->mg d.name=some (.ref fa)->
   ∃T:Tx (K w.params) mg,T.Q4=fa∧∀(s:Shared) (v:Value),BindsTo s T.QP ⟨[v],[]⟩ [("_law_script",v)]):
  PySem.W.WalkO q loose XP YP l.row.toRowW d [] (λf vs=>PySem.call f vs):=
 L2.Kf (n:=63) (k:=30) (x := "_law_script") (CX:=λ_=>CX0) (sp:=λw=>G2 (K w.params)) hn (by decide) hdf ⟨rfl,by decide,by decide⟩ hY
  (λw mg fa h KX G hmg=>by
   obtain⟨T,e,hb⟩:=F w mg fa h KX G hmg;subst e;exact⟨T.QP,hb,λbase _ _=>FnOk.mono (PL T) (by decide)⟩)
  (λ_ H a ns hl _ hS=>⟨a,ns,rfl,hS,hl,λ_=>rfl⟩) λ_ _ _ _ _ z=>z
theorem facts (w:World) (mg:Str->Option Value) (fa:Addr) (h:Heap) (KX:(KK w.params).In h) (G:h.Ns mainGlobals mg) (hmg:mg "law" = some (.ref fa)):
  ∃T:Tx (KK w.params) mg,T.Q4=fa∧∀(s:Shared) (v:Value),BindsTo s T.QP ⟨[v],[]⟩ [("_law_script",v)]:=by
 have ma:∀{x:Str}{f:Addr},PySem.W.nsIn (KK w.params) mainGlobals x=some (some (.ref f))->mg x=some (.ref f):=λe=>PySem.W.mg_of KX G e;have mi:∀{x:Str}{i:Int}{t:Tok},PySem.W.nsIn (KK w.params) mainGlobals x=some (some (.int i t))->mg x=some (.int i t):=λe=>PySem.W.mg_of KX G e;have mz:∀{x:Str},PySem.W.nsIn (KK w.params) mainGlobals x=some none->mg x=none:=λe=>PySem.W.mg_none_of KX G e;have e:=hmg.symm.trans (ma (f:=607) (by kernel_rfl))
 cases e
 exact⟨⟨_,_,kf0 _,ma (by kernel_rfl),(kf0 _).binds (by o_law),_,_,kf1 _,ma (by kernel_rfl),(kf1 _).binds (by o_law),_,_,kf2 _,ma (by kernel_rfl),(kf2 _).binds (by o_law),_,_,kf3 _,ma (by kernel_rfl),(kf3 _).binds (by o_law),_,_,kf4 _,ma (by kernel_rfl),(kf4 _).binds (by o_law),_,_,kf5 _,ma (by kernel_rfl),(kf5 _).binds (by o_law),_,_,kf6 _,ma (by kernel_rfl),(kf6 _).binds (by o_law),_,_,kf7 _,ma (by kernel_rfl),(kf7 _).binds (by o_law),_,_,kf8 _,ma (by kernel_rfl),(kf8 _).binds (by o_law),_,_,kf9 _,ma (by kernel_rfl),(kf9 _).binds (by o_law),_,_,G6 _,ma (by kernel_rfl),(G6 _).binds (by o_law),_,_,G7 _,ma (by kernel_rfl),(G7 _).binds (by o_law),_,_,G8 _,ma (by kernel_rfl),(G8 _).binds (by o_law),_,_,G9 _,ma (by kernel_rfl),(G9 _).binds (by o_law),_,_,G_ _,ma (by kernel_rfl),(G_ _).binds (by o_law),_,_,Ha _,ma (by kernel_rfl),(Ha _).binds (by o_law),_,_,Hc _,ma (by kernel_rfl),(Hc _).binds (by o_law),_,_,Hd _,ma (by kernel_rfl),(Hd _).binds (by o_law),_,_,He _,ma (by kernel_rfl),(He _).binds (by o_law),_,_,Hf _,ma (by kernel_rfl),(Hf _).binds (by o_law),_,_,Hg _,ma (by kernel_rfl),(Hg _).binds (by o_law),_,_,Hh _,ma (by kernel_rfl),(Hh _).binds (by o_law),_,_,Hi _,ma (by kernel_rfl),(Hi _).binds (by o_law),_,_,Hj _,ma (by kernel_rfl),(Hj _).binds (by o_law),_,_,Hk _,ma (by kernel_rfl),(Hk _).binds (by o_law),_,_,Hl _,ma (by kernel_rfl),(Hl _).binds (by o_law),_,_,Hm _,ma (by kernel_rfl),(Hm _).binds (by o_law),_,_,Hn _,ma (by kernel_rfl),(Hn _).binds (by o_law),_,_,Ho _,ma (by kernel_rfl),(Ho _).binds (by o_law),_,_,Hq _,ma (by kernel_rfl),(Hq _).binds (by o_law),_,_,Hr _,ma (by kernel_rfl),(Hr _).binds (by o_law),_,_,Hs _,ma (by kernel_rfl),(Hs _).binds (by o_law),_,_,Ht _,ma (by kernel_rfl),(Ht _).binds (by o_law),_,_,Hu _,ma (by kernel_rfl),(Hu _).binds (by o_law),_,_,Hv _,ma (by kernel_rfl),(Hv _).binds (by o_law),_,_,Hw _,ma (by kernel_rfl),(Hw _).binds (by o_law),_,_,Hz _,ma (by kernel_rfl),(Hz _).binds (by o_law),_,_,HA _,ma (by kernel_rfl),(HA _).binds (by o_law),_,_,HB _,ma (by kernel_rfl),(HB _).binds (by o_law),_,_,HC _,ma (by kernel_rfl),(HC _).binds (by o_law),_,_,HD _,ma (by kernel_rfl),(HD _).binds (by o_law),_,_,HE _,ma (by kernel_rfl),(HE _).binds (by o_law),_,_,HF _,(HF _).binds (by o_law),_,_,HG _,(HG _).binds (by o_law),_,_,HH _,(HH _).binds (by o_law),_,_,HI _,(HI _).binds (by o_law),_,_,HJ _,(HJ _).binds (by o_law),_,_,HK _,(HK _).binds (by o_law),_,_,HL _,(HL _).binds (by o_law),_,_,HM _,(HM _).binds (by o_law),_,_,HN _,(HN _).binds (by o_law),_,_,HP _,(HP _).binds (by o_law),_,_,HQ _,(HQ _).binds (by o_law),_,_,HR _,(HR _).binds (by o_law),_,_,HS _,(HS _).binds (by o_law),_,_,HU _,(HU _).binds (by o_law),_,_,HV _,(HV _).binds (by o_law),_,_,HW _,(HW _).binds (by o_law),_,_,HX _,(HX _).binds (by o_law),_,_,HY _,(HY _).binds (by o_law),_,_,HZ _,(HZ _).binds (by o_law),_,_,H_ _,(H_ _).binds (by o_law),_,_,Ia _,(Ia _).binds (by o_law),_,_,Ic _,(Ic _).binds (by o_law),_,_,Ie _,(Ie _).binds (by o_law),_,_,If _,(If _).binds (by o_law),_,_,Ig _,(Ig _).binds (by o_law),_,_,Ih _,(Ih _).binds (by o_law),_,_,Ii _,(Ii _).binds (by o_law),44,ma (by kernel_rfl),by kernel_rfl,56,ma (by kernel_rfl),by kernel_rfl,256,ma (by kernel_rfl),⟨by kernel_rfl,by kernel_rfl,by kernel_rfl,by kernel_rfl⟩,⟨by kernel_rfl,by kernel_rfl,by kernel_rfl,by kernel_rfl⟩,⟨by kernel_rfl,by kernel_rfl,by kernel_rfl⟩,⟨by kernel_rfl,by kernel_rfl,by kernel_rfl⟩,⟨by kernel_rfl,by kernel_rfl,by kernel_rfl⟩,⟨by kernel_rfl,by kernel_rfl,by kernel_rfl⟩,⟨by kernel_rfl,by kernel_rfl,by kernel_rfl⟩,⟨by kernel_rfl,by kernel_rfl,by kernel_rfl⟩,by show PySem.W.findIn _ _ _=_;kernel_rfl,by show PySem.W.findIn _ _ _=_;kernel_rfl,⟨by kernel_rfl,by kernel_rfl,by kernel_rfl,by kernel_rfl⟩,376,ma (by kernel_rfl),⟨by kernel_rfl,by kernel_rfl,by kernel_rfl,by kernel_rfl⟩,⟨by kernel_rfl,by kernel_rfl,by kernel_rfl,by kernel_rfl⟩,⟨by kernel_rfl,by kernel_rfl,by kernel_rfl⟩,⟨by kernel_rfl,by kernel_rfl,by kernel_rfl⟩,⟨by kernel_rfl,by kernel_rfl,by kernel_rfl⟩,⟨by kernel_rfl,by kernel_rfl,by kernel_rfl⟩,⟨by kernel_rfl,by kernel_rfl,by kernel_rfl⟩,by show PySem.W.findIn _ _ _=_;kernel_rfl,⟨by kernel_rfl,by kernel_rfl,by kernel_rfl,by kernel_rfl⟩,197,ma (by kernel_rfl),⟨by kernel_rfl,by kernel_rfl,by kernel_rfl,by kernel_rfl⟩,⟨by kernel_rfl,by kernel_rfl,by kernel_rfl⟩,⟨by kernel_rfl,by kernel_rfl,by kernel_rfl⟩,⟨by kernel_rfl,by kernel_rfl,by kernel_rfl⟩,⟨by kernel_rfl,by kernel_rfl,by kernel_rfl⟩,⟨by kernel_rfl,by kernel_rfl,by kernel_rfl⟩,336,ma (by kernel_rfl),⟨by kernel_rfl,by kernel_rfl,by kernel_rfl,by kernel_rfl⟩,⟨by kernel_rfl,by kernel_rfl,by kernel_rfl,by kernel_rfl⟩,⟨by kernel_rfl,by kernel_rfl,by kernel_rfl⟩,⟨by kernel_rfl,by kernel_rfl,by kernel_rfl⟩,⟨by kernel_rfl,by kernel_rfl,by kernel_rfl⟩,⟨by kernel_rfl,by kernel_rfl,by kernel_rfl⟩,⟨by kernel_rfl,by kernel_rfl,by kernel_rfl⟩,by show PySem.W.findIn _ _ _=_;kernel_rfl,⟨by kernel_rfl,by kernel_rfl,by kernel_rfl,by kernel_rfl⟩,451,ma (by kernel_rfl),⟨by kernel_rfl,by kernel_rfl,by kernel_rfl,by kernel_rfl⟩,⟨by kernel_rfl,by kernel_rfl,by kernel_rfl,by kernel_rfl⟩,⟨by kernel_rfl,by kernel_rfl,by kernel_rfl⟩,⟨by kernel_rfl,by kernel_rfl,by kernel_rfl⟩,⟨by kernel_rfl,by kernel_rfl,by kernel_rfl⟩,by show PySem.W.findIn _ _ _=_;kernel_rfl,by show PySem.W.findIn _ _ _=_;kernel_rfl,289,ma (by kernel_rfl),⟨by kernel_rfl,by kernel_rfl,by kernel_rfl,by kernel_rfl⟩,⟨by kernel_rfl,by kernel_rfl,by kernel_rfl,by kernel_rfl⟩,⟨by kernel_rfl,by kernel_rfl,by kernel_rfl⟩,⟨by kernel_rfl,by kernel_rfl,by kernel_rfl⟩,⟨by kernel_rfl,by kernel_rfl,by kernel_rfl⟩,⟨by kernel_rfl,by kernel_rfl,by kernel_rfl⟩,⟨by kernel_rfl,by kernel_rfl,by kernel_rfl⟩,by show PySem.W.findIn _ _ _=_;kernel_rfl,⟨by kernel_rfl,by kernel_rfl,by kernel_rfl,by kernel_rfl⟩,by kernel_rfl,by kernel_rfl,by kernel_rfl,by kernel_rfl,mz (by kernel_rfl),mz (by kernel_rfl),mz (by kernel_rfl),mz (by kernel_rfl),mz (by kernel_rfl),mz (by kernel_rfl),mz (by kernel_rfl),mz (by kernel_rfl),mz (by kernel_rfl),mz (by kernel_rfl),mz (by kernel_rfl),mz (by kernel_rfl),mz (by kernel_rfl),mz (by kernel_rfl),⟨286,mi (by kernel_rfl)⟩,⟨330,mi (by kernel_rfl)⟩,⟨694,mi (by kernel_rfl)⟩,⟨381,ma (by kernel_rfl),kx0 _⟩,⟨379,ma (by kernel_rfl),kx1 _⟩,⟨380,ma (by kernel_rfl),kx2 _⟩⟩,rfl,λs v=>.of_eq rfl⟩
end My
open PySem PySem.W PyProof.Rows
set_option maxRecDepth 100000 in
set_option maxHeartbeats 0 in
theorem PySem.Challenge.cw_sumcraft_k54_frames_by_numbers_holds : PySem.Challenge.rw_sumcraft_k54_frames_by_numbers.Holds := by
 refine holds_law My.Jb λsaid=>?_;refine holds_open (r:=PySem.Challenge.rw_sumcraft_k54_frames_by_numbers.row)
  (q:=My.qv) (loose:=[]) (Xt:=My.xt)
  (XP:=XL My.qv []) (Yf:=My.hk.obs) (Ya:=My.hk.val)
  (YP:=My.hk.says) (N:=8612)
  My.left My.hk.of My.hk.keeps
  (λs e=>xl_of s (Bool.and_eq_true_iff.mp e).1)
  XL.keeps (by rfl) (by rfl) (by rfl)
  (λs e=>recFacts_of (Bool.and_eq_true_iff.mp e).2)
  (by rfl) said (by decide +kernel)
  My.Jc ?wit ?go
 case wit=>w_witness2
 case go=>exact My.PU (l:=PySem.Challenge.rw_sumcraft_k54_frames_by_numbers) rfl rfl (λw h Y=>kIn_of Y) My.facts
