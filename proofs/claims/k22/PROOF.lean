import PyProof.Rows.All
import Wide.All
import OpenK.AllK
import Wide.FinOn
import Lean
import PyProof.EqAt
import PyProof.EqKinds
import PyProof.TupleCall
import PySem.Challenge.RW_sumcraft_k22_whole_span
set_option Elab.async false
set_option linter.all false
set_option maxRecDepth 100000
set_option maxHeartbeats 4000000
set_option compiler.extract_closed false
set_option bootstrap.genMatcherCode false
local macro_rules | `(tactic| omega) => `(tactic| first|lia|omega +splitDisjunctions)
noncomputable section
open List renaming length_map→ae,getElem?_eq_getElem→ak,getD_eq_getElem?_getD→av,getElem?_map→az,replicate→aC,mem_append→aK,mem_cons→aO,mem_singleton→aP,map_append→aQ,mem_map→aT,getElem?_eq_some_iff→aV,getElem_mem→aW,range→a8,eq_nil_of_length_eq_zero→bE,mem_of_getElem?→bH,mem_cons_of_mem→bM,length_take→bT,length_append→bU,length_cons→bX,getElem_map→b5,getElem?_append_left→b_,mem_cons_self→cD,take_succ→cM,mem_append_right→cP,size_toArray→cQ,mem_iff_getElem→cU,map_cons→c_,mem_range→dh,getElem?_append_right→di,length_pos_iff→dO,take_of_length_le→d_,take_length→eV,mem_of_mem_take→fU,mem_append_left→gl,replicate_succ→gr,map_map→gu,map_congr_left→gx,nil_append→gO,not_mem_nil→gQ,length_range→ik,nodup_cons→iI,getElem?_replicate→iJ,length_set→i6,ext_getElem→i9,zipWith→i_,mem_filter→jy,pairwise_iff_getElem→jz,cons_append→jB,sum_cons→jE,lookup→kg,length_drop→kh,drop_zero→kr,nodup_append→ku,getElem_range→ky,range_succ→kz,getElem?_set_ne→lK,length_replicate→lN,flatten_cons→lP,map→mj,getLast?_eq_some_iff→mn,nodup_nil→mo,length_zipWith→mv,length_reverse→mC,getElem?_set_self→qZ,append_nil→q8,length→q9,any_cons→q_,map_take→re,map_drop→rf,getLast?_eq_getElem?→rg,getElem?_eq_none→rh,mem_reverse→rC,getLast?_eq_none_iff→rD,map_nil→xD,lookup_cons→xE,getLast?_eq_some_getLast→xF,find?_cons→xG,length_nil→xH,map_eq_nil_iff→xI,eq_nil_or_concat→xJ,concat_eq_append→xK,getElem?_range→xT,getLast?_map→xY,drop_of_length_le→xZ,sum_append→x8,filterMap_cons→Gi,mem_filterMap→Gk,of_mem_zip→Gm,getElem?_take_of_lt→Gn,take_sublist→Go,append_assoc→Gp,length_singleton→Gq,getElem?_cons_zero→Gr,getLast?_concat→Gs,drop_eq_getElem_cons→Gy,filter_append→GF,length_eq_one_iff→GH,getElem_cons_zero→GJ,getElem_cons_succ→GK,length_dropLast→N5,reverse_append→N7,take_succ_cons→Oa,drop_eq_nil_of_le→Oc,take_append_drop→Od,getElem?_cons_succ→Oe,replicate_zero→Of,getElem?_zipWith→Og,getLast_eq_getElem→Ol,mem_of_getLast?→Os,countP_eq_length_filter→Ot,eq_of_mem_replicate→Ou,sum_replicate_nat→Ov
open Nat renaming le_refl→am,le_trans→aE,zero_le→aI,gcd→bh,lt_of_lt_of_le→bV,le_of_lt→bW,ne_of_lt→cC,lt_of_le_of_lt→cE,pow_add→de,two_pow_pos→dj,mul_le_mul_left→dC,mul_le_mul_right→dE,mul_le_mul→d8,pow_le_pow_right→fo,one_mul→fR,sub_self→fT,le_mul_of_pos_left→gv,mul_comm→gP,mul_pos→gS,le_mul_of_pos_right→ig,mul_assoc→ij,add_mul→iL,lt_irrefl→i4,le_succ→i5,pow_succ→i7,lt_of_not_le→ko,pos_of_ne_zero→kq,mod_lt→kC,lt_succ_self→lM,add_comm→lQ,le_of_not_lt→lU,lt_succ_of_lt→lV,le_of_dvd→lZ,add_le_add→l_,gcd_dvd_left→md,gcd_dvd_right→me,pow_lt_pow_right→mr,mul_one→my,pow_le_pow_left→mB,pow_mul→mE,mul_succ→rE,dvd_gcd→rF,gcd_comm→rG,le_of_eq→xC,strongRecOn→xM,eq_zero_of_zero_dvd→xN,min_eq_left→xS,div_add_mod'→xU,zero_add→x9,ne_of_gt→Gj,sub_zero→Gx,mul_lt_mul_of_pos_left→GB,lt_or_ge→GC,dvd_antisymm→GD,gcd_rec→GE,min_eq_right→GG,add_le_add_right→GI,sub_le_of_le_add→N8,mul_lt_mul_of_pos_right→N9,div_lt_iff_lt_mul→Oh,div_le_div_right→Oi,eq_of_mul_eq_mul_left→On,eq_one_of_mul_eq_one_right→Oo,gcd_pos_of_pos_left→Op,add_le_add_left→Oq
open Int renaming natAbs_mul→b4,mul_comm→cL,mul_zero→cT,natAbs_natCast→df,mul_assoc→dm,toNat_natCast→eE,zero_add→fq,one_mul→fu,dvd_trans→fS,natCast_mul→ga,natCast_dvd_natCast→ii,natAbs_pos→iK,natAbs_add_le→i8,mul_add→ja,mul_left_comm→jb,dvd_mul_right→jA,mul_le_mul_of_nonneg_left→jC,pow_succ→jD,mul_eq_zero→ki,natAbs_sub_le→km,natAbs_dvd_natAbs→lY,mul_fdiv_cancel_left→l6,dvd_zero→mh,ofNat_dvd_left→mw,mul_neg→rj,zero_mul→rl,dvd_mul_left→rn,mul_ediv_cancel'→rp,natAbs_dvd→rA,eq_of_mul_eq_mul_left→rB,mul_ne_zero→rH,mul_one→xz,fdiv_eq_ediv_of_nonneg→xB,mul_sub→xL,zero_dvd→xO,le_of_lt→xP,mul_le_mul_of_nonneg_right→xQ,dvd_natAbs→xV,natCast_pow→xW,lt_of_not_ge→xX,add_zero→Gt,dvd_add→Gu,mul_dvd_mul_left→Gv,add_mul→Gw,dvd_refl→Gz,natAbs_pow→GA,dvd_of_mul_dvd_mul_left→N_,fmod_nonneg_of_pos→Oj,pos_of_mul_pos_right→Om
open Option renaming map_eq_some_iff→b6,getD_some→fB,isSome_iff_exists→N4
namespace My
open PySem PySem.Spec PyProof.Rows PySem.W
noncomputable def top (i:Nat):Stmt:=PySem.Challenge.pw_sumcraft_k22_whole_span.main.body.getD i (.Pass ⟨0,0,0,0⟩)
def b7 (s:Stmt)(j:Nat):Stmt:=match s with
 | .ClassDef _ _ _ b _ _ _ _ _ _ _=>b.getD j (.Pass ⟨0,0,0,0⟩)
 | _=>.Pass ⟨0,0,0,0⟩
abbrev rJ:Stmt:=top 4
abbrev rK:Stmt:=top 5
abbrev rL:Stmt:=top 6
abbrev rM:Stmt:=top 7
abbrev rN:Stmt:=top 8
abbrev rO:Stmt:=top 12
abbrev rP:Stmt:=top 13
abbrev rQ:Stmt:=top 15
abbrev rR:Stmt:=top 16
abbrev rS:Stmt:=top 17
abbrev rT:Stmt:=top 18
abbrev rV:Stmt:=top 19
abbrev rW:Stmt:=top 20
abbrev rX:Stmt:=top 21
abbrev rY:Stmt:=top 22
abbrev rZ:Stmt:=top 25
abbrev r_:Stmt:=top 26
abbrev sd:Stmt:=top 27
abbrev se:Stmt:=top 28
abbrev sf:Stmt:=top 29
abbrev si:Stmt:=top 32
abbrev sj:Stmt:=top 33
abbrev sk:Stmt:=top 34
abbrev sr:Stmt:=top 35
abbrev su:Stmt:=top 36
abbrev sw:Stmt:=top 37
abbrev sB:Stmt:=top 38
abbrev sC:Stmt:=top 39
abbrev sD:Stmt:=top 40
abbrev sE:Stmt:=top 41
abbrev sF:Stmt:=top 42
abbrev sI:Stmt:=top 43
abbrev sJ:Stmt:=b7 (top 30) 0
abbrev sK:Stmt:=b7 (top 30) 1
abbrev sL:Stmt:=b7 (top 30) 2
abbrev sM:Stmt:=b7 (top 30) 3
abbrev sO:Stmt:=b7 (top 30) 4
abbrev sR:Stmt:=b7 (top 30) 5
abbrev sS:Stmt:=b7 (top 30) 6
abbrev sT:Stmt:=b7 (top 30) 7
abbrev sU:Stmt:=b7 (top 30) 8
abbrev sV:Stmt:=b7 (top 30) 9
noncomputable def kE (P:Params) (x:String) (n:Nat) (v:Value):DictEntry:=⟨PyData.keyHash P (Str.ofString x),.str (Str.ofString x) n,v⟩
noncomputable def kM (x q:Str) (s:Stmt) (m:Str) (k c:Nat):Obj:=match s with
 | .FunctionDef _ a b _ _ _ sc _ _ _=>⟨.type "function",none,.func (fnOf x q a b sc .none .none .none (.str m k) none (.ref c) .none),#[]⟩
 | _=>⟨.none,none,.plain,#[]⟩
def kN (x q:Str)(s:Stmt):Obj:=match s with
 | .FunctionDef _ a b _ _ _ sc _ _ _=>⟨.none,none,.func { name:=x,qualname:=q,params:=a,body:=.stmts b,scope:=sc,globals:=0,closure:=[],defaults:=.none,kwdefaults:=.none },#[]⟩
 | _=>⟨.none,none,.plain,#[]⟩
noncomputable def oT (x:Array Value):Obj:={ cls:=.type "tuple",data:=Data.seq x }
noncomputable def oF (x:Array Value):Obj:={ cls:=.none,data:=Data.fields x }
noncomputable def oK (x:Array Value):Obj:={ cls:=.type "code",data:=Data.fields x }
noncomputable def oB (x:Array Value):Obj:={ cls:=.type "builtin_function_or_method",data:=Data.fields x }
def cp (n:Nat):Value:=.str "/claim/cut.py" n
def sW:Obj:=oT #[]
def GL:Obj:=oF #[]
def sX:Obj:=oK #[.str "<module>" 182,.str "<module>" 183,cp 184,.int 1 0,.int 0 0,.int 0 0,.int 0 0,.int 0 0,.ref 11,.bool false,.int 181 0,.ref 12,.none,.none,.none,.none,.int 185 0,.int 1 0,cp 186]
def sY:Obj:={ cls:=.type "frame",slots:=#[some (.ref 13),some (.ref 3),some (.ref 3),none,some (.str "__main__" 164),none,some (.ref 0)] }
def ob3 (P:Params):Obj:={ cls:=.type "dict",data:=Data.dict #[kE P "__name__" 165 (.str "sumcraft.spans" 382),kE P "__doc__" 166 (.none),kE P "__package__" 167 (.none),kE P "__loader__" 168 (.builtin "__main__.__loader__#opaque"),kE P "__spec__" 169 (.none),kE P "__annotations__" 170 (.ref 6),kE P "__builtins__" 171 (.ref 4),kE P "__file__" 173 (cp 172),kE P "__cached__" 174 (.none),kE P "SumError" 206 (.ref 24),kE P "NoNumber" 222 (.ref 37),kE P "trimmed" 232 (.ref 46),kE P "poly_plus" 243 (.ref 53),kE P "poly_times" 256 (.ref 60),kE P "poly_value" 266 (.ref 67),kE P "quotient" 282 (.ref 74),kE P "LONG" 286 (.int 4000 285),kE P "WINDOW" 288 (.int 300 287),kE P "shortened" 305 (.ref 81),kE P "divisor" 317 (.ref 88),kE P "content" 328 (.ref 95),kE P "over" 334 (.ref 100),kE P "upright" 340 (.ref 105),kE P "spread" 350 (.ref 112),kE P "greatest_size" 356 (.ref 117),kE P "bare_common" 366 (.ref 124),kE P "common" 372 (.ref 129),kE P "common_of" 381 (.ref 136),kE P "START" 385 (.int 97 384),kE P "lowered" 391 (.ref 141),kE P "through" 403 (.ref 148),kE P "greatest_degree" 409 (.ref 153),kE P "degree_bound" 415 (.ref 158),kE P "cleared" 421 (.ref 163),kE P "Span" 528 (.ref 235)] 35 }
def GM:Obj:=oF #[.int 2 0,.int 0 0,.ref 20,.int 4 0,.int 0 0,.ref 33,.int 7 0,.int 0 0,.ref 45,.int 12 0,.int 0 0,.ref 52,.int 17 0,.int 0 0,.ref 59,.int 25 0,.int 0 0,.ref 66,.int 30 0,.int 0 0,.ref 73,.int 50 0,.int 0 0,.ref 80,.int 66 0,.int 0 0,.ref 87,.int 79 0,.int 0 0,.ref 94,.int 84 0,.int 0 0,.ref 99,.int 86 0,.int 0 0,.ref 104,.int 90 0,.int 0 0,.ref 111,.int 99 0,.int 0 0,.ref 116,.int 101 0,.int 0 0,.ref 123,.int 109 0,.int 0 0,.ref 128,.int 118 0,.int 0 0,.ref 135,.int 125 0,.int 0 0,.ref 140,.int 133 0,.int 0 0,.ref 147,.int 142 0,.int 0 0,.ref 152,.int 144 0,.int 0 0,.ref 157,.int 148 0,.int 0 0,.ref 162,.int 153 0,.int 0 0,.ref 169]
def x_:Obj:=oT #[.type "ValueError"]
def ya:Obj:=oB #[.builtin "type.__prepare__",.type "type"]
def sZ (P:Params):Obj:={ cls:=.type "dict",data:=Data.dict #[kE P "__module__" 196 (.str "sumcraft.errors" 187),kE P "__qualname__" 198 (.str "SumError" 197),kE P "__firstlineno__" 200 (.int 2 199),kE P "__static_attributes__" 201 (.ref 22)] 4 }
def yb:Obj:=oT #[]
def yc:Obj:=oF #[]
def yd:Obj:=oK #[.str "SumError" 191,.str "SumError" 192,cp 193,.int 2 0,.int 0 0,.int 0 0,.int 0 0,.int 0 0,.ref 18,.bool false,.int 181 0,.ref 19,.none,.none,.none,.none,.int 194 0,.int 2 0,cp 195]
def ye:Obj:={ cls:=.type "frame",slots:=#[some (.ref 20),some (.ref 3),some (.ref 17),none,some (.str "sumcraft.errors" 187),none,some (.ref 0)] }
def yf:Obj:=oT #[]
def s_ (P:Params):Obj:={ cls:=.type "dict",data:=Data.dict #[kE P "__module__" 196 (.str "sumcraft.errors" 187),kE P "__firstlineno__" 200 (.int 2 199),kE P "__static_attributes__" 201 (.ref 22),kE P "__weakref__" 203 (.ref 25),kE P "__doc__" 204 (.none)] 3 }
def tf:Obj:={ cls:=.type "type",data:=Data.cls { name := "SumError",bases:=[.type "ValueError"],mro:=[.ref 24,.type "ValueError",.type "Exception",.type "BaseException",.type "object"],ns:=23,qualname := "SumError",subclasses:=[.ref 37] },slots:=#[some (.ref 15),none,some (.str "SumError" 189),some (.str "SumError" 197),some (.builtin "ValueError.__new__"),some (.bool true)] }
def yh:Obj:={ cls:=.type "getset_descriptor",data:=Data.fields #[.str "__weakref__" 202,.ref 24,.builtin "ExceptionGroup.__weakref__",.none] }
def yi:Obj:={ cls:=.type "super",data:=Data.fields #[.ref 24,.ref 24,.ref 24] }
def yj:Obj:=oB #[.builtin "object.__init_subclass__",.ref 24]
def yk:Obj:=oT #[.ref 24]
def yl:Obj:=oB #[.builtin "type.__prepare__",.type "type"]
def tj (P:Params):Obj:={ cls:=.type "dict",data:=Data.dict #[kE P "__module__" 214 (.str "sumcraft.errors" 187),kE P "__qualname__" 216 (.str "NoNumber" 215),kE P "__firstlineno__" 218 (.int 4 217),kE P "__static_attributes__" 219 (.ref 35)] 4 }
def ym:Obj:=oT #[]
def yn:Obj:=oF #[]
def yo:Obj:=oK #[.str "NoNumber" 209,.str "NoNumber" 210,cp 211,.int 4 0,.int 0 0,.int 0 0,.int 0 0,.int 0 0,.ref 31,.bool false,.int 181 0,.ref 32,.none,.none,.none,.none,.int 212 0,.int 4 0,cp 213]
def yp:Obj:={ cls:=.type "frame",slots:=#[some (.ref 33),some (.ref 3),some (.ref 30),none,some (.str "sumcraft.errors" 187),none,some (.ref 0)] }
def yq:Obj:=oT #[]
def tm (P:Params):Obj:={ cls:=.type "dict",data:=Data.dict #[kE P "__module__" 214 (.str "sumcraft.errors" 187),kE P "__firstlineno__" 218 (.int 4 217),kE P "__static_attributes__" 219 (.ref 35),kE P "__doc__" 220 (.none)] 2 }
def tq:Obj:={ cls:=.type "type",data:=Data.cls { name := "NoNumber",bases:=[.ref 24],mro:=[.ref 37,.ref 24,.type "ValueError",.type "Exception",.type "BaseException",.type "object"],ns:=36,qualname := "NoNumber" },slots:=#[some (.ref 28),none,some (.str "NoNumber" 207),some (.str "NoNumber" 215),some (.builtin "ValueError.__new__"),some (.bool true)] }
def yr:Obj:={ cls:=.type "super",data:=Data.fields #[.ref 37,.ref 37,.ref 37] }
def yt:Obj:=oB #[.builtin "object.__init_subclass__",.ref 37]
def yu:Obj:=oT #[]
def yw:Obj:=oF #[]
def yy:Obj:=oT #[.str "numbers" 228,.str "size" 229]
def yz:Obj:=oT #[]
def yB:Obj:=kN "trimmed" "trimmed" (top 4)
def tu:Obj:=oK #[.str "trimmed" 225,.str "trimmed" 226,cp 227,.int 7 0,.int 1 0,.int 0 0,.int 0 0,.int 3 0,.ref 40,.bool true,.int 181 0,.ref 41,.none,.ref 42,.ref 43,.ref 44,.int 230 0,.int 7 0,cp 231]
def tE:Obj:=kM "trimmed" "trimmed" (top 4) "sumcraft.polys" 223 45
def yC:Obj:=oT #[]
def yD:Obj:=oF #[]
def yE:Obj:=oT #[.str "one" 236,.str "other" 237,.str "answer" 238,.str "place" 239,.str "number" 240]
def yF:Obj:=oT #[]
def yG:Obj:=kN "poly_plus" "poly_plus" (top 5)
def tG:Obj:=oK #[.str "poly_plus" 233,.str "poly_plus" 234,cp 235,.int 12 0,.int 2 0,.int 0 0,.int 0 0,.int 3 0,.ref 47,.bool true,.int 181 0,.ref 48,.none,.ref 49,.ref 50,.ref 51,.int 241 0,.int 12 0,cp 242]
def tH:Obj:=kM "poly_plus" "poly_plus" (top 5) "sumcraft.polys" 223 52
def yH:Obj:=oT #[]
def yI:Obj:=oF #[]
def yJ:Obj:=oT #[.str "one" 247,.str "other" 248,.str "answer" 249,.str "low" 250,.str "number" 251,.str "place" 252,.str "factor" 253]
def yK:Obj:=oT #[]
def yL:Obj:=kN "poly_times" "poly_times" (top 6)
def tI:Obj:=oK #[.str "poly_times" 244,.str "poly_times" 245,cp 246,.int 17 0,.int 2 0,.int 0 0,.int 0 0,.int 3 0,.ref 54,.bool true,.int 181 0,.ref 55,.none,.ref 56,.ref 57,.ref 58,.int 254 0,.int 17 0,cp 255]
def tJ:Obj:=kM "poly_times" "poly_times" (top 6) "sumcraft.polys" 223 59
def yM:Obj:=oT #[]
def yN:Obj:=oF #[]
def yO:Obj:=oT #[.str "poly" 260,.str "n" 261,.str "answer" 262,.str "number" 263]
def yP:Obj:=oT #[]
def yQ:Obj:=kN "poly_value" "poly_value" (top 7)
def tK:Obj:=oK #[.str "poly_value" 257,.str "poly_value" 258,cp 259,.int 25 0,.int 2 0,.int 0 0,.int 0 0,.int 3 0,.ref 61,.bool true,.int 181 0,.ref 62,.none,.ref 63,.ref 64,.ref 65,.int 264 0,.int 25 0,cp 265]
def tL:Obj:=kM "poly_value" "poly_value" (top 7) "sumcraft.polys" 223 66
def yS:Obj:=oT #[]
def yT:Obj:=oF #[]
def yU:Obj:=oT #[.str "one" 270,.str "other" 271,.str "rest" 272,.str "steps" 273,.str "answer" 274,.str "low" 275,.str "top" 276,.str "factor" 277,.str "place" 278,.str "number" 279]
def yV:Obj:=oT #[]
def yW:Obj:=kN "quotient" "quotient" (top 8)
def tO:Obj:=oK #[.str "quotient" 267,.str "quotient" 268,cp 269,.int 30 0,.int 2 0,.int 0 0,.int 0 0,.int 3 0,.ref 68,.bool true,.int 181 0,.ref 69,.none,.ref 70,.ref 71,.ref 72,.int 280 0,.int 30 0,cp 281]
def tQ:Obj:=kM "quotient" "quotient" (top 8) "sumcraft.polys" 223 73
def yX:Obj:=oT #[]
def yY:Obj:=oF #[]
def yZ:Obj:=oT #[.str "big" 292,.str "small" 293,.str "cut" 294,.str "ahead" 295,.str "behind" 296,.str "half" 297,.str "upper" 298,.str "lower" 299,.str "times" 300,.str "rest" 301,.str "further" 302]
def y3:Obj:=oT #[]
def y4:Obj:=kN "shortened" "shortened" (top 12)
def tS:Obj:=oK #[.str "shortened" 289,.str "shortened" 290,cp 291,.int 50 0,.int 2 0,.int 0 0,.int 0 0,.int 3 0,.ref 75,.bool true,.int 181 0,.ref 76,.none,.ref 77,.ref 78,.ref 79,.int 303 0,.int 50 0,cp 304]
def tT:Obj:=kM "shortened" "shortened" (top 12) "sumcraft.ratios" 283 80
def y6:Obj:=oT #[]
def y8:Obj:=oF #[]
def y9:Obj:=oT #[.str "one" 309,.str "other" 310,.str "big" 311,.str "small" 312,.str "pair" 313,.str "rest" 314]
def y_:Obj:=oT #[]
def za:Obj:=kN "divisor" "divisor" (top 13)
def tU:Obj:=oK #[.str "divisor" 306,.str "divisor" 307,cp 308,.int 66 0,.int 2 0,.int 0 0,.int 0 0,.int 3 0,.ref 82,.bool true,.int 181 0,.ref 83,.none,.ref 84,.ref 85,.ref 86,.int 315 0,.int 66 0,cp 316]
def tV:Obj:=kM "divisor" "divisor" (top 13) "sumcraft.ratios" 283 87
def zb:Obj:=oT #[]
def zc:Obj:=oF #[]
def zd:Obj:=oT #[.str "poly" 323,.str "answer" 324,.str "number" 325]
def ze:Obj:=oT #[]
def zf:Obj:=kN "content" "content" (top 15)
def tW:Obj:=oK #[.str "content" 320,.str "content" 321,cp 322,.int 79 0,.int 1 0,.int 0 0,.int 0 0,.int 3 0,.ref 89,.bool true,.int 181 0,.ref 90,.none,.ref 91,.ref 92,.ref 93,.int 326 0,.int 79 0,cp 327]
def tX:Obj:=kM "content" "content" (top 15) "sumcraft.reaches" 318 94
def zg:Obj:=oT #[]
def zh:Obj:=oF #[]
def zi:Obj:=kN "over" "over" (top 16)
def tY:Obj:=oK #[.str "over" 329,.str "over" 330,cp 331,.int 84 0,.int 2 0,.int 0 0,.int 0 0,.int 3 0,.ref 96,.bool true,.int 181 0,.ref 97,.none,.none,.none,.ref 98,.int 332 0,.int 84 0,cp 333]
def tZ:Obj:=kM "over" "over" (top 16) "sumcraft.reaches" 318 99
def zj:Obj:=oT #[]
def zk:Obj:=oF #[]
def zl:Obj:=kN "upright" "upright" (top 17)
def t8:Obj:=oK #[.str "upright" 335,.str "upright" 336,cp 337,.int 86 0,.int 1 0,.int 0 0,.int 0 0,.int 3 0,.ref 101,.bool true,.int 181 0,.ref 102,.none,.none,.none,.ref 103,.int 338 0,.int 86 0,cp 339]
def t_:Obj:=kM "upright" "upright" (top 17) "sumcraft.reaches" 318 104
def zm:Obj:=oT #[]
def zn:Obj:=oF #[]
def zo:Obj:=oT #[.str "number" 344,.str "base" 345,.str "answer" 346,.str "low" 347]
def zp:Obj:=oT #[]
def zq:Obj:=kN "spread" "spread" (top 18)
def ua:Obj:=oK #[.str "spread" 341,.str "spread" 342,cp 343,.int 90 0,.int 2 0,.int 0 0,.int 0 0,.int 3 0,.ref 106,.bool true,.int 181 0,.ref 107,.none,.ref 108,.ref 109,.ref 110,.int 348 0,.int 90 0,cp 349]
def ub:Obj:=kM "spread" "spread" (top 18) "sumcraft.reaches" 318 111
def zr:Obj:=oT #[]
def zt:Obj:=oF #[]
def zu:Obj:=kN "greatest_size" "greatest_size" (top 19)
def uc:Obj:=oK #[.str "greatest_size" 351,.str "greatest_size" 352,cp 353,.int 99 0,.int 1 0,.int 0 0,.int 0 0,.int 3 0,.ref 113,.bool true,.int 181 0,.ref 114,.none,.none,.none,.ref 115,.int 354 0,.int 99 0,cp 355]
def ud:Obj:=kM "greatest_size" "greatest_size" (top 19) "sumcraft.reaches" 318 116
def zw:Obj:=oT #[]
def zx:Obj:=oF #[]
def zA:Obj:=oT #[.str "one" 360,.str "other" 361,.str "place" 362,.str "found" 363]
def zB:Obj:=oT #[]
def zC:Obj:=kN "bare_common" "bare_common" (top 20)
def ue:Obj:=oK #[.str "bare_common" 357,.str "bare_common" 358,cp 359,.int 101 0,.int 2 0,.int 0 0,.int 0 0,.int 3 0,.ref 118,.bool true,.int 181 0,.ref 119,.none,.ref 120,.ref 121,.ref 122,.int 364 0,.int 101 0,cp 365]
def uf:Obj:=kM "bare_common" "bare_common" (top 20) "sumcraft.reaches" 318 123
def zD:Obj:=oT #[]
def zE:Obj:=oF #[]
def zF:Obj:=kN "common" "common" (top 21)
def ug:Obj:=oK #[.str "common" 367,.str "common" 368,cp 369,.int 109 0,.int 2 0,.int 0 0,.int 0 0,.int 3 0,.ref 125,.bool true,.int 181 0,.ref 126,.none,.none,.none,.ref 127,.int 370 0,.int 109 0,cp 371]
def uh:Obj:=kM "common" "common" (top 21) "sumcraft.reaches" 318 128
def zG:Obj:=oT #[]
def zH:Obj:=oF #[]
def zI:Obj:=oT #[.str "polys" 376,.str "answer" 377,.str "poly" 378]
def zJ:Obj:=oT #[]
def zK:Obj:=kN "common_of" "common_of" (top 22)
def ui:Obj:=oK #[.str "common_of" 373,.str "common_of" 374,cp 375,.int 118 0,.int 1 0,.int 0 0,.int 0 0,.int 3 0,.ref 130,.bool true,.int 181 0,.ref 131,.none,.ref 132,.ref 133,.ref 134,.int 379 0,.int 118 0,cp 380]
def uj:Obj:=kM "common_of" "common_of" (top 22) "sumcraft.reaches" 318 135
def zL:Obj:=oT #[]
def zM:Obj:=oF #[]
def zN:Obj:=kN "lowered" "lowered" (top 25)
def uk:Obj:=oK #[.str "lowered" 386,.str "lowered" 387,cp 388,.int 125 0,.int 3 0,.int 0 0,.int 0 0,.int 3 0,.ref 137,.bool true,.int 181 0,.ref 138,.none,.none,.none,.ref 139,.int 389 0,.int 125 0,cp 390]
def um:Obj:=kM "lowered" "lowered" (top 25) "sumcraft.spans" 382 140
def zO:Obj:=oT #[]
def zP:Obj:=oF #[]
def zQ:Obj:=oT #[.str "places" 395,.str "values" 396,.str "steps" 397,.str "gap" 398,.str "place" 399,.str "answer" 400]
def zS:Obj:=oT #[]
def zT:Obj:=kN "through" "through" (top 26)
def uo:Obj:=oK #[.str "through" 392,.str "through" 393,cp 394,.int 133 0,.int 2 0,.int 0 0,.int 0 0,.int 3 0,.ref 142,.bool true,.int 181 0,.ref 143,.none,.ref 144,.ref 145,.ref 146,.int 401 0,.int 133 0,cp 402]
def uq:Obj:=kM "through" "through" (top 26) "sumcraft.spans" 382 147
def zU:Obj:=oT #[]
def zV:Obj:=oF #[]
def zW:Obj:=kN "greatest_degree" "greatest_degree" (top 27)
def ur:Obj:=oK #[.str "greatest_degree" 404,.str "greatest_degree" 405,cp 406,.int 142 0,.int 1 0,.int 0 0,.int 0 0,.int 3 0,.ref 149,.bool true,.int 181 0,.ref 150,.none,.none,.none,.ref 151,.int 407 0,.int 142 0,cp 408]
def uu:Obj:=kM "greatest_degree" "greatest_degree" (top 27) "sumcraft.spans" 382 152
def zX:Obj:=oT #[]
def zY:Obj:=oF #[]
def zZ:Obj:=kN "degree_bound" "degree_bound" (top 28)
def uv:Obj:=oK #[.str "degree_bound" 410,.str "degree_bound" 411,cp 412,.int 144 0,.int 2 0,.int 0 0,.int 0 0,.int 3 0,.ref 154,.bool true,.int 181 0,.ref 155,.none,.none,.none,.ref 156,.int 413 0,.int 144 0,cp 414]
def uw:Obj:=kM "degree_bound" "degree_bound" (top 28) "sumcraft.spans" 382 157
def z4:Obj:=oT #[]
def z6:Obj:=oF #[]
def z7:Obj:=kN "cleared" "cleared" (top 29)
def ux:Obj:=oK #[.str "cleared" 416,.str "cleared" 417,cp 418,.int 148 0,.int 1 0,.int 0 0,.int 0 0,.int 3 0,.ref 159,.bool true,.int 181 0,.ref 160,.none,.none,.none,.ref 161,.int 419 0,.int 148 0,cp 420]
def uy:Obj:=kM "cleared" "cleared" (top 29) "sumcraft.spans" 382 162
def z8:Obj:=oT #[]
def z9:Obj:=oB #[.builtin "type.__prepare__",.type "type"]
def uA (P:Params):Obj:={ cls:=.type "dict",data:=Data.dict #[kE P "__module__" 429 (.str "sumcraft.spans" 382),kE P "__qualname__" 431 (.str "Span" 430),kE P "__firstlineno__" 433 (.int 153 432),kE P "__init__" 441 (.ref 177),kE P "row_at" 447 (.ref 182),kE P "table_at" 458 (.ref 189),kE P "lowered_at" 468 (.ref 196),kE P "only_choice" 474 (.ref 201),kE P "failing_column" 487 (.ref 208),kE P "keep" 496 (.ref 215),kE P "by_few" 502 (.ref 220),kE P "take" 508 (.ref 225),kE P "apart" 515 (.ref 232),kE P "__static_attributes__" 521 (.ref 233)] 14 }
def z_:Obj:=oT #[]
def Aa:Obj:=oF #[.int 155 0,.int 4 0,.ref 176,.int 162 0,.int 4 0,.ref 181,.int 166 0,.int 4 0,.ref 188,.int 176 0,.int 4 0,.ref 195,.int 182 0,.int 4 0,.ref 200,.int 195 0,.int 4 0,.ref 207,.int 206 0,.int 4 0,.ref 214,.int 212 0,.int 4 0,.ref 219,.int 224 0,.int 4 0,.ref 224,.int 242 0,.int 4 0,.ref 231]
def Ab:Obj:=oK #[.str "Span" 424,.str "Span" 425,cp 426,.int 153 0,.int 0 0,.int 0 0,.int 0 0,.int 0 0,.ref 167,.bool false,.int 181 0,.ref 168,.none,.none,.none,.none,.int 427 0,.int 153 0,cp 428]
def Ac:Obj:={ cls:=.type "frame",slots:=#[some (.ref 169),some (.ref 3),some (.ref 166),none,some (.str "sumcraft.spans" 382),none,some (.ref 0)] }
def Ad:Obj:=oT #[]
def Ae:Obj:=oF #[]
def Af:Obj:=oT #[.str "self" 437,.str "width" 438]
def Ag:Obj:=oT #[]
def Ah:Obj:=kN "__init__" "Span.__init__" (b7 (top 30) 0)
def uB:Obj:=oK #[.str "__init__" 434,.str "Span.__init__" 435,cp 436,.int 155 0,.int 2 0,.int 0 0,.int 0 0,.int 3 0,.ref 171,.bool true,.int 181 0,.ref 172,.none,.ref 173,.ref 174,.ref 175,.int 439 0,.int 155 0,cp 440]
def uC:Obj:=kM "__init__" "Span.__init__" (b7 (top 30) 0) "sumcraft.spans" 382 176
def Ai:Obj:=oT #[]
def Aj:Obj:=oF #[]
def Ak:Obj:=kN "row_at" "Span.row_at" (b7 (top 30) 1)
def uD:Obj:=oK #[.str "row_at" 442,.str "Span.row_at" 443,cp 444,.int 162 0,.int 4 0,.int 0 0,.int 0 0,.int 3 0,.ref 178,.bool true,.int 181 0,.ref 179,.none,.none,.none,.ref 180,.int 445 0,.int 162 0,cp 446]
def uE:Obj:=kM "row_at" "Span.row_at" (b7 (top 30) 1) "sumcraft.spans" 382 181
def Al:Obj:=oT #[]
def Am:Obj:=oF #[]
def Ao:Obj:=oT #[.str "self" 451,.str "place" 452,.str "table" 453,.str "number" 454,.str "row" 455]
def Ap:Obj:=oT #[]
def Aq:Obj:=kN "table_at" "Span.table_at" (b7 (top 30) 2)
def uF:Obj:=oK #[.str "table_at" 448,.str "Span.table_at" 449,cp 450,.int 166 0,.int 2 0,.int 0 0,.int 0 0,.int 3 0,.ref 183,.bool true,.int 181 0,.ref 184,.none,.ref 185,.ref 186,.ref 187,.int 456 0,.int 166 0,cp 457]
def uG:Obj:=kM "table_at" "Span.table_at" (b7 (top 30) 2) "sumcraft.spans" 382 188
def Ar:Obj:=oT #[]
def As:Obj:=oF #[]
def At:Obj:=oT #[.str "self" 462,.str "vector" 463,.str "place" 464,.str "table" 465]
def Au:Obj:=oT #[]
def Av:Obj:=kN "lowered_at" "Span.lowered_at" (b7 (top 30) 3)
def uH:Obj:=oK #[.str "lowered_at" 459,.str "Span.lowered_at" 460,cp 461,.int 176 0,.int 3 0,.int 0 0,.int 0 0,.int 3 0,.ref 190,.bool true,.int 181 0,.ref 191,.none,.ref 192,.ref 193,.ref 194,.int 466 0,.int 176 0,cp 467]
def uI:Obj:=kM "lowered_at" "Span.lowered_at" (b7 (top 30) 3) "sumcraft.spans" 382 195
def Aw:Obj:=oT #[]
def Ax:Obj:=oF #[]
def Ay:Obj:=kN "only_choice" "Span.only_choice" (b7 (top 30) 4)
def uJ:Obj:=oK #[.str "only_choice" 469,.str "Span.only_choice" 470,cp 471,.int 182 0,.int 2 0,.int 0 0,.int 0 0,.int 3 0,.ref 197,.bool true,.int 181 0,.ref 198,.none,.none,.none,.ref 199,.int 472 0,.int 182 0,cp 473]
def uK:Obj:=kM "only_choice" "Span.only_choice" (b7 (top 30) 4) "sumcraft.spans" 382 200
def Az:Obj:=oT #[]
def AA:Obj:=oF #[]
def AB:Obj:=oT #[.str "self" 478,.str "vector" 479,.str "weights" 480,.str "column" 481,.str "answer" 482,.str "other" 483,.str "weight" 484]
def AC:Obj:=oT #[]
def AD:Obj:=kN "failing_column" "Span.failing_column" (b7 (top 30) 5)
def uL:Obj:=oK #[.str "failing_column" 475,.str "Span.failing_column" 476,cp 477,.int 195 0,.int 3 0,.int 0 0,.int 0 0,.int 3 0,.ref 202,.bool true,.int 181 0,.ref 203,.none,.ref 204,.ref 205,.ref 206,.int 485 0,.int 195 0,cp 486]
def uM:Obj:=kM "failing_column" "Span.failing_column" (b7 (top 30) 5) "sumcraft.spans" 382 207
def AE:Obj:=oT #[]
def AF:Obj:=oF #[]
def AG:Obj:=oT #[.str "self" 491,.str "vector" 492,.str "column" 493]
def AH:Obj:=oT #[]
def AI:Obj:=kN "keep" "Span.keep" (b7 (top 30) 6)
def uN:Obj:=oK #[.str "keep" 488,.str "Span.keep" 489,cp 490,.int 206 0,.int 3 0,.int 0 0,.int 0 0,.int 3 0,.ref 209,.bool true,.int 181 0,.ref 210,.none,.ref 211,.ref 212,.ref 213,.int 494 0,.int 206 0,cp 495]
def uO:Obj:=kM "keep" "Span.keep" (b7 (top 30) 6) "sumcraft.spans" 382 214
def AJ:Obj:=oT #[]
def AK:Obj:=oF #[]
def AL:Obj:=kN "by_few" "Span.by_few" (b7 (top 30) 7)
def uP:Obj:=oK #[.str "by_few" 497,.str "Span.by_few" 498,cp 499,.int 212 0,.int 3 0,.int 0 0,.int 0 0,.int 3 0,.ref 216,.bool true,.int 181 0,.ref 217,.none,.none,.none,.ref 218,.int 500 0,.int 212 0,cp 501]
def uQ:Obj:=kM "by_few" "Span.by_few" (b7 (top 30) 7) "sumcraft.spans" 382 219
def AM:Obj:=oT #[]
def AN:Obj:=oF #[]
def AO:Obj:=kN "take" "Span.take" (b7 (top 30) 8)
def uR:Obj:=oK #[.str "take" 503,.str "Span.take" 504,cp 505,.int 224 0,.int 2 0,.int 0 0,.int 0 0,.int 3 0,.ref 221,.bool true,.int 181 0,.ref 222,.none,.none,.none,.ref 223,.int 506 0,.int 224 0,cp 507]
def uS:Obj:=kM "take" "Span.take" (b7 (top 30) 8) "sumcraft.spans" 382 224
def AQ:Obj:=oT #[]
def AR:Obj:=oF #[]
def AS:Obj:=oT #[.str "self" 512]
def AT:Obj:=oT #[]
def AU:Obj:=kN "apart" "Span.apart" (b7 (top 30) 9)
def uT:Obj:=oK #[.str "apart" 509,.str "Span.apart" 510,cp 511,.int 242 0,.int 1 0,.int 0 0,.int 0 0,.int 3 0,.ref 226,.bool true,.int 181 0,.ref 227,.none,.ref 228,.ref 229,.ref 230,.int 513 0,.int 242 0,cp 514]
def uU:Obj:=kM "apart" "Span.apart" (b7 (top 30) 9) "sumcraft.spans" 382 231
def AV:Obj:=oT #[.str "columns" 516,.str "kept" 517,.str "place" 518,.str "tables" 519,.str "width" 520]
def uV (P:Params):Obj:={ cls:=.type "dict",data:=Data.dict #[kE P "__module__" 429 (.str "sumcraft.spans" 382),kE P "__firstlineno__" 433 (.int 153 432),kE P "__init__" 441 (.ref 177),kE P "row_at" 447 (.ref 182),kE P "table_at" 458 (.ref 189),kE P "lowered_at" 468 (.ref 196),kE P "only_choice" 474 (.ref 201),kE P "failing_column" 487 (.ref 208),kE P "keep" 496 (.ref 215),kE P "by_few" 502 (.ref 220),kE P "take" 508 (.ref 225),kE P "apart" 515 (.ref 232),kE P "__static_attributes__" 521 (.ref 233),kE P "__dict__" 523 (.ref 236),kE P "__weakref__" 525 (.ref 237),kE P "__doc__" 526 (.none)] 4 }
def uW:Obj:={ cls:=.type "type",data:=Data.cls { name := "Span",bases:=[.type "object"],mro:=[.ref 235,.type "object"],ns:=234,qualname := "Span" },slots:=#[none,none,some (.str "Span" 422),some (.str "Span" 430),some (.builtin "object.__new__"),some (.bool true)] }
def AW:Obj:={ cls:=.type "getset_descriptor",data:=Data.fields #[.str "__dict__" 522,.ref 235,.builtin "function.__dict__",.builtin "function.__dict__#set"] }
def AX:Obj:={ cls:=.type "getset_descriptor",data:=Data.fields #[.str "__weakref__" 524,.ref 235,.builtin "ExceptionGroup.__weakref__",.none] }
def AY:Obj:={ cls:=.type "super",data:=Data.fields #[.ref 235,.ref 235,.ref 235] }
def AZ:Obj:=oB #[.builtin "object.__init_subclass__",.ref 235]
def A2 (P:Params):Obj:={ cls:=.type "dict",data:=Data.dict #[kE P "__name__" 165 (.str "law_sumcraft_k22_whole_span" 529),kE P "__doc__" 166 (.none),kE P "__package__" 167 (.none),kE P "__loader__" 168 (.builtin "__main__.__loader__#opaque"),kE P "__spec__" 169 (.none),kE P "__annotations__" 170 (.ref 6),kE P "__builtins__" 171 (.ref 4),kE P "__file__" 173 (cp 172),kE P "__cached__" 174 (.none),kE P "SumError" 206 (.ref 24),kE P "NoNumber" 222 (.ref 37),kE P "trimmed" 232 (.ref 46),kE P "poly_plus" 243 (.ref 53),kE P "poly_times" 256 (.ref 60),kE P "poly_value" 266 (.ref 67),kE P "quotient" 282 (.ref 74),kE P "LONG" 286 (.int 4000 285),kE P "WINDOW" 288 (.int 300 287),kE P "shortened" 305 (.ref 81),kE P "divisor" 317 (.ref 88),kE P "content" 328 (.ref 95),kE P "over" 334 (.ref 100),kE P "upright" 340 (.ref 105),kE P "spread" 350 (.ref 112),kE P "greatest_size" 356 (.ref 117),kE P "bare_common" 366 (.ref 124),kE P "common" 372 (.ref 129),kE P "common_of" 381 (.ref 136),kE P "START" 385 (.int 97 384),kE P "lowered" 391 (.ref 141),kE P "through" 403 (.ref 148),kE P "greatest_degree" 409 (.ref 153),kE P "degree_bound" 415 (.ref 158),kE P "cleared" 421 (.ref 163),kE P "Span" 528 (.ref 235),kE P "_law_poly" 541 (.ref 246),kE P "_law_cut" 549 (.ref 253),kE P "_law_whole" 556 (.ref 260),kE P "_law_product" 567 (.ref 267),kE P "_law_sum" 577 (.ref 274),kE P "_law_divisor" 586 (.ref 281),kE P "_law_vector" 592 (.ref 286),kE P "_law_value" 602 (.ref 293),kE P "_law_determinant" 608 (.ref 298),kE P "_law_relation" 624 (.ref 305),kE P "_law_apart" 630 (.ref 310),kE P "law" 636 (.ref 315)] 47 }
def GN:Obj:=oF #[.int 2 0,.int 0 0,.ref 20,.int 4 0,.int 0 0,.ref 33,.int 7 0,.int 0 0,.ref 45,.int 12 0,.int 0 0,.ref 52,.int 17 0,.int 0 0,.ref 59,.int 25 0,.int 0 0,.ref 66,.int 30 0,.int 0 0,.ref 73,.int 50 0,.int 0 0,.ref 80,.int 66 0,.int 0 0,.ref 87,.int 79 0,.int 0 0,.ref 94,.int 84 0,.int 0 0,.ref 99,.int 86 0,.int 0 0,.ref 104,.int 90 0,.int 0 0,.ref 111,.int 99 0,.int 0 0,.ref 116,.int 101 0,.int 0 0,.ref 123,.int 109 0,.int 0 0,.ref 128,.int 118 0,.int 0 0,.ref 135,.int 125 0,.int 0 0,.ref 140,.int 133 0,.int 0 0,.ref 147,.int 142 0,.int 0 0,.ref 152,.int 144 0,.int 0 0,.ref 157,.int 148 0,.int 0 0,.ref 162,.int 153 0,.int 0 0,.ref 169,.int 245 0,.int 0 0,.ref 245,.int 254 0,.int 0 0,.ref 252,.int 259 0,.int 0 0,.ref 259,.int 261 0,.int 0 0,.ref 266,.int 267 0,.int 0 0,.ref 273,.int 274 0,.int 0 0,.ref 280,.int 282 0,.int 0 0,.ref 285,.int 289 0,.int 0 0,.ref 292,.int 294 0,.int 0 0,.ref 297,.int 302 0,.int 0 0,.ref 304,.int 323 0,.int 0 0,.ref 309,.int 332 0,.int 0 0,.ref 314]
def GO:Obj:=oT #[]
def GP:Obj:=oF #[]
def GQ:Obj:=oT #[.str "_law_cell" 534,.str "_law_found" 535,.str "_law_mixed" 536,.str "_law_k" 537,.str "_law_number" 538]
def GR:Obj:=oT #[]
def GS:Obj:=kN "_law_poly" "_law_poly" (top 32)
def A3:Obj:=oK #[.str "_law_poly" 531,.str "_law_poly" 532,cp 533,.int 245 0,.int 1 0,.int 0 0,.int 0 0,.int 3 0,.ref 240,.bool true,.int 181 0,.ref 241,.none,.ref 242,.ref 243,.ref 244,.int 539 0,.int 245 0,cp 540]
def A4:Obj:=kM "_law_poly" "_law_poly" (top 32) "law_sumcraft_k22_whole_span" 529 245
def GT:Obj:=oT #[]
def GU:Obj:=oF #[]
def GV:Obj:=oT #[.str "_law_numbers" 545,.str "_law_found" 546]
def GW:Obj:=oT #[]
def GX:Obj:=kN "_law_cut" "_law_cut" (top 33)
def A6:Obj:=oK #[.str "_law_cut" 542,.str "_law_cut" 543,cp 544,.int 254 0,.int 1 0,.int 0 0,.int 0 0,.int 3 0,.ref 247,.bool true,.int 181 0,.ref 248,.none,.ref 249,.ref 250,.ref 251,.int 547 0,.int 254 0,cp 548]
def A7:Obj:=kM "_law_cut" "_law_cut" (top 33) "law_sumcraft_k22_whole_span" 529 252
def GY:Obj:=oT #[]
def GZ:Obj:=oF #[]
def G0:Obj:=oT #[.str "_law_found" 553]
def G5:Obj:=oT #[]
def G6:Obj:=kN "_law_whole" "_law_whole" (top 34)
def A8:Obj:=oK #[.str "_law_whole" 550,.str "_law_whole" 551,cp 552,.int 259 0,.int 1 0,.int 0 0,.int 0 0,.int 3 0,.ref 254,.bool true,.int 181 0,.ref 255,.none,.ref 256,.ref 257,.ref 258,.int 554 0,.int 259 0,cp 555]
def A9:Obj:=kM "_law_whole" "_law_whole" (top 34) "law_sumcraft_k22_whole_span" 529 259
def G7:Obj:=oT #[]
def G8:Obj:=oF #[]
def G9:Obj:=oT #[.str "_law_one" 560,.str "_law_other" 561,.str "_law_found" 562,.str "_law_i" 563,.str "_law_j" 564]
def G_:Obj:=oT #[]
def Ha:Obj:=kN "_law_product" "_law_product" (top 35)
def A_:Obj:=oK #[.str "_law_product" 557,.str "_law_product" 558,cp 559,.int 261 0,.int 2 0,.int 0 0,.int 0 0,.int 3 0,.ref 261,.bool true,.int 181 0,.ref 262,.none,.ref 263,.ref 264,.ref 265,.int 565 0,.int 261 0,cp 566]
def Ba:Obj:=kM "_law_product" "_law_product" (top 35) "law_sumcraft_k22_whole_span" 529 266
def Hc:Obj:=oT #[]
def He:Obj:=oF #[]
def Hg:Obj:=oT #[.str "_law_one" 571,.str "_law_other" 572,.str "_law_found" 573,.str "_law_k" 574]
def Hh:Obj:=oT #[]
def Hi:Obj:=kN "_law_sum" "_law_sum" (top 36)
def Bc:Obj:=oK #[.str "_law_sum" 568,.str "_law_sum" 569,cp 570,.int 267 0,.int 2 0,.int 0 0,.int 0 0,.int 3 0,.ref 268,.bool true,.int 181 0,.ref 269,.none,.ref 270,.ref 271,.ref 272,.int 575 0,.int 267 0,cp 576]
def Be:Obj:=kM "_law_sum" "_law_sum" (top 36) "law_sumcraft_k22_whole_span" 529 273
def Hj:Obj:=oT #[]
def Hk:Obj:=oF #[]
def Hl:Obj:=oT #[.str "_law_one" 581,.str "_law_other" 582,.str "_law_rest" 583]
def Hm:Obj:=oT #[]
def Hn:Obj:=kN "_law_divisor" "_law_divisor" (top 37)
def Bf:Obj:=oK #[.str "_law_divisor" 578,.str "_law_divisor" 579,cp 580,.int 274 0,.int 2 0,.int 0 0,.int 0 0,.int 3 0,.ref 275,.bool true,.int 181 0,.ref 276,.none,.ref 277,.ref 278,.ref 279,.int 584 0,.int 274 0,cp 585]
def Bg:Obj:=kM "_law_divisor" "_law_divisor" (top 37) "law_sumcraft_k22_whole_span" 529 280
def Ho:Obj:=oT #[]
def Hq:Obj:=oF #[]
def Hr:Obj:=kN "_law_vector" "_law_vector" (top 38)
def Bh:Obj:=oK #[.str "_law_vector" 587,.str "_law_vector" 588,cp 589,.int 282 0,.int 4 0,.int 0 0,.int 0 0,.int 3 0,.ref 282,.bool true,.int 181 0,.ref 283,.none,.none,.none,.ref 284,.int 590 0,.int 282 0,cp 591]
def Bi:Obj:=kM "_law_vector" "_law_vector" (top 38) "law_sumcraft_k22_whole_span" 529 285
def Hs:Obj:=oT #[]
def Ht:Obj:=oF #[]
def Hu:Obj:=oT #[.str "_law_poly_here" 596,.str "_law_n" 597,.str "_law_found" 598,.str "_law_number" 599]
def Hw:Obj:=oT #[]
def HB:Obj:=kN "_law_value" "_law_value" (top 39)
def Bj:Obj:=oK #[.str "_law_value" 593,.str "_law_value" 594,cp 595,.int 289 0,.int 2 0,.int 0 0,.int 0 0,.int 3 0,.ref 287,.bool true,.int 181 0,.ref 288,.none,.ref 289,.ref 290,.ref 291,.int 600 0,.int 289 0,cp 601]
def Bk:Obj:=kM "_law_value" "_law_value" (top 39) "law_sumcraft_k22_whole_span" 529 292
def HC:Obj:=oT #[]
def HD:Obj:=oF #[]
def HE:Obj:=kN "_law_determinant" "_law_determinant" (top 40)
def Bl:Obj:=oK #[.str "_law_determinant" 603,.str "_law_determinant" 604,cp 605,.int 294 0,.int 1 0,.int 0 0,.int 0 0,.int 3 0,.ref 294,.bool true,.int 181 0,.ref 295,.none,.none,.none,.ref 296,.int 606 0,.int 294 0,cp 607]
def Bm:Obj:=kM "_law_determinant" "_law_determinant" (top 40) "law_sumcraft_k22_whole_span" 529 297
def HF:Obj:=oT #[]
def HG:Obj:=oF #[]
def HH:Obj:=oT #[.str "_law_found" 612,.str "_law_kept" 613,.str "_law_vector_here" 614,.str "_law_every" 615,.str "_law_poly_here" 616,.str "_law_number" 617,.str "_law_rows" 618,.str "_law_c" 619,.str "_law_total" 620,.str "_law_row" 621]
def HI:Obj:=oT #[]
def HJ:Obj:=kN "_law_relation" "_law_relation" (top 41)
def Bn:Obj:=oK #[.str "_law_relation" 609,.str "_law_relation" 610,cp 611,.int 302 0,.int 3 0,.int 0 0,.int 0 0,.int 3 0,.ref 299,.bool true,.int 181 0,.ref 300,.none,.ref 301,.ref 302,.ref 303,.int 622 0,.int 302 0,cp 623]
def Bo:Obj:=kM "_law_relation" "_law_relation" (top 41) "law_sumcraft_k22_whole_span" 529 304
def HK:Obj:=oT #[]
def HL:Obj:=oF #[]
def HM:Obj:=kN "_law_apart" "_law_apart" (top 42)
def Br:Obj:=oK #[.str "_law_apart" 625,.str "_law_apart" 626,cp 627,.int 323 0,.int 3 0,.int 0 0,.int 0 0,.int 3 0,.ref 306,.bool true,.int 181 0,.ref 307,.none,.none,.none,.ref 308,.int 628 0,.int 323 0,cp 629]
def Bs:Obj:=kM "_law_apart" "_law_apart" (top 42) "law_sumcraft_k22_whole_span" 529 309
def HN:Obj:=oT #[]
def HP:Obj:=oF #[]
def HQ:Obj:=kN "law" "law" (top 43)
def Bt:Obj:=oK #[.str "law" 631,.str "law" 632,cp 633,.int 332 0,.int 1 0,.int 0 0,.int 0 0,.int 3 0,.ref 311,.bool true,.int 181 0,.ref 312,.none,.none,.none,.ref 313,.int 634 0,.int 332 0,cp 635]
def Bu:Obj:=kM "law" "law" (top 43) "law_sumcraft_k22_whole_span" 529 314
def env0:Env:={ scope:=PySem.Challenge.pw_sumcraft_k22_whole_span.main.scope,locals:=mainNs,globals:=mainNs,cells:=[],code:=.ref 13,frame:=some 14 }
def cd0:Code:=.body (behindTheImports PySem.Challenge.pw_sumcraft_k22_whole_span) env0
def fr0:List Frame:=[topFrame { line:=0,col:=0,endLine:=0,endCol:=0 }]
noncomputable def hp1 (P:Params):Heap:=⟨⟨[boot_o_0 P,boot_o_1 P,boot_o_2 P,boot_o_3 P,boot_o_4 P,boot_o_5 P,boot_o_6 P,boot_o_7 P,boot_o_8 P,boot_o_9 P,boot_o_10 P,sW,GL,sX,sY]⟩,{}⟩
noncomputable def hp3 (P:Params):Heap:=⟨⟨[boot_o_0 P,boot_o_1 P,boot_o_2 P,ob3 P,boot_o_4 P,boot_o_5 P,boot_o_6 P,boot_o_7 P,boot_o_8 P,boot_o_9 P,boot_o_10 P,sW,GM,sX,sY,x_,ya,sZ P,yb,yc,yd,ye,yf,s_ P,tf,yh,yi,yj,yk,yl,tj P,ym,yn,yo,yp,yq,tm P,tq,yr,yt,yu,yw,yy,yz,yB,tu,tE,yC,yD,yE,yF,yG,tG,tH,yH,yI,yJ,yK,yL,tI,tJ,yM,yN,yO,yP,yQ,tK,tL,yS,yT,yU,yV,yW,tO,tQ,yX,yY,yZ,y3,y4,tS,tT,y6,y8,y9,y_,za,tU,tV,zb,zc,zd,ze,zf,tW,tX,zg,zh,zi,tY,tZ,zj,zk,zl,t8,t_,zm,zn,zo,zp,zq,ua,ub,zr,zt,zu,uc,ud,zw,zx,zA,zB,zC,ue,uf,zD,zE,zF,ug,uh,zG,zH,zI,zJ,zK,ui,uj,zL,zM,zN,uk,um,zO,zP,zQ,zS,zT,uo,uq,zU,zV,zW,ur,uu,zX,zY,zZ,uv,uw,z4,z6,z7,ux,uy,z8,z9,uA P,z_,Aa,Ab,Ac,Ad,Ae,Af,Ag,Ah,uB,uC,Ai,Aj,Ak,uD,uE,Al,Am,Ao,Ap,Aq,uF,uG,Ar,As,At,Au,Av,uH,uI,Aw,Ax,Ay,uJ,uK,Az,AA,AB,AC,AD,uL,uM,AE,AF,AG,AH,AI,uN,uO,AJ,AK,AL,uP,uQ,AM,AN,AO,uR,uS,AQ,AR,AS,AT,AU,uT,uU,AV,uV P,uW,AW,AX,AY,AZ]⟩,{}⟩
noncomputable def hp4 (P:Params):Heap:=⟨⟨[boot_o_0 P,boot_o_1 P,boot_o_2 P,A2 P,boot_o_4 P,boot_o_5 P,boot_o_6 P,boot_o_7 P,boot_o_8 P,boot_o_9 P,boot_o_10 P,sW,GN,sX,sY,x_,ya,sZ P,yb,yc,yd,ye,yf,s_ P,tf,yh,yi,yj,yk,yl,tj P,ym,yn,yo,yp,yq,tm P,tq,yr,yt,yu,yw,yy,yz,yB,tu,tE,yC,yD,yE,yF,yG,tG,tH,yH,yI,yJ,yK,yL,tI,tJ,yM,yN,yO,yP,yQ,tK,tL,yS,yT,yU,yV,yW,tO,tQ,yX,yY,yZ,y3,y4,tS,tT,y6,y8,y9,y_,za,tU,tV,zb,zc,zd,ze,zf,tW,tX,zg,zh,zi,tY,tZ,zj,zk,zl,t8,t_,zm,zn,zo,zp,zq,ua,ub,zr,zt,zu,uc,ud,zw,zx,zA,zB,zC,ue,uf,zD,zE,zF,ug,uh,zG,zH,zI,zJ,zK,ui,uj,zL,zM,zN,uk,um,zO,zP,zQ,zS,zT,uo,uq,zU,zV,zW,ur,uu,zX,zY,zZ,uv,uw,z4,z6,z7,ux,uy,z8,z9,uA P,z_,Aa,Ab,Ac,Ad,Ae,Af,Ag,Ah,uB,uC,Ai,Aj,Ak,uD,uE,Al,Am,Ao,Ap,Aq,uF,uG,Ar,As,At,Au,Av,uH,uI,Aw,Ax,Ay,uJ,uK,Az,AA,AB,AC,AD,uL,uM,AE,AF,AG,AH,AI,uN,uO,AJ,AK,AL,uP,uQ,AM,AN,AO,uR,uS,AQ,AR,AS,AT,AU,uT,uU,AV,uV P,uW,AW,AX,AY,AZ,GO,GP,GQ,GR,GS,A3,A4,GT,GU,GV,GW,GX,A6,A7,GY,GZ,G0,G5,G6,A8,A9,G7,G8,G9,G_,Ha,A_,Ba,Hc,He,Hg,Hh,Hi,Bc,Be,Hj,Hk,Hl,Hm,Hn,Bf,Bg,Ho,Hq,Hr,Bh,Bi,Hs,Ht,Hu,Hw,HB,Bj,Bk,HC,HD,HE,Bl,Bm,HF,HG,HH,HI,HJ,Bn,Bo,HK,HL,HM,Br,Bs,HN,HP,HQ,Bt,Bu]⟩,{}⟩
set_option maxHeartbeats 0 in
theorem HR (w:World)(os:OsState):topGo treeTable PySem.Challenge.pw_sumcraft_k22_whole_span w 11 (some (.ref 6)) 12 (⟨boot_heap w.params,Array.mk [],boot_drawn,boot_toks,os⟩:Shared) (topStub PySem.Challenge.pw_sumcraft_k22_whole_span)=some ((⟨hp1 w.params,#[],{},187,os⟩:Shared),⟨denote treeTable cd0,cd0,{ line:=0,col:=0,endLine:=0,endCol:=0 },fr0⟩):=by kernel_rfl
set_option maxHeartbeats 0 in
theorem HS (w:World)(os:OsState):segRun treeTable PySem.Challenge.pw_sumcraft_k22_whole_span w 11 (some (.ref 6)) 1 1 (⟨hp1 w.params,#[],{},187,os⟩:Shared) (blockOf (behindTheImports PySem.Challenge.pw_sumcraft_k22_whole_span) env0 cd0 { line:=0,col:=0,endLine:=0,endCol:=0 } fr0)=some (.next,(⟨hp1 w.params,#[],{},187,os⟩:Shared),cd0,{ line:=0,col:=0,endLine:=0,endCol:=0 }):=by kernel_rfl
noncomputable def gl3:List Stmt:=[top 0,top 1,top 2,top 3,top 4,top 5,top 6,top 7,top 8,top 9,top 10,top 11,top 12,top 13,top 14,top 15,top 16,top 17,top 18,top 19,top 20,top 21,top 22,top 23,top 24,top 25,top 26,top 27,top 28,top 29,top 30]
set_option maxHeartbeats 0 in
theorem pc3 (w:World)(os:OsState):segRun treeTable PySem.Challenge.pw_sumcraft_k22_whole_span w 11 (some (.ref 6)) 1 1589 (⟨hp1 w.params,#[],{},187,os⟩:Shared) (piecesOf gl3 env0 cd0 { line:=0,col:=0,endLine:=0,endCol:=0 } fr0)=some (.next,(⟨hp3 w.params,#[],{},529,os⟩:Shared),cd0,{ line:=153,col:=0,endLine:=243,endCol:=47 }):=by kernel_rfl
noncomputable def gl4:List Stmt:=[top 31,top 32,top 33,top 34,top 35,top 36,top 37,top 38,top 39,top 40,top 41,top 42,top 43]
set_option maxHeartbeats 0 in
theorem pc4 (w:World)(os:OsState):segRun treeTable PySem.Challenge.pw_sumcraft_k22_whole_span w 11 (some (.ref 6)) 1 372 (⟨hp3 w.params,#[],{},529,os⟩:Shared) (piecesOf gl4 env0 cd0 { line:=153,col:=0,endLine:=243,endCol:=47 } fr0)=some (.next,(⟨hp4 w.params,#[],{},637,os⟩:Shared),cd0,{ line:=332,col:=0,endLine:=366,endCol:=89 }):=by kernel_rfl
set_option maxHeartbeats 0 in
theorem HU (w:World)(os:OsState):topRun treeTable PySem.Challenge.pw_sumcraft_k22_whole_span w 11 (some (.ref 6)) 2 (⟨hp4 w.params,#[],{},637,os⟩:Shared) ⟨doneF .next,cd0,{ line:=332,col:=0,endLine:=366,endCol:=89 },fr0⟩=some (⟨hp4 w.params,#[],{},637,os⟩:Shared):=by kernel_rfl
theorem HV:behindTheImports PySem.Challenge.pw_sumcraft_k22_whole_span=gl3++(gl4++[]):=by kernel_rfl
theorem HW (w:World)(os:OsState):topRun treeTable PySem.Challenge.pw_sumcraft_k22_whole_span w 11 (some (.ref 6)) (12+(1+(1589+(372+2)))) (⟨boot_heap w.params,Array.mk [],boot_drawn,boot_toks,os⟩:Shared) (topStub PySem.Challenge.pw_sumcraft_k22_whole_span)=some (⟨hp4 w.params,#[],{},637,os⟩:Shared):=
 go_top (HR w os) (piece_block (HS w os) (by
  rw[HV];exact piece_app (pc3 w os) (piece_app (pc4 w os) (piece_nil (HU w os)))))
noncomputable def KK (P:Params):Frag:=[(3,A2 P),(17,sZ P),(23,s_ P),(24,tf),(30,tj P),(36,tm P),(37,tq),(45,tu),(46,tE),(52,tG),(53,tH),(59,tI),(60,tJ),(66,tK),(67,tL),(73,tO),(74,tQ),(80,tS),(81,tT),(87,tU),(88,tV),(94,tW),(95,tX),(99,tY),(100,tZ),(104,t8),(105,t_),(111,ua),(112,ub),(116,uc),(117,ud),(123,ue),(124,uf),(128,ug),(129,uh),(135,ui),(136,uj),(140,uk),(141,um),(147,uo),(148,uq),(152,ur),(153,uu),(157,uv),(158,uw),(162,ux),(163,uy),(166,uA P),(176,uB),(177,uC),(181,uD),(182,uE),(188,uF),(189,uG),(195,uH),(196,uI),(200,uJ),(201,uK),(207,uL),(208,uM),(214,uN),(215,uO),(219,uP),(220,uQ),(224,uR),(225,uS),(231,uT),(232,uU),(234,uV P),(235,uW),(245,A3),(246,A4),(252,A6),(253,A7),(259,A8),(260,A9),(266,A_),(267,Ba),(273,Bc),(274,Be),(280,Bf),(281,Bg),(285,Bh),(286,Bi),(292,Bj),(293,Bk),(297,Bl),(298,Bm),(304,Bn),(305,Bo),(309,Br),(310,Bs),(314,Bt),(315,Bu)]
noncomputable def KA:List Addr:=[3,17,23,24,30,36,37,45,46,52,53,59,60,66,67,73,74,80,81,87,88,94,95,99,100,104,105,111,112,116,117,123,124,128,129,135,136,140,141,147,148,152,153,157,158,162,163,166,176,177,181,182,188,189,195,196,200,201,207,208,214,215,219,220,224,225,231,232,234,235,245,246,252,253,259,260,266,267,273,274,280,281,285,286,292,293,297,298,304,305,309,310,314,315]
noncomputable def qv:Program:=view PySem.Challenge.pw_sumcraft_k22_whole_span [1,2,4,5,6,7,8,10,11,12,13,15,16,17,18,19,20,21,22,24,25,26,27,28,29,30,32,33,34,35,36,37,38,39,40,41,42,43]
def xt (s:Shared):Bool:=xlAt qv [] s && recOk (PySem.Challenge.rw_sumcraft_k22_whole_span.row.toRowW).records s
def hk:Hook:=kHook KK KA λ_=>rfl
set_option maxHeartbeats 0 in
theorem HX:LeftO PySem.Challenge.pw_sumcraft_k22_whole_span qv [] xt hk.obs hk.val 4044:=
 LeftO.of_pieces (H₀:=boot_heap) (H₁:=hp4) (gs₁:=#[]) (d₁:={}) (k₁:=637)
  (boot_open (by kernel_rfl) rfl λs=>by kernel_rfl)
  (λw=>by kernel_rfl) HW (by kernel_rfl)
  λw=>by kernel_rfl
set_option maxHeartbeats 0 in
theorem HY:PySem.Challenge.rw_sumcraft_k22_whole_span.wellSaid=true:=by kernel_rfl
set_option maxHeartbeats 0 in
theorem HZ:PySem.Challenge.rw_sumcraft_k22_whole_span.row.prog.bare:=⟨rfl,rfl,rfl,rfl,rfl,by decide +kernel⟩
end My
namespace L2
open PySem PySem.Spec PyProof.Rows
abbrev Key:=Sum Int Str
def jF:Key->Value->Bool
 | .inl k,v=>Value.isInt k v
 | .inr x,v=>Value.isStrOf x v
def H_ (w:World):Key->Int
 | .inl k=>hashInt k
 | .inr x=>hashStr w x
theorem il:∀{k:Key}{v:Value},jF k v=true->(∃i t,k=Sum.inl i∧v=Value.int i t)∨(∃x t,k=Sum.inr x∧v=Value.str x t)
 | .inl i,v,h=>by
  obtain⟨t,e⟩:=Value.isInt_shape (k:=i) (v:=v) h;exact .inl ⟨i,t,rfl,e⟩
 | .inr x,v,h=>by
  obtain⟨t,e⟩:=Value.isStrOf_shape (x:=x) (v:=v) h;exact .inr ⟨x,t,rfl,e⟩
theorem Ia (i:Int)(t:Tok):jF (.inl i) (.int i t)=true:=by simp[jF,Value.isInt]
theorem Ic (x:Str)(t:Tok):jF (.inr x) (.str x t)=true:=by simp[jF,Value.isStrOf]
theorem Ie (a b:Int):decide ((Sum.inl a:Key)=Sum.inl b)=(a == b):=by
 by_cases e:a=b
 ·subst e;simp
 ·have h:¬(Sum.inl a:Key)=Sum.inl b:=λq=>e (Sum.inl.inj q);rw[decide_eq_false h];exact (beq_eq_false_iff_ne.mpr e).symm
theorem Ig (a b:Str):decide ((Sum.inr a:Key)=Sum.inr b)=decide (a=b):=by
 by_cases e:a=b
 ·subst e;simp
 ·have h:¬(Sum.inr a:Key)=Sum.inr b:=λq=>e (Sum.inr.inj q);rw[decide_eq_false h,decide_eq_false e]
theorem Ih (a:Int)(b:Str):decide ((Sum.inl a:Key)=Sum.inr b)=false:=decide_eq_false (λq=>nomatch q)
theorem Ii (a:Str)(b:Int):decide ((Sum.inr a:Key)=Sum.inl b)=false:=decide_eq_false (λq=>nomatch q)
def im (prog:Program)(w:World):PySem.KeyKind prog w Key where
 is:=jF
 hash:=H_ w
 inj:=λv a b ha hb=>by
  rcases il ha with ⟨i,t,rfl,rfl⟩|⟨x,t,rfl,rfl⟩
  ·rcases il hb with ⟨j,u,rfl,e⟩|⟨y,u,rfl,e⟩
   ·injection e with e1 _;rw[e1]
   ·exact nomatch e
  ·rcases il hb with ⟨j,u,rfl,e⟩|⟨y,u,rfl,e⟩
   ·exact nomatch e
   ·injection e with e1 _;rw[e1]
 byValue:=λk v h=>by
  rcases il h with ⟨i,t,rfl,rfl⟩|⟨x,t,rfl,rfl⟩ <;> rfl
 pyHash:=λhv h=>by
  rcases il hv with ⟨i,t,rfl,rfl⟩|⟨x,t,rfl,rfl⟩
  ·exact wpAny_pyHash_int h
  ·exact wpAny_pyHash_str h
 eqBool:=λhu hv h=>by
  rcases il hu with ⟨i,t,rfl,rfl⟩|⟨x,t,rfl,rfl⟩
  ·rcases il hv with ⟨j,u,rfl,rfl⟩|⟨y,u,rfl,rfl⟩
   ·rw[Ie]at h;exact wpAny_eqBool_int h
   ·rw[Ih]at h;exact SeqAt.EqAt.int_str i t y u _ _ _ _ h
  ·rcases il hv with ⟨j,u,rfl,rfl⟩|⟨y,u,rfl,rfl⟩
   ·rw[Ii]at h;exact SeqAt.EqAt.str_int x t j u _ _ _ _ h
   ·rw[Ig]at h;exact wpAny_eqBool_str h
 «strs»:=λk x t v h=>by
  rcases il h with ⟨i,u,rfl,e⟩|⟨y,u,rfl,e⟩
  ·exact nomatch e
  ·injection e with e1 _;subst e1
   cases v <;> rfl
theorem Ij (prog:Program)(w:World)(i:Int)(t:Tok):(im prog w).is (.inl i) (.int i t)=true:=Ia i t
theorem Ik (prog:Program)(w:World)(x:Str)(t:Tok):(im prog w).is (.inr x) (.str x t)=true:=Ic x t
inductive V where
 | non|bl (b:Bool)|int (i:Int)|str (x:Str)|byt (b:Array UInt8)|flt (b:UInt64)|ref (a:Addr)|ty (n:String)
 deriving DecidableEq
def RelV:V->Value->Prop
 | .non,u=>u=Value.none
 | .bl b,u=>u=Value.bool b
 | .int i,u=>∃t,u=Value.int i t
 | .str x,u=>∃t,u=Value.str x t
 | .byt b,u=>∃t,u=Value.bytes b t
 | .flt b,u=>∃t,u=Value.float b t
 | .ref a,u=>u=Value.ref a
 | .ty n,u=>u=Value.type n
abbrev Vals:List V->List Value->Prop:=Paired RelV
theorem Vals.length {xs:List V}{us:List Value}(r:Vals xs us):xs.length=us.length:=Paired.length r
theorem Vals.get:∀{xs:List V}{us:List Value}{i:Nat}{x:V},Vals xs us->xs[i]?=some x->∃u,us[i]?=some u∧RelV x u
 | _,_,_,_,.nil,e=>by simp at e
 | _,_,0,_,.cons r _,e=>by simp at e;subst e;exact⟨_,rfl,r⟩
 | _,_,i+1,x,.cons _ t,e=>by
  obtain⟨u,h1,h2⟩:=Vals.get (i:=i) (x:=x) t (by simpa using e);exact⟨u,by simpa using h1,h2⟩
theorem Vals.set {x:V}{u:Value}(r:RelV x u):∀{xs:List V}{us:List Value}(i:Nat),Vals xs us->Vals (xs.set i x) (us.set i u)
 | _,_,_,.nil=>.nil
 | _,_,0,.cons _ t=>.cons r t
 | _,_,i+1,.cons q t=>.cons q (Vals.set r i t)
theorem Vals.append:∀{xs ys:List V}{us ws:List Value},Vals xs us->Vals ys ws->Vals (xs++ys) (us++ws)
 | _,_,_,_,.nil,s=>s
 | _,_,_,_,.cons r t,s=>.cons r (Vals.append t s)
theorem Vals.take:∀{xs:List V}{us:List Value}(n:Nat),Vals xs us->Vals (xs.take n) (us.take n)
 | _,_,0,_=>.nil
 | _,_,_+1,.nil=>.nil
 | _,_,n+1,.cons r t=>.cons r (Vals.take n t)
theorem Vals.drop:∀{xs:List V}{us:List Value}(n:Nat),Vals xs us->Vals (xs.drop n) (us.drop n)
 | _,_,0,r=>r
 | _,_,_+1,.nil=>.nil
 | _,_,n+1,.cons _ t=>Vals.drop n t
def RelO:Option V->Option Value->Prop
 | some v,some u=>RelV v u
 | none,none=>True
 | _,_=>False
def KV {κ:Type}:List (κ×V)->List (κ×Value)->Prop:=Paired λ(p:κ×V) (q:κ×Value)=>p.1=q.1∧RelV p.2 q.2
def kV:Key->V
 | .inl i=>.int i
 | .inr x=>.str x
inductive HO where
  | lst (xs:List V)
  | tup (xs:List V)
  | dK (kvs:List (Key×V))|dT (kvs:List (List Key×V))
  | set (S:Int->Bool) (n:Nat)
  | ins (C dx:Addr) (fs:List (Str×V))
  | own (x:Addr)
  | xd (fs:List (Str×V))
  | met (f x:Addr)
  | rng (lo hi:Int)
  | frz (o:Obj) (u:HO)
  | tbl (ps:Array Value)
  | ext (φ:Heap->Prop)
abbrev Hp:=Addr->Option HO
def upd (H:Hp)(a:Addr)(o:HO):Hp:=λb=>if b=a then some o else H b
theorem ag {H:Hp}{a:Addr}{o:HO}:upd H a o a=some o:=by unfold upd;rw[if_pos rfl]
theorem aj {H:Hp}{a b:Addr}{o:HO}(h:b≠a):upd H a o b=H b:=by unfold upd;rw[if_neg h]
theorem Il {H:Hp}{a:Addr}{o u:HO}:upd (upd H a o) a u=upd H a u:=by
 funext b;unfold upd;split <;> rfl
theorem iM {H:Hp}{a b:Addr}{o u:HO}(h:H a=some o)(h':H b=some u)(d:o≠u):a≠b:=by
 intro e;subst e;rw[h]at h';exact d (Option.some.inj h')
theorem dq {H:Hp}{a b:Addr}{o:HO}(h:H a=some o)(h':H b=none):a≠b:=by
 intro e;subst e;rw[h]at h';cases h'
section
variable (P:Program)(w:World)
def ObjOk (H:Hp)(h:Heap)(a:Addr):HO->Prop
 | .lst xs=>xs.length<=sizeLine∧∃(its:List Value) (n:Nat),Vals xs its∧h.get? a=some { cls:=.type "list",data:=.seq its.toArray n }
 | .tup xs=>xs.length<=sizeLine∧∃its:List Value,Vals xs its∧IsTup h a its.toArray
 | .dK kvs=>kvs.length<=sizeLine∧(a == sysModules)=false∧∃vs,KV kvs vs∧h.DictOf (im P w) a vs
 | .dT kvs=>kvs.length<=sizeLine∧(a == sysModules)=false∧∃xs:List (List Key×Addr×Value),
   Paired (λ(p:List Key×V) (q:List Key×Addr×Value)=>p.1=q.1∧H q.2.1=some (.tup (p.1.map kV))∧RelV p.2 q.2.2) kvs xs∧
   ∃o es ep,h.get? a=some o∧o.ExactDict∧o.data=.dict es ep∧es.toList=xs.map (entryOfKey (tupleKind (im P w)))∧(xs.map (·.1)).Nodup
 | .set S n=>h.SetOf (intKind P w) a S n
 | .ins C dx fs=>H dx=some (.own a)∧fs.length<=1000∧dx≠a∧h.get? a=some (PySem.W.instObj C dx)∧
   ∃mA,h.Ns1 dx mA∧(∀f,RelO (fs.lookup f) (mA f))∧PySem.Within mA (fs.map (·.1))
 | .own _=>∃o,h.get? a=some o
 | .xd fs=>∃mA,h.Ns1 a mA∧∀f,RelO (fs.lookup f) (mA f)
 | .rng lo hi=>∃t u v,h.get? a=some { cls:=.type "range",data:=.fields #[.int lo t,.int hi u,.int 1 v] }
 | .frz o u=>h.get? a=some o∧ObjOk H h a u
 | .tbl ps=>h.get? a=some { cls:=.none,data:=.fields ps }
 | .met f x=>h.get? a=some (PySem.W.methodObj (.ref f) (.ref x))
 | .ext φ=>φ h∧(∃o,h.get? a=some o)∧∀h1 h2:Heap,φ h1->(∀o,h1.get? a=some o->h2.get? a=some o)->φ h2
def HOk (H:Hp)(h:Heap):Prop:=∀a o,H a=some o->ObjOk P w H h a o
end
section
variable {P:Program}{w:World}{H H':Hp}{h h':Heap}{a:Addr}{o:HO}
theorem ObjOk.lt (x:ObjOk P w H h a o):a<h.objs.size:=by
 cases o with
 | lst xs=>obtain⟨_,_,_,_,e⟩:=x;exact Heap.lt_size e
 | tup xs=>obtain⟨_,_,_,p⟩:=x;exact p.lt
 | dK kvs=>obtain⟨_,_,_,_,o,_,_,e,_⟩:=x;exact Heap.lt_size e
 | dT kvs=>obtain⟨_,_,_,_,o,_,_,e,_⟩:=x;exact Heap.lt_size e
 | set S n=>obtain⟨o,_,_,_,e,_⟩:=x;exact Heap.lt_size e
 | ins C dx fs=>obtain⟨_,_,_,e,_⟩:=x;exact Heap.lt_size e
 | own y=>obtain⟨_,e⟩:=x;exact Heap.lt_size e
 | xd fs=>obtain⟨_,⟨_,_,_,e,_⟩,_⟩:=x;exact Heap.lt_size e
 | rng lo hi=>obtain⟨_,_,_,e⟩:=x;exact Heap.lt_size e
 | frz ob u=>obtain⟨e,_⟩:=x;exact Heap.lt_size e
 | tbl ps=>exact Heap.lt_size (show h.get? a=some _ from x)
 | met f y=>exact Heap.lt_size (show h.get? a=some _ from x)
 | ext φ=>obtain⟨_,⟨_,e⟩,_⟩:=x;exact Heap.lt_size e
theorem Paired.mapP {α β:Type}{F G:α->β->Prop}:∀{l₁:List α}{l₂:List β},Paired F l₁ l₂->(∀a b,F a b->G a b)->Paired G l₁ l₂
 | _,_,.nil,_=>.nil
 | _,_,.cons r t,f=>.cons (f _ _ r) (Paired.mapP t f)
theorem ObjOk.stay (x:ObjOk P w H h a o) (k:∀b u,(b=a∨H b=some (.own a))->h.get? b=some u->h'.get? b=some u)
  (ho:∀b,H b=some (.own a)->H' b=some (.own a)) (ht:∀b xs,H b=some (.tup xs)->H' b=some (.tup xs)):ObjOk P w H' h' a o:=by
 induction o with
 | lst xs=>obtain⟨z,its,n,r,e⟩:=x;exact⟨z,its,n,r,k _ _ (.inl rfl) e⟩
 | tup xs=>obtain⟨z,its,r,ob,e,c⟩:=x;exact⟨z,its,r,ob,k _ _ (.inl rfl) e,c⟩
 | dK kvs=>obtain⟨z,y,vs,r,ob,es,ep,e,c⟩:=x;exact⟨z,y,vs,r,ob,es,ep,k _ _ (.inl rfl) e,c⟩
 | dT kvs=>
  obtain⟨z,y,xs,r,ob,es,ep,e,c⟩:=x;exact⟨z,y,xs,Paired.mapP r λp q z=>⟨z.1,ht _ _ z.2.1,z.2.2⟩,ob,es,ep,k _ _ (.inl rfl) e,c⟩
 | set S n=>obtain⟨ob,es,ep,t,e,c⟩:=x;exact⟨ob,es,ep,t,k _ _ (.inl rfl) e,c⟩
 | ins C dx fs=>
  obtain⟨d,z,ne,e,mA,⟨od,es,ep,e2,c⟩,r⟩:=x;exact⟨ho _ d,z,ne,k _ _ (.inl rfl) e,mA,⟨od,es,ep,k _ _ (.inr d) e2,c⟩,r⟩
 | own y=>obtain⟨ob,e⟩:=x;exact⟨ob,k _ _ (.inl rfl) e⟩
 | xd fs=>obtain⟨mA,⟨od,es,ep,e,c⟩,r⟩:=x;exact⟨mA,⟨od,es,ep,k _ _ (.inl rfl) e,c⟩,r⟩
 | rng lo hi=>obtain⟨t,u,v,e⟩:=x;exact⟨t,u,v,k _ _ (.inl rfl) e⟩
 | frz ob u ih=>obtain⟨e,q⟩:=x;exact⟨k _ _ (.inl rfl) e,ih q⟩
 | tbl ps=>
  have e:h.get? a=some { cls:=.none,data:=.fields ps }:=x;show h'.get? a=some { cls:=.none,data:=.fields ps };exact k a _ (.inl rfl) e
 | met f y=>
  have e:h.get? a=some (PySem.W.methodObj (.ref f) (.ref y)):=x;show h'.get? a=some (PySem.W.methodObj (.ref f) (.ref y));exact k a _ (.inl rfl) e
 | ext φ=>obtain⟨p,⟨o,e⟩,st⟩:=x;exact⟨st _ _ p λo q=>k _ _ (.inl rfl) q,⟨o,k _ _ (.inl rfl) e⟩,st⟩
theorem HOk.lt (x:HOk P w H h)(e:H a=some o):a<h.objs.size:=(x a o e).lt
theorem HOk.fresh (x:HOk P w H h)(e:h.objs.size<=a):H a=none:=by
 cases q:H a with
 | none=>rfl
 | some u=>exact absurd (bV (x.lt q) e) (i4 _)
theorem HOk.kept (x:HOk P w H h)(k:∀b u,h.get? b=some u->h'.get? b=some u):HOk P w H h':=λa o e=>
 (x a o e).stay (λb u _ q=>k b u q) (λ_ q=>q) λ_ _ q=>q
theorem HOk.laid (x:HOk P w H h)(k:∀b u,h.get? b=some u->h'.get? b=some u)(hp:h.objs.size<=a)(new:ObjOk P w (upd H a o) h' a o):HOk P w (upd H a o) h':=λb u e=>by
 have hn:=x.fresh hp;by_cases hb:b=a
 ·subst hb;rw[ag]at e;cases e;exact new
 ·rw[aj hb]at e;exact (x b u e).stay (λc v _ q=>k c v q) (λc q=>by rw[aj (dq q hn)];exact q) λc xs q=>by rw[aj (dq q hn)];exact q
end
def Rd (H:Hp)(a:Addr)(u:HO):Prop:=H a=some u∨∃o,H a=some (.frz o u)
theorem Rd.ok {P:Program}{w:World}{H:Hp}{h:Heap}{a:Addr}{u:HO}(r:Rd H a u)(x:HOk P w H h):ObjOk P w H h a u:=by
 rcases r with r|⟨o,r⟩
 ·exact x a u r
 ·obtain⟨_,q⟩:=x a _ r;exact q
def Mut:Option HO->Prop
 | some (.lst _)=>True
 | some (.dK _)=>True
 | some (.dT _)=>True
 | some (.set _ _)=>True
 | some (.ins _ _ _)=>True
 | some (.ext _)=>True
 | _=>False
section
variable {P:Program}{w:World}{H:Hp}{h h':Heap}{x e:Addr}{o':HO}
theorem HOk.write (ok:HOk P w H h) (mu:Mut (H x)) (he:e=x∨H e=some (.own x)) (k:∀b u,b≠e->h.get? b=some u->h'.get? b=some u) (heo:∃u,h'.get? e=some u)
  (new:ObjOk P w (upd H x o') h' x o'):HOk P w (upd H x o') h':=λb u q=>by
 have nown:∀c y,H c=some (.own y)->c≠x:=λc y r z=>by subst z;rw[r]at mu;exact mu
 have ntup:∀c xs,H c=some (.tup xs)->c≠x:=λc xs r z=>by subst z;rw[r]at mu;exact mu
 by_cases hb:b=x
 ·subst hb;rw[ag]at q;cases q;exact new
 ·rw[aj hb]at q;by_cases hbe:b=e
  ·have q':H b=some (.own x):=by
    rcases he with z|z
    ·exact absurd (hbe.trans z) hb
    ·rw[hbe];exact z
   rw[q]at q';cases q';obtain⟨v,hv⟩:=heo;exact⟨v,by rw[hbe];exact hv⟩
  ·refine (ok b u q).stay (λc v hc r=>k c v ?_ r) (λc r=>by rw[aj (nown c b r)];exact r) λc xs r=>by rw[aj (ntup c xs r)];exact r
   rcases hc with rfl|hc
   ·exact hbe
   ·rintro rfl
    rcases he with z|z
    ·exact nown c b hc z
    ·rw[hc]at z;cases z;exact hb rfl
end
structure Un (fs ex:List Addr)(H H':Hp)(h h':Heap):Prop where
 keep:∀b o,h.get? b=some o->H b=none->b∉fs->b∉ex->h'.get? b=some o
 slot:∀b o,h.get? b=some o->H b=none->b∈fs->b∉ex->∃sl,h'.get? b=some { o with slots:=sl }
 free:∀b o,h.get? b=some o->H b=none->b∉ex->H' b=none
 there:∀b o,h.get? b=some o->b∉ex->∃o',h'.get? b=some o'
 tups:∀b xs,H b=some (.tup xs)->H' b=some (.tup xs)
 frzs:∀b o u,H b=some (.frz o u)->H' b=some (.frz o u)
 tbls:∀b ps,H b=some (.tbl ps)->∃more,H' b=some (.tbl (ps++more))
section
variable {fs fs' ex ex':List Addr}{H H1 H2:Hp}{h h1 h2 h':Heap}{a x e:Addr}{o:HO}
theorem Un.any (u:Un fs ex H H1 h h1){b:Addr}{ob:Obj}(q:h.get? b=some ob)(n:H b=none)(hx:b∉ex):∃sl,h1.get? b=some { ob with slots:=sl }:=by
 by_cases hb:b∈fs
 ·exact u.slot b ob q n hb hx
 ·exact⟨ob.slots,u.keep b ob q n hb hx⟩
theorem Un.trans (a:Un fs ex H H1 h h1)(b:Un fs ex H1 H2 h1 h2):Un fs ex H H2 h h2 where
 keep:=λc ob q n hc hx=>b.keep c ob (a.keep c ob q n hc hx) (a.free c ob q n hx) hc hx
 slot:=λc ob q n hc hx=>by
  obtain⟨sl,e1⟩:=a.slot c ob q n hc hx;obtain⟨sl',e2⟩:=b.slot c _ e1 (a.free c ob q n hx) hc hx;exact⟨sl',e2⟩
 free:=λc ob q n hx=>by
  obtain⟨o',e1⟩:=a.there c ob q hx;exact b.free c o' e1 (a.free c ob q n hx) hx
 there:=λc ob q hx=>by
  obtain⟨o',e1⟩:=a.there c ob q hx;exact b.there c o' e1 hx
 tups:=λc xs q=>b.tups c xs (a.tups c xs q)
 frzs:=λc ob xs q=>b.frzs c ob xs (a.frzs c ob xs q)
 tbls:=λc ps q=>by
  obtain⟨m1,e1⟩:=a.tbls c ps q;obtain⟨m2,e2⟩:=b.tbls c _ e1;exact⟨m1++m2,by rw[e2,Array.append_assoc]⟩
theorem Un.kept (k:∀b u,h.get? b=some u->h'.get? b=some u):Un fs ex H H h h':=
 ⟨λb ob q _ _ _=>k b ob q,λb ob q _ _ _=>⟨ob.slots,k b ob q⟩,λ_ _ _ n _=>n,λb ob q _=>⟨ob,k b ob q⟩,λ_ _ q=>q,λ_ _ _ q=>q,λ_ ps q=>⟨#[],by rw[q];simp⟩⟩
theorem Un.refl:Un fs ex H H h h:=Un.kept λ_ _ q=>q
theorem Un.laid (k:∀b u,h.get? b=some u->h'.get? b=some u)(hp:h.objs.size<=a)(hn:H a=none):Un fs ex H (upd H a o) h h' where
 keep:=λb u q _ _ _=>k b u q
 slot:=λb u q _ _ _=>⟨u.slots,k b u q⟩
 free:=λb u q n _=>by rw[aj (cC (bV (Heap.lt_size q) hp))];exact n
 there:=λb u q _=>⟨u,k b u q⟩
 tups:=λb xs q=>by rw[aj (dq q hn)];exact q
 frzs:=λb u xs q=>by rw[aj (dq q hn)];exact q
 tbls:=λb ps q=>⟨#[],by rw[aj (dq q hn),q];simp⟩
theorem Un.write (mu:Mut (H x))(he:e=x∨H e=some (.own x))(k:∀b u,b≠e->h.get? b=some u->h'.get? b=some u)(heo:∃u,h'.get? e=some u):Un fs ex H (upd H x o) h h':=by
 have hx:∀b,H b=none->b≠x:=λb n z=>by subst z;rw[n]at mu;exact mu
 have hb:∀b,H b=none->b≠e:=λb n z=>by
  subst z;rcases he with r|r
  ·exact hx b n r
  ·rw[n]at r;cases r
 have hm:∀b u,H b=some u->¬Mut (some u)->b≠x:=λb u q nm z=>by subst z;rw[q]at mu;exact nm mu
 refine⟨λb u q n _ _=>k b u (hb b n) q,λb u q n _ _=>⟨u.slots,k b u (hb b n) q⟩,λb u q n _=>by rw[aj (hx b n)];exact n,λb u q _=>?_,
  λb xs q=>by rw[aj (hm b _ q λz=>z)];exact q,λb u xs q=>by rw[aj (hm b _ q λz=>z)];exact q,λb ps q=>⟨#[],by rw[aj (hm b _ q λz=>z),q];simp⟩⟩
 by_cases hbe:b=e
 ·subst hbe;exact heo
 ·exact⟨u,k b u hbe q⟩
end
def trk (h:Heap)(H:Hp):List Addr:=(a8 h.objs.size).filter λa=>(H a).isSome
def iq (h:Heap)(H:Hp):Heap:=PySem.W.hideAll h (trk h H)
theorem Im (h:Heap)(H:Hp):(iq h H).objs.size=h.objs.size:=PySem.W.hideAll_size _ _
theorem Ip {h:Heap}{H:Hp}{b:Addr}{o:Obj}(e:h.get? b=some o)(n:H b=none):(iq h H).get? b=some o:=
 PySem.W.hideAll_get _ e λhm=>by
  have q:(H b).isSome=true:=(jy.mp hm).2;rw[n]at q;simp at q
theorem Iq {h:Heap}{H:Hp}{b:Addr}{o:Obj}(e:(iq h H).get? b=some o):h.get? b=some o∧H b=none:=by
 have e':h.get? b=some o:=PySem.W.of_hideAll (trk h H) e;refine⟨e',?_⟩
 cases q:H b with
 | none=>rfl
 | some x=>
  have hm:b∈trk h H:=jy.mpr ⟨dh.mpr (Heap.lt_size e'),by simp[q]⟩;have z:(iq h H).get? b=none:=PySem.W.hideAll_none (trk h H) hm;rw[z]at e;cases e
def Ir (g h:Heap)(L:Addr):List (Addr×Obj):=(a8 h.objs.size).filterMap λa=>if a=L∨(g.get? a).isSome=true then none else (h.get? a).map λo=>(a,o)
def rest (g h:Heap)(L d:Addr):List (Addr×Obj):=(Ir g h L).filter λp=>decide (p.1≠d)
structure Mod (K:W.Frag)(mg:Str->Option Value)(base:Heap):Prop where
 kin:K.In base
 glob:base.Ns mainGlobals mg
 blt:∃mb,base.Ns builtinsNs mb∧∀x:Str,x ≠ "__name__" -> mb x=bootBuiltins x
 nolimit:base.NoLimit
structure Cx where
 prog:Program
 w:World
 K:W.Frag
 mg:Str->Option Value
 base:Heap
 A:Around
 N:List Str
 s₀:Shared
 H₀:Hp
 env:Env
 outer:List Env
 stack:List Env
 ex:List Addr
 fn:Str->Bool
 calm:Bool
 pn:List (Addr×Obj)
 xe:Value->Shared->Prop
def frs (l:List Env):List Addr:=l.filterMap (·.frame)
abbrev Cx.fs (X:Cx):List Addr:=frs X.outer
def Vis (sc:Scope)(x:Str):Prop:=sc.names.lookup x=some .local∨sc.names.lookup x=some .cell∨sc.names.lookup x=some .free
def Loc (sc:Scope)(x:Str):Prop:=sc.names.lookup x=some .local∨sc.names.lookup x=some .cell
def Is (env:Env)(h:Heap)(m:Str->Option Value)(x:Str)(u:Value):Prop:=
 (env.kindOf x=some .local∧m x=some u)∨((env.kindOf x=some .cell∨env.kindOf x=some .free)∧∃c,env.cells.lookup x=some c∧h.IsCell c (some u))
structure Cx.Ok (X:Cx):Prop where
 mod:Mod X.K X.mg X.base
 kind:X.env.scope.kind=.function
 glob:X.env.globals=mainGlobals
 blt:X.env.builtins=builtinsNs
 above:X.s₀.heap.objs.size<=X.env.locals
 inj:∀x y c,X.env.cells.lookup x=some c->X.env.cells.lookup y=some c->x=y
 has:∀x,(X.env.kindOf x=some .cell∨X.env.kindOf x=some .free)->∃c,X.env.cells.lookup x=some c
 cab:∀x c,X.fn x=true->X.env.cells.lookup x=some c->X.s₀.heap.objs.size<=c
 hd:X.calm=true->X.A.handled=none
 frames:X.A.frames=some X.stack
 stk:X.stack=X.outer∨(X.stack=X.env :: X.outer∧X.env.frame=some X.env.locals)
 exf:∀b∈X.ex,b≠X.env.locals∧∀x c,X.env.cells.lookup x=some c->c≠b
 bs:∀b o,X.base.get? b=some o->X.s₀.heap.get? b=some o∧X.H₀ b=none
 bsz:X.base.objs.size<=X.s₀.heap.objs.size
 noex:∀b o,X.base.get? b=some o->b∉X.ex
 exfs:∀b∈X.ex,b∉X.fs
 funs:X.s₀.heap.FunFrames X.base X.outer
 frf:∀b∈X.fs,X.H₀ b=none
structure Inv (X:Cx)(Tj:List (Addr×Obj))(σ:List (Option V))(H:Hp)(s:Shared):Prop where
 ok:X.Ok
 os:s.os=X.s₀.os
 bare:AllBare s.gens
 base:Un X.fs X.ex X.H₀ H X.s₀.heap s.heap
 loc:∃m,s.heap.Ns X.env.locals m∧∀(i:Nat) (x:Str) (v:V),X.N[i]?=some x->σ[i]?=some (some v)->Vis X.env.scope x->∃u,RelV v u∧Is X.env s.heap m x u
 cell:∀x c,X.env.cells.lookup x=some c->∃v,s.heap.IsCell c v
 free:H X.env.locals=none
 freeC:∀x c,X.env.cells.lookup x=some c->H c=none
 pin:∀p∈X.pn++Tj,s.heap.get? p.1=some p.2∧H p.1=none∧p.1≠X.env.locals∧p.1∉X.fs∧∀v,p.2.data≠.cell v
 hok:HOk X.prog X.w H s.heap
 len:σ.length=X.N.length
section
variable {X:Cx}{Tj:List (Addr×Obj)}{σ:List (Option V)}{H H':Hp}{s:Shared}{h':Heap}
theorem Cx.Ok.nofr (ok:X.Ok){b:Addr}{o:Obj}(e:X.base.get? b=some o):b∉X.fs:=λhb=>by
 have:=(ok.funs.mem hb).1;rw[e]at this;cases this
theorem Inv.bs (I:Inv X Tj σ H s):∀b o,X.base.get? b=some o->s.heap.get? b=some o∧H b=none:=λb o e=>
 ⟨I.base.keep b o (I.ok.bs b o e).1 (I.ok.bs b o e).2 (I.ok.nofr e) (I.ok.noex b o e),I.base.free b o (I.ok.bs b o e).1 (I.ok.bs b o e).2 (I.ok.noex b o e)⟩
theorem Inv.bk (I:Inv X Tj σ H s):∀b o,X.base.get? b=some o->s.heap.get? b=some o:=λb o e=>(I.bs b o e).1
theorem Inv.mod (I:Inv X Tj σ H s):Mod X.K X.mg X.base:=I.ok.mod
theorem Inv.kIn (I:Inv X Tj σ H s):X.K.In s.heap:=I.ok.mod.kin.keeps I.bk
theorem Inv.lt (I:Inv X Tj σ H s):X.env.locals<s.heap.objs.size:=let ⟨_,hn,_⟩:=I.loc;hn.lt
theorem Inv.sz (I:Inv X Tj σ H s):X.s₀.heap.objs.size<=s.heap.objs.size:=aE I.ok.above (bW I.lt)
theorem Inv.nofs (I:Inv X Tj σ H s){a:Addr}(h:s.heap.objs.size<=a):a∉X.fs:=λhb=>by
 obtain⟨_,o,ho,_⟩:=I.ok.funs.mem hb;exact absurd (bV (Heap.lt_size ho) (aE I.sz h)) (i4 _)
theorem Inv.cne (I:Inv X Tj σ H s):∀x c,X.env.cells.lookup x=some c->c≠X.env.locals:=λx c e z=>by
 obtain⟨v,o,ho,hd⟩:=I.cell x c e;obtain⟨m,⟨o',es,ep,ho',hd',_⟩,_⟩:=I.loc;rw[z,ho']at ho;cases ho;rw[hd']at hd;cases hd
theorem Inv.funs (I:Inv X Tj σ H s):s.heap.FunFrames X.base X.outer:=by
 have all:∀(l:List Env),(∀b∈frs l,b∈X.fs)->X.s₀.heap.FunFrames X.base l->s.heap.FunFrames X.base l:=by
  intro l
  induction l with
  | nil=>intro _ _;trivial
  | cons env r ih=>
   intro hs hl;obtain⟨hk,⟨L,o,hf,hn,ho,hd⟩,hr⟩:=hl;have hL:L∈X.fs:=hs L (by unfold frs;rw[Gi,hf];exact cD);obtain⟨sl,e⟩:=I.base.slot L o ho (I.ok.frf L hL) hL λz=>I.ok.exfs L z hL;exact⟨hk,⟨L,_,hf,hn,e,hd⟩,ih (λb hb=>hs b (by unfold frs;rw[Gi,hf];exact bM _ hb)) hr⟩
 exact all X.outer (λ_ hb=>hb) I.ok.funs
theorem Inv.stack (I:Inv X Tj σ H s):s.heap.FunFrames X.base X.stack:=by
 rcases I.ok.stk with e|⟨e,hf⟩
 ·rw[e];exact I.funs
 ·rw[e];obtain⟨m,hn,_⟩:=I.loc;refine .cons (by rw[I.ok.kind];decide) hf hn ?_ I.funs;exact Heap.get?_none_of_le (aE I.ok.bsz I.ok.above)
theorem Inv.stkSub (I:Inv X Tj σ H s):∀b∈frs X.stack,b∈X.env.locals :: X.fs:=λb hb=>by
 rcases I.ok.stk with e|⟨e,hf⟩
 ·rw[e]at hb;exact bM _ hb
 ·rw[e]at hb;unfold frs at hb;rw[Gi,hf]at hb;exact hb
theorem Inv.stkFree (I:Inv X Tj σ H s):∀b∈frs X.stack,H b=none:=λb hb=>by
 rcases aO.mp (I.stkSub b hb) with e|hb
 ·rw[e];exact I.free
 ·obtain⟨_,o,ho,_⟩:=I.ok.funs.mem hb;exact I.base.free b o ho (I.ok.frf b hb) λz=>I.ok.exfs b z hb
theorem Inv.step {g':Array GenState}{t':Nat}{d':Drawn}{ch:List Addr}(I:Inv X Tj σ H s)
  (hch:∀b∈ch,(b∈X.ex∨X.s₀.heap.objs.size<=b)∧b≠X.env.locals∧(∀x c,X.env.cells.lookup x=some c->c≠b)∧∀p∈X.pn++Tj,p.1≠b)
  (keep:∀b o,b≠X.env.locals->b∉X.fs->b∉ch->s.heap.get? b=some o->H b=none->h'.get? b=some o)
  (slot:∀b o,b≠X.env.locals->b∈X.fs->b∉ch->s.heap.get? b=some o->H b=none->∃sl,h'.get? b=some { o with slots:=sl }) (free:∀b o,b∉ch->s.heap.get? b=some o->H b=none->H' b=none)
  (there:∀b o,b∉ch->s.heap.get? b=some o->∃o',h'.get? b=some o')
  (tups:∀b xs,H b=some (.tup xs)->H' b=some (.tup xs)) (frzs:∀b o u,H b=some (.frz o u)->H' b=some (.frz o u)) (tbls:∀b ps,H b=some (.tbl ps)->∃more,H' b=some (.tbl (ps++more)))
  (ns:∀m,s.heap.Ns X.env.locals m->h'.Ns X.env.locals m) (hok:HOk X.prog X.w H' h') (hg:AllBare g'):
  Inv X Tj σ H' { s with heap:=h',gens:=g',drawn:=d',toks:=t' }:=by
 have neL:∀b o,X.s₀.heap.get? b=some o->b≠X.env.locals:=λb o e=>cC (bV (Heap.lt_size e) I.ok.above);have neC:∀b o,X.s₀.heap.get? b=some o->b∉X.ex->b∉ch:=λb o e hx hb=>by
  rcases (hch b hb).1 with z|z
  ·exact hx z
  ·exact absurd (bV (Heap.lt_size e) z) (i4 _)
 have cellK:∀x c,X.env.cells.lookup x=some c->∀v,s.heap.IsCell c v->h'.IsCell c v:=λx c e v ⟨o,ho,hd⟩=>by
  have nch:c∉ch:=λz=>(hch c z).2.2.1 x c e rfl;by_cases hc:c∈X.fs
  ·obtain⟨sl,q⟩:=slot c o (I.cne x c e) hc nch ho (I.freeC x c e);exact⟨_,q,hd⟩
  ·exact⟨o,keep c o (I.cne x c e) hc nch ho (I.freeC x c e),hd⟩
 refine⟨I.ok,I.os,hg,⟨λb o e n hb hx=>?_,λb o e n hb hx=>?_,λb o e n hx=>?_,λb o e hx=>?_,λb xs e=>tups b xs (I.base.tups b xs e),λb o xs e=>frzs b o xs (I.base.frzs b o xs e),λb ps e=>?_⟩,?_,λx c e=>?_,?_,λx c e=>?_,λp hp=>?_,hok,I.len⟩
 ·exact keep b o (neL b o e) hb (neC b o e hx) (I.base.keep b o e n hb hx) (I.base.free b o e n hx)
 ·obtain⟨sl,e1⟩:=I.base.slot b o e n hb hx;obtain⟨sl',e2⟩:=slot b _ (neL b o e) hb (neC b o e hx) e1 (I.base.free b o e n hx);exact⟨sl',e2⟩
 ·obtain⟨o',e1⟩:=I.base.there b o e hx;exact free b o' (neC b o e hx) e1 (I.base.free b o e n hx)
 ·obtain⟨o',e1⟩:=I.base.there b o e hx;exact there b o' (neC b o e hx) e1
 ·obtain⟨m1,e1⟩:=I.base.tbls b ps e;obtain⟨m2,e2⟩:=tbls b _ e1;exact⟨m1++m2,by rw[e2,Array.append_assoc]⟩
 ·obtain⟨m,hn,hl⟩:=I.loc;refine⟨m,ns m hn,λi x v e1 e2 e3=>?_⟩;obtain⟨u,r,l⟩:=hl i x v e1 e2 e3;refine⟨u,r,?_⟩;rcases l with l|⟨k,c,e,z⟩
  ·exact .inl l
  ·exact .inr ⟨k,c,e,cellK x c e _ z⟩
 ·obtain⟨v,z⟩:=I.cell x c e;exact⟨v,cellK x c e v z⟩
 ·obtain⟨m,⟨o,_,_,ho,_⟩,_⟩:=I.loc;exact free _ o (λz=>(hch _ z).2.1 rfl) ho I.free
 ·obtain⟨v,o,ho,hd⟩:=I.cell x c e;exact free c o (λz=>(hch c z).2.2.1 x c e rfl) ho (I.freeC x c e)
 ·obtain⟨e,n,ne,nf,d⟩:=I.pin p hp;have nch:p.1∉ch:=λz=>(hch p.1 z).2.2.2 p hp rfl;exact⟨keep p.1 p.2 ne nf nch e n,free p.1 p.2 nch e n,ne,nf,d⟩
theorem Inv.un {t':Nat}(I:Inv X Tj σ H s)(u:Un X.fs [] H H' s.heap h')(hok:HOk X.prog X.w H' h'):Inv X Tj σ H' { s with heap:=h',toks:=t' }:=by
 obtain⟨m,⟨o,es,ep,ho,r⟩,_⟩:=id I.loc;obtain⟨sl,hL⟩:=u.any ho I.free (by simp);exact I.step (g':=s.gens) (d':=s.drawn) (ch:=[]) (λ_ z=>nomatch z) (λb o _ hb _ e n=>u.keep b o e n hb (by simp)) (λb o _ hb _ e n=>u.slot b o e n hb (by simp)) (λb o _ e n=>u.free b o e n (by simp)) (λb o _ e=>u.there b o e (by simp)) u.tups u.frzs u.tbls (λm' hm=>by
  obtain⟨o',es',ep',ho',r'⟩:=hm;rw[ho]at ho';cases ho';exact⟨_,es',ep',hL,r'⟩) hok I.bare
theorem Inv.call {g':Array GenState}{t':Nat}{d':Drawn}{ch:List Addr}(I:Inv X Tj σ H s) (u:Un (frs X.stack) ch H H' s.heap h') (hok:HOk X.prog X.w H' h') (hg:AllBare g')
  (hch:∀b∈ch,(b∈X.ex∨X.s₀.heap.objs.size<=b)∧b≠X.env.locals∧(∀x c,X.env.cells.lookup x=some c->c≠b)∧∀p∈X.pn++Tj,p.1≠b):
  Inv X Tj σ H' { s with heap:=h',gens:=g',drawn:=d',toks:=t' }:=by
 obtain⟨m,⟨o,es,ep,ho,r⟩,_⟩:=id I.loc;obtain⟨sl,hL⟩:=u.any ho I.free λz=>(hch _ z).2.1 rfl;exact I.step (ch:=ch) hch (λb o hL hb hc e n=>u.keep b o e n (λz=>(aO.mp (I.stkSub b z)).elim hL hb) hc) (λb o _ _ hc e n=>u.any e n hc) (λb o hc e n=>u.free b o e n hc) (λb o hc e=>u.there b o e hc) u.tups u.frzs u.tbls (λm' hm=>by
  obtain⟨o',es',ep',ho',r'⟩:=hm;rw[ho]at ho';cases ho';exact⟨_,es',ep',hL,r'⟩) hok hg
theorem Inv.turned {t':Nat}{it:Addr}(I:Inv X Tj σ H s) (k:∀b o,b≠it->s.heap.get? b=some o->h'.get? b=some o) (hn:H it=none) (hL:it≠X.env.locals)
  (h1:it∈X.ex∨X.s₀.heap.objs.size<=it) (h2:∀x c,X.env.cells.lookup x=some c->c≠it) (h3:∀p∈X.pn++Tj,p.1≠it):Inv X Tj σ H { s with heap:=h',toks:=t' }:=by
 have nit:∀b u,H b=some u->b≠it:=λb u e z=>by rw[z,hn]at e;cases e
 refine I.step (g':=s.gens) (d':=s.drawn) (ch:=[it]) (λb hb=>?_) (λb o _ _ hc e _=>k b o (λz=>hc (by simp[z])) e) (λb o _ _ hc e _=>⟨o.slots,k b o (λz=>hc (by simp[z])) e⟩) (λ_ _ _ _ n=>n)
  (λb o hc e=>⟨o,k b o (λz=>hc (by simp[z])) e⟩) (λ_ _ e=>e) (λ_ _ _ e=>e) (λb ps e=>⟨#[],by rw[e];simp⟩) (λm hm=>?_) (λb u e=>?_) I.bare
 ·have e:b=it:=by simpa using hb
  subst e;exact⟨h1,hL,h2,h3⟩
 ·obtain⟨o,es,ep,ho,r⟩:=hm;exact⟨o,es,ep,k _ o (Ne.symm hL) ho,r⟩
 ·refine (I.hok b u e).stay (λc v hc q=>k c v ?_ q) (λ_ q=>q) λ_ _ q=>q;rcases hc with z|z
  ·rw[z];exact nit b u e
  ·exact nit c _ z
theorem Inv.tok (I:Inv X Tj σ H s)(t:Nat):Inv X Tj σ H { s with toks:=t }:=I.un (h':=s.heap) (t':=t) Un.refl I.hok
theorem Inv.kept {t':Nat}(I:Inv X Tj σ H s)(k:∀b u,s.heap.get? b=some u->h'.get? b=some u):Inv X Tj σ H { s with heap:=h',toks:=t' }:=I.un (Un.kept k) (I.hok.kept k)
theorem Inv.laid {a:Addr}{o:HO}{t':Nat}(I:Inv X Tj σ H s)(k:∀b u,s.heap.get? b=some u->h'.get? b=some u)(hp:s.heap.objs.size<=a)(new:ObjOk X.prog X.w (upd H a o) h' a o):
  Inv X Tj σ (upd H a o) { s with heap:=h',toks:=t' }:=I.un (Un.laid k hp (I.hok.fresh hp)) (I.hok.laid k hp new)
theorem Inv.write {x e:Addr}{o:HO}{t':Nat}(I:Inv X Tj σ H s) (mu:Mut (H x)) (he:e=x∨H e=some (.own x)) (k:∀b u,b≠e->s.heap.get? b=some u->h'.get? b=some u) (heo:∃u,h'.get? e=some u)
  (new:ObjOk X.prog X.w (upd H x o) h' x o):Inv X Tj σ (upd H x o) { s with heap:=h',toks:=t' }:=I.un (Un.write mu he k heo) (I.hok.write mu he k heo new)
theorem Inv.pins_of {pins':List (Addr×Obj)}(I:Inv X Tj σ H s)(h:∀p∈pins',s.heap.get? p.1=some p.2∧H p.1=none∧p.1≠X.env.locals∧p.1∉X.fs∧∀v,p.2.data≠.cell v):Inv X pins' σ H s:=
 ⟨I.ok,I.os,I.bare,I.base,I.loc,I.cell,I.free,I.freeC,λp hp=>(aK.mp hp).elim (λz=>I.pin p (gl _ z)) (h p),I.hok,I.len⟩
theorem Bv {N:List Str}(hN:N.Nodup){i j:Nat}{x:Str}(a:N[i]?=some x)(b:N[j]?=some x):i=j:=by
 obtain⟨h1,e1⟩:=aV.mp a;obtain⟨h2,e2⟩:=aV.mp b;exact (List.getElem_inj hN).mp (e1.trans e2.symm)
theorem kD {M:Model}{A:Around}{E:Value->Shared->Prop}{i:Nat}{x:Str}{v:V}{u:Value}{Q:Unit->Shared->Prop}(I:Inv X Tj σ H s) (hN:X.N.Nodup) (hi:X.N[i]?=some x) (hx:Loc X.env.scope x) (r:RelV v u)
  (h:∀s',Inv X Tj (σ.set i (some v)) H s'->(∃a,Heap.SameBut a s.heap s'.heap∧(a=X.env.locals∨X.env.cells.lookup x=some a))->Q () s') (hf:X.fn x=true∨X.env.scope.names.lookup x=some .local:=by first|exact .inl rfl|exact .inr rfl|assumption):wpAny M A (storeName X.env x u) Q E s:=by
 obtain⟨m,hn,hl⟩:=id I.loc;have hcls:(X.env.scope.kind == .class || (X.env.scope.kind == .module && X.env.locals != X.env.globals))=false:=by rw[I.ok.kind];rfl
 have hiσ:i < σ.length:=by rw[I.len];exact (aV.mp hi).1
 have cne:=I.cne;have tracked:∀{a:Addr}{h':Heap},(∃o,s.heap.get? a=some o∧H a=none)->Heap.SameBut a s.heap h'->HOk X.prog X.w H h':=λ{a h'} ha hs b ob e=>by
  obtain⟨_,_,hfree⟩:=ha;refine (I.hok b ob e).stay (λc w' hc q=>(hs.2 c ?_).trans q) (λ_ q=>q) λ_ _ q=>q
  rintro rfl
  rcases hc with rfl|hc
  ·rw[hfree]at e;cases e
  ·rw[hfree]at hc;cases hc
 rcases hx with hk|hk
 ·refine wpAny_storeName_local hk hn (λh' hn' hs=>?_) hcls;obtain⟨oL,_,_,hoL,_⟩:=id hn;refine h _ ⟨I.ok,I.os,I.bare,⟨λb o e n hb hx=>?_,λb o e n hb hx=>?_,I.base.free,λb o e hx=>?_,I.base.tups,I.base.frzs,I.base.tbls⟩,⟨_,hn',λj y v' e1 e2 e3=>?_⟩,λy c e=>?_,I.free,I.freeC,λp hp=>?_,tracked ⟨oL,hoL,I.free⟩ hs,by simpa using I.len⟩ ⟨_,hs,.inl rfl⟩
  ·exact (hs.2 b (cC (bV (Heap.lt_size e) I.ok.above))).trans (I.base.keep b o e n hb hx)
  ·obtain⟨sl,e1⟩:=I.base.slot b o e n hb hx;exact⟨sl,(hs.2 b (cC (bV (Heap.lt_size e) I.ok.above))).trans e1⟩
  ·obtain⟨o',e1⟩:=I.base.there b o e hx;exact⟨o',(hs.2 b (cC (bV (Heap.lt_size e) I.ok.above))).trans e1⟩
  ·by_cases hj:j=i
   ·subst hj;rw[hi]at e1;cases e1;rw[qZ hiσ]at e2
    cases e2
    exact⟨u,r,.inl ⟨hk,by simp⟩⟩
   ·rw[lK (Ne.symm hj)]at e2;obtain⟨u',r',q⟩:=hl j y v' e1 e2 e3;refine⟨u',r',?_⟩;rcases q with ⟨k,e⟩|⟨k,c,e,z⟩
    ·refine .inl ⟨k,?_⟩;have:y≠x:=λe=>hj (Bv hN e1 (e ▸ hi));simp[this,e]
    ·exact .inr ⟨k,c,e,z.sameBut hs (cne y c e)⟩
  ·obtain⟨w',z⟩:=I.cell y c e;exact⟨w',z.sameBut hs (cne y c e)⟩
  ·obtain⟨e,n,ne,nf,d⟩:=I.pin p hp;exact⟨(hs.2 p.1 ne).trans e,n,ne,nf,d⟩
 ·have hfn:X.fn x=true:=by
   rcases hf with z|z
   ·exact z
   ·rw[z]at hk;cases hk
  obtain⟨c,hc⟩:=I.ok.has x (.inl hk);obtain⟨w',z⟩:=I.cell x c hc;refine wpAny_storeName_cell I.ok.kind hk hc z (λh' hc' hs=>?_);obtain⟨oc,hoc,hocd⟩:=id z;refine h { s with heap:=h' } ⟨I.ok,I.os,I.bare,⟨λb o e n hb hx=>?_,λb o e n hb hx=>?_,I.base.free,λb o e hx=>?_,I.base.tups,I.base.frzs,I.base.tbls⟩,⟨m,hn.sameBut hs (Ne.symm (cne x c hc)),λj y v' e1 e2 e3=>?_⟩,λy c' e=>?_,I.free,I.freeC,λp hp=>?_,tracked ⟨oc,hoc,I.freeC x c hc⟩ hs,by simpa using I.len⟩ ⟨c,hs,.inr hc⟩
  ·exact (hs.2 b (cC (bV (Heap.lt_size e) (I.ok.cab x c hfn hc)))).trans (I.base.keep b o e n hb hx)
  ·obtain⟨sl,e1⟩:=I.base.slot b o e n hb hx;exact⟨sl,(hs.2 b (cC (bV (Heap.lt_size e) (I.ok.cab x c hfn hc)))).trans e1⟩
  ·obtain⟨o',e1⟩:=I.base.there b o e hx;exact⟨o',(hs.2 b (cC (bV (Heap.lt_size e) (I.ok.cab x c hfn hc)))).trans e1⟩
  ·by_cases hj:j=i
   ·subst hj;rw[hi]at e1;cases e1;rw[qZ hiσ]at e2
    cases e2
    exact⟨u,r,.inr ⟨.inl hk,c,hc,hc'⟩⟩
   ·rw[lK (Ne.symm hj)]at e2;obtain⟨u',r',q⟩:=hl j y v' e1 e2 e3;refine⟨u',r',?_⟩;rcases q with q|⟨k,c',e,z'⟩
    ·exact .inl q
    ·refine .inr ⟨k,c',e,z'.sameBut hs ?_⟩
     rintro rfl
     exact hj (Bv hN e1 (I.ok.inj _ _ _ e hc ▸ hi))
  ·by_cases hcc:c'=c
   ·subst hcc;exact⟨_,hc'⟩
   ·obtain⟨w2,z2⟩:=I.cell y c' e;exact⟨w2,z2.sameBut hs hcc⟩
  ·obtain⟨e,n,ne,nf,d⟩:=I.pin p hp;refine⟨(hs.2 p.1 ?_).trans e,n,ne,nf,d⟩;intro q;rw[q,hoc]at e;have q':oc=p.2:=Option.some.inj e;exact d w' (by rw[←q'];exact hocd)
theorem mF {M:Model}{A:Around}{E:Value->Shared->Prop}{i:Nat}{x:Str}{v:V}{u:Value}{Q:Unit->Shared->Prop}(I:Inv X Tj σ H s) (hN:X.N.Nodup) (hi:X.N[i]?=some x) (hx:Loc X.env.scope x) (r:RelV v u)
  (h:∀s',Inv X Tj (σ.set i (some v)) H s'->Q () s') (hf:X.fn x=true∨X.env.scope.names.lookup x=some .local:=by first|exact .inl rfl|exact .inr rfl|assumption):wpAny M A (storeName X.env x u) Q E s:=
 kD I hN hi hx r (λs' I' _=>h s' I') hf
theorem Inv.call' {s':Shared}{ch:List Addr}(I:Inv X Tj σ H s) (ho:s'.os=s.os) (u:Un (frs X.stack) ch H H' s.heap s'.heap) (hok:HOk X.prog X.w H' s'.heap) (hg:AllBare s'.gens)
  (hch:∀b∈ch,(b∈X.ex∨X.s₀.heap.objs.size<=b)∧b≠X.env.locals∧(∀x c,X.env.cells.lookup x=some c->c≠b)∧∀p∈X.pn++Tj,p.1≠b):Inv X Tj σ H' s':=by
 obtain⟨h',g',d',t',o'⟩:=s';have e:o'=s.os:=ho;subst e;exact I.call (g':=g') (t':=t') (d':=d') u hok hg hch
end
abbrev XK:=Value->Option Addr->Hp->Prop
abbrev St:=List (Option V)
abbrev VK:=V->Hp->Prop
abbrev TE:=St->Hp->VK->Prop
abbrev TT:=St->Hp->(Bool->Hp->Prop)->Prop
abbrev TA:=St->Hp->(List V->Hp->Prop)->Prop
structure Ends where
 nx:St->Hp->Prop
 rt:VK
 bk:St->Hp->Prop:=λ_ _=>False
 ct:St->Hp->Prop:=λ_ _=>False
abbrev TS:=Ends->St->Hp->Prop
def EP (X:Cx)(Tj:List (Addr×Obj))(σ:St)(Q:VK)(u:Value)(s':Shared):Prop:=∃v H',Inv X Tj σ H' s'∧RelV v u∧Q v H'
def TP (X:Cx)(Tj:List (Addr×Obj))(σ:St)(Q:Bool->Hp->Prop)(b:Bool)(s':Shared):Prop:=∃H',Inv X Tj σ H' s'∧Q b H'
def AP (X:Cx)(Tj:List (Addr×Obj))(σ:St)(Q:List V->Hp->Prop)(us:List Value)(s':Shared):Prop:=∃vs H',Inv X Tj σ H' s'∧Vals vs us∧Q vs H'
def SP (X:Cx)(Tj:List (Addr×Obj))(D:Ends)(f:Flow)(s':Shared):Prop:=
 match f with
 | .next=>∃σ' H',Inv X Tj σ' H' s'∧D.nx σ' H'
 | .brk=>∃σ' H',Inv X Tj σ' H' s'∧D.bk σ' H'
 | .cont=>∃σ' H',Inv X Tj σ' H' s'∧D.ct σ' H'
 | .ret u=>∃v σ' H',Inv X Tj σ' H' s'∧RelV v u∧D.rt v H'
def PE (X:Cx)(e:Expr)(t:TE):Prop:=
 ∀(Tj:List (Addr×Obj)) (s:Shared) (σ:St) (H:Hp) (Q:VK),Inv X Tj σ H s->t σ H Q->wpAny (model X.prog X.w) X.A (eval e X.env) (EP X Tj σ Q) X.xe s
def PT (X:Cx)(e:Expr)(t:TT):Prop:=
 ∀(Tj:List (Addr×Obj)) (s:Shared) (σ:St) (H:Hp) (Q:Bool->Hp->Prop),Inv X Tj σ H s->t σ H Q->wpAny (model X.prog X.w) X.A (isTrue e X.env (eval e X.env)) (TP X Tj σ Q) X.xe s
def PW (X:Cx)(e:Expr)(t:TT):Prop:=
 ∀(whole:Sem Value) (Tj:List (Addr×Obj)) (s:Shared) (σ:St) (H:Hp) (Q:Bool->Hp->Prop),Inv X Tj σ H s->t σ H Q->wpAny (model X.prog X.w) X.A (isTrue e X.env whole) (TP X Tj σ Q) X.xe s
theorem PW.pt {X:Cx}{e:Expr}{t:TT}(h:PW X e t):PT X e t:=h _
def PA (X:Cx)(es:List Expr)(t:TA):Prop:=
 ∀(pos:Pos) (Tj:List (Addr×Obj)) (s:Shared) (σ:St) (H:Hp) (Q:List V->Hp->Prop),Inv X Tj σ H s->t σ H Q->wpAny (model X.prog X.w) X.A (spliced (backTo pos (starEach es X.env))) (AP X Tj σ Q) X.xe s
def PS (X:Cx)(st:Stmt)(t:TS):Prop:=
 ∀(Tj:List (Addr×Obj)) (s:Shared) (σ:St) (H:Hp) (D:Ends),Inv X Tj σ H s->t D σ H->wpAny (model X.prog X.w) X.A (exec st X.env) (SP X Tj D) X.xe s
def PSs (X:Cx)(st:List Stmt)(t:TS):Prop:=
 ∀(Tj:List (Addr×Obj)) (s:Shared) (σ:St) (H:Hp) (D:Ends),Inv X Tj σ H s->t D σ H->wpAny (model X.prog X.w) X.A (execs st X.env) (SP X Tj D) X.xe s
theorem thn {α:Type}{t:Sem α}{Q Q':α->Shared->Prop}{M:Model}{A:Around}{E:Value->Shared->Prop}{s:Shared}(h:wpAny M A t Q E s)(hQ:∀a s,Q a s->Q' a s):wpAny M A t Q' E s:=wpAny_mono h hQ λ_ _ x=>x
section
variable {X:Cx}
theorem bin {a b:Expr}{ta tb:TE}(ha:PE X a ta) (hb:PE X b tb){Tj:List (Addr×Obj)}{s:Shared}{σ:St}{H:Hp}{R:V->V->Hp->Prop}(I:Inv X Tj σ H s) (h:ta σ H λx H1=>tb σ H1 λy H2=>R x y H2)
  {α:Type}{Q:α->Shared->Prop}{f:Value->Value->Sem α}
  (hf:∀v u s2 x y H2,Inv X Tj σ H2 s2->RelV x v->RelV y u->R x y H2->wpAny (model X.prog X.w) X.A (f v u) Q X.xe s2):
  wpAny (model X.prog X.w) X.A (eval a X.env) (λv s₁=>wpAny (model X.prog X.w) X.A (eval b X.env) (λu s₂=>wpAny (model X.prog X.w) X.A (f v u) Q X.xe s₂) X.xe s₁) X.xe s:=by
 refine thn (ha Tj s σ H _ I h) λv s1 ⟨x,H1,I1,r1,q1⟩=>?_;refine thn (hb Tj s1 σ H1 _ I1 q1) λu s2 ⟨y,H2,I2,r2,q2⟩=>?_;exact hf v u s2 x y H2 I2 r1 r2 q2
def uX (i:Nat):TE:=λσ H Q=>∃v,σ[i]?=some (some v)∧Q v H
def tC (v:V):TE:=λ_ H Q=>Q v H
theorem Iu {i:Nat}{x:Str}{pos:Pos}(hN:X.N[i]?=some x) (hv:Vis X.env.scope x) (hd:(x == ("__debug__" : Str))=false:=by decide) (hcd:(x == ("__classdict__" : Str))=false:=by decide):PE X (.Name x pos) (uX i):=by
 intro Tj s σ H Q I h;obtain⟨v,e,h⟩:=h;obtain⟨m,hn,hl⟩:=I.loc;obtain⟨u,r,l⟩:=hl i x v hN e hv;have fin:EP X Tj σ Q u s:=⟨v,H,I,r,h⟩
 rcases l with ⟨hk,hm⟩|⟨hk,c,hc,hcell⟩
 ·exact wpAny_Name (wpAny_loadName_local I.ok.kind hk hn hm fin) hd
 ·rcases hk with hk|hk
  ·exact wpAny_Name (wpAny_loadName_cell I.ok.kind hk hc hcell fin) hd
  ·exact wpAny_Name (wpAny_loadName_free I.ok.kind hk hc hcell fin hcd) hd
theorem ah {i j pos}:PE X (.Constant (.int i) j pos) (tC (.int i)):=λ_ _ _ H _ I h=>wpAny_Constant_int ⟨.int i,H,I.tok _,⟨_,rfl⟩,h⟩
theorem fM {b j pos}:PE X (.Constant (.bool b) j pos) (tC (.bl b)):=λ_ _ _ H _ I h=>Constant_bool ⟨.bl b,H,I,rfl,h⟩
theorem eh {j pos}:PE X (.Constant .none j pos) (tC .non):=λ_ _ _ H _ I h=>Constant_none ⟨.non,H,I,rfl,h⟩
theorem Iv {x j pos}:PE X (.Constant (.str x) j pos) (tC (.str x)):=λ_ _ _ H _ I h=>Calls.Constant_str ⟨.str x,H,I.tok _,⟨_,rfl⟩,h⟩
def Gl (X:Cx)(x:Str):Prop:=X.env.kindOf x=some .globalImplicit
theorem mG {E:Value->Shared->Prop}{Tj:List (Addr×Obj)}{s:Shared}{σ:St}{H:Hp}{x:Str}{u:Value}{pos:Pos}{Q:Value->Shared->Prop}(I:Inv X Tj σ H s) (hg:Gl X x) (hm:X.mg x=some u) (h:Q u s)
  (hd:(x == ("__debug__" : Str))=false:=by decide):wpAny (model X.prog X.w) X.A (eval (.Name x pos) X.env) Q E s:=
 Calls.Name_function_global I.ok.kind hg (Calls.loadGlobal_global (by rw[I.ok.glob];exact I.mod.glob.keeps I.bk) hm h) hd
theorem gT {E:Value->Shared->Prop}{Tj:List (Addr×Obj)}{s:Shared}{σ:St}{H:Hp}{x:Str}{u:Value}{pos:Pos}{Q:Value->Shared->Prop}(I:Inv X Tj σ H s) (hg:Gl X x) (hm:X.mg x=none) (hv:bootBuiltins x=some u) (h:Q u s)
  (hn:x ≠ "__name__" := by decide) (hd:(x == ("__debug__" : Str))=false:=by decide):wpAny (model X.prog X.w) X.A (eval (.Name x pos) X.env) Q E s:=by
 obtain⟨mb,h1,h2⟩:=I.mod.blt;exact Calls.Name_function_global I.ok.kind hg (Calls.loadGlobal_builtin (by rw[I.ok.glob];exact I.mod.glob.keeps I.bk) hm (by rw[I.ok.blt];exact h1.keeps I.bk) ((h2 x hn).trans hv) h) hd
theorem mH {x:Str}{v:V}{u:Value}{pos:Pos}(hg:Gl X x) (hm:X.mg x=some u) (r:RelV v u) (hd:(x == ("__debug__" : Str))=false:=by decide):PE X (.Name x pos) (tC v):=
 λ_ _ _ H _ I h=>mG I hg hm ⟨v,H,I,r,h⟩ hd
theorem jG {x:Str}{v:V}{u:Value}{pos:Pos}(hg:Gl X x) (hm:X.mg x=none) (hv:bootBuiltins x=some u) (r:RelV v u) (hn:x ≠ "__name__" := by decide) (hd:(x == ("__debug__" : Str))=false:=by decide):PE X (.Name x pos) (tC v):=
 λ_ _ _ H _ I h=>gT I hg hm hv ⟨v,H,I,r,h⟩ hn hd
variable {a b:Expr}{ta tb:TE}{pos:Pos}
def PC (X:Cx)(op:CmpOp)(a b:Expr)(t:TE):Prop:=
 ∀(Tj:List (Addr×Obj)) (s:Shared) (σ:St) (H:Hp) (Q:VK),Inv X Tj σ H s->t σ H Q->
  wpAny (model X.prog X.w) X.A (eval a X.env) (λv s₁=>wpAny (model X.prog X.w) X.A (eval b X.env) (λu s₂=>wpAny (model X.prog X.w) X.A (compareOp op v u) (EP X Tj σ Q) X.xe s₂) X.xe s₁) X.xe s
theorem Iw (b:Expr){op:CmpOp}(h:op≠.In)(h2:op≠.NotIn):behindInMarks op b=false:=by
 have e1:(op == CmpOp.In)=false:=by cases op <;> first|rfl|exact absurd rfl h
 have e2:(op == CmpOp.NotIn)=false:=by cases op <;> first|rfl|exact absurd rfl h2
 cases b <;> simp[behindInMarks,e1,e2]
def tB (t:TE):TT:=λσ H Q=>t σ H λx H1=>∃c,x=.bl c∧Q c H1
theorem Ow {op:CmpOp}{t:TE}(h:PC X op a b t)(h1:behindInMarks op b=false:=by first|exact Iw _ (by decide) (by decide)|rfl):PT X (.Compare a [op] [b] pos) (tB t):=by
 intro Tj s σ H Q I hw;refine wpAny_isTrue_Compare1 (thn (h Tj s σ H _ I hw) λv s1 h1=>thn h1 λu s2 h2=>thn h2 λc s3 ⟨x,H1,I1,r1,q1⟩=>?_) h1;obtain⟨d,rfl,q⟩:=q1
 cases r1
 exact wpAny_truthy_bool ⟨H1,I1,q⟩
theorem gU {e:Expr}{t:TE}(h:PE X e t)(he:∀whole,isTrue e X.env whole=(do let v ←whole;standAt e.pos;holding [v] (truthy v)):=by intro _;rfl):PT X e (tB t):=by
 intro Tj s σ H Q I hw;refine isTrue_plain (thn (h Tj s σ H _ I hw) λv s1 ⟨x,H1,I1,r1,q1⟩=>?_) (he _);obtain⟨d,rfl,q⟩:=q1
 cases r1
 exact wpAny_truthy_bool ⟨H1,I1,q⟩
variable {tA tB':TT}{rest:List Expr}
def Bw (t u:TT):TT:=λσ H Q=>t σ H λc H1=>if c=true then u σ H1 Q else Q false H1
def tOr (t u:TT):TT:=λσ H Q=>t σ H λc H1=>if c=true then Q true H1 else u σ H1 Q
def Bx (t:TT):TT:=λσ H Q=>t σ H λc H1=>Q (!c) H1
theorem jH (ha:PT X a tA):PW X (.BoolOp .And [a] pos) tA:=by
 intro wh Tj s σ H Q I h;refine isTrue_and (thn (ha Tj s σ H Q I h) λc s1 e=>?_)
 cases c with
 | true=>exact isTrue_and_nil e
 | false=>exact e
theorem jc (ha:PT X a tA):PW X (.BoolOp .Or [a] pos) tA:=by
 intro wh Tj s σ H Q I h;refine isTrue_or (thn (ha Tj s σ H Q I h) λc s1 e=>?_)
 cases c with
 | false=>exact isTrue_or_nil e
 | true=>exact e
theorem jI (ha:PT X a tA)(hb:PW X (.BoolOp .And (b :: rest) pos) tB'):PW X (.BoolOp .And (a :: b :: rest) pos) (Bw tA tB'):=by
 intro wh Tj s σ H Q I h;refine isTrue_and (thn (ha Tj s σ H _ I h) λc s1 ⟨H1,I1,q1⟩=>?_)
 cases c with
 | true=>exact hb wh Tj s1 σ H1 Q I1 q1
 | false=>exact⟨H1,I1,q1⟩
theorem gd (ha:PT X a tA)(hb:PW X (.BoolOp .Or (b :: rest) pos) tB'):PW X (.BoolOp .Or (a :: b :: rest) pos) (tOr tA tB'):=by
 intro wh Tj s σ H Q I h;refine isTrue_or (thn (ha Tj s σ H _ I h) λc s1 ⟨H1,I1,q1⟩=>?_)
 cases c with
 | true=>exact⟨H1,I1,q1⟩
 | false=>exact hb wh Tj s1 σ H1 Q I1 q1
theorem ir (ha:PT X a tA):PT X (.UnaryOp .Not a pos) (Bx tA):=by
 intro Tj s σ H Q I h;exact isTrue_not (ha Tj s σ H (λc H1=>Q (!c) H1) I h)
def By (ta tb:TE):TE:=λσ H Q=>ta σ H λx H1=>∃c,x=.bl c∧if c=true then tb σ H1 Q else Q (.bl false) H1
def Ix (ta tb:TE):TE:=λσ H Q=>ta σ H λx H1=>∃c,x=.bl c∧if c=true then Q (.bl true) H1 else tb σ H1 Q
def Bz (ta:TE):TE:=λσ H Q=>ta σ H λx H1=>∃c,x=.bl c∧Q (.bl (!c)) H1
theorem Iy {op}{t:TE}(h:PE X a t):PE X (.BoolOp op [a] pos) t:=λTj s σ H Q I hw=>BoolOp_one (h Tj s σ H Q I hw)
theorem Iz (ha:PE X a ta)(hb:PE X (.BoolOp .And (b :: rest) pos) tb):PE X (.BoolOp .And (a :: b :: rest) pos) (By ta tb):=by
 intro Tj s σ H Q I h;refine BoolOp_and (thn (ha Tj s σ H _ I h) λv s1 ⟨x,H1,I1,r1,q1⟩=>?_);obtain⟨c,rfl,q1⟩:=q1
 cases r1
 refine wpAny_truthy_bool ?_
 cases c with
 | true=>exact hb Tj s1 σ H1 Q I1 q1
 | false=>exact⟨.bl false,H1,I1,rfl,q1⟩
theorem IA (ha:PE X a ta):PE X (.UnaryOp .Not a pos) (Bz ta):=by
 intro Tj s σ H Q I h;refine UnaryOp_ (thn (ha Tj s σ H _ I h) λv s1 ⟨x,H1,I1,r1,q1⟩=>?_);obtain⟨c,rfl,q1⟩:=q1
 cases r1
 exact not_of (wpAny_truthy_bool ⟨.bl (!c),H1,I1,rfl,q1⟩)
def tIf (t:TT)(ta tb:TE):TE:=λσ H Q=>t σ H λc H1=>if c=true then ta σ H1 Q else tb σ H1 Q
theorem BA {c:Expr}(hc:PT X c tA)(ha:PE X a ta)(hb:PE X b tb):PE X (.IfExp c a b pos) (tIf tA ta tb):=by
 intro Tj s σ H Q I h;refine wpAny_IfExp (thn (hc Tj s σ H _ I h) λd s1 ⟨H1,I1,q1⟩=>?_)
 cases d with
 | true=>exact ha Tj s1 σ H1 Q I1 q1
 | false=>exact hb Tj s1 σ H1 Q I1 q1
end
def SqL (K:W.Frag)(H:Hp)(a:Addr)(xs:List V):Prop:=
 Rd H a (.lst xs)∨
  ∃(o:Obj) (its:Array Value) (n:Nat),K.lookup a=some o∧o.cls=.type "list" ∧ o.dict=none∧o.data=.seq its n∧its.size<=sizeLine∧Vals xs its.toList
def SqT (K:W.Frag)(H:Hp)(a:Addr)(xs:List V):Prop:=
 Rd H a (.tup xs)∨
  ∃(o:Obj) (its:Array Value) (n:Nat),K.lookup a=some o∧o.cls=.type "tuple" ∧ o.data=.seq its n∧its.size<=sizeLine∧Vals xs its.toList
def IB:Value->Option V
 | .none=>some .non
 | .bool b=>some (.bl b)
 | .int i _=>some (.int i)
 | .str x _=>some (.str x)
 | .bytes b _=>some (.byt b)
 | .float b _=>some (.flt b)
 | .ref a=>some (.ref a)
 | .type n=>some (.ty n)
 | _=>none
theorem RelV.abs {x:V}{u:Value}(r:RelV x u):IB u=some x:=by
 cases x with
 | non=>cases r;rfl
 | bl _=>cases r;rfl
 | int _=>obtain⟨t,rfl⟩:=r;rfl
 | str _=>obtain⟨t,rfl⟩:=r;rfl
 | byt _=>obtain⟨t,rfl⟩:=r;rfl
 | flt _=>obtain⟨t,rfl⟩:=r;rfl
 | ref _=>cases r;rfl
 | ty _=>cases r;rfl
theorem RelV.inj {x y:V}{u:Value}(r:RelV x u)(q:RelV y u):x=y:=Option.some.inj (r.abs.symm.trans q.abs)
theorem Vals.inj:∀{xs ys:List V}{us:List Value},Vals xs us->Vals ys us->xs=ys
 | _,_,_,.nil,.nil=>rfl
 | _,_,_,.cons r t,.cons r' t'=>by rw[r.inj r',Vals.inj t t']
section
variable {X:Cx}{Tj:List (Addr×Obj)}{σ:St}{H:Hp}{s:Shared}{a:Addr}{xs ys:List V}
theorem SqL.of {K:W.Frag}(h:H a=some (.lst xs)):SqL K H a xs:=.inl (.inl h)
theorem SqT.of {K:W.Frag}(h:H a=some (.tup xs)):SqT K H a xs:=.inl (.inl h)
theorem Inv.list (I:Inv X Tj σ H s)(h:SqL X.K H a xs):∃its:List Value,Vals xs its∧PlainL s.heap a its.toArray∧xs.length<=sizeLine:=by
 rcases h with h|⟨o,its,n,hk,hc,hd,hs,hz,r⟩
 ·obtain⟨z,its,n,r,e⟩:=h.ok I.hok;exact⟨its,r,⟨_,n,e,rfl,rfl,rfl⟩,z⟩
 ·refine⟨its.toList,r,⟨o,n,I.kIn a o hk,hc,hd,by simpa using hs⟩,?_⟩;have e:=r.length;simp only[Array.length_toList]at e;omega
theorem Inv.tuple (I:Inv X Tj σ H s)(h:SqT X.K H a xs):∃its:List Value,Vals xs its∧IsTup s.heap a its.toArray∧xs.length<=sizeLine:=by
 rcases h with h|⟨o,its,n,hk,hc,hs,hz,r⟩
 ·obtain⟨z,its,r,p⟩:=h.ok I.hok;exact⟨its,r,p,z⟩
 ·refine⟨its.toList,r,⟨o,I.kIn a o hk,hc,n,by simpa using hs⟩,?_⟩;have e:=r.length;simp only[Array.length_toList]at e;omega
theorem Inv.list_inj (I:Inv X Tj σ H s)(h:SqL X.K H a xs)(h':SqL X.K H a ys):xs=ys:=by
 obtain⟨its,r,⟨o,n,e,_,_,d⟩,_⟩:=I.list h;obtain⟨its',r',⟨o',n',e',_,_,d'⟩,_⟩:=I.list h';rw[e]at e';cases e';rw[d]at d';injection d' with d1 _;have:its=its':=by simpa using congrArg Array.toList d1
 subst this;exact r.inj r'
end
abbrev Cx.wish (X:Cx) (E:Value->Shared->Prop):Cx:={ X with xe:=E }
abbrev Cx.nox (X:Cx):Cx:=X.wish λ_ _=>False
theorem Cx.Ok.wish {X:Cx}(ok:X.Ok)(E:Value->Shared->Prop):(X.wish E).Ok:=
 ⟨ok.mod,ok.kind,ok.glob,ok.blt,ok.above,ok.inj,ok.has,ok.cab,ok.hd,ok.frames,ok.stk,ok.exf,ok.bs,ok.bsz,ok.noex,ok.exfs,ok.funs,ok.frf⟩
theorem Cx.Ok.unwish {X:Cx}{E:Value->Shared->Prop}(ok:(X.wish E).Ok):X.Ok:=
 ⟨ok.mod,ok.kind,ok.glob,ok.blt,ok.above,ok.inj,ok.has,ok.cab,ok.hd,ok.frames,ok.stk,ok.exf,ok.bs,ok.bsz,ok.noex,ok.exfs,ok.funs,ok.frf⟩
section
variable {X:Cx}{Tj:List (Addr×Obj)}{σ:St}{H:Hp}{s:Shared}{E:Value->Shared->Prop}
theorem Inv.wish (I:Inv X Tj σ H s)(E:Value->Shared->Prop):Inv (X.wish E) Tj σ H s:=⟨I.ok.wish E,I.os,I.bare,I.base,I.loc,I.cell,I.free,I.freeC,I.pin,I.hok,I.len⟩
theorem Inv.unwish (I:Inv (X.wish E) Tj σ H s):Inv X Tj σ H s:=⟨I.ok.unwish,I.os,I.bare,I.base,I.loc,I.cell,I.free,I.freeC,I.pin,I.hok,I.len⟩
theorem SP.unwish {D:Ends}{f:Flow}{s':Shared}(h:SP (X.wish E) Tj D f s'):SP X Tj D f s':=by
 cases f with
 | next=>obtain⟨σ',H',I,q⟩:=h;exact⟨σ',H',I.unwish,q⟩
 | brk=>obtain⟨σ',H',I,q⟩:=h;exact⟨σ',H',I.unwish,q⟩
 | cont=>obtain⟨σ',H',I,q⟩:=h;exact⟨σ',H',I.unwish,q⟩
 | ret u=>obtain⟨v,σ',H',I,r,q⟩:=h;exact⟨v,σ',H',I.unwish,r,q⟩
theorem PT.nox {e:Expr}{t:TT}(h:PT X.nox e t):PT X e t:=λTj s σ H Q I hw=>
 wpAny_mono (h Tj s σ H Q (I.wish _) hw) (λ_ _ ⟨H',I',q⟩=>⟨H',I'.unwish,q⟩) λ_ _ z=>False.elim z
theorem PSs.nox {st:List Stmt}{t:TS}(h:PSs X.nox st t):PSs X st t:=λTj s σ H D I hw=>
 wpAny_mono (h Tj s σ H D (I.wish _) hw) (λ_ _ q=>q.unwish) λ_ _ z=>False.elim z
end
section
variable {X:Cx}{st:Stmt}{rest:List Stmt}{t u:TS}{e:Expr}{te:TE}{pos:Pos}
def BB:TS:=λD σ H=>D.nx σ H
def BC (t u:TS):TS:=λD σ H=>t { D with nx:=u D } σ H
theorem bI:PSs X [] BB:=λ_ _ σ H _ I h=>wpAny_execs_nil ⟨σ,H,I,h⟩
theorem ai (h1:PS X st t)(h2:PSs X rest u):PSs X (st :: rest) (BC t u):=by
 intro Tj s σ H D I h;refine wpAny_execs_cons (thn (h1 Tj s σ H { D with nx:=u D } I h) λf s1 q=>?_)
 cases f with
 | next=>
  obtain⟨σ',H',I',q⟩:=q;exact h2 Tj s1 σ' H' D I' q
 | ret v=>exact q
 | brk=>exact q
 | cont=>exact q
theorem aq (h1:PS X st t):PSs X [st] t:=by
 intro Tj s σ H D I h;refine wpAny_execs_cons (thn (h1 Tj s σ H D I h) λf s1 q=>?_)
 cases f with
 | next=>exact wpAny_execs_nil q
 | ret v=>exact q
 | brk=>exact q
 | cont=>exact q
def IC:TS:=λD σ H=>D.bk σ H
def BD:TS:=λD σ H=>D.ct σ H
theorem ID:PS X (.Continue pos) BD:=λ_ _ σ H _ I h=>wpAny_Continue ⟨σ,H,I,h⟩
theorem Inv.quiet {Tj:List (Addr×Obj)}{σ:St}{H:Hp}{s:Shared}(I:Inv X Tj σ H s):interactive X.env=false:=by simp[interactive,I.ok.kind]
def BE (te:TE):TS:=λD σ H=>te σ H λ_ H1=>D.nx σ H1
theorem e9 (he:PE X e te)(hs:swapsWith e none pos.line X.env=pure false:=by rfl):PS X (.Expr e pos) (BE te):=by
 intro Tj s σ H D I h;exact wpAny_Expr_any (thn (he Tj s σ H _ I h) λv s1 ⟨x,H1,I1,r1,q1⟩=>⟨σ,H1,I1,q1⟩) I.quiet hs
def BF (te:TE):TS:=λD σ H=>te σ H D.rt
theorem aF (he:PE X e te):PS X (.Return (some e) pos) (BF te):=by
 intro Tj s σ H D I h;exact wpAny_Return_some (thn (he Tj s σ H _ I h) λv s1 ⟨x,H1,I1,r1,q1⟩=>⟨x,σ,H1,I1,r1,q1⟩)
def IE:TS:=λD _ H=>D.rt .non H
def BG (c:TT)(t u:TS):TS:=λD σ H=>c σ H λb H1=>if b=true then t D σ H1 else u D σ H1
theorem bC {c:Expr}{a b:List Stmt}{tc:TT}(hc:PT X c tc)(ha:PSs X a t)(hb:PSs X b u):PS X (.If c a b pos) (BG tc t u):=by
 intro Tj s σ H D I h;refine wpAny_If (thn (hc Tj s σ H _ I h) λd s1 ⟨H1,I1,q1⟩=>?_)
 cases d with
 | true=>exact ha Tj s1 σ H1 D I1 q1
 | false=>exact hb Tj s1 σ H1 D I1 q1
end
abbrev TG:=V->St->Hp->(St->Hp->Prop)->Prop
abbrev TGs:=List V->St->Hp->(St->Hp->Prop)->Prop
def PG (X:Cx)(target:Expr)(t:TG):Prop:=
 ∀(Tj:List (Addr×Obj)) (s:Shared) (σ:St) (H:Hp) (v:V) (u:Value) (Q:St->Hp->Prop),Inv X Tj σ H s->RelV v u->t v σ H Q->
  wpAny (model X.prog X.w) X.A (assign target X.env u) (λ_ s'=>∃σ' H',Inv X Tj σ' H' s'∧Q σ' H') X.xe s
def PGs (X:Cx)(ts:List Expr)(t:TGs):Prop:=
 ∀(Tj:List (Addr×Obj)) (s:Shared) (σ:St) (H:Hp) (vs:List V) (us:List Value) (Q:St->Hp->Prop),Inv X Tj σ H s->Vals vs us->t vs σ H Q->
  wpAny (model X.prog X.w) X.A (assignInOrder ((assignEach ts X.env).map (·.2)) us) (λ_ s'=>∃σ' H',Inv X Tj σ' H' s'∧Q σ' H') X.xe s
abbrev jd:=V->V->V->Hp->(Hp->Prop)->Prop
def uY (X:Cx)(t:jd):Prop:=
 ∀(Tj:List (Addr×Obj)) (s:Shared) (σ:St) (H:Hp) (o i v:V) (ov iv u:Value) (Q:Hp->Prop),Inv X Tj σ H s->RelV o ov->RelV i iv->RelV v u->t o i v H Q->
  wpAny (model X.prog X.w) X.A (setItem ov iv u) (λ_ s'=>∃H',Inv X Tj σ H' s'∧Q H') X.xe s
abbrev TIp:=V->V->Hp->VK->Prop
def PIp (X:Cx)(op:Operator)(t:TIp):Prop:=
 ∀(Tj:List (Addr×Obj)) (s:Shared) (σ:St) (H:Hp) (x y:V) (v u:Value) (Q:VK),Inv X Tj σ H s->RelV x v->RelV y u->t x y H Q->
  wpAny (model X.prog X.w) X.A (inplaceOp op v u) (EP X Tj σ Q) X.xe s
section
variable {X:Cx}{pos:Pos}
def fV (i:Nat):TG:=λv σ H Q=>Q (σ.set i (some v)) H
theorem a7 {i:Nat}{x:Str}(hN:X.N.Nodup)(hi:X.N[i]?=some x)(hx:Loc X.env.scope x)(hf:X.fn x=true∨X.env.scope.names.lookup x=some .local:=by first|exact .inl rfl|exact .inr rfl|assumption):PG X (.Name x pos) (fV i):=by
 intro Tj s σ H v u Q I r h;exact wpAny_assign_Name (mF I hN hi hx r (λs' I'=>⟨_,H,I',h⟩) hf)
def uZ:TGs:=λvs σ H Q=>vs=[]∧Q σ H
def mI (t:TG)(u:TGs):TGs:=λvs σ H Q=>∃v r,vs=v :: r∧t v σ H λσ' H'=>u r σ' H' Q
theorem gW:PGs X [] uZ:=by
 intro Tj s σ H vs us Q I r h;obtain⟨e,h⟩:=h;subst e
 cases r
 exact assignInOrder_nil ⟨σ,H,I,h⟩
theorem dQ {e:Expr}{es:List Expr}{t:TG}{u:TGs}(h1:PG X e t) (h2:PGs X es u)
  (hs:(assignEach (e :: es) X.env).map (·.2)=assign e X.env :: (assignEach es X.env).map (·.2):=by rfl):PGs X (e :: es) (mI t u):=by
 intro Tj s σ H vs us Q I r h;obtain⟨v,vr,e1,h⟩:=h;subst e1
 cases r with
 | cons r rr=>
  rw[hs];refine assignInOrder_cons (thn (h1 Tj s σ H _ _ _ I r h) λ_ s1 ⟨σ1,H1,I1,q1⟩=>?_);exact h2 Tj s1 σ1 H1 _ _ Q I1 rr q1
def u9 (K:W.Frag)(n:Nat)(t:TGs):TG:=λv σ H Q=>∃a xs,v=.ref a∧SqT K H a xs∧xs.length=n∧t xs σ H Q
theorem gX {es:List Expr}{k:Nat}{t:TGs}{n:Nat}(hc:X.calm=true) (h:PGs X es t)
  (hn:(assignEach es X.env).length=n:=by rfl) (hst:(assignEach es X.env).findIdx? (·.1)=none:=by rfl):PG X (.Tuple es k pos) (u9 X.K n t):=by
 intro Tj s σ H v u Q I r hw;obtain⟨a,xs,e1,hq,hl,hw⟩:=hw;subst e1
 cases r
 obtain⟨its,rv,ht,hz⟩:=I.tuple hq;refine assign_Tuple_tuple (I.ok.hd hc) ht (by simp[hn,←hl,rv.length]) hst λh' hx=>?_;have I1:Inv X Tj σ H { s with heap:=h' }:=I.kept (t':=s.toks) λb o e=>hx b o (cC (Heap.lt_size e)) e;exact h Tj _ σ H xs _ Q I1 (by simpa using rv) hw
def BH (to ti:TE)(t:jd):TG:=λv σ H Q=>to σ H λo H1=>ti σ H1 λi H2=>t o i v H2 λH3=>Q σ H3
theorem jJ {o i:Expr}{to ti:TE}{t:jd}(ho:PE X o to) (hi:PE X i ti) (hs:uY X t)
  (ha:∀v,assign (.Subscript o i pos) X.env v=(do
   let ov ←holding [v] (eval o X.env)
   let iv ←holding [v,ov] (eval i X.env)
   standAt pos
   holding [v,ov,iv] (setItem ov iv v)
   release [v,ov,iv] []):=by intro _;rfl):PG X (.Subscript o i pos) (BH to ti t):=by
 intro Tj s σ H v u Q I r h;rw[ha];refine wpAny_bind (wpAny_holding (thn (ho Tj s σ H _ I h) λov s1 ⟨x,H1,I1,r1,q1⟩=>?_));refine wpAny_bind (wpAny_holding (thn (hi Tj s1 σ H1 _ I1 q1) λiv s2 ⟨y,H2,I2,r2,q2⟩=>?_));refine wpAny_bind (wpAny_standAt (wpAny_bind (wpAny_holding (thn (hs Tj s2 σ H2 x y v ov iv u _ I2 r1 r2 r q2) λ_ s3 ⟨H3,I3,q3⟩=>?_))));exact wpAny_release ⟨σ,H3,I3,q3⟩
def je (te:TE)(g:TG):TS:=λD σ H=>te σ H λx H1=>g x σ H1 D.nx
theorem jK {tg e:Expr}{te:TE}{g:TG}(he:PE X e te) (hg:PG X tg g) (hs:swapsWithSole [tg] e pos.line X.env=pure false:=by rfl) (hw:swappedStores [tg] e X.env=pure none:=by rfl)
  (h1:(assignEach [tg] X.env).map (·.2)=[assign tg X.env]:=by rfl):PS X (.Assign [tg] e pos) (je te g):=by
 intro Tj s σ H D I h;refine wpAny_Assign_stores (thn (he Tj s σ H _ I h) λv s1 ⟨x,H1,I1,r1,q1⟩=>?_) hs hw;rw[h1];exact thn (hg Tj s1 σ H1 x v _ I1 r1 q1) λ_ s2 q=>q
theorem au {i:Nat}{x:Str}{e:Expr}{te:TE}{pos':Pos}(hN:X.N.Nodup)(hi:X.N[i]?=some x)(hx:Loc X.env.scope x)(he:PE X e te)(hs:swapsWith e (some (.Name x pos')) pos.line X.env=pure false:=by rfl)(hf:X.fn x=true∨X.env.scope.names.lookup x=some .local:=by first|exact .inl rfl|exact .inr rfl|assumption):
  PS X (.Assign [.Name x pos'] e pos) (je te (fV i)):=by
 intro Tj s σ H D I h;refine wpAny_Assign_Name (thn (he Tj s σ H _ I h) λv s1 ⟨y,H1,I1,r1,q1⟩=>?_) hs;exact mF I1 hN hi hx r1 (λs2 I2=>⟨_,H1,I2,q1⟩) hf
def BI (i:Nat)(te:TE)(ti:TIp):TS:=λD σ H=>∃x,σ[i]?=some (some x)∧te σ H λy H1=>ti x y H1 λz H2=>D.nx (σ.set i (some z)) H2
theorem u_ {i:Nat}{x:Str}{e:Expr}{te:TE}{op:Operator}{ti:TIp}{pos':Pos}(hN:X.N.Nodup)(hi:X.N[i]?=some x)(hx:Loc X.env.scope x)(he:PE X e te)(ho:PIp X op ti)(hf:X.fn x=true∨X.env.scope.names.lookup x=some .local:=by first|exact .inl rfl|exact .inr rfl|assumption):
  PS X (.AugAssign (.Name x pos') op e pos) (BI i te ti):=by
 intro Tj s σ H D I h;obtain⟨v,e1,h⟩:=h;obtain⟨m,hn,hl⟩:=I.loc;have vis:Vis X.env.scope x:=by rcases hx with k|k;exact .inl k;exact .inr (.inl k)
 obtain⟨u,r,l⟩:=hl i x v hi e1 vis;refine wpAny_AugAssign_Name ?_;have go:wpAny (model X.prog X.w) X.A (eval e X.env) (λw s₂=>wpAny (model X.prog X.w) X.A (inplaceOp op u w) (λr s₃=>wpAny (model X.prog X.w) X.A (storeName X.env x r) (λ_=>SP X Tj D .next) X.xe s₃) X.xe s₂) X.xe s:=by
  refine thn (he Tj s σ H _ I h) λw s1 ⟨y,H1,I1,r1,q1⟩=>?_;refine thn (ho Tj s1 σ H1 v y u w _ I1 r r1 q1) λz s2 ⟨zv,H2,I2,r2,q2⟩=>?_;exact mF I2 hN hi hx r2 (λs3 I3=>⟨_,H2,I3,q2⟩) hf
 rcases l with ⟨hk,hm⟩|⟨hk,c,hc,hcell⟩
 ·exact wpAny_loadName_local I.ok.kind hk hn hm go
 ·rcases hk with hk|hk
  ·exact wpAny_loadName_cell I.ok.kind hk hc hcell go
  ·rcases hx with k|k
   ·have:X.env.scope.names.lookup x=some .free:=hk;rw[k]at this;cases this
   ·have:X.env.scope.names.lookup x=some .free:=hk;rw[k]at this;cases this
def BJ (to ti te:TE)(tget:V->V->Hp->VK->Prop)(tip:TIp)(tset:jd):TS:=λD σ H=>to σ H λo H1=>ti σ H1 λi H2=>tget o i H2 λx H3=>te σ H3 λy H4=>tip x y H4 λz H5=>tset o i z H5 λH6=>D.nx σ H6
def BK (X:Cx)(t:V->V->Hp->VK->Prop):Prop:=
 ∀(Tj:List (Addr×Obj)) (s:Shared) (σ:St) (H:Hp) (o i:V) (ov iv:Value) (Q:VK),Inv X Tj σ H s->RelV o ov->RelV i iv->t o i H Q->
  wpAny (model X.prog X.w) X.A (getItem ov iv) (EP X Tj σ Q) X.xe s
theorem ve {o i e:Expr}{to ti te:TE}{tget:V->V->Hp->VK->Prop}{tip:TIp}{tset:jd}{op:Operator}{tpos:Pos}(ho:PE X o to) (hi:PE X i ti) (hg:BK X tget) (he:PE X e te) (hp:PIp X op tip) (hs:uY X tset)
  (ha:∀ov iv new,augStore i ov iv new=(do holding [new,ov,iv] (setItem ov iv new);release [new,ov,iv] [];pure .next):=by intros;rfl):PS X (.AugAssign (.Subscript o i tpos) op e pos) (BJ to ti te tget tip tset):=by
 intro Tj s σ H D I h;refine wpAny_AugAssign_SubscriptAny (thn (ho Tj s σ H _ I h) λov s1 ⟨x1,H1,I1,r1,q1⟩=>?_) ha;refine thn (hi Tj s1 σ H1 _ I1 q1) λiv s2 ⟨x2,H2,I2,r2,q2⟩=>?_;refine thn (hg Tj s2 σ H2 x1 x2 ov iv _ I2 r1 r2 q2) λold s3 ⟨x3,H3,I3,r3,q3⟩=>?_;refine thn (he Tj s3 σ H3 _ I3 q3) λv s4 ⟨x4,H4,I4,r4,q4⟩=>?_;refine thn (hp Tj s4 σ H4 x3 x4 old v _ I4 r3 r4 q4) λnew s5 ⟨x5,H5,I5,r5,q5⟩=>?_;exact thn (hs Tj s5 σ H5 x1 x2 x5 ov iv new _ I5 r1 r2 r5 q5) λ_ s6 ⟨H6,I6,q6⟩=>⟨σ,H6,I6,q6⟩
def ipI (f:Int->Int->Int):TIp:=λx y H Q=>∃i j,x=.int i∧y=.int j∧Q (.int (f i j)) H
theorem vg:PIp X .Add (ipI λi j=>i+j):=by
 intro Tj s σ H x y v u Q I r1 r2 h;obtain⟨i,j,e1,e2,q⟩:=h;subst e1;subst e2;obtain⟨t,rfl⟩:=r1;obtain⟨t',rfl⟩:=r2;exact iadd_int ⟨.int _,H,I.tok _,⟨_,rfl⟩,q⟩
theorem vh:PIp X .Sub (ipI λi j=>i-j):=by
 intro Tj s σ H x y v u Q I r1 r2 h;obtain⟨i,j,e1,e2,q⟩:=h;subst e1;subst e2;obtain⟨t,rfl⟩:=r1;obtain⟨t',rfl⟩:=r2;exact isub_int ⟨.int _,H,I.tok _,⟨_,rfl⟩,q⟩
end
section
variable {X:Cx}{pos:Pos}
def BL (c:TT)(tb:TS):TS:=λD σ H=>∃W:Nat->St->Hp->Prop,(∃m,W m σ H)∧∀m σ H,W m σ H->
 c σ H λb H1=>if b=true then ∃N:St->Hp->Prop,(∀σ' H',N σ' H'->∃m',m'<m∧W m' σ' H')∧tb { D with nx:=N,ct:=N,bk:=D.nx } σ H1 else D.nx σ H1
theorem gy {c:Expr}{body:List Stmt}{tc:TT}{tb:TS}(hp:PassesOwn (model X.prog X.w) X.A X.env X.xe)(hc:PT X c tc)(hb:PSs X body tb):PS X (.While c body [] pos) (BL tc tb):=by
 intro Tj s σ H D I h;obtain⟨W,⟨m0,w0⟩,turn⟩:=h;refine wpAny_While (codeAny_whileLoop (λn s'=>∃σ' H',Inv X Tj σ' H' s'∧W n σ' H') ?_ m0 ⟨σ,H,I,w0⟩)
 rintro n s1 ⟨σ1,H1,I1,w1⟩
 refine wpAny_passesOwn hp (thn (hc Tj s1 σ1 H1 _ I1 (turn n σ1 H1 w1)) λb s2 ⟨H2,I2,q2⟩=>?_)
 cases b with
 | true=>
  obtain⟨N,hN,q2⟩:=q2;rw[if_pos rfl];refine wpAny_passesOwn hp (thn (hb Tj s2 σ1 H2 _ I2 q2) λf s3 q3=>?_)
  cases f with
  | next=>
   obtain⟨σ3,H3,I3,n3⟩:=q3;obtain⟨m',hm,w3⟩:=hN σ3 H3 n3;exact⟨m',hm,σ3,H3,I3,w3⟩
  | cont=>
   obtain⟨σ3,H3,I3,n3⟩:=q3;obtain⟨m',hm,w3⟩:=hN σ3 H3 n3;exact⟨m',hm,σ3,H3,I3,w3⟩
  | brk=>exact q3
  | ret v=>exact q3
 | false=>
  rw[if_neg Bool.false_ne_true];exact wpAny_execs_nil ⟨σ1,H2,I2,q2⟩
end
structure It where
 go:Nat->Hp->Prop
 yld:Nat->Hp->V->Hp->Prop
 stop:Nat->Hp->Prop
def cF (X:Cx)(Tj:List (Addr×Obj))(H:Hp)(b:Addr):Prop:=
 H b=none∧b≠X.env.locals∧b∉X.fs∧(b∈X.ex∨X.s₀.heap.objs.size<=b)∧(∀x c,X.env.cells.lookup x=some c->c≠b)∧∀p∈X.pn++Tj,p.1≠b
theorem Inv.fpOk {X:Cx}{Tj:List (Addr×Obj)}{σ:St}{H H':Hp}{s:Shared}{b:Addr}(I:Inv X Tj σ H s)(hb:s.heap.objs.size<=b)(hn:H' b=none):cF X Tj H' b:=by
 refine⟨hn,Gj (bV I.lt hb),I.nofs hb,.inr (aE I.sz hb),λx c e z=>?_,λp hp z=>?_⟩
 ·obtain⟨v,q⟩:=I.cell x c e;exact absurd (bV q.lt (by rw[z];exact hb)) (i4 _)
 ·exact absurd (bV (Heap.lt_size (I.pin p hp).1) (by rw[z];exact hb)) (i4 _)
structure Turn (P:Program)(w:World)(K:W.Frag)(tg:Expr)(J:It)(fp:List Addr)(it:Addr)(tn:Nat->Heap->Prop):Prop where
 mem:it∈fp
 obj:∀i h,tn i h->∀b∈fp,∃o,h.get? b=some o∧∀v,o.data≠.cell v
 keep:∀i h h',tn i h->(∀b∈fp,∀o,h.get? b=some o->h'.get? b=some o)->tn i h'
 item:∀(X:Cx),X.prog=P->X.w=w->X.K=K->X.calm=true->∀(i:Nat) (Tj:List (Addr×Obj)) (s:Shared) (σ:St) (H:Hp) (E:Value->Shared->Prop),Inv X Tj σ H s->(∀b∈fp,cF X Tj H b)->tn i s.heap->J.go i H->
  wpAny (model P w) X.A (pyNext (.ref it)) (λr s1=>∃u,r=some u∧
   wpAny (model P w) X.A (letOwnedTupleGo tg (.ref it) u) (λ_ s2=>∃x H',Inv X Tj σ H' s2∧RelV x u∧J.yld i H x H'∧tn (i+1) s2.heap∧∀b∈fp,H' b=none) E s1) E s
 done:∀(X:Cx),X.prog=P->X.w=w->X.K=K->X.calm=true->∀(i:Nat) (Tj:List (Addr×Obj)) (s:Shared) (σ:St) (H:Hp) (E:Value->Shared->Prop),Inv X Tj σ H s->(∀b∈fp,cF X Tj H b)->tn i s.heap->J.stop i H->
  wpAny (model P w) X.A (pyNext (.ref it)) (λr s1=>r=none∧Inv X Tj σ H s1) E s
 self:∀(A:Around) (i:Nat) (s:Shared) (Q:Value->Shared->Prop) (E:Value->Shared->Prop),tn i s.heap->Q (.ref it) s->wpAny (model P w) A (pyIter (.ref it)) Q E s
abbrev TI:=St->Hp->(It->Hp->Prop)->Prop
def PIE (X:Cx)(Tj:List (Addr×Obj))(σ:St)(tg:Expr)(R:It->Hp->Prop)(itv:Value)(s2:Shared):Prop:=
 ∃(it:Addr) (fp:List Addr) (tn:Nat->Heap->Prop) (J:It) (H':Hp),itv=.ref it∧Inv X Tj σ H' s2∧Turn X.prog X.w X.K tg J fp it tn∧tn 0 s2.heap∧(∀b∈fp,cF X Tj H' b)∧R J H'
def PI (X:Cx)(tg iter:Expr)(wi:TI):Prop:=
 ∀(Tj:List (Addr×Obj)) (s:Shared) (σ:St) (H:Hp) (R:It->Hp->Prop),Inv X Tj σ H s->wi σ H R->
  wpAny (model X.prog X.w) X.A (eval iter X.env) (λv s1=>wpAny (model X.prog X.w) X.A (pyIter v) (PIE X Tj σ tg R) X.xe s1) X.xe s
theorem mJ {M:Model}{A:Around}{E:Value->Shared->Prop}{s:Shared}{tg:Expr}{it:Addr}{u:Value}{o:Obj}{n:String}{vs:Array Value}{Q:Unit->Shared->Prop}(ho:s.heap.get? it=some o) (hc:o.cls=.type n) (hd:o.data=.fields vs)
  (hn:["enumerate","zip","dict_itemiterator","dict_reverseitemiterator","odict_iterator","itertools.zip_longest","itertools.pairwise"].contains n=false) (hQ:Q () s):wpAny M A (letOwnedTupleGo tg (.ref it) u) Q E s:=by
 unfold letOwnedTupleGo
 cases tg <;> first
  | exact wpAny_pure hQ
  |(cases u <;> first
    | exact wpAny_pure hQ
    |(refine wpAny_bind (wpAny_load ho ?_)
      rw[hc,hd];show wpAny M A (if (["enumerate","zip","dict_itemiterator","dict_reverseitemiterator","odict_iterator","itertools.zip_longest","itertools.pairwise"].contains n && vs[0]? == some (rawInt _))=true then _ else _) Q E s;rw[if_neg (by intro h;rw[hn,Bool.false_and]at h;cases h)];exact wpAny_pure hQ))
def Itl (K:W.Frag)(a:Addr):It:=
 ⟨λi H=>∃xs x,SqL K H a xs∧xs[i]?=some x,λi H x H'=>H'=H∧∀xs,SqL K H a xs->xs[i]?=some x,λi H=>∃xs,SqL K H a xs∧xs.length<=i⟩
def Itt (K:W.Frag)(a:Addr):It:=
 ⟨λi H=>∃xs x,SqT K H a xs∧xs[i]?=some x,λi H x H'=>H'=H∧∀xs,SqT K H a xs->xs[i]?=some x,λi H=>∃xs,SqT K H a xs∧xs.length<=i⟩
def Itr (lo:Int)(n:Nat):It:=⟨λi _=>i<n,λi H x H'=>H'=H∧x=.int (lo+i),λi _=>n<=i⟩
theorem IF {P:Program}{w:World}{K:W.Frag}{tg:Expr}(a it:Addr):Turn P w K tg (Itl K a) [it] it (λi h=>h.IsListIter it a i) where
 mem:=by simp
 obj:=λi h st b hb=>by
  have e:b=it:=by simpa using hb
  subst e;obtain⟨o,e,c,d⟩:=st;exact⟨o,e,λv z=>by rw[d]at z;cases z⟩
 keep:=λi h h' st k=>st.at λo e=>k it (by simp) o e
 item:=by
  intro X hP hw hK hc i Tj s σ H E I hf st hg;subst hP hw hK;obtain⟨xs,x,hq,hx⟩:=hg;obtain⟨its,rv,p,hz⟩:=I.list hq;obtain⟨u,hu,ru⟩:=rv.get hx;obtain⟨f0,f1,f2,f3,f4,f5⟩:=hf it (by simp);refine wpAny_pyNext_list_item st p.isList (x:=u) (by simpa using hu) λh' st' sb=>?_;have I1:Inv X Tj σ H { s with heap:=h' }:=I.turned (t':=s.toks) (λb o hb e=>(sb.2 b hb).trans e) f0 f1 f3 f4 f5;obtain⟨o,e,c,d⟩:=id st';exact⟨u,rfl,mJ (s:={ s with heap:=h' }) e c d (by decide) ⟨x,H,I1,ru,⟨rfl,λys hy=>by rw[I.list_inj hy hq];exact hx⟩,st',λb hb=>(hf b hb).1⟩⟩
 done:=by
  intro X hP hw hK hc i Tj s σ H E I hf st hg;subst hP hw hK;obtain⟨xs,hq,hx⟩:=hg;obtain⟨its,rv,p,hz⟩:=I.list hq;obtain⟨f0,f1,f2,f3,f4,f5⟩:=hf it (by simp);have hl:=rv.length;exact wpAny_pyNext_list_end (I.ok.hd hc) st p.isList (by simp;omega) λh' eb=>⟨rfl,I.turned (t':=s.toks) (λb o hb e=>eb b o hb e) f0 f1 f3 f4 f5⟩
 self:=λ_ _ _ _ _ st h=>wpAny_pyIter_listiter st h
theorem IG {P:Program}{w:World}{K:W.Frag}{tg:Expr}(it:Addr)(lo:Int)(n:Nat):Turn P w K tg (Itr lo n) [it] it (λi h=>IsRangeIter h it (lo+(i:Nat)*1) ((n:Int)-(i:Nat)) 1) where
 mem:=by simp
 obj:=λi h st b hb=>by
  have e:b=it:=by simpa using hb
  subst e;exact⟨_,st,λv z=>by
   have z':Data.fields _=Data.cell v:=z
   cases z'⟩
 keep:=λi h h' st k=>k it (by simp) _ st
 item:=by
  intro X hP hw hK hc i Tj s σ H E I hf st hg;subst hP hw hK;obtain⟨f0,f1,f2,f3,f4,f5⟩:=hf it (by simp);have W:=Walks.range (prog:=X.prog) (w:=X.w) (I.ok.hd hc) it lo 1 n;refine W.item i s _ _ hg st λv h' tk hv st' kk=>?_;obtain⟨t,rfl⟩:=hv;have I1:Inv X Tj σ H { s with heap:=h',toks:=tk }:=I.turned (λb o hb e=>kk b o (by simpa using hb) e) f0 f1 f3 f4 f5;refine⟨_,rfl,mJ (s:={ s with heap:=h',toks:=tk }) (n := "range_iterator") st' rfl rfl (by decide) ⟨.int (lo+i),H,I1,⟨t,?_⟩,⟨rfl,rfl⟩,st',λb hb=>(hf b hb).1⟩⟩;rw[xz]
 done:=by
  intro X hP hw hK hc i Tj s σ H E I hf st hg;subst hP hw hK;obtain⟨f0,f1,f2,f3,f4,f5⟩:=hf it (by simp);exact wpAny_pyNext_range_end (I.ok.hd hc) st (by have:n<=i:=hg;omega) λh' eb=>⟨rfl,I.turned (t':=s.toks) (λb o hb e=>eb b o hb e) f0 f1 f3 f4 f5⟩
 self:=λ_ _ _ _ _ st h=>wpAny_pyIter_rangeiter st h
section
variable {X:Cx}{tg:Expr}
def vi (K:W.Frag)(tl:TE):TI:=λσ H R=>tl σ H λx H1=>∃a,x=.ref a∧(∃xs,SqL K H1 a xs)∧R (Itl K a) H1
def IH (K:W.Frag)(tl:TE):TI:=λσ H R=>tl σ H λx H1=>∃a,x=.ref a∧(∃xs,SqT K H1 a xs)∧R (Itt K a) H1
theorem cc {l:Expr}{tl:TE}(hl:PE X l tl):PI X tg l (vi X.K tl):=by
 intro Tj s σ H R I h;refine thn (hl Tj s σ H _ I h) λv s1 ⟨x,H1,I1,r1,q1⟩=>?_;obtain⟨a,e,⟨xs,hq⟩,q⟩:=q1;subst e
 cases r1
 obtain⟨its,rv,p,hz⟩:=I1.list hq;refine wpAny_pyIter_list p.isList ?_;refine⟨s1.heap.objs.size,[s1.heap.objs.size],_,_,H1,rfl,I1.kept (t':=s1.toks) λb o e=>Heap.get?_push_of_some _ e,IF a _,⟨_,Heap.get?_push_size _ rfl,rfl,rfl⟩,λb hb=>?_,q⟩;have e:b=s1.heap.objs.size:=by simpa using hb
 subst e;exact I1.fpOk (am _) (I1.hok.fresh (am _))
theorem BM {Tj:List (Addr×Obj)}{σ:St}{H:Hp}{s:Shared}{R:It->Hp->Prop}{E:Value->Shared->Prop}{lo hi:Int}{t u v:Tok}{tk:Nat}(I:Inv X Tj σ H s) (h1:-(2 ^ 62)<=lo) (h2:lo<2 ^ 62) (h3:-(2 ^ 62)<=hi) (h4:hi<2 ^ 62)
  (q:R (Itr lo (hi-lo).toNat) H):wpAny (model X.prog X.w) X.A (pyIter (.ref s.heap.objs.size)) (PIE X Tj σ tg R) E { s with heap:=s.heap.push { cls:=.type "range",data:=.fields #[.int lo t,.int hi u,.int 1 v] },toks:=tk }:=by
 refine wpAny_pyIter_range (IsRange.new ..) (small_one h1 h2 h3 h4) ?_;have I1:Inv X Tj σ H { s with heap:=s.heap.push { cls:=.type "range",data:=.fields #[.int lo t,.int hi u,.int 1 v] },toks:=tk }:=I.kept λb o e=>Heap.get?_push_of_some _ e;refine⟨(s.heap.push { cls:=.type "range",data:=.fields #[.int lo t,.int hi u,.int 1 v] }).objs.size,[(s.heap.push { cls:=.type "range",data:=.fields #[.int lo t,.int hi u,.int 1 v] }).objs.size],_,_,H,rfl,
  I1.kept (t':=tk) λb o e=>Heap.get?_push_of_some _ e,IG _ lo (hi-lo).toNat,?_,λb hb=>?_,q⟩
 ·have e1:lo+((0:Nat):Int)*1=lo:=by simp
  have e2:(((hi-lo).toNat:Nat):Int)-((0:Nat):Int)=Builtin.Range.rangeSize lo hi 1:=by rw[rangeSize_one];split <;> omega
  show IsRangeIter _ _ (lo+((0:Nat):Int)*1) ((((hi-lo).toNat:Nat):Int)-((0:Nat):Int)) 1;rw[e1,e2];exact Heap.get?_push_size _ rfl
 ·have e:b=(s.heap.push { cls:=.type "range",data:=.fields #[.int lo t,.int hi u,.int 1 v] }).objs.size:=by simpa using hb
  subst e;exact I1.fpOk (am _) (I1.hok.fresh (am _))
def BN (ta:TA):TI:=λσ H R=>ta σ H λvs H1=>∃j:Int,vs=[.int j]∧-(2 ^ 62)<=j∧j<2 ^ 62∧R (Itr 0 j.toNat) H1
def BO (ta:TA):TI:=λσ H R=>ta σ H λvs H1=>∃i j:Int,vs=[.int i,.int j]∧(-(2 ^ 62)<=i∧i<2 ^ 62∧-(2 ^ 62)<=j∧j<2 ^ 62)∧R (Itr i (j-i).toNat) H1
theorem fW {a:Expr}{ta:TA}{p pos:Pos}(hg:Gl X "range") (hm:X.mg "range" = none) (ha:PA X [a] ta) (hs:starEach [a] X.env=[(false,eval a X.env)]:=by rfl):PI X tg (.Call (.Name "range" p) [a] [] pos) (BN ta):=by
 intro Tj s σ H R I h;refine Call_ (gT I hg hm boot_range (PyProof.Rows.callWith_type1 (thn (ha pos Tj s σ H _ I h) λus s1 ⟨vs,H1,I1,r1,q1⟩=>?_) hs rfl));obtain⟨j,e,q1,q2,q⟩:=q1;subst e
 cases r1 with
 | cons r rr=>
  cases rr
  obtain⟨t,rfl⟩:=r;exact call_range_1 (BM I1 (by omega) (by omega) q1 q2 (by simpa using q))
theorem II {a b:Expr}{ta:TA}{p pos:Pos}(hg:Gl X "range") (hm:X.mg "range" = none) (ha:PA X [a,b] ta) (hs:starEach [a,b] X.env=[(false,eval a X.env),(false,eval b X.env)]:=by rfl) (hs2:starEach [b] X.env=[(false,eval b X.env)]:=by rfl):
  PI X tg (.Call (.Name "range" p) [a,b] [] pos) (BO ta):=by
 intro Tj s σ H R I h;refine Call_ (gT I hg hm boot_range (PyProof.Rows.callWith_type1 (thn (ha pos Tj s σ H _ I h) λus s1 ⟨vs,H1,I1,r1,q1⟩=>?_) (by rw[hs,hs2]) (by rw[hs2];rfl)));obtain⟨i,j,e,⟨q1,q2,q3,q4⟩,q⟩:=q1;subst e
 cases r1 with
 | cons r rr=>
  cases rr with
  | cons r' rr=>
   cases rr
   obtain⟨t,rfl⟩:=r;obtain⟨t',rfl⟩:=r';exact call_range_2 (BM I1 q1 q2 q3 q4 q)
def BP (wi:TI)(g:TG)(tb:TS):TS:=λD σ H=>wi σ H λJ H1=>∃W:Nat->Nat->St->Hp->Prop,(∃m,W 0 m σ H1)∧∀i m σ H,W i m σ H->
 (J.stop i H∧D.nx σ H)∨(J.go i H∧∃N:St->Hp->Prop,(∀σ' H',N σ' H'->∃m',m'<m∧W (i+1) m' σ' H')∧∀x H',J.yld i H x H'->g x σ H' λσ2 H2=>tb { D with nx:=N,ct:=N,bk:=D.nx } σ2 H2)
def mK (fp:List Addr)(h:Heap):List (Addr×Obj):=fp.filterMap λb=>(h.get? b).map λo=>(b,o)
theorem ge {fp:List Addr}{h:Heap}{b:Addr}{o:Obj}(hb:b∈fp)(e:h.get? b=some o):(b,o)∈mK fp h:=Gk.mpr ⟨b,hb,by rw[e];rfl⟩
theorem IJ {fp:List Addr}{h:Heap}{p:Addr×Obj}(hp:p∈mK fp h):p.1∈fp∧h.get? p.1=some p.2:=by
 obtain⟨b,hb,e⟩:=Gk.mp hp
 cases q:h.get? b with
 | none=>rw[q]at e;cases e
 | some o=>
  rw[q]at e;have e':(b,o)=p:=Option.some.inj e;subst e';exact⟨hb,q⟩
theorem Inv.pinned {Tj:List (Addr×Obj)}{σ:St}{H:Hp}{s:Shared}{fp:List Addr}(I:Inv X Tj σ H s)(hf:∀b∈fp,cF X Tj H b)(ho:∀b∈fp,∃o,s.heap.get? b=some o∧∀v,o.data≠.cell v):Inv X (Tj++mK fp s.heap) σ H s:=
 I.pins_of λp hp=>(aK.mp hp).elim (λz=>I.pin p (cP _ z)) λz=>by
  obtain⟨hb,e⟩:=IJ z;obtain⟨f0,f1,f2,_⟩:=hf p.1 hb;obtain⟨o,e',d⟩:=ho p.1 hb;rw[e]at e';cases e';exact⟨e,f0,f1,f2,d⟩
theorem Inv.unpinned {Tj pl:List (Addr×Obj)}{σ:St}{H:Hp}{s:Shared}(I:Inv X (Tj++pl) σ H s):Inv X Tj σ H s:=I.pins_of λp hp=>I.pin p (cP _ (gl _ hp))
theorem bY {iter:Expr}{body:List Stmt}{wi:TI}{g:TG}{tb:TS}{pos:Pos}(hp:PassesOwn (model X.prog X.w) X.A X.env X.xe) (hc:X.calm=true) (hi:PI X tg iter wi) (hg:PG X tg g) (hb:PSs X body tb)
  (hs:∀x,foldedSetIterable iter X.env x=pure x:=by intro _;rfl):PS X (.For tg iter body [] pos) (BP wi g tb):=by
 intro Tj s σ H D I h;refine wpAny_For (thn (hi Tj s σ H _ I h) λv s1 h1=>thn h1 λitv s2 h2=>?_) hs;obtain⟨it,fp,tn,J,H2,e,I2,T,st2,f2,W,⟨m0,w0⟩,turn⟩:=h2;subst e;have stat:∀{H':Hp},(∀b∈fp,H' b=none)->∀b∈fp,cF X Tj H' b:=λhn b hb=>⟨hn b hb,(f2 b hb).2⟩
 refine codeAny_forLoop_any (λn s'=>∃i σ' H',Inv X Tj σ' H' s'∧tn i s'.heap∧(∀b∈fp,H' b=none)∧W i n σ' H') ?_ m0 ⟨0,σ,H2,I2,st2,λb hb=>(f2 b hb).1,w0⟩
 rintro n s3 ⟨i,σ3,H3,I3,st3,fr3,w3⟩
 rcases turn i n σ3 H3 w3 with ⟨stop,qn⟩|⟨go,N,hN,step⟩
 ·refine wpAny_passesOwn hp (thn (T.done X rfl rfl rfl hc i Tj s3 σ3 H3 X.xe I3 (stat fr3) st3 stop) λr s4 ⟨hr,I4⟩=>?_);subst hr;exact wpAny_execs_nil ⟨σ3,H3,I4,qn⟩
 ·refine wpAny_passesOwn hp (thn (T.item X rfl rfl rfl hc i Tj s3 σ3 H3 X.xe I3 (stat fr3) st3 go) λr s4 ⟨u,hr,h4⟩=>?_);subst hr;refine wpAny_passesOwn hp (thn h4 λ_ s5 ⟨x,H5,I5,r5,y5,st5,fr5⟩=>?_);have I5':=I5.pinned (stat fr5) (T.obj _ _ st5);refine wpAny_passesOwn hp (thn (hg _ s5 σ3 H5 x u _ I5' r5 (step x H5 y5)) λ_ s6 ⟨σ6,H6,I6,q6⟩=>?_);refine wpAny_passesOwn hp (thn (hb _ s6 σ6 H6 _ I6 q6) λf s7 q7=>?_);have again:∀{σ7:St}{H7:Hp},Inv X (Tj++mK fp s5.heap) σ7 H7 s7->N σ7 H7->∃m,m<n∧∃i σ' H',Inv X Tj σ' H' s7∧tn i s7.heap∧(∀b∈fp,H' b=none)∧W i m σ' H':=λ{σ7 H7} I7 n7=>by
   obtain⟨m',hm,w7⟩:=hN σ7 H7 n7;refine⟨m',hm,i+1,σ7,H7,I7.unpinned,T.keep _ _ _ st5 λb hb o e=>(I7.pin (b,o) (cP _ (cP _ (ge hb e)))).1,λb hb=>?_,w7⟩;obtain⟨o,e,d⟩:=T.obj _ _ st5 b hb;exact (I7.pin (b,o) (cP _ (cP _ (ge hb e)))).2.1
  cases f with
  | next=>obtain⟨σ7,H7,I7,n7⟩:=q7;exact again I7 n7
  | cont=>obtain⟨σ7,H7,I7,n7⟩:=q7;exact again I7 n7
  | brk=>obtain⟨σ7,H7,I7,q7⟩:=q7;exact⟨σ7,H7,I7.unpinned,q7⟩
  | ret v=>obtain⟨x7,σ7,H7,I7,r7,q7⟩:=q7;exact⟨x7,σ7,H7,I7.unpinned,r7,q7⟩
end
theorem IK {K:W.Frag}{a:Addr}{xs:List V}{g:TG}{tb:TS}{D:Ends}{σ:St}{H:Hp}(Pv:Nat->St->Hp->Prop) (h0:Pv 0 σ H) (hl:∀i σ H,i<=xs.length->Pv i σ H->SqL K H a xs)
  (hs:∀i x σ H,xs[i]?=some x->Pv i σ H->g x σ H λσ2 H2=>tb { D with nx:=Pv (i+1),ct:=Pv (i+1),bk:=D.nx } σ2 H2) (hd:∀σ H,Pv xs.length σ H->D.nx σ H):
  ∃W:Nat->Nat->St->Hp->Prop,(∃m,W 0 m σ H)∧∀i m σ H,W i m σ H->
   ((Itl K a).stop i H∧D.nx σ H)∨((Itl K a).go i H∧∃N:St->Hp->Prop,(∀σ' H',N σ' H'->∃m',m'<m∧W (i+1) m' σ' H')∧∀x H',(Itl K a).yld i H x H'->g x σ H' λσ2 H2=>tb { D with nx:=N,ct:=N,bk:=D.nx } σ2 H2):=by
 refine⟨λi m σ H=>m=xs.length-i∧i<=xs.length∧Pv i σ H,⟨xs.length,by simp,aI _,h0⟩,?_⟩
 rintro i m σ H ⟨rfl,hi,p⟩
 have q:=hl i σ H hi p;by_cases hlt:i<xs.length
 ·refine .inr ⟨⟨xs,xs[i],q,by simp[hlt]⟩,Pv (i+1),λσ' H' p'=>⟨xs.length-(i+1),by omega,rfl,hlt,p'⟩,λx H' y=>?_⟩;obtain⟨e,y⟩:=y;subst e;exact hs i x σ _ (y xs q) p
 ·have e:i=xs.length:=by omega
  subst e;exact .inl ⟨⟨xs,q,am _⟩,hd σ H p⟩
theorem IL {lo:Int}{n:Nat}{g:TG}{tb:TS}{D:Ends}{σ:St}{H:Hp}(Pv:Nat->St->Hp->Prop) (h0:Pv 0 σ H)
  (hs:∀i σ H,i<n->Pv i σ H->g (.int (lo+i)) σ H λσ2 H2=>tb { D with nx:=Pv (i+1),ct:=Pv (i+1),bk:=D.nx } σ2 H2) (hd:∀σ H,Pv n σ H->D.nx σ H):
  ∃W:Nat->Nat->St->Hp->Prop,(∃m,W 0 m σ H)∧∀i m σ H,W i m σ H->
   ((Itr lo n).stop i H∧D.nx σ H)∨((Itr lo n).go i H∧∃N:St->Hp->Prop,(∀σ' H',N σ' H'->∃m',m'<m∧W (i+1) m' σ' H')∧∀x H',(Itr lo n).yld i H x H'->g x σ H' λσ2 H2=>tb { D with nx:=N,ct:=N,bk:=D.nx } σ2 H2):=by
 refine⟨λi m σ H=>m=n-i∧i<=n∧Pv i σ H,⟨n,by simp,aI _,h0⟩,?_⟩
 rintro i m σ H ⟨rfl,hi,p⟩
 by_cases hlt:i<n
 ·refine .inr ⟨hlt,Pv (i+1),λσ' H' p'=>⟨n-(i+1),by omega,rfl,hlt,p'⟩,λx H' y=>?_⟩;obtain⟨e,y⟩:=y;subst e y;exact hs i σ _ hlt p
 ·have e:i=n:=by omega
  subst e;exact .inl ⟨am _,hd σ H p⟩
abbrev R2:=V->V->Hp->VK->Prop
def OpR (X:Cx)(f:Value->Value->Sem Value)(r:R2):Prop:=
 ∀(Tj:List (Addr×Obj)) (s:Shared) (σ:St) (H:Hp) (x y:V) (v u:Value) (Q:VK),Inv X Tj σ H s->RelV x v->RelV y u->r x y H Q->
  wpAny (model X.prog X.w) X.A (f v u) (EP X Tj σ Q) X.xe s
def UnR (X:Cx)(f:Value->Sem Value)(r:V->Hp->VK->Prop):Prop:=
 ∀(Tj:List (Addr×Obj)) (s:Shared) (σ:St) (H:Hp) (x:V) (v:Value) (Q:VK),Inv X Tj σ H s->RelV x v->r x H Q->
  wpAny (model X.prog X.w) X.A (f v) (EP X Tj σ Q) X.xe s
def fD (X:Cx)(f:Value)(r:List V->Hp->VK->Prop):Prop:=
 ∀(Tj:List (Addr×Obj)) (s:Shared) (σ:St) (H:Hp) (xs:List V) (us:List Value) (Q:VK),Inv X Tj σ H s->Vals xs us->r xs H Q->
  wpAny (model X.prog X.w) X.A (call f us) (EP X Tj σ Q) X.xe s
def tOp (r:R2)(ta tb:TE):TE:=λσ H Q=>ta σ H λx H1=>tb σ H1 λy H2=>r x y H2 Q
def tUn (r:V->Hp->VK->Prop)(ta:TE):TE:=λσ H Q=>ta σ H λx H1=>r x H1 Q
def rI (C:Int->Int->Prop)(g:Int->Int->V):R2:=λx y H Q=>∃i j,x=.int i∧y=.int j∧C i j∧Q (g i j) H
def rI0 (g:Int->Int->V):R2:=λx y H Q=>∃i j,x=.int i∧y=.int j∧Q (g i j) H
def rU (g:Int->V):V->Hp->VK->Prop:=λx H Q=>∃i,x=.int i∧Q (g i) H
section
variable {X:Cx}{a b c:Expr}{ta tb tc:TE}{pos:Pos}
theorem vj (ha:PE X a ta) (hb:PE X b tb){Tj:List (Addr×Obj)}{s:Shared}{σ:St}{H:Hp}{R:V->V->Hp->Prop}(I:Inv X Tj σ H s)
  (h:ta σ H λx H1=>tb σ H1 λy H2=>R x y H2){Q:Value->Shared->Prop}{f:Value->Value->Sem Value}
  (hf:∀v u s2 x y H2,Inv X Tj σ H2 s2->RelV x v->RelV y u->R x y H2->wpAny (model X.prog X.w) X.A (f v u) Q X.xe s2):
  wpAny (model X.prog X.w) X.A (eval a X.env) (λv s₁=>wpAny (model X.prog X.w) X.A (eval b X.env) (λu s₂=>wpAny (model X.prog X.w) X.A (f v u) Q X.xe s₂) X.xe s₁) X.xe s:=by
 refine thn (ha Tj s σ H _ I h) λv s1 ⟨x,H1,I1,r1,q1⟩=>?_;refine thn (hb Tj s1 σ H1 _ I1 q1) λu s2 ⟨y,H2,I2,r2,q2⟩=>?_;exact hf v u s2 x y H2 I2 r1 r2 q2
theorem ao {op:Operator}{r:R2}(ho:OpR X (binaryOp op) r)(ha:PE X a ta)(hb:PE X b tb):PE X (.BinOp a op b pos) (tOp r ta tb):=by
 intro Tj s σ H Q I h;exact wpAny_BinOp (vj ha hb I h λv u s2 x y H2 I2 rx ry q=>ho Tj s2 σ H2 x y v u Q I2 rx ry q)
theorem dF {op:UnaryOp}{r:V->Hp->VK->Prop}(ho:UnR X (unaryOp op) r)(ha:PE X a ta):PE X (.UnaryOp op a pos) (tUn r ta):=by
 intro Tj s σ H Q I h;exact UnaryOp_ (thn (ha Tj s σ H _ I h) λv s1 ⟨x,H1,I1,r1,q1⟩=>ho Tj s1 σ H1 x v Q I1 r1 q1)
theorem opI {f:Value->Value->Sem Value}{C:Int->Int->Prop}{g:Int->Int->Int}
  (rule:∀(i j:Int) (t u:Tok) (s:Shared) (Q:Value->Shared->Prop) (E:Value->Shared->Prop),C i j->Q (.int (g i j) s.toks) { s with toks:=s.toks+1 }->wpAny (model X.prog X.w) X.A (f (.int i t) (.int j u)) Q E s):
  OpR X f (rI C λi j=>.int (g i j)):=by
 intro Tj s σ H x y v u Q I rx ry h;obtain⟨i,j,rfl,rfl,hc,q⟩:=h;obtain⟨t,rfl⟩:=rx;obtain⟨t',rfl⟩:=ry;exact rule i j t t' s _ _ hc ⟨.int (g i j),H,I.tok _,⟨_,rfl⟩,q⟩
theorem BQ {f:Value->Value->Sem Value}{g:Int->Int->Int}
  (rule:∀(i j:Int) (t u:Tok) (s:Shared) (Q:Value->Shared->Prop) (E:Value->Shared->Prop),Q (.int (g i j) s.toks) { s with toks:=s.toks+1 }->wpAny (model X.prog X.w) X.A (f (.int i t) (.int j u)) Q E s):
  OpR X f (rI0 λi j=>.int (g i j)):=by
 intro Tj s σ H x y v u Q I rx ry h;obtain⟨i,j,rfl,rfl,q⟩:=h;obtain⟨t,rfl⟩:=rx;obtain⟨t',rfl⟩:=ry;exact rule i j t t' s _ _ ⟨.int (g i j),H,I.tok _,⟨_,rfl⟩,q⟩
theorem vm {f:Value->Value->Sem Value}{g:Int->Int->Bool}
  (rule:∀(i j:Int) (t u:Tok) (s:Shared) (Q:Value->Shared->Prop) (E:Value->Shared->Prop),Q (.bool (g i j)) s->wpAny (model X.prog X.w) X.A (f (.int i t) (.int j u)) Q E s):
  OpR X f (rI0 λi j=>.bl (g i j)):=by
 intro Tj s σ H x y v u Q I rx ry h;obtain⟨i,j,rfl,rfl,q⟩:=h;obtain⟨t,rfl⟩:=rx;obtain⟨t',rfl⟩:=ry;exact rule i j t t' s _ _ ⟨.bl (g i j),H,I,rfl,q⟩
def IM (i j:Int):Prop:=0<j∧j<1073741824
def BR (i j:Int):Prop:=0<=j∧j<=1000000∧i.natAbs<2 ^ 64
def CMul (i j:Int):Prop:=(-(2 ^ 64)<i∧i<2 ^ 64)∨(-(2 ^ 64)<j∧j<2 ^ 64)
theorem CMul.ok {i j:Int}(h:CMul i j):IntMulOk i j:=by
 rcases h with ⟨h1,h2⟩|⟨h1,h2⟩
 ·exact .of_left (intBits_le_64 h1 h2)
 ·exact .of_right (intBits_le_64 h1 h2)
theorem IN (k:Nat):(0:Int)<=2 ^ k:=by
 rw[two_pow_cast];exact Int.natCast_nonneg _
theorem cG:OpR X (binaryOp .Add) (rI0 λi j=>.int (i+j)):=BQ λ_ _ _ _ _ _ _ q=>add_int q
theorem cX:OpR X (binaryOp .Sub) (rI0 λi j=>.int (i-j)):=BQ λ_ _ _ _ _ _ _ q=>sub_int q
theorem jf:OpR X (binaryOp .Mult) (rI CMul λi j=>.int (i*j)):=opI λ_ _ _ _ _ _ _ hc q=>mul_int q hc.ok
theorem kF:OpR X (binaryOp .FloorDiv) (rI IM λi j=>.int (i / j)):=opI λi j _ _ _ _ _ hc q=>by
 have h1:(0:Int)<j:=hc.1;have h2:j<1073741824:=hc.2;exact floordiv_int (by omega) (by rw[xB i (by omega)];exact q) (.inl (PyProof.noPylong_small (by omega)))
theorem fN:OpR X (binaryOp .Mod) (rI (λ_ j=>0<j) λi j=>.int (i % j)):=opI λi j _ _ _ _ _ hc q=>by
 have h1:(0:Int)<j:=hc;exact mod_int' (by omega) (by rw[Int.fmod_eq_emod_of_nonneg i (by omega)];exact q)
theorem IP:OpR X (binaryOp .Pow) (rI BR λi j=>.int (i ^ j.toNat)):=opI λ_ _ _ _ _ _ _ hc q=>pow_int_small hc.1 hc.2.1 hc.2.2 q
theorem IQ:OpR X (binaryOp .LShift) (rI BR λi j=>.int (i*2 ^ j.toNat)):=opI λ_ _ _ _ _ _ _ hc q=>lshift_int_small hc.1 hc.2.1 hc.2.2 q
theorem BS:OpR X (binaryOp .RShift) (rI (λ_ j=>0<=j) λi j=>.int (i / 2 ^ j.toNat)):=opI λi j _ _ _ _ _ hc q=>
 rshift_int hc (by rw[xB i (IN _)];exact q)
theorem unI {f:Value->Sem Value}{g:Int->Int}
  (rule:∀(i:Int) (t:Tok) (s:Shared) (Q:Value->Shared->Prop) (E:Value->Shared->Prop),Q (.int (g i) s.toks) { s with toks:=s.toks+1 }->wpAny (model X.prog X.w) X.A (f (.int i t)) Q E s):
  UnR X f (rU λi=>.int (g i)):=by
 intro Tj s σ H x v Q I rx h;obtain⟨i,rfl,q⟩:=h;obtain⟨t,rfl⟩:=rx;exact rule i t s _ _ ⟨.int (g i),H,I.tok _,⟨_,rfl⟩,q⟩
theorem dG:UnR X (unaryOp .USub) (rU λi=>.int (-i)):=unI λ_ _ _ _ _ q=>neg_int q
end
def vn:V->V->Bool
 | .non,.non=>true | .non,.int _=>true | .int _,.non=>true | .non,.bl _=>true | .bl _,.non=>true | .non,.str _=>true | .str _,.non=>true
 | .int _,.int _=>true | .bl _,.bl _=>true | .str _,.str _=>true | .byt _,.byt _=>true
 | .int _,.str _=>true | .str _,.int _=>true | .bl _,.str _=>true | .str _,.bl _=>true
 | _,_=>false
def rEq:R2:=λx y H Q=>vn x y=true∧Q (.bl (decide (x=y))) H
def rNe:R2:=λx y H Q=>vn x y=true∧Q (.bl (!decide (x=y))) H
theorem mL {i j:Int}:decide (V.int i=V.int j)=(i == j):=by
 rw[Bool.eq_iff_iff];simp
theorem BU {i j:Bool}:decide (V.bl i=V.bl j)=(i == j):=by
 rw[Bool.eq_iff_iff];simp
theorem BV {i j:Str}:decide (V.str i=V.str j)=(i == j):=by
 rw[Bool.eq_iff_iff];simp
theorem BW {i j:Array UInt8}:decide (V.byt i=V.byt j)=(i.toList == j.toList):=by
 rw[Bool.eq_iff_iff]
 cases i
 cases j
 simp
section
variable {X:Cx}{a b c:Expr}{ta tb tc:TE}{pos:Pos}
theorem bZ {Tj:List (Addr×Obj)}{σ:St}{H:Hp}{s:Shared}{Q:VK}{k k':Bool}(I:Inv X Tj σ H s)(q:Q (.bl k) H)(e:k=k'):EP X Tj σ Q (.bool k') s:=by
 subst e;exact⟨.bl k,H,I,rfl,q⟩
theorem fE:OpR X (compareOp .Eq) rEq:=by
 intro Tj s σ H x y v u Q I rx ry h;obtain⟨hs,q⟩:=h
 cases x with
 | non=>
  cases rx
  cases y with
  | non=>cases ry;exact PySem.EqNone.eq_none_none (bZ I q (by simp))
  | bl j=>cases ry;exact PySem.EqNone.eq_none_bool (bZ I q (by simp))
  | int j=>obtain⟨t',rfl⟩:=ry;exact PySem.EqNone.eq_none_int (bZ I q (by simp))
  | str j=>obtain⟨t',rfl⟩:=ry;exact PySem.EqNone.eq_none_str (bZ I q (by simp))
  | _=>exact absurd (show false=true from hs) Bool.false_ne_true
 | bl i=>
  cases rx
  cases y with
  | non=>cases ry;exact PySem.EqNone.eq_bool_none (bZ I q (by simp))
  | bl j=>cases ry;exact eq_bool (bZ I q BU)
  | str j=>obtain⟨t',rfl⟩:=ry;exact PySem.EqMixed.eq_bool_str (bZ I q (by simp))
  | _=>exact absurd (show false=true from hs) Bool.false_ne_true
 | int i=>
  obtain⟨t,rfl⟩:=rx
  cases y with
  | non=>cases ry;exact PySem.EqNone.eq_int_none (bZ I q (by simp))
  | int j=>obtain⟨t',rfl⟩:=ry;exact eq_int (bZ I q mL)
  | str j=>obtain⟨t',rfl⟩:=ry;exact PySem.EqMixed.eq_int_str (bZ I q (by simp))
  | _=>exact absurd (show false=true from hs) Bool.false_ne_true
 | str i=>
  obtain⟨t,rfl⟩:=rx
  cases y with
  | non=>cases ry;exact PySem.EqNone.eq_str_none (bZ I q (by simp))
  | bl j=>cases ry;exact PySem.EqMixed.eq_str_bool (bZ I q (by simp))
  | int j=>obtain⟨t',rfl⟩:=ry;exact PySem.EqMixed.eq_str_int (bZ I q (by simp))
  | str j=>obtain⟨t',rfl⟩:=ry;exact eq_str (bZ I q BV)
  | _=>exact absurd (show false=true from hs) Bool.false_ne_true
 | byt i=>
  obtain⟨t,rfl⟩:=rx
  cases y with
  | byt j=>obtain⟨t',rfl⟩:=ry;exact PySem.W.eq_bytes (bZ I q BW)
  | _=>exact absurd (show false=true from hs) Bool.false_ne_true
 | _=>cases y <;> exact absurd (show false=true from hs) Bool.false_ne_true
theorem gf:OpR X (compareOp .NotEq) rNe:=by
 intro Tj s σ H x y v u Q I rx ry h;obtain⟨hs,q⟩:=h
 cases x with
 | non=>
  cases rx
  cases y with
  | non=>cases ry;exact PySem.EqNone.ne_none_none (bZ I q (by simp))
  | bl j=>cases ry;exact PySem.EqNone.ne_none_bool (bZ I q (by simp))
  | int j=>obtain⟨t',rfl⟩:=ry;exact PySem.EqNone.ne_none_int (bZ I q (by simp))
  | str j=>obtain⟨t',rfl⟩:=ry;exact PySem.EqNone.ne_none_str (bZ I q (by simp))
  | _=>exact absurd (show false=true from hs) Bool.false_ne_true
 | bl i=>
  cases rx
  cases y with
  | non=>cases ry;exact PySem.EqNone.ne_bool_none (bZ I q (by simp))
  | bl j=>cases ry;exact ne_bool (bZ I q (congrArg not BU))
  | str j=>obtain⟨t',rfl⟩:=ry;exact PySem.EqMixed.ne_bool_str (bZ I q (by simp))
  | _=>exact absurd (show false=true from hs) Bool.false_ne_true
 | int i=>
  obtain⟨t,rfl⟩:=rx
  cases y with
  | non=>cases ry;exact PySem.EqNone.ne_int_none (bZ I q (by simp))
  | int j=>obtain⟨t',rfl⟩:=ry;exact ne_int (bZ I q (congrArg not mL))
  | str j=>obtain⟨t',rfl⟩:=ry;exact PySem.EqMixed.ne_int_str (bZ I q (by simp))
  | _=>exact absurd (show false=true from hs) Bool.false_ne_true
 | str i=>
  obtain⟨t,rfl⟩:=rx
  cases y with
  | non=>cases ry;exact PySem.EqNone.ne_str_none (bZ I q (by simp))
  | bl j=>cases ry;exact PySem.EqMixed.ne_str_bool (bZ I q (by simp))
  | int j=>obtain⟨t',rfl⟩:=ry;exact PySem.EqMixed.ne_str_int (bZ I q (by simp))
  | str j=>obtain⟨t',rfl⟩:=ry;exact ne_str (bZ I q (congrArg not BV))
  | _=>exact absurd (show false=true from hs) Bool.false_ne_true
 | byt i=>
  obtain⟨t,rfl⟩:=rx
  cases y with
  | byt j=>obtain⟨t',rfl⟩:=ry;exact PySem.W.ne_bytes (bZ I q (congrArg not BW))
  | _=>exact absurd (show false=true from hs) Bool.false_ne_true
 | _=>cases y <;> exact absurd (show false=true from hs) Bool.false_ne_true
theorem iN:OpR X (compareOp .Lt) (rI0 λi j=>.bl (decide (i<j))):=vm λ_ _ _ _ _ _ _ q=>lt_int q
theorem gz:OpR X (compareOp .Gt) (rI0 λi j=>.bl (decide (j<i))):=vm λ_ _ _ _ _ _ _ q=>gt_int q
theorem BX:OpR X (compareOp .GtE) (rI0 λi j=>.bl (decide (j<=i))):=vm λ_ _ _ _ _ _ _ q=>ge_int q
theorem kG:OpR X (compareOp .Is) (λx y H Q=>y=.non∧Q (.bl (decide (x=.non))) H):=by
 intro Tj s σ H x y v u Q I rx ry h;obtain⟨rfl,q⟩:=h
 cases ry
 refine is_none_gen (bZ I q ?_)
 cases x <;> first
  |(cases rx;rfl)
  |(obtain⟨t,rfl⟩:=rx;rfl)
theorem mO:OpR X (compareOp .IsNot) (λx y H Q=>y=.non∧Q (.bl (!decide (x=.non))) H):=by
 intro Tj s σ H x y v u Q I rx ry h;obtain⟨rfl,q⟩:=h
 cases ry
 refine isnot_none_gen (bZ I q ?_)
 cases x <;> first
  |(cases rx;rfl)
  |(obtain⟨t,rfl⟩:=rx;rfl)
theorem aL (b:Expr){op:CmpOp}(h:op≠.In:=by decide)(h2:op≠.NotIn:=by decide):behindInMarks op b=false:=by
 have e1:(op == CmpOp.In)=false:=by cases op <;> first|rfl|exact absurd rfl h
 have e2:(op == CmpOp.NotIn)=false:=by cases op <;> first|rfl|exact absurd rfl h2
 cases b <;> simp[behindInMarks,e1,e2]
theorem IR {op:CmpOp}{r:R2}(ho:OpR X (compareOp op) r)(ha:PE X a ta)(hb:PE X b tb)(hm:behindInMarks op b=false):PE X (.Compare a [op] [b] pos) (tOp r ta tb):=by
 intro Tj s σ H Q I h;exact wpAny_Compare1 (vj ha hb I h λv u s2 x y H2 I2 rx ry q=>ho Tj s2 σ H2 x y v u Q I2 rx ry q) hm
def BY (t:TE):TT:=λσ H Q=>t σ H λx H'=>∃k,x=.bl k∧Q k H'
theorem aM {op:CmpOp}{r:R2}(ho:OpR X (compareOp op) r)(ha:PE X a ta)(hb:PE X b tb)(hm:behindInMarks op b=false):PT X (.Compare a [op] [b] pos) (BY (tOp r ta tb)):=by
 intro Tj s σ H Q I h;refine wpAny_isTrue_Compare1 (thn (ha Tj s σ H _ I h) λv s1 ⟨x,H1,I1,r1,q1⟩=>thn (hb Tj s1 σ H1 _ I1 q1) λu s2 ⟨y,H2,I2,r2,q2⟩=>
  thn (ho Tj s2 σ H2 x y v u _ I2 r1 r2 q2) λc s3 ⟨z,H3,I3,r3,k,e,q3⟩=>?_) hm
 subst e
 cases r3
 exact wpAny_truthy_bool ⟨H3,I3,q3⟩
def IS (r r':R2)(ta tb tc:TE):TE:=λσ H Q=>ta σ H λx H1=>tb σ H1 λy H2=>r x y H2 λz H3=>∃k,z=.bl k∧
 (if k=true then tc σ H3 λw' H4=>r' y w' H4 Q else Q (.bl false) H3)
theorem kH:(sizeLine:Nat)<2 ^ 63:=by rw[sizeLine_eq];decide
theorem gY {x:V}{us:List Value}(r:Vals [x] us):∃u,us=[u]∧RelV x u:=by
 cases r with
 | cons r1 r2=>cases r2;exact⟨_,rfl,r1⟩
theorem BZ {x y:V}{us:List Value}(r:Vals [x,y] us):∃u w',us=[u,w']∧RelV x u∧RelV y w':=by
 cases r with
 | cons r1 r2=>
  cases r2 with
  | cons r3 r4=>cases r4;exact⟨_,_,rfl,r1,r3⟩
theorem jg:fD X (.builtin "abs") (λxs H Q=>∃i,xs=[.int i]∧Q (.int (if i<0 then -i else i)) H):=by
 intro Tj s σ H xs us Q I r h;obtain⟨i,rfl,q⟩:=h;obtain⟨u,rfl,t,rfl⟩:=gY r;exact call_abs_int λu tk=>⟨.int (if i<0 then -i else i),H,I.tok _,⟨_,rfl⟩,q⟩
theorem jh (hc:X.calm=true):fD X (.builtin "max") (λxs H Q=>∃i j,xs=[.int i,.int j]∧Q (.int (if j > i then j else i)) H):=by
 intro Tj s σ H xs us Q I r h;obtain⟨i,j,rfl,q⟩:=h;obtain⟨u,w',rfl,⟨t,rfl⟩,⟨t',rfl⟩⟩:=BZ r;refine max_two_ints (I.ok.hd hc) λh' tk k=>⟨_,H,I.kept k,?_,q⟩
 by_cases hj:j > i
 ·rw[if_pos hj,if_pos hj];exact⟨_,rfl⟩
 ·rw[if_neg hj,if_neg hj];exact⟨_,rfl⟩
theorem B2 (hc:X.calm=true):fD X (.builtin "min") (λxs H Q=>∃i j,xs=[.int i,.int j]∧Q (.int (if j<i then j else i)) H):=by
 intro Tj s σ H xs us Q I r h;obtain⟨i,j,rfl,q⟩:=h;obtain⟨u,w',rfl,⟨t,rfl⟩,⟨t',rfl⟩⟩:=BZ r;refine min_two_ints (I.ok.hd hc) λh' tk k=>⟨_,H,I.kept k,?_,q⟩
 by_cases hj:j<i
 ·rw[if_pos hj,if_pos hj];exact⟨_,rfl⟩
 ·rw[if_neg hj,if_neg hj];exact⟨_,rfl⟩
end
structure ObjM (h:Heap)(x dx C:Addr)(mA:Str->Option Value):Prop where
 obj:h.get? x=some (PySem.W.instObj C dx)
 ns:h.Ns1 dx mA
 ne:dx≠x
theorem IT {h:Heap}{dx:Addr}{mA:Str->Option Value}(n:h.Ns1 dx mA):∃od,h.get? dx=some od∧∀name,PySem.W.lookIn name od=some (mA name):=by
 obtain⟨o,es,ep,ho,hd,hk,_,hm⟩:=n;refine⟨o,ho,λname=>?_⟩;have e:=hm name;unfold nsFind findBy at e;rw[←Array.find?_toList]at e;unfold PySem.W.lookIn;rw[hd];dsimp only
 split
 ·rename_i y q;rw[q]at e;exact congrArg some e
 ·rename_i q;rw[q]at e;have a:es.toList.any (·.refKey)=false:=by
   rw[List.any_eq_false];intro y hy;obtain⟨z,t,hkey⟩:=hk y (Array.mem_toList_iff.mp hy);simp[DictEntry.refKey,hkey]
  have a':¬es.toList.any (·.refKey)=true:=by rw[a];exact Bool.false_ne_true
  rw[if_neg a'];exact congrArg some e
theorem ObjM.look {h:Heap}{x dx C:Addr}{mA:Str->Option Value}(I:ObjM h x dx C mA):∃od,PySem.W.InstAt h x (PySem.W.instObj C dx) C (some od)∧∀name,PySem.W.lookIn name od=some (mA name):=
 let ⟨od,ho,hl⟩:=IT I.ns
 ⟨od,⟨I.obj,rfl,rfl,ho⟩,hl⟩
section
variable {prog:Program}{w:World}{A:Around}{E:Value->Shared->Prop}{s:Shared}{K:W.Frag}{x dx C f:Addr}{mA:Str->Option Value}{name:Str}{v:Value}
theorem IU {expr:Bool}{Q:Value->Shared->Prop}(X:K.In s.heap) (I:ObjM s.heap x dx C mA) (hg:PySem.W.plainGet K C name=true) (hh:PySem.W.hasDictIn K C=true)
  (ha:PySem.W.findIn K (.ref C) name=some none) (hv:mA name=some v) (hv':PySem.W.handedIn v=true) (h:Q v { s with toks:=s.toks+1 }):
  wpAny (model prog w) A (getAttr (.ref x) name expr) Q E s:=by
 obtain⟨od,J,hl⟩:=I.look;exact PySem.W.get_value X J (PySem.W.plainGet_of hg).1 (PySem.W.findObj_own hh ha rfl (by rw[hl,hv])) hv' h
theorem IV {pl:Sem Bool}{Q:Value×List Value->Shared->Prop}(X:K.In s.heap) (I:ObjM s.heap x dx C mA) (hg:PySem.W.plainGet K C name=true)
  (hf:PySem.W.findIn K (.ref C) name=some (some (.ref f))) (ht:PySem.W.isFn K (.ref f)=true) (hv:mA name=none) (h:Q (.ref f,[.ref x]) s):
  wpAny (model prog w) A (getMethod (.ref x) name pl) Q E s:=by
 obtain⟨od,J,hl⟩:=I.look;exact PySem.W.method_fn X J (PySem.W.plainGet_of hg).1 (PySem.W.plainGet_of hg).2 hf (beq_iff_eq.mp ht) (by show (PySem.W.lookIn name od).map (·.isSome)=some false;rw[hl,hv];rfl) h
theorem IW {ns:List Str}{Q:Unit->Shared->Prop}(X:K.In s.heap) (I:ObjM s.heap x dx C mA)
  (hs:PySem.W.findIn K (.ref C) "__setattr__" = some (some (.builtin "object.__setattr__"))) (hp:PySem.W.plainOver K C=true) (ht:PySem.W.takerIn K C name=some none) (hh:PySem.W.hasDictIn K C=true)
  (hw:PySem.Within mA ns) (hsz:ns.length<=sizeLine)
  (h:∀h',ObjM h' x dx C (λy=>if y=name then some v else mA y)->Heap.SameBut dx s.heap h'->Q () { s with heap:=h',toks:=s.toks+2 }):
  wpAny (model prog w) A (setAttr (.ref x) name v) Q E s:=by
 obtain⟨od,J,hl⟩:=I.look;refine PySem.W.set_plain X J hs (PySem.W.osa_open (s:={ s with toks:=s.toks+1 }) (r:=none) X J hp ht λb=>?_);obtain⟨cd,hc,hd'⟩:=PySem.W.any_some hh;have hx:s.heap.get? x=some ⟨.ref C,some dx,.plain,#[]⟩:=I.obj;refine wpAny_bind (wpAny_pure (wpAny_bind (wpAny_bind (wpAny_loadPart hx (wpAny_bind (PySem.W.Looks.here (s:={ s with toks:=s.toks+1 }) (PySem.W.looks_clsIn X hc) ?_))))));rw[hd'];refine wpAny_pure (a:=some dx) (wpAny_bind (wpAny_pure (wpAny_bind ?_)));refine wpAny_nsSet1 (s:={ s with toks:=s.toks+1 }) I.ns λh' hn2 hs2=>?_;obtain⟨oD,esD,epD,hoD,hdD,hcD⟩:=hn2.count (PySem.Within.cons name v hw);refine wpAny_bind (wpAny_lookBehind hoD (by rw[hdD];exact pastItsLine_dict (aE hcD (by rw[bX];omega))) ?_);exact wpAny_pure (h _ ⟨(hs2.2 _ (Ne.symm I.ne)).trans I.obj,hn2,I.ne⟩ hs2)
theorem IX {R:Result->Shared->Prop}{vs:List Value}{kw:List (Str×Value)}(X:K.In s.heap) (hm:PySem.W.makesIn K C=true)
  (hi:PySem.W.findIn K (.ref C) "__init__" = some (some (.ref f))) (hf:PySem.W.typeIn K (.ref f)=some (.type "function"))
  (h:codeAny (model prog w) (A.under (.builtin "type.__call__" ⟨.ref C :: vs,kw⟩)) (.call (.ref f) ⟨.ref (s.heap.objs.size+1) :: vs,kw⟩) (PySem.W.InitBack (s.heap.objs.size+1) R)
   { s with heap:=(s.heap.push PySem.W.emptyDict).push (PySem.W.instObj C s.heap.objs.size) }):
  codeAny (model prog w) A (.call (.ref C) ⟨vs,kw⟩) R s:=by
 obtain⟨hh,g,d,t,os⟩:=s;exact PySem.W.make_core (PySem.W.makes_of X hm) (PySem.W.looks_findIn X hi) (λself=>PySem.W.bind_fn X self hf) (.inl rfl) h
end
def aG (f:Str)(v:V):List (Str×V)->List (Str×V)
 | []=>[(f,v)]
 |(g,x) :: r=>if g=f then (g,v) :: r else (g,x) :: aG f v r
theorem B3 (f g:Str)(v:V):∀fs:List (Str×V),(aG f v fs).lookup g=if g=f then some v else fs.lookup g
 | []=>by
  show kg g [(f,v)]=_;by_cases h:g=f
  ·have hb:(g == f)=true:=beq_iff_eq.mpr h;simp only[kg,hb,if_pos h]
  ·have hb:(g == f)=false:=beq_eq_false_iff_ne.mpr h;simp only[kg,hb,if_neg h]
 |(k,x) :: r=>by
  have ih:=B3 f g v r;rw[show aG f v ((k,x) :: r)=(if k=f then (k,v) :: r else (k,x) :: aG f v r) from rfl];by_cases hk:k=f
  ·rw[if_pos hk];by_cases h:g=k
   ·have hb:(g == k)=true:=beq_iff_eq.mpr h;simp only[kg,hb,if_pos (h.trans hk)]
   ·have hb:(g == k)=false:=beq_eq_false_iff_ne.mpr h;simp only[kg,hb,if_neg (λe:g=f=>h (e.trans hk.symm))]
  ·rw[if_neg hk];by_cases h:g=k
   ·have hb:(g == k)=true:=beq_iff_eq.mpr h;simp only[kg,hb,if_neg (λe:g=f=>hk (h.symm.trans e))]
   ·have hb:(g == k)=false:=beq_eq_false_iff_ne.mpr h;simp only[kg,hb];exact ih
theorem vo (f:Str)(v:V):∀fs:List (Str×V),f∈(aG f v fs).map (·.1)∧∀g,g∈fs.map (·.1)->g∈(aG f v fs).map (·.1)
 | []=>⟨by simp[aG],λg h=>by simp at h⟩
 |(k,x) :: r=>by
  obtain⟨i1,i2⟩:=vo f v r;rw[show aG f v ((k,x) :: r)=(if k=f then (k,v) :: r else (k,x) :: aG f v r) from rfl];by_cases hk:k=f
  ·rw[if_pos hk];subst hk;exact⟨by simp,λg h=>by simpa using h⟩
  ·rw[if_neg hk];refine⟨?_,λg h=>?_⟩
   ·rw[c_];exact bM _ i1
   ·rw[c_]at h ⊢;rcases aO.mp h with e|e
    ·exact aO.mpr (.inl e)
    ·exact bM _ (i2 g e)
theorem B4 (f:Str)(v:V):∀fs:List (Str×V),(aG f v fs).length<=fs.length+1
 | []=>by simp[aG]
 |(k,x) :: r=>by
  have ih:=B4 f v r;rw[show aG f v ((k,x) :: r)=(if k=f then (k,v) :: r else (k,x) :: aG f v r) from rfl];by_cases hk:k=f
  ·rw[if_pos hk,bX,bX];omega
  ·rw[if_neg hk,bX,bX];omega
theorem RelO.some_of {v:V}{o:Option Value}(r:RelO (some v) o):∃u,o=some u∧RelV v u:=by
 cases o with
 | none=>exact (show False from r).elim
 | some u=>exact⟨u,rfl,r⟩
theorem RelO.none_of {o:Option Value}(r:RelO none o):o=none:=by
 cases o with
 | none=>rfl
 | some u=>exact (show False from r).elim
theorem IY {v:V}{u:Value}(r:RelV v u):PySem.W.handedIn u=true:=by
 cases v with
 | non=>cases (show u=Value.none from r);rfl
 | bl b=>cases (show u=Value.bool b from r);rfl
 | int i=>obtain⟨t,e⟩:=(show ∃t,u=Value.int i t from r);cases e;rfl
 | str x=>obtain⟨t,e⟩:=(show ∃t,u=Value.str x t from r);cases e;rfl
 | byt b=>obtain⟨t,e⟩:=(show ∃t,u=Value.bytes b t from r);cases e;rfl
 | flt b=>obtain⟨t,e⟩:=(show ∃t,u=Value.float b t from r);cases e;rfl
 | ref a=>cases (show u=Value.ref a from r);rfl
 | ty n=>cases (show u=Value.type n from r);rfl
section
variable {P:Program}{w:World}{H H':Hp}{h h':Heap}{a C dx:Addr}{fs fs':List (Str×V)}
theorem mQ (hok:HOk P w H h)(e:H a=some (.ins C dx fs)):∃mA,ObjM h a dx C mA∧(∀f,RelO (fs.lookup f) (mA f))∧PySem.Within mA (fs.map (·.1))∧fs.length<=1000∧H dx=some (.own a):=by
 obtain⟨d,z,ne,ob,mA,n,r,q⟩:=(show ObjOk P w H h a (.ins C dx fs) from hok a _ e)
 exact⟨mA,⟨ob,n,ne⟩,r,q,z,d⟩
end
structure Cls (K:W.Frag)(C:Addr):Prop where
 pg:PySem.W.plainGet K C Str.empty=true
 hd:PySem.W.hasDictIn K C=true
 po:PySem.W.plainOver K C=true
 sa:PySem.W.findIn K (.ref C) "__setattr__" = some (some (.builtin "object.__setattr__"))
theorem Cls.get {K:W.Frag}{C:Addr}(c:Cls K C)(f:Str):PySem.W.plainGet K C f=true:=c.pg
def NoAttr (K:W.Frag)(C:Addr)(f:Str):Prop:=PySem.W.findIn K (.ref C) f=some none
theorem NoAttr.taker {K:W.Frag}{C:Addr}{f:Str}(n:NoAttr K C f):PySem.W.takerIn K C f=some none:=by
 unfold PySem.W.takerIn;rw[show PySem.W.findIn K (.ref C) f=some none from n];rfl
structure Meth (K:W.Frag)(C:Addr)(m:Str)(f:Addr):Prop where
 at_:PySem.W.findIn K (.ref C) m=some (some (.ref f))
 fn:PySem.W.isFn K (.ref f)=true
 kp:PySem.W.keepIn K (.ref f)=true
section
variable {X:Cx}{Tj:List (Addr×Obj)}{σ:St}{H:Hp}{s:Shared}{a C dx:Addr}{fs:List (Str×V)}{f:Str}{v:V}{A:Around}{E:Value->Shared->Prop}
theorem B5 {b:Bool}{Q:Value->Shared->Prop}(I:Inv X Tj σ H s) (e:H a=some (.ins C dx fs)) (c:Cls X.K C) (n:NoAttr X.K C f) (l:fs.lookup f=some v)
  (h:∀u s',Inv X Tj σ H s'->RelV v u->Q u s'):wpAny (model X.prog X.w) A (getAttr (.ref a) f b) Q E s:=by
 obtain⟨mA,O,r,_,_,_⟩:=mQ I.hok e;obtain⟨u,hu,ru⟩:=RelO.some_of (v:=v) (o:=mA f) (by rw[←l];exact r f);exact IU I.kIn O (c.get f) c.hd n hu (IY ru) (h u _ (I.tok _) ru)
theorem vv {m:Str}{g:Addr}{pl:Sem Bool}{Q:Value×List Value->Shared->Prop}(I:Inv X Tj σ H s) (e:H a=some (.ins C dx fs)) (c:Cls X.K C) (k:Meth X.K C m g) (l:fs.lookup m=none)
  (h:Q (.ref g,[.ref a]) s):wpAny (model X.prog X.w) A (getMethod (.ref a) m pl) Q E s:=by
 obtain⟨mA,O,r,_,_,_⟩:=mQ I.hok e;have hn:mA m=none:=RelO.none_of (by rw[←l];exact r m);exact IV I.kIn O (c.get m) k.at_ k.fn hn h
theorem B6 {y:V}{u:Value}{Q:Unit->Shared->Prop}(I:Inv X Tj σ H s) (e:H a=some (.ins C dx fs)) (c:Cls X.K C) (n:NoAttr X.K C f) (hl:fs.length<1000) (ry:RelV y u)
  (h:∀s',Inv X Tj σ (upd H a (.ins C dx (aG f y fs))) s'->Q () s'):wpAny (model X.prog X.w) A (setAttr (.ref a) f u) Q E s:=by
 obtain⟨mA,O,r,wi,_,ho⟩:=mQ I.hok e;have hz:(fs.map (·.1)).length<=sizeLine:=by rw[ae,sizeLine_eq];omega
 refine IW I.kIn O c.sa c.po n.taker c.hd wi hz λh' O' sb=>h _ ?_;have hd:∃o,h'.get? dx=some o:=let ⟨o,_,_,e',_⟩:=O'.ns;⟨o,e'⟩
 refine I.write (x:=a) (e:=dx) (by rw[e];exact True.intro) (.inr ho) (λb q hb z=>(sb.2 b hb).trans z) hd ?_;refine⟨by rw[aj O.ne];exact ho,?_,O.ne,O'.obj,_,O'.ns,λg=>?_,λg hg=>?_⟩
 ·have:=B4 f y fs;omega
 ·show RelO ((aG f y fs).lookup g) (if g=f then some u else mA g);rw[B3];by_cases q:g=f
  ·rw[if_pos q,if_pos q];exact ry
  ·rw[if_neg q,if_neg q];exact r g
 ·by_cases q:g=f
  ·rw[q];exact (vo f y fs).1
  ·refine (vo f y fs).2 g (wi g λz=>hg ?_);show (if g=f then some u else mA g)=none;rw[if_neg q];exact z
theorem Inv.made (I:Inv X Tj σ H s):Inv X Tj σ (upd (upd H s.heap.objs.size (.own (s.heap.objs.size+1))) (s.heap.objs.size+1) (.ins C s.heap.objs.size []))
  { s with heap:=(s.heap.push PySem.W.emptyDict).push (PySem.W.instObj C s.heap.objs.size) }:=by
 have e1:(s.heap.push PySem.W.emptyDict).get? s.heap.objs.size=some PySem.W.emptyDict:=Heap.get?_push_size s.heap rfl;have e2:((s.heap.push PySem.W.emptyDict).push (PySem.W.instObj C s.heap.objs.size)).get? (s.heap.objs.size+1)=some (PySem.W.instObj C s.heap.objs.size):=by
  have:=Heap.get?_push_size (s.heap.push PySem.W.emptyDict) (o:=PySem.W.instObj C s.heap.objs.size) rfl
  rwa [Heap.size_push]at this
 have e3:(s.heap.push PySem.W.emptyDict).Ns s.heap.objs.size (λ_=>none):=⟨PySem.W.emptyDict,#[],_,e1,rfl,(λe he=>absurd he (by simp)),λ_=>rfl⟩
 have I1:=I.laid (a:=s.heap.objs.size) (o:=.own (s.heap.objs.size+1)) (h':=s.heap.push PySem.W.emptyDict) (t':=s.toks) (λb u q=>Heap.get?_push_of_some _ q) (am _) ⟨_,e1⟩;refine I1.laid (a:=s.heap.objs.size+1) (o:=.ins C s.heap.objs.size []) (t':=s.toks) (λb u q=>Heap.get?_push_of_some _ q) (xC (Heap.size_push _ _)) ?_;have ne:s.heap.objs.size≠s.heap.objs.size+1:=cC (lM _);refine⟨by rw[aj ne,ag],aI _,ne,e2,λ_=>none,(Heap.Ns1.of_empty e3).at λo q=>Heap.get?_push_of_some _ q,λ_=>True.intro,λy hy=>absurd rfl hy⟩
theorem IZ {prog:Program}{w:World}{env:Env}{e:Expr}{f:Str}{pos:Pos}{s:Shared}{Q:Value->Shared->Prop}(hb:attributeBase e f env (eval e env)=eval e env)
  (h:wpAny (model prog w) A (eval e env) (λo s₁=>wpAny (model prog w) A (getAttr o f true) Q E s₁) E s):wpAny (model prog w) A (eval (.Attribute e f pos) env) Q E s:=
 Attribute_any_ h (by rw[arm_eval_Attribute,hb])
end
def vw (K:W.Frag)(ta:TE)(f:Str):TE:=λσ H Q=>ta σ H λx H1=>∃a C dx fs v,x=.ref a∧H1 a=some (.ins C dx fs)∧Cls K C∧NoAttr K C f∧fs.lookup f=some v∧Q v H1
def B7 (K:W.Frag)(ta tv:TE)(f:Str):TS:=λD σ H=>tv σ H λy H1=>ta σ H1 λx H2=>∃a C dx fs,x=.ref a∧H2 a=some (.ins C dx fs)∧Cls K C∧NoAttr K C f∧fs.length<1000∧
 D.nx σ (upd H2 a (.ins C dx (aG f y fs)))
def B8 (X:Cx)(op:Operator)(rd:V->V->Hp->VK->Prop):Prop:=
 ∀(Tj:List (Addr×Obj)) (s:Shared) (σ:St) (H:Hp) (x y:V) (u v:Value) (Q:VK),Inv X Tj σ H s->RelV x u->RelV y v->rd x y H Q->wpAny (model X.prog X.w) X.A (inplaceOp op u v) (EP X Tj σ Q) X.xe s
def B9 (K:W.Frag)(ta tv:TE)(rd:V->V->Hp->VK->Prop)(f:Str):TS:=λD σ H=>ta σ H λx H1=>∃a C dx fs v,x=.ref a∧H1 a=some (.ins C dx fs)∧Cls K C∧NoAttr K C f∧fs.lookup f=some v∧
 tv σ H1 λy H2=>rd v y H2 λz H3=>∃dx' fs',H3 a=some (.ins C dx' fs')∧fs'.length<1000∧D.nx σ (upd H3 a (.ins C dx' (aG f z fs')))
section
variable {X:Cx}{o e value:Expr}{f:Str}{pos pos' tpos:Pos}{ta tv:TE}
theorem cH (he:PE X e ta)(hb:attributeBase e f X.env (eval e X.env)=eval e X.env):PE X (.Attribute e f pos) (vw X.K ta f):=by
 intro Tj s σ H Q I h;refine IZ hb (thn (he Tj s σ H _ I h) λu s1 ⟨x,H1,I1,rx,a,C,dx,fs,v,ex,ea,c,n,l,q⟩=>?_);subst ex;obtain rfl:u=Value.ref a:=rx;exact B5 I1 ea c n l λu' s2 I2 ru=>⟨v,H1,I2,ru,q⟩
theorem kI (ha:PE X o ta)(hv:PE X value tv)(hs:swapsWith value (some (.Attribute o f pos')) pos.line X.env=pure false):PS X (.Assign [.Attribute o f pos'] value pos) (B7 X.K ta tv f):=by
 intro Tj s σ H D I h;refine plainObj_wpAny_Assign_Attribute (thn (hv Tj s σ H _ I h) λu s1 ⟨y,H1,I1,ry,q⟩=>thn (ha Tj s1 σ H1 _ I1 q) λov s2 ⟨x,H2,I2,rx,a,C,dx,fs,ex,ea,c,n,l,q2⟩=>?_) hs;subst ex;obtain rfl:ov=Value.ref a:=rx;exact B6 I2 ea c n l ry λs3 I3=>⟨σ,_,I3,q2⟩
theorem I0 {op:Operator}{rd:V->V->Hp->VK->Prop}(ha:PE X o ta)(hv:PE X value tv)(hop:B8 X op rd):PS X (.AugAssign (.Attribute o f tpos) op value pos) (B9 X.K ta tv rd f):=by
 intro Tj s σ H D I h;refine wpAny_AugAssign_AttributeAny (thn (ha Tj s σ H _ I h) λov s1 ⟨x,H1,I1,rx,a,C,dx,fs,v,ex,ea,c,n,l,q⟩=>?_);subst ex;obtain rfl:ov=Value.ref a:=rx;refine B5 I1 ea c n l λu s2 I2 ru=>thn (hv Tj s2 σ H1 _ I2 q) λw3 s3 ⟨y,H2,I3,ry,q3⟩=>thn (hop Tj s3 σ H2 v y u w3 _ I3 ru ry q3) λw4 s4 ⟨z,H3,I4,rz,dx',fs',ea',l',q4⟩=>?_;exact B6 I4 ea' c n l' rz λs5 I5=>⟨σ,_,I5,q4⟩
def B_:V->V->Hp->VK->Prop:=λx y H Q=>∃i j,x=.int i∧y=.int j∧Q (.int (i+j)) H
theorem I_:B8 X .Add B_:=by
 rintro Tj s σ H x y u v Q I rx ry ⟨i,j,rfl,rfl,q⟩
 obtain⟨t,rfl⟩:=(show ∃t,u=Value.int i t from rx)
 obtain⟨t',rfl⟩:=(show ∃t',v=Value.int j t' from ry)
 exact PyProof.Rows.iadd_int ⟨.int (i+j),H,I.tok _,⟨_,rfl⟩,q⟩
theorem Ox {pl:Sem Bool}{m:Str}{apos:Pos}{args:List Expr}{Tj:List (Addr×Obj)}{s:Shared}{σ:St}{H:Hp}{Q:Value->Shared->Prop}{te:TE}(he:PE X e te) (I:Inv X Tj σ H s)
  (h:te σ H λx H1=>∃a C dx fs g,x=.ref a∧H1 a=some (.ins C dx fs)∧Cls X.K C∧Meth X.K C m g∧fs.lookup m=none∧
   ∀s1,Inv X Tj σ H1 s1->wpAny (model X.prog X.w) X.A (callWith pos (.ref g) [.ref a] (backTo pos (starEach args X.env)) (backToKw pos (keywordEach [] X.env))) Q X.xe s1)
  (ht:eval (.Call (.Attribute e m apos) args [] pos) X.env=(do
   let ov ←eval e X.env
   standAt apos.atName
   let (f,first) ←holding [ov] (getMethod ov m pl)
   callWith pos f first (backTo pos (starEach args X.env)) (backToKw pos (keywordEach [] X.env)))):
  wpAny (model X.prog X.w) X.A (eval (.Call (.Attribute e m apos) args [] pos) X.env) Q X.xe s:=by
 refine PySem.W.methodCall_KW (pl:=pl) (thn (he Tj s σ H _ I h) λu s1 ⟨x,H1,I1,rx,a,C,dx,fs,g,ex,ea,c,k,l,q⟩=>?_) ht;subst ex;obtain rfl:u=Value.ref a:=rx;exact vv I1 ea c k l (q s1 I1)
end
section
variable {X:Cx}{Tj:List (Addr×Obj)}{σ:St}{H:Hp}{s:Shared}{A:Around}{E:Value->Shared->Prop}{Q:Value->Shared->Prop}{c:Value}{b:Bool}
inductive TyOf (K:W.Frag) (H:Hp):V->Value->Prop where
 | non:TyOf K H .non (.type "NoneType")
 | bl (x:Bool):TyOf K H (.bl x) (.type "bool")
 | int (i:Int):TyOf K H (.int i) (.type "int")
 | str (x:Str):TyOf K H (.str x) (.type "str")
 | flt (x:UInt64):TyOf K H (.flt x) (.type "float")
 | lst {a:Addr}{xs:List V}(e:H a=some (.lst xs)):TyOf K H (.ref a) (.type "list")
 | frz {a:Addr}{o:Obj}{xs:List V}(e:H a=some (.frz o (.lst xs))):TyOf K H (.ref a) (.type "list")
 | tup {a:Addr}{xs:List V}(e:H a=some (.tup xs)):TyOf K H (.ref a) (.type "tuple")
 | dK {a:Addr}{kvs:List (Key×V)}(e:H a=some (.dK kvs)):TyOf K H (.ref a) (.type "dict")
 | dT {a:Addr}{kvs:List (List Key×V)}(e:H a=some (.dT kvs)):TyOf K H (.ref a) (.type "dict")
 | ins {a C dx:Addr}{fs:List (Str×V)}(e:H a=some (.ins C dx fs)) (cl:Cls K C) (ha:PySem.W.findIn K (.ref C) "__class__" = some (some (.builtin "object.__class__")))
   (hn:PySem.W.specialIn K (.builtin "object.__class__") "__get__" = some (some (.builtin "getset_descriptor.__get__"))) (htk:PySem.W.takesIn K (.builtin "object.__class__")=some true)
   (hm:PySem.W.mroIn K C (.type "object")=some true):TyOf K H (.ref a) (.ref C)
theorem Ja {x:V}{u t:Value}(I:Inv X Tj σ H s)(rx:RelV x u)(ty:TyOf X.K H x t)(e:PySem.W.kitOne X.K t c=some b)(h:∀tk,Q (.bool b) { s with toks:=tk }):
  wpAny (model X.prog X.w) A (call (.builtin "isinstance") [u,c]) Q E s:=by
 cases ty with
 | non=>cases (show u=Value.none from rx);exact PySem.W.kia_one PySem.W.kitx_none I.kIn True.intro e (λz=>nomatch z) h
 | bl y=>cases (show u=Value.bool y from rx);exact PySem.W.kia_one PySem.W.kitx_bool I.kIn True.intro e (λz=>nomatch z) h
 | int i=>obtain⟨t,q⟩:=(show ∃t,u=Value.int i t from rx);cases q;exact PySem.W.kia_one PySem.W.kitx_int I.kIn True.intro e (λz=>nomatch z) h
 | str y=>obtain⟨t,q⟩:=(show ∃t,u=Value.str y t from rx);cases q;exact PySem.W.kia_one PySem.W.kitx_str I.kIn True.intro e (λz=>nomatch z) h
 | flt y=>obtain⟨t,q⟩:=(show ∃t,u=Value.float y t from rx);cases q;exact PySem.W.kia_one PySem.W.kitx_float I.kIn True.intro e (λz=>nomatch z) h
 | @lst a xs ea=>
  cases (show u=Value.ref a from rx)
  obtain⟨_,_,n,_,h1⟩:=(show ObjOk X.prog X.w H s.heap a (.lst xs) from I.hok a _ ea)
  exact PySem.W.kia_one PySem.W.kitx_list I.kIn ⟨_,h1,rfl⟩ e (λz=>nomatch z) h
 | @frz a ob xs ea=>
  cases (show u=Value.ref a from rx)
  obtain⟨_,_,_,n,_,h1⟩:=(show ObjOk X.prog X.w H s.heap a (.frz ob (.lst xs)) from I.hok a _ ea)
  exact PySem.W.kia_one PySem.W.kitx_list I.kIn ⟨_,h1,rfl⟩ e (λz=>nomatch z) h
 | @tup a xs ea=>
  cases (show u=Value.ref a from rx)
  obtain⟨_,_,_,p⟩:=(show ObjOk X.prog X.w H s.heap a (.tup xs) from I.hok a _ ea)
  obtain⟨o,h1,h2,_⟩:=p;exact PySem.W.kia_one PySem.W.kitx_tuple I.kIn ⟨o,h1,h2⟩ e (λz=>nomatch z) h
 | @dK a kvs ea=>
  cases (show u=Value.ref a from rx)
  obtain⟨_,_,vs,_,p⟩:=(show ObjOk X.prog X.w H s.heap a (.dK kvs) from I.hok a _ ea)
  obtain⟨o,es,ep,h1,h2,_⟩:=p;exact PySem.W.kia_one PySem.W.kitx_dict I.kIn ⟨o,h1,h2.1⟩ e (λz=>nomatch z) h
 | @dT a kvs ea=>
  cases (show u=Value.ref a from rx)
  obtain⟨_,_,xs,_,o,es,ep,h1,h2,_⟩:=(show ObjOk X.prog X.w H s.heap a (.dT kvs) from I.hok a _ ea)
  exact PySem.W.kia_one PySem.W.kitx_dict I.kIn ⟨o,h1,h2.1⟩ e (λz=>nomatch z) h
 | @ins a C dx fs ea cl ha hn htk hm=>
  cases (show u=Value.ref a from rx)
  obtain⟨mA,O,_⟩:=mQ I.hok ea;obtain⟨od,J,_⟩:=O.look;exact PySem.W.kia_one (PySem.W.kitx_own (cl.get _) cl.hd ha hn htk hm) I.kIn J e (λz=>nomatch z) h
end
structure Room (k:Nat)(A:Around):Prop where
 hd:A.handled=none
 dp:A.depth+3*k+5<recursionLimit
 un:A.units+16*k+200<cLine
theorem Room.mono {j k:Nat}{A:Around}(r:Room k A)(h:j<=k):Room j A:=⟨r.hd,by have:=r.dp;omega,by have:=r.un;omega⟩
theorem Room.deeper {k:Nat}{A:Around}(r:Room (k+1) A)(env:Env):Room k (A.deeper env):=
 ⟨r.hd,by have:=r.dp;show A.depth+1+3*k+5<_;omega,by have:=r.un;show A.units+3+16*k+200<_;omega⟩
theorem Jb {A:Around}{C:Addr}{us:List Value}{kw:List (Str×Value)}:(A.under (.builtin "type.__call__" ⟨.ref C :: us,kw⟩)).depth=A.depth+1:=by
 first|rfl|simp[Around.under,Code.weight,Code.isCreation,Code.isGuard,Code.isCaller,Code.frames,Code.isFrame,guardIds]
theorem Jc {A:Around}{C:Addr}{us:List Value}{kw:List (Str×Value)}:(A.under (.builtin "type.__call__" ⟨.ref C :: us,kw⟩)).units=A.units+1:=by
 first|rfl|simp[Around.under,Code.cUnits,Code.frames,Code.isFrame]
theorem Room.make {k:Nat}{A:Around}(r:Room (k+1) A)(C:Addr)(us:List Value)(kw:List (Str×Value)):Room k (A.under (.builtin "type.__call__" ⟨.ref C :: us,kw⟩)):=
 ⟨r.hd,by have:=r.dp;rw[Jb];omega,by have:=r.un;rw[Jc];omega⟩
theorem Room.depth {k:Nat}{A:Around}(r:Room k A):A.depth<recursionLimit:=by have:=r.dp;omega
theorem Room.units {k:Nat}{A:Around}(r:Room k A):A.units+64<cLine:=by have:=r.un;omega
def mR:TA:=λ_ H Q=>Q [] H
def vz (ta:TE)(tr:TA):TA:=λσ H Q=>ta σ H λx H1=>tr σ H1 λxs H2=>Q (x :: xs) H2
section
variable {X:Cx}{e:Expr}{es:List Expr}{te:TE}{t:TA}{pos:Pos}
theorem ac:PA X [] mR:=λ_ _ _ _ H Q I h=>Calls.spliced_nil ⟨[],H,I,.nil,h⟩
theorem aa (ha:PE X e te)(hr:PA X es t)(hs:starEach (e :: es) X.env=(false,eval e X.env) :: starEach es X.env:=by rfl):PA X (e :: es) (vz te t):=by
 intro pos Tj s σ H Q I h;rw[hs];show wpAny _ _ (spliced ((false,eval e X.env) :: backTo pos (starEach es X.env))) _ _ s;refine Calls.spliced_cons (thn (ha Tj s σ H _ I h) λu s1 ⟨x,H1,I1,r1,q1⟩=>?_);exact thn (hr pos Tj s1 σ H1 _ I1 q1) λus s2 ⟨xs,H2,I2,r2,q2⟩=>⟨x :: xs,H2,I2,.cons r1 r2,q2⟩
def Ca (t:TA):TE:=λσ H Q=>t σ H λxs H1=>xs.length<=sizeLine∧∀p,H1 p=none->Q (.ref p) (upd H1 p (.tup xs))
def Cb (t:TA):TE:=λσ H Q=>t σ H λxs H1=>xs.length<=sizeLine∧∀p,H1 p=none->Q (.ref p) (upd H1 p (.lst xs))
theorem ji {x1}(h:PA X es t):PE X (.Tuple es x1 pos) (Ca t):=by
 intro Tj s σ H Q I hq;refine wpAny_Tuple_spliced (thn (h pos Tj s σ H _ I hq) λus s1 ⟨xs,H1,I1,r,z,q⟩=>⟨by rw[←r.length];exact z,?_⟩);have hf:H1 s1.heap.objs.size=none:=I1.hok.fresh (am _);refine⟨.ref s1.heap.objs.size,upd H1 s1.heap.objs.size (.tup xs),I1.laid (t':=s1.toks) (λb u e=>Heap.get?_push_of_some _ e) (am _) ?_,rfl,q _ hf⟩;exact⟨z,us,r,⟨_,Heap.get?_push_size _ rfl,rfl,_,rfl⟩⟩
theorem bN (h:PA X es t):PE X (.List es pos) (Cb t):=by
 intro Tj s σ H Q I hq;refine wpAny_List_spliced (thn (h pos Tj s σ H _ I hq) λus s1 ⟨xs,H1,I1,r,z,q⟩=>⟨by rw[←r.length];exact z,?_⟩);have hf:H1 s1.heap.objs.size=none:=I1.hok.fresh (am _);refine⟨.ref s1.heap.objs.size,upd H1 s1.heap.objs.size (.lst xs),I1.laid (t':=s1.toks) (λb u e=>Heap.get?_push_of_some _ e) (am _) ?_,rfl,q _ hf⟩;exact⟨z,us,0,r,Heap.get?_push_size _ rfl⟩
end
abbrev Sp:=List V->Hp->VK->XK->Prop
abbrev CXT:=List Env->Hp->Shared->XK->Value->Shared->Prop
structure Env0 (P:Program)(w:World)(K:W.Frag)(mg:Str->Option Value)(base:Heap)(A:Around)(outer:List Env)(s:Shared)(H:Hp):Prop where
 frames:A.frames=some outer
 mod:Mod K mg base
 bs:∀b o,base.get? b=some o->s.heap.get? b=some o∧H b=none
 bsz:base.objs.size<=s.heap.objs.size
 funs:s.heap.FunFrames base outer
 frf:∀b∈frs outer,H b=none
 hok:HOk P w H s.heap
 bare:AllBare s.gens
def CE (outer:List Env)(P:Program)(w:World)(H:Hp)(s:Shared)(Q:VK)(u:Value)(s':Shared):Prop:=
 ∃v H',s'.os=s.os∧AllBare s'.gens∧Un (frs outer) [] H H' s.heap s'.heap∧HOk P w H' s'.heap∧RelV v u∧Q v H'
def CR (CX:CXT)(outer:List Env)(P:Program)(w:World)(H:Hp)(s:Shared)(Q:VK)(E:XK)(r:Result)(s':Shared):Prop:=
 match r with
 | .ok (.ret u)=>CE outer P w H s Q u s'
 | .ok _=>False
 | .error e=>CX outer H s E e s'
structure FnOk (P:Program)(w:World)(K:W.Frag)(mg:Str->Option Value)(base:Heap)(CX:CXT)(k:Nat)(f:Addr)(fd:FuncData)(ps:List Str)(sp:Sp):Prop where
 len:∀vs H Q E,sp vs H Q E->vs.length=ps.length
 run:∀(A:Around) (outer:List Env) (s:Shared) (H:Hp) (args:Args) (us:List Value) (vs:List V) (Q:VK) (E:XK),Room k A->Env0 P w K mg base A outer s H->BindsTo s fd args (ps.zip us)->Vals vs us->sp vs H Q E->
  codeAny (model P w) A (.call (.ref f) args) (CR CX outer P w H s Q E) s
theorem FnOk.mono {P:Program}{w:World}{K:W.Frag}{mg:Str->Option Value}{base:Heap}{CX:CXT}{j k:Nat}{f:Addr}{fd:FuncData}{ps:List Str}{sp:Sp}(F:FnOk P w K mg base CX j f fd ps sp)(h:j<=k):
  FnOk P w K mg base CX k f fd ps sp:=⟨F.len,λA outer s H args us vs Q E hr=>F.run A outer s H args us vs Q E (hr.mono h)⟩
theorem Env0.make {P:Program}{w:World}{K:W.Frag}{mg:Str->Option Value}{base:Heap}{A:Around}{outer:List Env}{s:Shared}{H:Hp}(e:Env0 P w K mg base A outer s H)(C:Addr)(us:List Value)(kw:List (Str×Value)):
  Env0 P w K mg base (A.under (.builtin "type.__call__" ⟨.ref C :: us,kw⟩)) outer s H:=⟨by first|exact e.frames|(simpa [Around.under,Code.envs,Code.isFrame,pushEnvs] using e.frames),e.mod,e.bs,e.bsz,e.funs,e.frf,e.hok,e.bare⟩
section
variable {X:Cx}{Tj:List (Addr×Obj)}{σ:St}{H:Hp}{s s':Shared}
theorem Inv.env0 (I:Inv X Tj σ H s):Env0 X.prog X.w X.K X.mg X.base X.A X.stack s H:=
 ⟨I.ok.frames,I.ok.mod,I.bs,aE I.ok.bsz I.sz,I.stack,I.stkFree,I.hok,I.bare⟩
theorem Inv.after {Q:VK}{u:Value}(I:Inv X Tj σ H s)(h:CE X.stack X.prog X.w H s Q u s'):EP X Tj σ Q u s':=by
 obtain⟨v,H',os,bare,un,hok,r,q⟩:=h;obtain⟨hh,g,d,t,os'⟩:=s';obtain rfl:os'=s.os:=os;exact⟨v,H',I.call (h':=hh) (g':=g) (d':=d) (t':=t) (ch:=[]) un hok bare (λb z=>absurd z (by simp)),r,q⟩
end
def Cc (sp:Sp)(dvs:List V)(E:XK)(t:TA):TE:=λσ H Q=>t σ H λvs H1=>sp (vs++dvs) H1 Q E
def vB (C:Addr)(m:Str)(sp:Sp)(dvs:List V)(E:XK)(ta:TE)(t:TA):TE:=λσ H Q=>ta σ H λx H1=>∃a dx fs,x=.ref a∧H1 a=some (.ins C dx fs)∧fs.lookup m=none∧
 t σ H1 λvs H2=>sp (x :: (vs++dvs)) H2 Q E
def Cd (C:Addr)(sp:Sp)(dvs:List V)(E:XK)(t:TA):TE:=λσ H Q=>t σ H λvs H1=>∀x dx,H1 x=none->H1 dx=none->dx≠x->
 sp (.ref x :: (vs++dvs)) (upd (upd H1 dx (.own x)) x (.ins C dx [])) (λv H2=>v=.non∧Q (.ref x) H2) E
def Binds (K:W.Frag)(fd:FuncData)(ps:List Str)(ds:List Value):Prop:=
 ∀(s:Shared) (us:List Value),K.In s.heap->(us++ds).length=ps.length->BindsTo s fd ⟨us,[]⟩ (ps.zip (us++ds))
theorem Binds.all {K:W.Frag}{fd:FuncData}{ps:List Str}(h:∀us:List Value,us.length=ps.length->bindArgs fd ⟨us,[]⟩=pure (ps.zip us)):Binds K fd ps []:=λs us _ hl=>by
 rw[q8]at hl ⊢;exact .of_eq (h us hl)
def iO (CX:CXT)(X:Cx)(E:XK):Prop:=∀(Tj:List (Addr×Obj)) (σ:St) (H:Hp) (s:Shared) (e:Value) (s':Shared),Inv X Tj σ H s->CX X.stack H s E e s'->X.xe e s'
section
variable {X:Cx}{CX:CXT}{k:Nat}{f C:Addr}{fd:FuncData}{ps:List Str}{sp:Sp}{dvs:List V}{ds:List Value}{E:XK}{x m:Str}{p pos apos:Pos}{e o:Expr}{es:List Expr}{ta:TE}{t:TA}
theorem vC {Tj:List (Addr×Obj)}{σ:St}{H:Hp}{s:Shared}{Q:VK}{us:List Value}{vs:List V}(F:FnOk X.prog X.w X.K X.mg X.base CX k f fd ps sp) (hr:Room k X.A) (hb:Binds X.K fd ps ds) (hd:Vals dvs ds) (hx:iO CX X E)
  (I:Inv X Tj σ H s) (r:Vals vs us) (h:sp (vs++dvs) H Q E):wpAny (model X.prog X.w) X.A (call (.ref f) us) (EP X Tj σ Q) X.xe s:=by
 have r2:Vals (vs++dvs) (us++ds):=r.append hd;have hl:(us++ds).length=ps.length:=by rw[←r2.length];exact F.len _ _ _ _ h
 refine wpAny_call (codeAny_mono (F.run X.A X.stack s H ⟨us,[]⟩ (us++ds) (vs++dvs) Q E hr I.env0 (hb s us I.kIn hl) r2 h) λr s' hq=>?_)
 cases r with
 | error e=>exact hx Tj σ H s e s' I hq
 | ok fl=>
  cases fl with
  | ret u=>exact I.after hq
  | next=>exact False.elim hq
  | brk=>exact False.elim hq
  | cont=>exact False.elim hq
theorem aN (F:FnOk X.prog X.w X.K X.mg X.base CX k f fd ps sp) (hr:Room k X.A) (hg:Gl X x) (hm:X.mg x=some (.ref f)) (hk:PySem.W.keepIn X.K (.ref f)=true) (hb:Binds X.K fd ps ds) (hd:Vals dvs ds) (hx:iO CX X E)
  (ha:PA X (e :: es) t) (hdb:(x == ("__debug__" : Str))=false:=by decide) (he:starEach (e :: es) X.env=(false,eval e X.env) :: starEach es X.env:=by rfl) (hpl:(backTo pos (starEach es X.env)).any (·.1)=false:=by rfl):
  PE X (.Call (.Name x p) (e :: es) [] pos) (Cc sp dvs E t):=by
 intro Tj s σ H Q I h;refine wpAny_Call_Name_kw (mG I hg hm ?_ hdb);refine PySem.W.callWith_K (h₀:=X.base) I.ok.mod.kin hk (thn (ha pos Tj s σ H _ I h) λus s1 ⟨vs,H1,I1,r,q⟩=>⟨I1.kIn,?_⟩) he hpl;exact vC F hr hb hd hx I1 r q
theorem fF {pl:Sem Bool}(he:PE X o ta) (c:Cls X.K C) (hm:Meth X.K C m f) (F:FnOk X.prog X.w X.K X.mg X.base CX k f fd ps sp) (hr:Room k X.A) (hb:Binds X.K fd ps ds) (hd:Vals dvs ds) (hx:iO CX X E) (ha:PA X (e :: es) t)
  (hst:starEach (e :: es) X.env=(false,eval e X.env) :: starEach es X.env:=by rfl) (hpl:(backTo pos (starEach es X.env)).any (·.1)=false:=by rfl)
  (ht:eval (.Call (.Attribute o m apos) (e :: es) [] pos) X.env=(do
   let ov ←eval o X.env
   standAt apos.atName
   let (f,first) ←holding [ov] (getMethod ov m pl)
   callWith pos f first (backTo pos (starEach (e :: es) X.env)) (backToKw pos (keywordEach [] X.env))):=by rfl):
  PE X (.Call (.Attribute o m apos) (e :: es) [] pos) (vB C m sp dvs E ta t):=by
 intro Tj s σ H Q I h;refine PySem.W.methodCall_KW (pl:=pl) (thn (he Tj s σ H _ I h) λu s1 ⟨x,H1,I1,rx,a,dx,fs,ex,ea,l,q⟩=>?_) ht;subst ex;obtain rfl:u=Value.ref a:=rx;refine vv I1 ea c hm l ?_;refine PySem.W.callWith_K (first:=[.ref a]) (h₀:=X.base) I.ok.mod.kin hm.kp (thn (ha pos Tj s1 σ H1 _ I1 q) λus s2 ⟨vs,H2,I2,r,q2⟩=>⟨I2.kIn,?_⟩) hst hpl;exact vC (us:=.ref a :: us) (vs:=.ref a :: vs) F hr hb hd hx I2 (.cons rfl r) q2
theorem Jd {pl:Sem Bool}(he:PE X o ta) (c:Cls X.K C) (hm:Meth X.K C m f) (F:FnOk X.prog X.w X.K X.mg X.base CX k f fd ps sp) (hr:Room k X.A) (hb:Binds X.K fd ps ds) (hd:Vals dvs ds) (hx:iO CX X E)
  (ht:eval (.Call (.Attribute o m apos) [] [] pos) X.env=(do
   let ov ←eval o X.env
   standAt apos.atName
   let (f,first) ←holding [ov] (getMethod ov m pl)
   callWith pos f first (backTo pos (starEach [] X.env)) (backToKw pos (keywordEach [] X.env))):=by rfl):
  PE X (.Call (.Attribute o m apos) [] [] pos) (vB C m sp dvs E ta mR):=by
 intro Tj s σ H Q I h;refine PySem.W.methodCall_KW (pl:=pl) (thn (he Tj s σ H _ I h) λu s1 ⟨x,H1,I1,rx,a,dx,fs,ex,ea,l,q⟩=>?_) ht;subst ex;obtain rfl:u=Value.ref a:=rx;refine vv I1 ea c hm l ?_;exact PySem.W.callWith_K0 (first:=[.ref a]) I1.kIn hm.kp (vC (us:=[.ref a]) (vs:=[.ref a]) F hr hb hd hx I1 (.cons rfl .nil) q)
structure Mk (K:W.Frag)(C f:Addr):Prop where
 makes:PySem.W.makesIn K C=true
 init:PySem.W.findIn K (.ref C) "__init__" = some (some (.ref f))
 fn:PySem.W.isFn K (.ref f)=true
 kp:PySem.W.keepIn K (.ref C)=true
theorem Je {Tj:List (Addr×Obj)}{σ:St}{H:Hp}{s:Shared}{Q:VK}{us:List Value}{vs:List V}(M:Mk X.K C f) (F:FnOk X.prog X.w X.K X.mg X.base CX k f fd ps sp) (hr:Room (k+1) X.A) (hb:Binds X.K fd ps ds) (hd:Vals dvs ds)
  (hx:iO CX X E) (I:Inv X Tj σ H s) (r:Vals vs us)
  (h:∀x dx,H x=none->H dx=none->dx≠x->sp (.ref x :: (vs++dvs)) (upd (upd H dx (.own x)) x (.ins C dx [])) (λv H2=>v=.non∧Q (.ref x) H2) E):
  wpAny (model X.prog X.w) X.A (call (.ref C) us) (EP X Tj σ Q) X.xe s:=by
 have hq:=h (s.heap.objs.size+1) s.heap.objs.size (I.hok.fresh (i5 _)) (I.hok.fresh (am _)) (cC (lM _));have I2:=Inv.made (C:=C) I;have r2:Vals (V.ref (s.heap.objs.size+1) :: (vs++dvs)) (Value.ref (s.heap.objs.size+1) :: (us++ds)):=.cons rfl (r.append hd);have hl:(Value.ref (s.heap.objs.size+1) :: us++ds).length=ps.length:=by
  have e:=r2.length;rw[F.len _ _ _ _ hq]at e;exact e.symm
 refine wpAny_call (IX (f:=f) I.kIn M.makes M.init (beq_iff_eq.mp M.fn) (codeAny_mono (F.run _ X.stack _ _ ⟨Value.ref (s.heap.objs.size+1) :: us,[]⟩ (Value.ref (s.heap.objs.size+1) :: (us++ds)) _ _ E (hr.make C us [])
  (I2.env0.make C us []) (hb _ (Value.ref (s.heap.objs.size+1) :: us) I2.kIn hl) r2 hq) λr s' hq'=>?_))
 cases r with
 | error e=>exact hx Tj σ _ _ e s' I2 hq'
 | ok fl=>
  cases fl with
  | ret u=>
   obtain⟨v,H',I3,rv,ev,q3⟩:=I2.after hq';subst ev;exact⟨rv,⟨V.ref (s.heap.objs.size+1),H',I3,rfl,q3⟩⟩
  | next=>exact False.elim hq'
  | brk=>exact False.elim hq'
  | cont=>exact False.elim hq'
theorem Ce (M:Mk X.K C f) (F:FnOk X.prog X.w X.K X.mg X.base CX k f fd ps sp) (hr:Room (k+1) X.A) (hg:Gl X x) (hm:X.mg x=some (.ref C)) (hb:Binds X.K fd ps ds) (hd:Vals dvs ds) (hx:iO CX X E)
  (ha:PA X (e :: es) t) (hdb:(x == ("__debug__" : Str))=false:=by decide) (he:starEach (e :: es) X.env=(false,eval e X.env) :: starEach es X.env:=by rfl) (hpl:(backTo pos (starEach es X.env)).any (·.1)=false:=by rfl):
  PE X (.Call (.Name x p) (e :: es) [] pos) (Cd C sp dvs E t):=by
 intro Tj s σ H Q I h;refine wpAny_Call_Name_kw (mG I hg hm ?_ hdb);refine PySem.W.callWith_K (h₀:=X.base) I.ok.mod.kin M.kp (thn (ha pos Tj s σ H _ I h) λus s1 ⟨vs,H1,I1,r,q⟩=>⟨I1.kIn,?_⟩) he hpl;exact Je M F hr hb hd hx I1 r q
end
def PK (X:Cx)(kws:List Keyword)(t:TA):Prop:=
 ∀(pos:Pos) (Tj:List (Addr×Obj)) (s:Shared) (σ:St) (H:Hp) (Q:List V->Hp->Prop),Inv X Tj σ H s->t σ H Q->wpAny (model X.prog X.w) X.A (evalAll ((backToKw pos (keywordEach kws X.env)).map (·.2))) (AP X Tj σ Q) X.xe s
section
variable {X:Cx}{CX:CXT}{k:Nat}{f C:Addr}{fd:FuncData}{ps ks:List Str}{sp:Sp}{E:XK}{x m:Str}{p pos apos kpos:Pos}{e o:Expr}{es:List Expr}{kws:List Keyword}{te ta:TE}{t tk:TA}{nm:Option Str}
theorem Jf:PK X [] mR:=λ_ _ _ _ H Q I h=>wpAny_evalAll_nil ⟨[],H,I,.nil,h⟩
theorem Jg (ha:PE X e te)(hr:PK X kws t):PK X (⟨nm,e,kpos⟩ :: kws) (vz te t):=by
 intro pos Tj s σ H Q I h;show wpAny _ _ (evalAll ((do let v ←eval e X.env;standAt pos;pure v) :: (backToKw pos (keywordEach kws X.env)).map (·.2))) _ _ s;refine wpAny_evalAll_cons (wpAny_bind (thn (ha Tj s σ H _ I h) λu s1 ⟨x,H1,I1,r1,q1⟩=>wpAny_bind (wpAny_standAt (wpAny_pure ?_))));exact thn (hr pos Tj s1 σ H1 _ I1 q1) λus s2 ⟨xs,H2,I2,r2,q2⟩=>⟨x :: xs,H2,I2,.cons r1 r2,q2⟩
variable {g:List Value->List Value->List Value}{gV:List V->List V->List V}
end
structure FnScope (N P:List Str)(sc:Scope):Prop where
 kind:sc.kind=.function
 co:sc.isCoroutine=false
 gen:sc.isGenerator=false
 nd:N.Nodup
 pre:N.take P.length=P
 par:∀x∈P,sc.names.lookup x=some .local∨sc.names.lookup x=some .cell
 nofree:∀y∈sc.names,y.2≠.free
theorem Cf {kindOf:Str->Option NameKind}{x:Str}:∀{binds:List (Str×Value)}{m:Str->Option Value},(∀v,(x,v)∉binds)->bindL kindOf binds m x=m x
 | [],_,_=>rfl
 |(n,v) :: r,m,h=>by
  unfold bindL;rw[Cf λw hw=>h w (bM _ hw)]
  split
  ·have:x≠n:=by rintro rfl;exact h v cD
   simp[this]
  ·rfl
theorem Cg {kindOf:Str->Option NameKind}{x:Str}:∀{binds:List (Str×Value)}{m:Str->Option Value},(∀v,(x,v)∉binds)->bindC kindOf binds m x=m x
 | [],_,_=>rfl
 |(n,v) :: r,m,h=>by
  unfold bindC;rw[Cg λw hw=>h w (bM _ hw)]
  split
  ·rfl
  ·have:x≠n:=by rintro rfl;exact h v cD
   simp[this]
theorem Ch {kindOf:Str->Option NameKind}{x:Str}{v:Value}:∀{P:List Str}{vs:List Value}{i:Nat}{m:Str->Option Value},P.Nodup->P[i]?=some x->vs[i]?=some v->kindOf x=some .local->
  bindL kindOf (P.zip vs) m x=some v
 | [],_,_,_,_,h,_,_=>by simp at h
 | _ :: _,[],_,_,_,_,h,_=>by simp at h
 | p :: P,w :: vs,0,m,nd,h1,h2,hk=>by
  simp at h1 h2;subst h1;subst h2;show bindL kindOf ((p,w) :: P.zip vs) m p=_;unfold bindL;rw[Cf λv hv=>(iI.mp nd).1 (Gm hv).1,if_pos hk];simp
 | p :: P,w :: vs,i+1,m,nd,h1,h2,hk=>by
  show bindL kindOf ((p,w) :: P.zip vs) m x=_;unfold bindL;exact Ch (i:=i) (iI.mp nd).2 (by simpa using h1) (by simpa using h2) hk
theorem Ci {kindOf:Str->Option NameKind}{x:Str}{v:Value}:∀{P:List Str}{vs:List Value}{i:Nat}{m:Str->Option Value},P.Nodup->P[i]?=some x->vs[i]?=some v->kindOf x≠some .local->
  bindC kindOf (P.zip vs) m x=some v
 | [],_,_,_,_,h,_,_=>by simp at h
 | _ :: _,[],_,_,_,_,h,_=>by simp at h
 | p :: P,w :: vs,0,m,nd,h1,h2,hk=>by
  simp at h1 h2;subst h1;subst h2;show bindC kindOf ((p,w) :: P.zip vs) m p=_;unfold bindC;rw[Cg λv hv=>(iI.mp nd).1 (Gm hv).1,if_neg hk];simp
 | p :: P,w :: vs,i+1,m,nd,h1,h2,hk=>by
  show bindC kindOf ((p,w) :: P.zip vs) m x=_;unfold bindC;exact Ci (i:=i) (iI.mp nd).2 (by simpa using h1) (by simpa using h2) hk
def gB (N:List Str)(vs:List V):St:=vs.map some++aC (N.length-vs.length) none
noncomputable def fP (CX:CXT) (P:Program) (w:World) (K:W.Frag) (mg:Str->Option Value) (base:Heap) (N:List Str) (qual:Str) (scope:Scope) (f:Addr) (cd:Value) (A:Around) (outer:List Env) (s:Shared) (H:Hp) (E:XK):Cx where
 prog:=P
 w:=w
 K:=K
 mg:=mg
 base:=base
 A:=A.deeper (envOfC qual scope s.heap.objs.size f cd)
 N:=N
 s₀:=s
 H₀:=H
 env:=envOfC qual scope s.heap.objs.size f cd
 outer:=outer
 stack:=envOfC qual scope s.heap.objs.size f cd :: outer
 ex:=[]
 calm:=true
 fn:=λ_=>true
 pn:=[]
 xe:=λe s'=>wpAny (model P w) (A.deeper (envOfC qual scope s.heap.objs.size f cd)) (leaving (envOfC qual scope s.heap.objs.size f cd) e) (λ_ s''=>CX outer H s E e s'') (λe' s''=>CX outer H s E e' s'') s'
theorem Cj {sc:Scope}{n:Nat}{x:Str}(h:sc.names.lookup x=some .cell):∃c,(cellsFrom n sc.names []).lookup x=some c:=by
 have q:=PySem.W.cellsFrom_some sc.names n [] (.inl h);exact N4.mp q
theorem Jh {CX:CXT}{P:Program}{w:World}{K:W.Frag}{mg:Str->Option Value}{base:Heap}{N ps:List Str}{qual:Str}{scope:Scope}{f:Addr}{cd:Value}{A:Around}{outer:List Env}{s s1:Shared}{H:Hp}{E:XK}{us:List Value}{vs:List V}
  (S:FnScope N ps scope) (hd:A.handled=none) (e0:Env0 P w K mg base A outer s H) (hl:vs.length=ps.length) (r:Vals vs us)
  (x:InCallC s s.heap.objs.size (bindL (envOfC qual scope s.heap.objs.size f cd).kindOf (ps.zip us) λ_=>none) (cellsFrom (s.heap.objs.size+1) scope.names []) (bindC (envOfC qual scope s.heap.objs.size f cd).kindOf (ps.zip us) λ_=>none) s1):
  Inv (fP CX P w K mg base N qual scope f cd A outer s H E) [] (gB N vs) H s1:=by
 have hpl:ps.length<=N.length:=by have:=congrArg q9 S.pre;rw[bT]at this;omega
 obtain⟨h1,tk,rfl,hk⟩:=x.done;have noA:∀b:Addr,b∉(fP CX P w K mg base N qual scope f cd A outer s H E).ex:=λb z=>absurd (show b∈([]:List Addr) from z) (by simp);refine⟨⟨e0.mod,S.kind,rfl,rfl,am _,λy z c h1 h2=>?_,λy hy=>?_,λy c _ h=>?_,λ_=>hd,Around.frames_deeper e0.frames,.inr ⟨rfl,rfl⟩,λb z=>absurd z (noA b),e0.bs,e0.bsz,λb _ _=>noA b,λb z=>absurd z (noA b),e0.funs,e0.frf⟩,
  rfl,e0.bare,Un.kept hk,⟨_,x.toInCall.ns,λi y v h1 h2 h3=>?_⟩,λy c h=>⟨_,x.cell y c h⟩,e0.hok.fresh (am _),λy c h=>?_,λp hp=>absurd (show p∈([]:List (Addr×Obj)) from hp) (by simp),e0.hok.kept hk,?_⟩
 ·exact name_of_addr x.apart (PySem.mem_of_lookup h1) (PySem.mem_of_lookup h2)
 ·have hy:scope.names.lookup y=some .cell∨scope.names.lookup y=some .free:=hy;rcases hy with hy|hy
  ·exact Cj hy
  ·exact absurd rfl (S.nofree _ (PySem.mem_of_lookup hy))
 ·exact bW (x.above y c (PySem.mem_of_lookup h))
 ·have hi:i<vs.length:=by
   unfold gB at h2;by_cases hi:i<vs.length
   ·exact hi
   ·rw[di (by simpa using hi)]at h2;rw[iJ]at h2
    split at h2 <;> cases h2
  have ha:vs[i]?=some v:=by
   unfold gB at h2;rw[b_ (by simpa using hi),az]at h2
   cases e:vs[i]? with
   | none=>rw[e]at h2;cases h2
   | some a=>rw[e]at h2;cases h2;rfl
  obtain⟨u,hu,rv⟩:=r.get ha;have hp:ps[i]?=some y:=by
   rw[←S.pre,Gn (by omega)];exact h1
  have ndP:ps.Nodup:=by rw[←S.pre];exact S.nd.sublist (Go _ _)
  refine⟨u,rv,?_⟩;rcases S.par y (bH hp) with k|k
  ·exact .inl ⟨k,Ch ndP hp hu k⟩
  ·obtain⟨c,e⟩:=Cj (n:=s.heap.objs.size+1) k;refine .inr ⟨.inl k,c,e,?_⟩;have q:=x.cell y c e;rw[Ci ndP hp hu (by show scope.names.lookup y≠_;rw[k];decide)]at q;exact q
 ·exact e0.hok.fresh (bW (x.above y c (PySem.mem_of_lookup h)))
 ·unfold gB;show _=N.length;rw[bU,ae,lN];omega
theorem Ck {CX:CXT}{P:Program}{w:World}{K:W.Frag}{mg:Str->Option Value}{base:Heap}{k:Nat}{f:Addr}{name qual:Str}{params:Arguments}{body:List Stmt}{scope:Scope}{dV kV doc pm cdv ct oc:Value}{an od:Option Addr}
  {osl:Array (Option Value)}{N ps:List Str}{sp:Sp}(lk:K.lookup f=some ⟨oc,od,.func (PySem.W.fnOf name qual params body scope dV kV doc pm an cdv ct),osl⟩) (hcd:PySem.W.codeIn K cdv qual=true) (S:FnScope N ps scope)
  (len:∀vs H Q E,sp vs H Q E->vs.length=ps.length)
  (hbody:∀(A:Around) (outer:List Env) (s:Shared) (H:Hp) (vs:List V) (Q:VK) (E:XK),Room k (A.deeper (envOfC qual scope s.heap.objs.size f cdv))->sp vs H Q E->
   ∃t,PSs (fP CX P w K mg base N qual scope f cdv A outer s H E) body t∧t { nx:=λ_ H'=>Q .non H',rt:=Q } (gB N vs) H):
  FnOk P w K mg base CX (k+1) f (PySem.W.fnOf name qual params body scope dV kV doc pm an cdv ct) ps sp:=by
 refine⟨len,λA outer s H args us vs Q E hr e0 hb r hsp=>?_⟩;have hl:=len _ _ _ _ hsp;have KX:K.In s.heap:=e0.mod.kin.keeps λb o e=>(e0.bs b o e).1;have lim:s.heap.NoLimit:=e0.mod.nolimit.keeps λb o e=>(e0.bs b o e).1;have hkind:∀y∈ps.zip us,scope.names.lookup y.1=some .local∨(scope.names.lookup y.1=some .cell∧((cellsFrom (s.heap.objs.size+1) scope.names []).lookup y.1).isSome=true):=λ⟨n,v⟩ hy=>by
  rcases S.par n (Gm hy).1 with q|q
  ·exact .inl q
  ·exact .inr ⟨q,PySem.W.cellsFrom_some _ _ _ (.inl q)⟩
 refine codeAny_call_function hr.depth (KX _ _ lk) rfl S.co S.gen rfl (PySem.W.codeRec_of KX hcd) (hb _ _ _ _ ?_);refine wpAny_newFunctionEnv_cells S.kind hkind λenv he s1 x=>?_;subst he;refine⟨lim.keeps x.toInCall.keep,codeAny_func ?_⟩;obtain⟨t,ht,hq⟩:=hbody A outer s H vs Q E (hr.deeper _) hsp;have I:Inv (fP CX P w K mg base N qual scope f cdv A outer s H E) [] (gB N vs) H s1:=Jh S hr.hd e0 hl r x;refine wpAny_mono (ht [] s1 (gB N vs) H _ I hq) (λfl s' hs=>?_) λe s' hs=>hs;have fin:∀{σ':St}{H':Hp}{v:V}{u:Value},Inv (fP CX P w K mg base N qual scope f cdv A outer s H E) [] σ' H' s'->RelV v u->Q v H'->CE outer P w H s Q u s':=
  λ{σ' H' v u} J rv q=>⟨v,H',J.os,J.bare,J.base,J.hok,rv,q⟩
 cases fl with
 | ret u=>
  obtain⟨v,σ',H',J,rv,q⟩:=hs;exact fin J rv q
 | next=>
  obtain⟨σ',H',J,q⟩:=hs;exact fin (v:=V.non) (u:=Value.none) J rfl q
 | brk=>
  obtain⟨_,_,_,q⟩:=hs;exact False.elim q
 | cont=>
  obtain⟨_,_,_,q⟩:=hs;exact False.elim q
section
variable {X:Cx}{x:Str}{p pos:Pos}{e:Expr}{es:List Expr}{t:TA}{id T:String}{r:List V->Hp->VK->Prop}
def tCB (r:List V->Hp->VK->Prop)(t:TA):TE:=λσ H Q=>t σ H λvs H1=>r vs H1 Q
theorem aA (hc:fD X (.builtin id) r) (hg:Gl X x) (hm:X.mg x=none) (hv:bootBuiltins x=some (.builtin id)) (ha:PA X (e :: es) t) (hn:x ≠ "__name__" := by decide) (hdb:(x == ("__debug__" : Str))=false:=by decide)
  (he:starEach (e :: es) X.env=(false,eval e X.env) :: starEach es X.env:=by rfl) (hpl:(backTo pos (starEach es X.env)).any (·.1)=false:=by rfl):PE X (.Call (.Name x p) (e :: es) [] pos) (tCB r t):=by
 intro Tj s σ H Q I h;refine wpAny_Call_Name_kw (gT I hg hm hv ?_ hn hdb);exact PyProof.Rows.callWith_builtin1 (thn (ha pos Tj s σ H _ I h) λus s1 ⟨vs,H1,I1,r1,q1⟩=>hc Tj s1 σ H1 vs us Q I1 r1 q1) he hpl
theorem fX (hc:fD X (.type T) r) (hg:Gl X x) (hm:X.mg x=none) (hv:bootBuiltins x=some (.type T)) (ha:PA X (e :: es) t) (hn:x ≠ "__name__" := by decide) (hdb:(x == ("__debug__" : Str))=false:=by decide)
  (he:starEach (e :: es) X.env=(false,eval e X.env) :: starEach es X.env:=by rfl) (hpl:(backTo pos (starEach es X.env)).any (·.1)=false:=by rfl):PE X (.Call (.Name x p) (e :: es) [] pos) (tCB r t):=by
 intro Tj s σ H Q I h;refine wpAny_Call_Name_kw (gT I hg hm hv ?_ hn hdb);exact PyProof.Rows.callWith_type1 (thn (ha pos Tj s σ H _ I h) λus s1 ⟨vs,H1,I1,r1,q1⟩=>hc Tj s1 σ H1 vs us Q I1 r1 q1) he hpl
end
end L2
namespace HT
open PySem PyProof.Rows
section
variable {prog:Program}{w:World}{A:Around}{E:Value->Shared->Prop}{s:Shared}
def sIx (n d:Nat):Option Int->Nat
 | none=>d
 | some v=>if v<0 then (v+(n:Int)).toNat else min v.toNat n
theorem sIx_none (n d:Nat):sIx n d none=d:=rfl
theorem sIx_nat (n d k:Nat):sIx n d (some (k:Int))=min k n:=by
 show (if (k:Int)<0 then ((k:Int)+(n:Int)).toNat else min (k:Int).toNat n)=min k n;rw[if_neg (by omega),eE]
end
end HT
namespace L2
open PySem PySem.Spec PyProof.Rows
abbrev TO:=St->Hp->(Option Int->Hp->Prop)->Prop
def PO (X:Cx)(e:Option Expr)(t:TO):Prop:=
 ∀(Tj:List (Addr×Obj)) (s:Shared) (σ:St) (H:Hp) (Q:Option Int->Hp->Prop),Inv X Tj σ H s->t σ H Q->
  wpAny (model X.prog X.w) X.A (evalPart e X.env) (λu s'=>∃o H',Inv X Tj σ H' s'∧IsPart u o∧Q o H') X.xe s
def Cm:TO:=λ_ H Q=>Q none H
def Cn (t:TE):TO:=λσ H Q=>t σ H λx H1=>∃i,x=.int i∧Q (some i) H1
section
variable {X:Cx}{e:Expr}{te:TE}{lo hi:Option Expr}{tl th:TO}{pos p2:Pos}
theorem jj:PO X none Cm:=by
 intro Tj s σ H Q I h;rw[evalPart_none];exact wpAny_pure ⟨none,H,I,.none,h⟩
theorem gC (h:PE X e te):PO X (some e) (Cn te):=by
 intro Tj s σ H Q I hw;rw[evalPart_some];refine thn (h Tj s σ H _ I hw) λu s1 ⟨x,H1,I1,r1,q1⟩=>?_;obtain⟨i,rfl,q⟩:=q1;obtain⟨t,rfl⟩:=r1;exact⟨some i,H1,I1,.int i t,q⟩
def SlR (X:Cx)(r:V->Option Int->Option Int->Hp->VK->Prop):Prop:=
 ∀(Tj:List (Addr×Obj)) (s:Shared) (σ:St) (H:Hp) (x:V) (v vl vu:Value) (lo hi:Option Int) (sl:Addr) (Q:VK),Inv X Tj σ H s->RelV x v->s.heap.IsSliceOf sl vl vu .none->IsPart vl lo->IsPart vu hi->r x lo hi H Q->
  ∃T id,typeLookup (.type T) "__getitem__" = pure (some (.builtin id))∧s.TypeIs v T∧wpAny (model X.prog X.w) X.A (getItem v (.ref sl)) (EP X Tj σ Q) X.xe s
def tSl (r:V->Option Int->Option Int->Hp->VK->Prop)(te:TE)(tl th:TO):TE:=λσ H Q=>te σ H λx H1=>tl σ H1 λl H2=>th σ H2 λu H3=>r x l u H3 Q
theorem iu {r:V->Option Int->Option Int->Hp->VK->Prop}(hr:SlR X r)(he:PE X e te)(hl:PO X lo tl)(hu:PO X hi th):PE X (.Subscript e (.Slice lo hi none p2) pos) (tSl r te tl th):=by
 intro Tj s σ H Q I h;refine Subscript_ (thn (he Tj s σ H _ I h) λv s1 ⟨x,H1,I1,r1,q1⟩=>?_);refine wpAny_Slice (thn (hl Tj s1 σ H1 _ I1 q1) λvl s2 ⟨l,H2,I2,pl,q2⟩=>thn (hu Tj s2 σ H2 _ I2 q2) λvu s3 ⟨u,H3,I3,pu,q3⟩=>?_);rw[evalPart_none];refine wpAny_pure ?_;have I4:Inv X Tj σ H3 { s3 with heap:=s3.heap.push { cls:=.type "slice",data:=.fields #[vl,vu,.none] } }:=I3.kept (t':=s3.toks) λb ob q=>Heap.get?_push_of_some _ q;obtain⟨T,id,hT,ht,hg⟩:=hr Tj { s3 with heap:=s3.heap.push { cls:=.type "slice",data:=.fields #[vl,vu,.none] } } σ H3 x v vl vu l u s3.heap.objs.size Q I4 r1 (Heap.IsSliceOf.new ..) pl pu q3;show wpAny (model X.prog X.w) X.A (subscriptTail e (.Slice lo hi none p2) v (.ref s3.heap.objs.size)) (EP X Tj σ Q) X.xe { s3 with heap:=s3.heap.push { cls:=.type "slice",data:=.fields #[vl,vu,.none] } };exact tail_any (ops:=[.ref s3.heap.objs.size,v]) ht hT hg (by with_unfolding_all rfl)
def dr (xs:List V)(lo hi:Option Int):List V:=(xs.drop (HT.sIx xs.length 0 lo)).take (HT.sIx xs.length xs.length hi-HT.sIx xs.length 0 lo)
theorem Ji (xs:List V)(lo hi:Option Int):(dr xs lo hi).length<=xs.length:=by
 unfold dr;rw[bT,kh];omega
end
def ixN (n:Nat)(i:Int):Option Nat:=if 0<=i then (if i<n then some i.toNat else none) else if -(n:Int)<=i then some (i+n).toNat else none
def atI {α:Type}(xs:List α)(i:Int):Option α:=(ixN xs.length i).bind λj=>xs[j]?
theorem Co {n:Nat}{i:Int}{j:Nat}(h:ixN n i=some j):seqIndex? i n=some j∧j<n∧-(n:Int)<=i∧i<n:=by
 unfold ixN at h;by_cases h0:0<=i
 ·rw[if_pos h0]at h;by_cases h1:i<n
  ·rw[if_pos h1]at h;have e:i.toNat=j:=Option.some.inj h;exact⟨by rw[seqIndex_of h0 h1,e],by omega,by omega,h1⟩
  ·rw[if_neg h1]at h;cases h
 ·rw[if_neg h0]at h;by_cases h1:-(n:Int)<=i
  ·rw[if_pos h1]at h;have e:(i+n).toNat=j:=Option.some.inj h;exact⟨by rw[seqIndex_neg (by omega) h1,e],by omega,h1,by omega⟩
  ·rw[if_neg h1]at h;cases h
theorem vD {α:Type}{xs:List α}{i:Int}{v:α}(h:atI xs i=some v):∃j,seqIndex? i xs.length=some j∧xs[j]?=some v∧j<xs.length∧-(xs.length:Int)<=i∧i<xs.length:=by
 unfold atI at h
 cases e:ixN xs.length i with
 | none=>rw[e]at h;cases h
 | some j=>
  rw[e]at h;obtain⟨h1,h2,h3,h4⟩:=Co e;exact⟨j,h1,h,h2,h3,h4⟩
theorem eI {α:Type}{xs:List α}{j:Nat}{v:α}(h:xs[j]?=some v):atI xs (j:Int)=some v:=by
 have hj:j<xs.length:=(aV.mp h).1;have e:ixN xs.length (j:Int)=some j:=by
  unfold ixN;rw[if_pos (by omega),if_pos (by omega)];simp
 unfold atI;rw[e];exact h
theorem Cq {α:Type}(xs:List α)(v:α):atI (xs++[v]) (-1)=some v:=by
 have hl:(xs++[v]).length=xs.length+1:=by simp
 have e:ixN (xs++[v]).length (-1)=some xs.length:=by
  unfold ixN;rw[hl,if_neg (by decide),if_pos (by omega)];congr 1;omega
 unfold atI;rw[e];show (xs++[v])[xs.length]?=some v;simp
def Jj (b:Expr):Prop:=∀o i,subscripted b false o i=operate [o,i] (getItem o i)
def IxR (X:Cx)(r:R2):Prop:=
 ∀(value slice:Expr) (Tj:List (Addr×Obj)) (s:Shared) (σ:St) (H:Hp) (x y:V) (v u:Value) (Q:VK),Inv X Tj σ H s->RelV x v->RelV y u->r x y H Q->
  subscripted slice false v u=operate [v,u] (getItem v u)->wpAny (model X.prog X.w) X.A (subscriptTail value slice v u) (EP X Tj σ Q) X.xe s
def MtR (X:Cx)(id:String)(r:V->List V->Hp->VK->Prop):Prop:=
 ∀(Tj:List (Addr×Obj)) (s:Shared) (σ:St) (H:Hp) (x:V) (xs:List V) (v:Value) (us:List Value) (Q:VK),Inv X Tj σ H s->RelV x v->Vals xs us->r x xs H Q->
  wpAny (model X.prog X.w) X.A (call (.builtin id) (v :: us)) (EP X Tj σ Q) X.xe s
section
variable {X:Cx}{a b:Expr}{ta tb:TE}{pos:Pos}
theorem aH {r:R2}(hr:IxR X r)(ha:PE X a ta)(hb:PE X b tb)(hs:Jj b):PE X (.Subscript a b pos) (tOp r ta tb):=by
 intro Tj s σ H Q I h;exact Subscript_ (vj ha hb I h λv u s2 x y H2 I2 rx ry q=>hr a b Tj s2 σ H2 x y v u Q I2 rx ry q (hs _ _))
def mS (K:W.Frag):R2:=λx y H Q=>∃p xs i v,x=.ref p∧y=.int i∧SqL K H p xs∧atI xs i=some v∧Q v H
def vE (K:W.Frag):R2:=λx y H Q=>∃p xs i v,x=.ref p∧y=.int i∧SqT K H p xs∧atI xs i=some v∧Q v H
theorem a_:IxR X (mS X.K):=by
 intro value slice Tj s σ H x y v u Q I rx ry h hs;obtain⟨p,xs,i,z,rfl,rfl,hq,he,q⟩:=h
 cases rx
 obtain⟨t,rfl⟩:=ry;obtain⟨its,r,pl,hz⟩:=I.list hq;obtain⟨j,h1,h2,h3,h4,h5⟩:=vD he;obtain⟨w,ew,rw'⟩:=r.get h2;have hl:=r.length;have hn:=kH;have fin:EP X Tj σ Q w s:=⟨z,H,I,rw',q⟩
 by_cases h0:0<=i
 ·have hj:i.toNat=j:=by
   rw[seqIndex_of h0 h5]at h1;exact Option.some.inj h1
  exact item_listR pl.isList h0 (by omega) (by rw[hj];simpa using ew) fin hs
 ·have hj:(i+(its.toArray.size:Int)).toNat=j:=by
   rw[seqIndex_neg (by omega) h4]at h1;rw[cQ,←hl];exact Option.some.inj h1
  exact subscriptTail_builtinR (x:=w) pl.isList.typeIs slot_list_getitem.lookup
   (wpAny_getItem_list_neg (Q:=λr s'=>r=w∧EP X Tj σ Q r s') pl.isList (by omega) (by rw[cQ] <;> omega) (by omega) (by rw[hj];simpa using ew) ⟨rfl,fin⟩) hs
theorem dS:IxR X (vE X.K):=by
 intro value slice Tj s σ H x y v u Q I rx ry h hs;obtain⟨p,xs,i,z,rfl,rfl,hq,he,q⟩:=h
 cases rx
 obtain⟨t,rfl⟩:=ry;obtain⟨its,r,pl,hz⟩:=I.tuple hq;obtain⟨j,h1,h2,h3,h4,h5⟩:=vD he;obtain⟨w,ew,rw'⟩:=r.get h2;have hl:=r.length;have hn:=kH;have fin:EP X Tj σ Q w s:=⟨z,H,I,rw',q⟩
 exact subscriptTail_builtinR (x:=w) pl.typeIs slot_tuple_getitem.lookup
  (getItem_tuple (j:=j) (Q:=λr s'=>r=w∧EP X Tj σ Q r s') pl (by omega) (by omega) (by rw[cQ,←hl];exact h1) (by simpa using ew) ⟨rfl,fin⟩) hs
theorem Jk (its:List Value)(n j:Nat)(u:Value):Obj.mapSeq (·.setIfInBounds j u) { cls:=.type "list",data:=.seq its.toArray n }={ cls:=.type "list",data:=.seq (its.set j u).toArray n }:=by
 simp[Obj.mapSeq]
theorem Inv.lst {Tj:List (Addr×Obj)}{σ:St}{H:Hp}{s:Shared}{p:Addr}{xs:List V}(I:Inv X Tj σ H s)(h:H p=some (.lst xs)):
  ∃(its:List Value) (n:Nat),Vals xs its∧s.heap.get? p=some { cls:=.type "list",data:=.seq its.toArray n }∧xs.length<=sizeLine:=by
 obtain⟨z,its,n,r,e⟩:=I.hok p _ h;exact⟨its,n,r,e,z⟩
theorem Inv.lstUpd {Tj:List (Addr×Obj)}{σ:St}{H:Hp}{s:Shared}{p:Addr}{xs ys:List V}{its its':List Value}{n n':Nat}{f:Obj->Obj}(I:Inv X Tj σ H s) (h:H p=some (.lst xs))
  (ho:s.heap.get? p=some { cls:=.type "list",data:=.seq its.toArray n }) (hf:f { cls:=.type "list",data:=.seq its.toArray n }={ cls:=.type "list",data:=.seq its'.toArray n' }) (r:Vals ys its') (hz:ys.length<=sizeLine) (t:Nat):
  Inv X Tj σ (upd H p (.lst ys)) { s with heap:=s.heap.update p f,toks:=t }:=by
 have e:(s.heap.update p f).get? p=some { cls:=.type "list",data:=.seq its'.toArray n' }:=by
  rw[Heap.get?_update_self f ho (by rw[hf] <;> rfl),hf]
 refine I.write (x:=p) (e:=p) (by rw[h];trivial) (.inl rfl) (λb u hb q=>(Heap.get?_update_other _ _ (Ne.symm hb)).trans q) ⟨_,e⟩ ?_;exact⟨hz,its',n',r,e⟩
def Cr:V->V->V->Hp->(Hp->Prop)->Prop:=λo i v H Q=>∃p xs k j,o=.ref p∧i=.int k∧H p=some (.lst xs)∧ixN xs.length k=some j∧Q (upd H p (.lst (xs.set j v)))
theorem iw:uY X Cr:=by
 intro Tj s σ H o i v ov iv u Q I ro ri rv h;obtain⟨p,xs,k,j,rfl,rfl,hp,hj,q⟩:=h
 cases ro
 obtain⟨t,rfl⟩:=ri;obtain⟨its,n,r,ho,hz⟩:=I.lst hp;obtain⟨h1,h2,h3,h4⟩:=Co hj;have hl:=r.length;have hn:=kH;have I':Inv X Tj σ (upd H p (.lst (xs.set j v))) { s with heap:=s.heap.update p (Obj.mapSeq (·.setIfInBounds j u)) }:=
  I.lstUpd hp ho (Jk its n j u) (r.set rv j) (by rw[i6];exact hz) s.toks
 by_cases h0:0<=k
 ·have hk:k.toNat=j:=by
   rw[seqIndex_of h0 h4]at h1;exact Option.some.inj h1
  exact PySem.W.ki_setAt ho h0 (by omega) (by rw[cQ,←hl];exact h4) (by rw[hk];exact⟨_,I',q⟩)
 ·have hk:(k+(its.toArray.size:Int)).toNat=j:=by
   rw[seqIndex_neg (by omega) h3]at h1;rw[cQ,←hl];exact Option.some.inj h1
  exact PySem.W.ki_setBack ho (by omega) (by rw[cQ,←hl];exact h3) (by omega) (by rw[hk];exact⟨_,I',q⟩)
theorem Jm (lo hi:Option Int)(n:Nat):(sliceBounds lo hi none n).1=((HT.sIx n 0 lo:Nat):Int)∧(sliceBounds lo hi none n).2.1=((HT.sIx n n hi:Nat):Int)∧(sliceBounds lo hi none n).2.2=1:=by
 refine⟨?_,?_,rfl⟩
 ·cases lo with
  | none=>simp[sliceBounds,HT.sIx]
  | some i=>
   simp only[sliceBounds,HT.sIx,Option.getD_none,show (1:Int) > 0 by decide,if_true];by_cases h:i<0
   ·simp only[h,if_true] <;> omega
   ·simp only[h,if_false] <;> omega
 ·cases hi with
  | none=>simp[sliceBounds,HT.sIx]
  | some i=>
   simp only[sliceBounds,HT.sIx,Option.getD_none,show (1:Int) > 0 by decide,if_true];by_cases h:i<0
   ·simp only[h,if_true] <;> omega
   ·simp only[h,if_false] <;> omega
theorem Jo (its:List Value)(lo hi:Option Int):slicePick its.toArray lo hi none=((its.drop (HT.sIx its.length 0 lo)).take (HT.sIx its.length its.length hi-HT.sIx its.length 0 lo)).toArray:=by
 obtain⟨h1,h2,h3⟩:=Jm lo hi its.toArray.size;unfold slicePick;rw[h1,h2,h3];simp only[sliceRange_one,pick_run,cQ] <;> rfl
def vG (K:W.Frag):V->Option Int->Option Int->Hp->VK->Prop:=λx lo hi H Q=>∃a xs,x=.ref a∧SqL K H a xs∧∀p,H p=none->Q (.ref p) (upd H p (.lst (dr xs lo hi)))
theorem iP:SlR X (vG X.K):=by
 intro Tj s σ H x v vl vu lo hi sl Q I rx hs pl pu h;obtain⟨a,xs,rfl,hx,q⟩:=h
 cases rx
 obtain⟨its,r,ht,hz⟩:=I.list hx;have hlen:=r.length;refine⟨"list",_,slot_list_getitem.lookup,ht.isList.typeIs,?_⟩;refine wpAny_getItem_list_slice ht.isList hs pl pu .none (by simp) ?_ (by rw[cQ] <;> omega);rw[Jo,←hlen];refine⟨.ref s.heap.objs.size,_,I.laid (t':=s.toks) (o:=.lst (dr xs lo hi)) (λb ob q=>Heap.get?_push_of_some _ q) (am _) ?_,rfl,q _ (I.hok.fresh (am _))⟩;exact⟨aE (Ji xs lo hi) hz,_,0,(r.drop (HT.sIx xs.length 0 lo)).take (HT.sIx xs.length xs.length hi-HT.sIx xs.length 0 lo),Heap.get?_push_size _ rfl⟩
def gg:V->Bool
 | .non=>true
 | .bl _=>true
 | .int _=>true
 | .str _=>true
 | _=>false
def eqV:V->V->Bool
 | .non,.non=>true
 | .bl a,.bl b=>a == b
 | .bl a,.int b=>(if a then 1 else 0) == b
 | .int a,.bl b=>a == (if b then 1 else 0)
 | .int a,.int b=>a == b
 | .str a,.str b=>a == b
 | _,_=>false
theorem Jp {A:Around}{s:Shared}{y x:V}{u v:Value}(ry:RelV y u)(rx:RelV x v)(fy:gg y=true)(fx:gg x=true):SeqAt.EqAt A s u v (eqV y x):=by
 cases y with
 | non=>
  cases ry
  cases x with
  | non=>cases rx;exact SeqAt.EqAt.same _
  | bl b=>cases rx;exact SeqAt.EqAt.none_bool b
  | int b=>obtain⟨t,rfl⟩:=rx;exact SeqAt.EqAt.none_int b t
  | str b=>obtain⟨t,rfl⟩:=rx;exact SeqAt.EqAt.none_str b t
  | _=>exact absurd (show false=true from fx) Bool.false_ne_true
 | bl a=>
  cases ry
  cases x with
  | non=>cases rx;exact SeqAt.EqAt.bool_none a
  | bl b=>cases rx;exact SeqAt.EqAt.bool_bool a b
  | int b=>obtain⟨t,rfl⟩:=rx;exact SeqAt.EqAt.bool_int a b t
  | str b=>obtain⟨t,rfl⟩:=rx;exact SeqAt.EqAt.bool_str a b t
  | _=>exact absurd (show false=true from fx) Bool.false_ne_true
 | int a=>
  obtain⟨t',rfl⟩:=ry
  cases x with
  | non=>cases rx;exact SeqAt.EqAt.int_none a t'
  | bl b=>cases rx;exact SeqAt.EqAt.int_bool a t' b
  | int b=>obtain⟨t,rfl⟩:=rx;exact SeqAt.EqAt.int_int a t' b t
  | str b=>obtain⟨t,rfl⟩:=rx;exact SeqAt.EqAt.int_str a t' b t
  | _=>exact absurd (show false=true from fx) Bool.false_ne_true
 | str a=>
  obtain⟨t',rfl⟩:=ry
  cases x with
  | non=>cases rx;exact SeqAt.EqAt.str_none a t'
  | bl b=>cases rx;exact SeqAt.EqAt.str_bool a t' b
  | int b=>obtain⟨t,rfl⟩:=rx;exact SeqAt.EqAt.str_int a t' b t
  | str b=>obtain⟨t,rfl⟩:=rx;exact SeqAt.EqAt.str_str a t' b t
  | _=>exact absurd (show false=true from fx) Bool.false_ne_true
 | _=>exact absurd (show false=true from fy) Bool.false_ne_true
def eqU (x:V)(u:Value):Bool:=match u with
 | .none=>eqV .non x
 | .bool b=>eqV (.bl b) x
 | .int i _=>eqV (.int i) x
 | .str z _=>eqV (.str z) x
 | _=>false
theorem Cs {x y:V}{u:Value}(r:RelV y u)(f:gg y=true):eqU x u=eqV y x:=by
 cases y with
 | non=>cases r;rfl
 | bl b=>cases r;rfl
 | int i=>obtain⟨t,rfl⟩:=r;rfl
 | str z=>obtain⟨t,rfl⟩:=r;rfl
 | _=>exact absurd (show false=true from f) Bool.false_ne_true
theorem vH {x:V}:∀{xs:List V}{us:List Value},Vals xs us->xs.all gg=true->us.any (eqU x)=xs.any λy=>eqV y x
 | _,_,.nil,_=>rfl
 | y :: xs,u :: us,.cons r t,f=>by
  rw[List.all_cons,Bool.and_eq_true]at f;rw[q_,q_,Cs r f.1,vH t f.2]
theorem vI {A:Around}{s:Shared}{x:V}{v:Value}(rx:RelV x v)(fx:gg x=true):∀{xs:List V}{us:List Value},Vals xs us->xs.all gg=true->∀u∈us,SeqAt.EqAt A s u v (eqU x u)
 | _,_,.nil,_=>λu hu=>by cases hu
 | y :: xs,u :: us,.cons r t,f=>λu' hu=>by
  rw[List.all_cons,Bool.and_eq_true]at f;rcases aO.mp hu with rfl|hu
  ·rw[Cs r f.1];exact Jp r rx f.1 fx
  ·exact vI rx fx t f.2 u' hu
def inV (x:V)(xs:List V):Bool:=xs.any λy=>eqV y x
def rIn (K:W.Frag)(neg:Bool):R2:=λx y H Q=>∃p xs,y=.ref p∧(SqL K H p xs∨SqT K H p xs)∧gg x=true∧xs.all gg=true∧Q (.bl (if neg then !inV x xs else inV x xs)) H
theorem Jq:OpR X (compareOp .In) (rIn X.K false):=by
 intro Tj s σ H x y v u Q I rx ry h;obtain⟨p,xs,rfl,hq,fx,fs,q⟩:=h
 cases ry
 rcases hq with hq|hq
 ·obtain⟨its,r,pl,hz⟩:=I.list hq;refine SeqAt.in_listAt (eqU x) pl.isList (λw hw=>vI rx fx r fs w (by simpa using hw)) ⟨.bl _,H,I,rfl,?_⟩;rw[show its.toArray.any (eqU x)=its.any (eqU x) by simp,vH r fs];exact q
 ·obtain⟨its,r,pl,hz⟩:=I.tuple hq;refine SeqAt.in_tupleAt (eqU x) pl (λw hw=>vI rx fx r fs w (by simpa using hw)) ⟨.bl _,H,I,rfl,?_⟩;rw[show its.toArray.any (eqU x)=its.any (eqU x) by simp,vH r fs];exact q
theorem aU:fD X (.builtin "len") (λxs H Q=>∃p ys,xs=[.ref p]∧(SqL X.K H p ys∨SqT X.K H p ys)∧Q (.int ys.length) H):=by
 intro Tj s σ H xs us Q I r h;obtain⟨p,ys,rfl,hq,q⟩:=h;obtain⟨u,rfl,rx⟩:=gY r
 cases rx
 have hn:=kH;rcases hq with hq|hq
 ·obtain⟨its,r',pl,hz⟩:=I.list hq;have hlen:=r'.length;exact Calls.call_len_list pl.isList (by simp only[cQ] <;> omega) ⟨.int ys.length,H,I.tok _,⟨s.toks+1,by rw[cQ,hlen]⟩,q⟩
 ·obtain⟨its,r',pl,hz⟩:=I.tuple hq;have hlen:=r'.length;exact len_tuple pl (by simp only[cQ] <;> omega) ⟨.int ys.length,H,I.tok _,⟨s.toks+1,by rw[cQ,hlen]⟩,q⟩
theorem iy:fD X (.type "list") (λxs H Q=>∃p ys,xs=[.ref p]∧(SqL X.K H p ys∨SqT X.K H p ys)∧∀l,H l=none->Q (.ref l) (upd H l (.lst ys))):=by
 intro Tj s σ H xs us Q I r h;obtain⟨p,ys,rfl,hq,q⟩:=h;obtain⟨u,rfl,rx⟩:=gY r
 cases rx
 have fin:∀(its:List Value),Vals ys its->ys.length<=sizeLine->∀(h':Heap) (c':Nat),(∀b o',s.heap.get? b=some o'->h'.get? b=some o')->
   h'.get? s.heap.objs.size=some { cls:=.type "list",dict:=none,data:=.seq its.toArray c',slots:=#[] }->EP X Tj σ Q (.ref s.heap.objs.size) { s with heap:=h' }:=λits r' hz h' c' kp e=>
  ⟨.ref s.heap.objs.size,_,I.laid (t':=s.toks) kp (am _) (show ObjOk X.prog X.w _ h' _ (.lst ys) from ⟨hz,its,c',r',e⟩),rfl,q _ (I.hok.fresh (am _))⟩
 rcases hq with hq|hq
 ·obtain⟨its,r',pl,hz⟩:=I.list hq;have hlen:=r'.length;obtain⟨o,ho,hc,n,hd⟩:=pl.isList;exact call_list_seq p (.inl rfl) ho hc hd (λh' c' kp e=>fin its r' hz h' c' kp e) (by simp only[cQ] <;> omega)
 ·obtain⟨its,r',pl,hz⟩:=I.tuple hq;have hlen:=r'.length;obtain⟨o,ho,hc,n,hd⟩:=pl;exact call_list_seq p (.inr rfl) ho hc hd (λh' c' kp e=>fin its r' hz h' c' kp e) (by simp only[cQ] <;> omega)
def tyV (K:W.Frag)(T:String)(x:V)(H:Hp):Prop:=match x with
 | .str _=>T = "str"
 | .int _=>T = "int"
 | .ref p=>(T = "list" ∧ ∃xs,SqL K H p xs)∨(T = "tuple" ∧ ∃o,K.lookup p=some o∧o.cls=.type "tuple" ∧ o.dict=none)∨
   (T = "dict" ∧ ((∃kvs,H p=some (.dK kvs))∨∃kvs,H p=some (.dT kvs)))∨(T = "set" ∧ ∃S n,H p=some (.set S n))
 | _=>False
theorem Ct {Tj:List (Addr×Obj)}{σ:St}{H:Hp}{s:Shared}{T:String}{x:V}{v:Value}(I:Inv X Tj σ H s)(r:RelV x v)(ty:tyV X.K T x H):
  s.TypeIs v T∧∀a,v=.ref a->∃ob,s.heap.get? a=some ob∧ob.dict=none:=by
 cases x with
 | str z=>
  obtain⟨t,rfl⟩:=r
  cases (show T = "str" from ty)
  exact⟨typeIs_str s z t,λ_ e=>nomatch e⟩
 | int i=>
  obtain⟨t,rfl⟩:=r
  cases (show T = "int" from ty)
  exact⟨typeIs_int s i t,λ_ e=>nomatch e⟩
 | ref p=>
  cases r
  rcases ty with ⟨rfl,xs,hq⟩|⟨rfl,o,hk,hc,hd⟩|⟨rfl,hk⟩|⟨rfl,S,n,hk⟩
  ·obtain⟨its,_,pl,_⟩:=I.list hq;refine⟨pl.isList.typeIs,λa e=>?_⟩
   cases e
   obtain⟨o,n,e,c,hd,_⟩:=pl;exact⟨o,e,hd⟩
  ·refine⟨⟨o,I.kIn p o hk,hc⟩,λa e=>?_⟩
   cases e
   exact⟨o,I.kIn _ o hk,hd⟩
  ·have z:∃o,s.heap.get? p=some o∧o.ExactDict:=by
    rcases hk with ⟨kvs,hk⟩|⟨kvs,hk⟩
    ·obtain⟨_,_,_,_,o,_,_,e,ex,_⟩:=I.hok p _ hk;exact⟨o,e,ex⟩
    ·obtain⟨_,_,_,_,o,_,_,e,ex,_⟩:=I.hok p _ hk;exact⟨o,e,ex⟩
   obtain⟨o,e,ex⟩:=z;refine⟨⟨o,e,ex.1⟩,λa e2=>?_⟩
   cases e2
   exact⟨o,e,ex.2.1⟩
  ·obtain⟨o,_,_,_,e,ex,_⟩:=I.hok p _ hk;refine⟨⟨o,e,ex.1⟩,λa e2=>?_⟩
   cases e2
   exact⟨o,e,ex.2.1⟩
 | _=>exact False.elim ty
def Cu (K:W.Frag)(T:String)(r:V->List V->Hp->VK->Prop)(to:TE):TE:=λσ H Q=>to σ H λx H1=>tyV K T x H1∧r x [] H1 Q
def tBM (K:W.Frag)(T:String)(r:V->List V->Hp->VK->Prop)(to:TE)(t:TA):TE:=λσ H Q=>to σ H λx H1=>tyV K T x H1∧t σ H1 λxs H2=>r x xs H2 Q
variable {o e:Expr}{es:List Expr}{to:TE}{t:TA}{name:Str}{apos cpos:Pos}{T id:String}{r:V->List V->Hp->VK->Prop}
theorem vJ (pa:PlainAttrs T) (slot:Slot T name id) (hty:typeOf (.builtin id)=pure (.type "method_descriptor")) (hm:MtR X id r) (ho:PE X o to)
  (hbase:attributeBase o name X.env (eval o X.env)=eval o X.env:=by rfl) (hline:(apos.endLine == cpos.line)=true:=by rfl):PE X (.Call (.Attribute o name apos) [] [] cpos) (Cu X.K T r to):=by
 intro Tj s σ H Q I h;refine wpAny_Call_method0_late hbase hline (thn (ho Tj s σ H _ I h) λv s1 ⟨x,H1,I1,r1,ty,q1⟩=>?_);obtain⟨h1,h2⟩:=Ct I1 r1 ty;exact⟨T,id,pa,slot,hty,h1,h2,Calls.callWith_builtin rfl (PySem.evalArgs_none (hm Tj s1 σ H1 x [] v [] Q I1 r1 .nil q1))⟩
theorem fY (pa:PlainAttrs T) (slot:Slot T name id) (hty:typeOf (.builtin id)=pure (.type "method_descriptor")) (hm:MtR X id r) (ho:PE X o to) (ha:PA X (e :: es) t)
  (hbase:attributeBase o name X.env (eval o X.env)=eval o X.env:=by rfl)
  (hfew:((backTo cpos (starEach (e :: es) X.env)).all (λx=>!x.1) && (backToKw cpos (keywordEach [] X.env)).all (λx=>x.1.isSome)
   && decide ((e :: es).length+([]:List Keyword).length+(if ([]:List Keyword).isEmpty then 0 else 1)<30))=true:=by rfl)
  (hline:(apos.endLine == cpos.line)=true:=by rfl) (hs:starEach (e :: es) X.env=(false,eval e X.env) :: starEach es X.env:=by rfl) (hplain:(backTo cpos (starEach es X.env)).any (·.1)=false:=by rfl):
  PE X (.Call (.Attribute o name apos) (e :: es) [] cpos) (tBM X.K T r to t):=by
 intro Tj s σ H Q I h;refine wpAny_Call_method_late hbase hfew hline rfl (thn (ho Tj s σ H _ I h) λv s1 ⟨x,H1,I1,r1,ty,q1⟩=>?_);obtain⟨h1,h2⟩:=Ct I1 r1 ty;refine⟨T,id,pa,slot,hty,h1,h2,?_⟩;have hA:=ha cpos Tj s1 σ H1 _ I1 q1;rw[hs]at hA ⊢;refine Calls.callWith_builtin (by show (false || (backTo cpos (starEach es X.env)).any (·.1))=false;rw[hplain] <;> rfl) (Calls.evalArgs_plain ?_);exact thn hA λus s2 ⟨vs,H2,I2,r2,q2⟩=>hm Tj s2 σ H2 x vs v us Q I2 r1 r2 q2
/- xs.append(e),list.index on a module's tuple .. are MtR facts of 06m -/
end
def MtM (X:Cx)(id:String)(r:V->List V->Hp->VK->Prop):Prop:=
 ∀(Tj:List (Addr×Obj)) (s:Shared) (σ:St) (H:Hp) (x:V) (xs:List V) (v:Value) (us:List Value) (Q:VK),Inv X Tj σ H s->RelV x v->Vals xs us->r x xs H Q->
  wpAny (model X.prog X.w) X.A (call (.builtin id) (v :: us)) (EP X Tj σ Q) X.xe s
theorem Vals.one:∀{x:V}{us:List Value},Vals [x] us->∃u,us=[u]∧RelV x u
 | _,_,.cons r .nil=>⟨_,rfl,r⟩
theorem Vals.zero:∀{us:List Value},Vals [] us->us=[]
 | _,.nil=>rfl
theorem Vals.dropLast {xs:List V}{us:List Value}(h:Vals xs us):Vals xs.dropLast us.dropLast:=by
 induction h with
 | nil=>exact .nil
 | cons r t ih=>
  cases t with
  | nil=>exact .nil
  | cons q t'=>exact .cons r ih
theorem Vals.rep {xs:List V}{us:List Value}(h:Vals xs us):∀k:Nat,Vals (aC k xs).flatten (aC k us).flatten
 | 0=>.nil
 | k+1=>by
  rw[gr,gr,lP,lP];exact Vals.append h (Vals.rep h k)
theorem Jr {α:Type}(l:List α):l.eraseIdx (l.length-1)=l.dropLast:=by
 induction l with
 | nil=>rfl
 | cons a r ih=>
  cases r with
  | nil=>rfl
  | cons b r=>
   have e:(a :: b :: r).length-1=((b :: r).length-1)+1:=by
    have h1:(a :: b :: r).length=r.length+2:=rfl;have h2:(b :: r).length=r.length+1:=rfl;omega
   rw[e,List.eraseIdx_cons_succ,ih]
   all_goals rfl
theorem Cv (its:List Value):∀(k:Nat) (acc:List Value),
  List.foldl (λx1 x2=>x1++x2) acc.toArray (aC k its.toArray)=(acc++(aC k its).flatten).toArray
 | 0,acc=>by simp
 | k+1,acc=>by
  have e:acc.toArray++its.toArray=(acc++its).toArray:=by simp
  have e2:(acc++its)++(aC k its).flatten=acc++(aC (k+1) its).flatten:=by
   rw[gr,lP,Gp]
  rw[←e2,←Cv its k (acc++its),←e,gr,List.foldl_cons]
section
variable {X:Cx}{Tj:List (Addr×Obj)}{σ:St}{H:Hp}{s:Shared}{l b:Addr}{xs ys zs:List V}
theorem Inv.lset {its its':List Value}{n:Nat}{f:Array Value->Array Value}{t':Nat}(I:Inv X Tj σ H s) (hH:H l=some (.lst xs))
  (e:s.heap.get? l=some { cls:=.type "list",data:=.seq its.toArray n }) (hf:f its.toArray=its'.toArray) (hv:Vals ys its') (hz:ys.length<=sizeLine):
  Inv X Tj σ (upd H l (.lst ys)) { s with heap:=s.heap.update l (Obj.mapSeq f),toks:=t' }:=by
 have q:=PySem.IsL.update e f;rw[hf]at q;refine I.write (x:=l) (e:=l) (by rw[hH];exact trivial) (.inl rfl) (λb' u hb hu=>(Heap.get?_update_other s.heap (Obj.mapSeq f) (Ne.symm hb)).trans hu) ⟨_,q⟩ ?_;exact⟨hz,its',_,hv,q⟩
theorem Inv.lnew {its:List Value}{t':Nat}(I:Inv X Tj σ H s)(hv:Vals ys its)(hz:ys.length<=sizeLine):
  Inv X Tj σ (upd H s.heap.objs.size (.lst ys)) { s with heap:=s.heap.push { cls:=.type "list",data:=.seq its.toArray },toks:=t' }:=
 I.laid (λ_ _ q=>Heap.get?_push_of_some _ q) (am _) ⟨hz,its,0,hv,Heap.get?_push_size _ rfl⟩
theorem Inv.fresh (I:Inv X Tj σ H s):H s.heap.objs.size=none:=I.hok.fresh (am _)
theorem Inv.lstM (I:Inv X Tj σ H s)(hH:H l=some (.lst xs)):xs.length<=sizeLine∧∃(its:List Value) (n:Nat),Vals xs its∧xs.length=its.length∧s.heap.get? l=some { cls:=.type "list",data:=.seq its.toArray n }:=by
 obtain⟨z,its,n,r,e⟩:=I.hok l _ hH;exact⟨z,its,n,r,r.length,e⟩
theorem Cw {n:Nat}(h:n<=sizeLine):Builtin.List.listTooLong n=false:=by
 unfold Builtin.List.listTooLong;exact decide_eq_false (by omega)
end
section
variable {X:Cx}
def Cy:V->List V->Hp->VK->Prop:=λx vs H Q=>∃l xs y,x=.ref l∧vs=[y]∧H l=some (.lst xs)∧xs.length<sizeLine∧Q .non (upd H l (.lst (xs++[y])))
theorem e_:MtM X "list.append" Cy:=by
 intro Tj s σ H x vs v us Q I rx rv h;obtain⟨l,xs,y,rfl,rfl,hH,hz,q⟩:=h
 cases rx
 obtain⟨u,rfl,ru⟩:=rv.one;obtain⟨z,its,n,r,hl,e⟩:=I.lstM hH;refine call_meets F.slot_list_append ⟨_,e,rfl⟩ F.entry_list_append (F.args_list_append_2 _ _) (PySem.list_append l its.toArray n u (by rw[cQ];omega)) ⟨e,?_⟩;refine⟨.non,_,I.lset (its':=its++[u]) hH e (by simp) (r.append (.cons ru .nil)) ?_,rfl,q⟩;rw[bU,Gq];omega
def Cz:V->List V->Hp->VK->Prop:=λx vs H Q=>∃l b xs zs,x=.ref l∧vs=[.ref b]∧H l=some (.lst xs)∧H b=some (.lst zs)∧xs.length+zs.length<=sizeLine∧Q .non (upd H l (.lst (xs++zs)))
theorem Oy:MtM X "list.extend" Cz:=by
 intro Tj s σ H x vs v us Q I rx rv h;obtain⟨l,b,xs,zs,rfl,rfl,hH,hB,hz,q⟩:=h
 cases rx
 obtain⟨u,rfl,ru⟩:=rv.one
 cases ru
 obtain⟨z,its,n,r,hl,e⟩:=I.lstM hH;obtain⟨z2,its2,n2,r2,hl2,e2⟩:=I.lstM hB;have hsz:its.toArray.size+its2.toArray.size<=sizeLine:=by rw[cQ,cQ];omega
 have hlong:¬(!its.toArray.isEmpty && Builtin.List.listTooLong (its.toArray.size+its2.toArray.size))=true:=by
  rw[Cw hsz,Bool.and_false];exact Bool.false_ne_true
 refine call_meets F.slot_list_extend ⟨_,e,rfl⟩ F.entry_list_extend (F.args_list_extend_2 _ _)
  (AutoSeq1.list_extend_list_list_0 l its.toArray n b its2.toArray n2 hlong (by rw[cQ];omega) (by omega)) ⟨e,e2,?_⟩
 refine⟨.non,_,I.lset (its':=its++its2) hH e (by simp) (r.append r2) ?_,rfl,q⟩;rw[bU];omega
def CB:V->List V->Hp->VK->Prop:=λx vs H Q=>∃l xs y,x=.ref l∧vs=[]∧H l=some (.lst xs)∧xs[xs.length-1]?=some y∧Q y (upd H l (.lst xs.dropLast))
theorem Js:MtM X "list.pop" CB:=by
 intro Tj s σ H x vs v us Q I rx rv h;obtain⟨l,xs,y,rfl,rfl,hH,hy,q⟩:=h
 cases rx
 have hus:=rv.zero;subst hus;obtain⟨z,its,n,r,hl,e⟩:=I.lstM hH;obtain⟨u,hu,ru⟩:=r.get hy;have hy':its.toArray[its.toArray.size-1]?=some u:=by
  show its.toArray[its.length-1]?=some u;rw[←Array.getElem?_toList,←hl];exact hu
 refine call_meets F.slot_list_pop ⟨_,e,rfl⟩ F.entry_list_pop (F.args_list_pop_1 _) (MeetsSeq.list_pop_last l its.toArray n u hy' (by rw[cQ];omega)) ⟨e,?_⟩;refine⟨y,_,I.lset (its':=its.dropLast) hH e ?_ r.dropLast ?_,ru,q⟩
 ·show its.toArray.eraseIdxIfInBounds (its.toArray.size-1)=its.dropLast.toArray;rw[cQ,List.eraseIdxIfInBounds_toArray,Jr]
 ·rw[N5];omega
def Jt:V->List V->Hp->VK->Prop:=λx vs H Q=>∃l xs,x=.ref l∧vs=[]∧H l=some (.lst xs)∧Q .non (upd H l (.lst []))
def CC:R2:=λx y H Q=>∃l b xs zs,x=.ref l∧y=.ref b∧H l=some (.lst xs)∧H b=some (.lst zs)∧xs.length+zs.length<=sizeLine∧∀p,H p=none->Q (.ref p) (upd H p (.lst (xs++zs)))
theorem iQ:OpR X (binaryOp .Add) CC:=by
 intro Tj s σ H x y v u Q I rx ry h;obtain⟨l,b,xs,zs,rfl,rfl,hH,hB,hz,q⟩:=h
 cases rx
 cases ry
 obtain⟨z,its,n,r,hl,e⟩:=I.lstM hH;obtain⟨z2,its2,n2,r2,hl2,e2⟩:=I.lstM hB;refine PySem.P.add_list e e2 ?_ (by rw[cQ,cQ];omega);have ea:its.toArray++its2.toArray=(its++its2).toArray:=by simp
 rw[ea];exact⟨.ref _,_,I.lnew (t':=s.toks) (r.append r2) (by rw[bU];omega),rfl,q _ I.fresh⟩
def CD:R2:=λx y H Q=>∃l k xs,x=.ref l∧y=.int k∧H l=some (.lst xs)∧-(2 ^ 63)<=k∧k<2 ^ 63∧xs.length*k.toNat<=sizeLine∧
 ∀p,H p=none->Q (.ref p) (upd H p (.lst (aC k.toNat xs).flatten))
theorem Ju {α:Type}(xs:List α)(k:Nat):(aC k xs).flatten.length=k*xs.length:=by
 induction k with
 | zero=>simp
 | succ k ih=>rw[gr,lP,bU,ih,Nat.succ_mul,lQ]
theorem iR:OpR X (binaryOp .Mult) CD:=by
 intro Tj s σ H x y v u Q I rx ry h;obtain⟨l,k,xs,rfl,rfl,hH,h1,h2,hz,q⟩:=h
 cases rx
 obtain⟨t,rfl⟩:=ry;obtain⟨z,its,n,r,hl,e⟩:=I.lstM hH;have hlen:its.toArray.size*k.toNat<=sizeLine:=by rw[cQ,←hl];exact hz
 have hcap:¬its.toArray.size*k.toNat > (2 ^ 63-1) / 8:=by
  have:(sizeLine:Nat)<=(2 ^ 63-1) / 8:=by decide
  omega
 have hfit:¬(!Builtin.List.listFitsIndex k)=true:=by
  rw[fitsIndex_both h1 h2];exact Bool.false_ne_true
 have hlong:¬Builtin.List.listTooLong (its.toArray.size*k.toNat)=true:=by
  rw[Cw hlen];exact Bool.false_ne_true
 have hnew:List.foldl (λx1 x2=>x1++x2) #[] (aC (if its.toArray.isEmpty=true then 0 else k.toNat) its.toArray)=(aC k.toNat its).flatten.toArray:=by
  have f0:∀m:Nat,List.foldl (λx1 x2=>x1++x2) #[] (aC m its.toArray)=(aC m its).flatten.toArray:=λm=>by
   have:=Cv its m [];rw[gO]at this;exact this
  rw[f0]
  cases its with
  | nil=>simp
  | cons a r'=>rw[if_neg (by simp)]
 refine wpAny_binaryOp_repeat_ref (T := "list") (U := "int") (by decide) ⟨_,e,rfl⟩ (λs'=>typeIs_int s' k t) noFill_list_mul F.fills_int_mul F.slot_int_rmul repeat_list F.slot_int_index.lookup
  (call_meets F.slot_int_rmul (typeIs_int s k t) F.entry_int_rmul (F.args_int_rmul_2 _ _) (int___rmul___int_list k t l its.toArray n)
   ⟨e,rfl,⟨_,e,rfl⟩,call_meets F.slot_list_mul ⟨_,e,rfl⟩ F.entry_list_mul (F.args_list_mul_2 _ _) (AutoListH.list___mul___list_int_3 l its.toArray n k t hfit hcap hlong) ⟨e,?_⟩⟩)
 rw[hnew];exact⟨.ref _,_,I.lnew (t':=s.toks) (r.rep k.toNat) (by rw[Ju,gP];exact hz),rfl,q _ I.fresh⟩
end
end L2
namespace Att
open PySem PySem.W PySem.Calls PyProof.Rows
theorem Jv {P:Params}{h:Heap}:∀(ns:List Int) (vs:List Value),WellAll P h vs (ns.map WData.int)->IntsAre vs ns:=by
 intro ns
 induction ns with
 | nil=>
  intro vs w;rw[xD]at w
  cases w
  exact .nil
 | cons n ns ih=>
  intro vs w;rw[c_]at w
  cases w with
  | cons a b=>
   cases a
   exact .cons _ _ (ih _ b)
theorem Jw {l:OpenLaw}{n:Nat}(hn:l.most=some n){P:Params}{h:Heap}{args:List WData}{vals:List Value}
  (hpre:l.row.toRowW.claim.pre args=true) (hwl:WellAll P h vals args):
  ∃a vs ns,vals=[Value.ref a]∧args=[WData.list (ns.map WData.int)]∧h.get? a=some { cls:=.type "list",data:=.seq vs.toArray }∧IntsAre vs ns∧ns.length<=n:=by
 have hsh:WShape.hasAll [] args [.list .int]=true:=(pre_splitW hpre).1;have hc:l.pre.holds [] { args:=args }=true:=(pre_splitW hpre).2;obtain⟨d,r,rfl,h1,h2⟩:=hasAllW_cons hsh;obtain rfl:=hasAllW_nil h2;obtain⟨xs,rfl,h3⟩:=hasW_list h1;obtain⟨ns,rfl⟩:=items_int h3;have hlen:ns.length<=n:=by
  unfold OpenLaw.pre at hc;have h4:(WTm.not (.lt (.lit (.int (n:Int))) (.len (.arg 0)))).holds [] { args:=[.list (ns.map .int)] }=true:=by
   have h4:=(holds_andW hc).1;rw[hn]at h4;exact h4
  have h5:=condW_of h4 (w_not (w_lt w_lit (w_len_list (w_arg rfl))));rw[ae]at h5;refine lU λq=>?_;have q':(n:Int)<((ns.length:Nat):Int):=by omega
  first
   |(rw[decide_eq_true q']at h5;exact absurd h5 (by decide))
   |(simp at h5;omega)
 cases hwl with
 | cons w1 w2=>
  cases w2
  cases w1 with
  | list ho hall=>exact⟨_,_,ns,rfl,rfl,ho,Jv ns _ hall,hlen⟩
theorem Jx (l:OpenLaw)(args:List WData):l.row.toRowW.claim.post args (.bool true) args=true:=
 postW_of (r:=l.row.toRowW) (X:=(true == true))
  (show WShape.has [] (.bool true) .bool=true by first|rfl|decide|simp[WShape.has,WShape.arms,WShape.armsAll])
  (show (WTm.eq .res (.lit (.bool true))).value [] { args:=args,res:=some (.bool true),after:=args }=some (.bool (true == true)) from w_eq_bool (w_res rfl) w_lit) rfl
theorem attach_call {l:OpenLaw}{n:Nat}{q:Program}{loose:List Str}{XP:(Str->Option Value)->Heap->Prop}{YP:World->Heap->Prop}{d:DefRec}
  (hn:l.most=some n) (hdf:d.params.defaults=[])
  (call:∀(w:World) (s₀ s₁:Shared) (mg mb:Str->Option Value) (fa:Addr) (o:Obj) (pm cd doc:Value) (a:Addr) (vs:List Value) (ns:List Int),
   Ground q loose [] XP w s₀ mg mb s₁.heap->YP w s₁.heap->
   s₁.heap.get? fa=some o->o.data=.func (docDef d.name d.params d.body d.scope pm cd doc)->s₁.heap.CodeRec cd d.name->mg d.name=some (.ref fa)->
   s₁.heap.get? a=some { cls:=.type "list",data:=.seq vs.toArray }->IntsAre vs ns->ns.length<=n->s₁.gens=#[]->
   codeAny (model l.prog w) callerA (.call (.ref fa) ⟨[.ref a],[]⟩) (λr s'=>r=.ok (.ret (.bool true))∧OldK s₁.heap s'.heap∧s'.os=s₁.os∧AllBare s'.gens) s₁):
  WalkO q loose XP YP l.row.toRowW d [] (λf vs=>PySem.call f vs):=by
 intro w s₀ s₁ mg mb G Y fa o pm cd doc dV kV ho hd hcd hD hmg hg args vals as hpre hlay hrd hwl hlo;obtain rfl:dV=.none:=Dflts.none hD hdf;obtain rfl:kV=.none:=Dflts.noKw hD;obtain⟨a,vs,ns,rfl,rfl,hobj,hints,hlen⟩:=Jw hn hpre hwl;refine enter_call (codeAny_mono (call w s₀ s₁ mg mb fa o pm cd doc a vs ns G Y ho (fd_plain hd) hcd hmg hobj hints hlen hg) λr s' hq=>?_);obtain⟨rfl,h2,h3,h4⟩:=hq;exact⟨.inl ⟨.bool true,.bool true,[],rfl,λ_=>rfl,.bool true,Jx l _,λ_=>⟨List.Pairwise.nil,λ_ hm=>(nomatch hm)⟩⟩,h2,h3,h4⟩
section
variable {prog:Program}{w:World}{A:Around}{E:Value->Shared->Prop}{s:Shared}{K:Frag}
def Oz (h:Heap)(L d:Addr):List (Addr×Obj):=(a8 h.objs.size).filterMap λa=>if a=L∨a=d then none else (h.get? a).map λo=>(a,o)
end
end Att
namespace L2
open PySem PySem.Spec PyProof.Rows
theorem CF:∀{vs:List Value}{ns:List Int},IntsAre vs ns->Vals (ns.map V.int) vs
 | _,_,.nil=>.nil
 | _,_,.cons n t h=>.cons ⟨t,rfl⟩ (CF h)
def vK (H:Hp):Prop:=∀b,H b=none∨∃o xs,H b=some (.frz o (.lst xs))
theorem Jy {P:Program}{w:World}{K:W.Frag}{mg mb:Str->Option Value}{CX:CXT}{k:Nat}{fa a:Addr}{fd:FuncData}{x:Str}{sp:Sp}{s₁:Shared}{vs:List Value}{ns:List Int}
  (KX:K.In s₁.heap) (hns:s₁.heap.Ns mainGlobals mg) (hb:s₁.heap.Ns builtinsNs mb) (hbb:∀x:Str,x ≠ "__name__" -> mb x=bootBuiltins x) (hlim:s₁.heap.NoLimit) (hg:s₁.gens=#[])
  (ha:s₁.heap.get? a=some { cls:=.type "list",data:=.seq vs.toArray }) (hi:IntsAre vs ns) (hl:ns.length<=sizeLine) (hr:Room k callerA)
  (F:∀base:Heap,K.In base->base.Ns mainGlobals mg->FnOk P w K mg base CX k fa fd [x] sp) (hbind:∀(s:Shared) (u:Value),BindsTo s fd ⟨[u],[]⟩ [(x,u)])
  (hsp:∀H:Hp,vK H->SqL K H a (ns.map V.int)->sp [.ref a] H (λv _=>v=.bl true) λ_ _ _=>False)
  (hCX:∀H e s',CX [] H s₁ (λ_ _ _=>False) e s'->False):
  codeAny (model P w) callerA (.call (.ref fa) ⟨[.ref a],[]⟩) (λr s'=>r=.ok (.ret (.bool true))∧OldK s₁.heap s'.heap∧s'.os=s₁.os∧AllBare s'.gens) s₁:=by
 have rv:=CF hi;have lenV:=hi.length;have core:∀H:Hp,vK H->SqL K H a (ns.map V.int)->HOk P w H s₁.heap->(∀b,H b≠none->b=a)->(H a≠none->K.lookup a=none)->
   codeAny (model P w) callerA (.call (.ref fa) ⟨[.ref a],[]⟩) (λr s'=>r=.ok (.ret (.bool true))∧OldK s₁.heap s'.heap∧s'.os=s₁.os∧AllBare s'.gens) s₁:=by
  intro H hO hS hok hA hK;have base_of:∀{b:Addr}{o:Obj},s₁.heap.get? b=some o->H b=none->(iq s₁.heap H).get? b=some o:=λe n=>Ip e n;have noA:∀{b:Addr}{o:Obj}{es:Array DictEntry}{ep:Nat},s₁.heap.get? b=some o->o.data=.dict es ep->H b=none:=λ{b o es ep} e d=>by
   cases q:H b with
   | none=>rfl
   | some u=>
    have e':b=a:=hA b (by rw[q];simp);subst e';rw[ha]at e;cases e;have d':Data.seq vs.toArray _=Data.dict es ep:=d
    cases d'
  have nsK:∀{b:Addr}{m:Str->Option Value},s₁.heap.Ns b m->(iq s₁.heap H).Ns b m:=λ{b m} ⟨o,es,ep,e,d,r⟩=>⟨o,es,ep,base_of e (noA e d),d,r⟩
  have hKb:K.In (iq s₁.heap H):=λb o e=>base_of (KX b o e) (by
   cases q:H b with
   | none=>rfl
   | some u=>
    have e':b=a:=hA b (by rw[q];simp);subst e';rw[hK (by rw[q];simp)]at e;cases e)
  have hM:Mod K mg (iq s₁.heap H):=⟨hKb,nsK hns,⟨mb,nsK hb,hbb⟩,let ⟨mc,h1,h2⟩:=hlim;⟨mc,nsK h1,h2⟩⟩
  have e0:Env0 P w K mg (iq s₁.heap H) callerA [] s₁ H:=⟨rfl,hM,λb o e=>Iq e,xC (Im _ _),trivial,λb hb=>absurd (show b∈([]:List Addr) from hb) (by simp),hok,.of_eq hg⟩
  refine codeAny_mono ((F _ hKb (nsK hns)).run callerA [] s₁ H ⟨[.ref a],[]⟩ [.ref a] [.ref a] _ _ hr e0 (hbind s₁ (.ref a)) (.cons rfl .nil) (hsp H hO hS)) λr s' h=>?_
  cases r with
  | error e=>exact (hCX H e s' h).elim
  | ok fl=>
   cases fl with
   | next=>exact False.elim h
   | brk=>exact False.elim h
   | cont=>exact False.elim h
   | ret u=>
    obtain⟨v,H',os,bare,un,hok',r',q⟩:=h;have q':v=.bl true:=q;subst q';obtain rfl:u=Value.bool true:=r';refine⟨rfl,OldK.of_keep λb o e=>?_,os,bare⟩
    cases q:H b with
    | none=>exact un.keep b o e q (by intro z;exact absurd (show b∈([]:List Addr) from z) (by simp)) (by simp)
    | some u=>
     rcases hO b with z|⟨ob,xs,z⟩
     ·rw[q]at z;cases z
     ·have z2:=un.frzs b ob _ z;obtain⟨e1,_⟩:=hok b _ z;obtain⟨e2,_⟩:=hok' b _ z2;rw[e]at e1;cases e1;exact e2
 cases hk:K.lookup a with
 | some o=>
  have e:=KX a o hk;rw[ha]at e
  cases e
  refine core (λ_=>none) (λ_=>.inl rfl) (.inr ⟨_,vs.toArray,_,hk,rfl,rfl,rfl,by rw[cQ,lenV];exact hl,by simpa using rv⟩) (λb u z=>by have z':(none:Option HO)=some u:=z;cases z') (λb z=>absurd rfl z) λz=>absurd rfl z
 | none=>
  refine core (λb=>if b=a then some (.frz { cls:=.type "list",data:=.seq vs.toArray } (.lst (ns.map V.int))) else none) (λb=>?_) (.inl (.inr ⟨{ cls:=.type "list",data:=.seq vs.toArray },if_pos rfl⟩)) (λb u z=>?_) (λb z=>?_) λ_=>hk
  ·by_cases hb:b=a
   ·exact .inr ⟨_,_,if_pos hb⟩
   ·exact .inl (if_neg hb)
  ·by_cases hb:b=a
   ·have z':=(if_pos hb).symm.trans z
    cases z'
    subst hb;exact⟨ha,by rw[ae];exact hl,vs,_,rv,ha⟩
   ·have z':=(if_neg hb).symm.trans z
    cases z'
  ·by_cases hb:b=a
   ·exact hb
   ·exact absurd (if_neg hb) z
theorem Jz {l:PySem.W.OpenLaw}{n k:Nat}{q:Program}{loose:List Str}{XP:(Str->Option Value)->Heap->Prop}{YP:World->Heap->Prop}{d:DefRec}{K:Params->W.Frag}{CX:World->CXT}{sp:World->Sp}{x:Str}
  (hn:l.most=some n) (hn2:n<=sizeLine) (hdf:d.params.defaults=[]) (hr:Room k callerA)
  (hY:∀(w:World) (h:Heap),YP w h->(K w.params).In h)
  (F:∀(w:World) (mg:Str->Option Value) (fa:Addr) (h:Heap),(K w.params).In h->h.Ns mainGlobals mg->mg d.name=some (.ref fa)->
   ∃fd:FuncData,(∀(s:Shared) (u:Value),BindsTo s fd ⟨[u],[]⟩ [(x,u)])∧
    ∀base:Heap,(K w.params).In base->base.Ns mainGlobals mg->FnOk l.prog w (K w.params) mg base (CX w) k fa fd [x] (sp w))
  (hsp:∀(w:World) (H:Hp) (a:Addr) (ns:List Int),ns.length<=n->vK H->SqL (K w.params) H a (ns.map V.int)->sp w [.ref a] H (λv _=>v=.bl true) λ_ _ _=>False)
  (hCX:∀(w:World) (H:Hp) (s:Shared) (e:Value) (s':Shared),CX w [] H s (λ_ _ _=>False) e s'->False):
  PySem.W.WalkO q loose XP YP l.row.toRowW d [] (λf vs=>PySem.call f vs):=by
 refine Att.attach_call hn hdf λw s₀ s₁ mg mb fa o pm cd doc a vs ns G Y ho hd hcd hmg hobj hints hlen hg=>?_;have KX:=hY w _ Y;obtain⟨fd,hb,hF⟩:=F w mg fa _ KX G.T.g hmg;exact Jy KX G.T.g G.T.b G.T.builtins G.T.nolimit hg hobj hints (aE hlen hn2) hr hF hb (λH hO hS=>hsp w H a ns hlen hO hS) λH e s'=>hCX w H s₁ e s'
def kJ (s:Stmt):Arguments:=match s with
 | .FunctionDef _ a _ _ _ _ _ _ _ _=>a
 | _=>{ posonlyargs:=[],args:=[],vararg:=none,kwonlyargs:=[],kw_defaults:=[],kwarg:=none,defaults:=[] }
def jk (s:Stmt):List Stmt:=match s with
 | .FunctionDef _ _ b _ _ _ _ _ _ _=>b
 | _=>[]
def aR (s:Stmt):Scope:=match s with
 | .FunctionDef _ _ _ _ _ _ sc _ _ _=>sc
 | _=>{ kind:=.function,names:=[],isGenerator:=false,isCoroutine:=false }
abbrev CX0:CXT:=λ_ _ _ _ _ _=>False
abbrev E0:XK:=λ_ _ _=>False
theorem aD {X:Cx}:iO CX0 X E0:=λ_ _ _ _ _ _ _ h=>h.elim
structure Fun (K:W.Frag)(x qual:Str)(st:Stmt)(f:Addr)(fd:FuncData):Prop where
 ex:∃(oc:Value) (od:Option Addr) (kV doc pm:Value) (an:Option Addr) (cdv ct:Value) (osl:Array (Option Value)),
  fd=PySem.W.fnOf x qual (kJ st) (jk st) (aR st) .none kV doc pm an cdv ct∧K.lookup f=some ⟨oc,od,.func fd,osl⟩∧PySem.W.codeIn K cdv qual=true
 kp:PySem.W.keepIn K (.ref f)=true
section
variable {P:Program}{w:World}{K:W.Frag}{mg:Str->Option Value}{base:Heap}
theorem Fun.ok {x qual:Str}{st:Stmt}{f:Addr}{fd:FuncData}{N ps:List Str}{k:Nat}{sp:Sp}(F:Fun K x qual st f fd) (S:FnScope N ps (aR st)) (len:∀vs H Q E,sp vs H Q E->vs.length=ps.length)
  (hbody:∀(cdv:Value) (A:Around) (outer:List Env) (s:Shared) (H:Hp) (vs:List V) (Q:VK) (E:XK),Room k (A.deeper (envOfC qual (aR st) s.heap.objs.size f cdv))->sp vs H Q E->
   ∃t,PSs (fP CX0 P w K mg base N qual (aR st) f cdv A outer s H E).nox (jk st) t∧t { nx:=λ_ H'=>Q .non H',rt:=Q } (gB N vs) H):FnOk P w K mg base CX0 (k+1) f fd ps sp:=by
 obtain⟨oc,od,kV,doc,pm,an,cdv,ct,osl,rfl,lk,hcd⟩:=F.ex;refine Ck lk hcd S len λA outer s H vs Q E hr hsp=>?_;obtain⟨t,h,q⟩:=hbody cdv A outer s H vs Q E hr hsp;exact⟨t,h.nox,q⟩
theorem Fun.binds {x qual:Str}{st:Stmt}{f:Addr}{fd:FuncData}{ps:List Str}(F:Fun K x qual st f fd)
  (h:∀(kV doc pm:Value) (an:Option Addr) (cdv ct:Value) (us:List Value),us.length=ps.length->bindArgs (PySem.W.fnOf x qual (kJ st) (jk st) (aR st) .none kV doc pm an cdv ct) ⟨us,[]⟩=pure (ps.zip us)):Binds K fd ps []:=by
 obtain⟨oc,od,kV,doc,pm,an,cdv,ct,osl,rfl,lk,hcd⟩:=F.ex;exact .all (h kV doc pm an cdv ct)
theorem JA {x qual:Str}{st:Stmt}{f:Addr}{oc:Value}{od an:Option Addr}{osl:Array (Option Value)}{kV doc pm cdv ct:Value}(l:K.lookup f=some ⟨oc,od,.func (PySem.W.fnOf x qual (kJ st) (jk st) (aR st) .none kV doc pm an cdv ct),osl⟩)
  (c:PySem.W.codeIn K cdv qual=true) (k:PySem.W.keepIn K (.ref f)=true):Fun K x qual st f (PySem.W.fnOf x qual (kJ st) (jk st) (aR st) .none kV doc pm an cdv ct):=⟨⟨oc,od,kV,doc,pm,an,cdv,ct,osl,rfl,l,c⟩,k⟩
end
theorem aX {n:Nat}(h:n<=1000):n<sizeLine:=cE h (by decide)
section
variable {X:Cx}
theorem pv (i:Nat){x:Str}{pos:Pos}(hN:X.N[i]?=some x:=by rfl) (hv:Vis X.env.scope x:=by first|exact Or.inl rfl|exact Or.inr (Or.inl rfl)|exact Or.inr (Or.inr rfl)) (hd:(x == ("__debug__" : Str))=false:=by decide)
  (hcd:(x == ("__classdict__" : Str))=false:=by decide):PE X (.Name x pos) (uX i):=Iu hN hv hd hcd
end
theorem bJ {c A B:Prop}[Decidable c](h1:c->A)(h2:¬c->B):if c then A else B:=by
 by_cases h:c
 ·rw[if_pos h];exact h1 h
 ·rw[if_neg h];exact h2 h
def Same (H H':Hp):Prop:=∀b o,H b=some o->H' b=some o
theorem Same.refl (H:Hp):Same H H:=λ_ _ h=>h
theorem Same.trans {H H1 H2:Hp}(a:Same H H1)(b:Same H1 H2):Same H H2:=λc o h=>b c o (a c o h)
theorem Same.free {H H':Hp}(e:Same H H'){l:Addr}(h:H' l=Option.none):H l=Option.none:=by
 cases q:H l with
 | none=>rfl
 | some o=>
  rw[e l o q]at h
  cases h
theorem Same.seq {K:W.Frag}{H H':Hp}{a:Addr}{xs:List V}(e:Same H H')(h:SqL K H a xs):SqL K H' a xs:=by
 rcases h with (h|⟨o,h⟩)|h
 ·exact .inl (.inl (e _ _ h))
 ·exact .inl (.inr ⟨o,e _ _ h⟩)
 ·exact .inr h
@[reducible] def blk (X:Cx) (x:Str) (fv:List (Nat×Str)) (scope:Scope) (cl:List (Str×Addr)) (C:Addr) (s:Shared) (H:Hp) (fp:List Addr):Cx where
 prog:=X.prog
 w:=X.w
 K:=X.K
 mg:=X.mg
 base:=X.base
 A:=X.A
 N:=x :: fv.map (·.2)
 s₀:=s
 H₀:=H
 env:=compEnvC scope cl C X.env
 outer:=X.stack
 stack:=X.stack
 ex:=fp
 fn:=λ_=>false
 calm:=X.calm
 pn:=[]
 xe:=λ_ _=>False
def bst (fv:List (Nat×Str))(σ:St)(v:Option V):St:=v :: fv.map λp=>(σ[p.1]?).getD none
structure BlkOk (X:Cx)(x:Str)(fv:List (Nat×Str))(scope:Scope)(cl:List (Str×Addr)):Prop where
 clos:closureFor scope X.env=pure cl
 nocell:∀y∈scope.names,y.2≠.cell
 kind:scope.kind=.function
 names:∀y∈scope.names,y.2=.local->scope.names.lookup y.1=some .local
 here:scope.names.lookup x=some .local
 sub:∀y c,cl.lookup y=some c->X.env.cells.lookup y=some c
 has:∀y,((relabel scope X.env).names.lookup y=some .cell∨(relabel scope X.env).names.lookup y=some .free)->∃c,cl.lookup y=some c
 fvs:∀p∈fv,p.2≠x∧X.N[p.1]?=some p.2∧(X.env.scope.names.lookup p.2=some .cell∨X.env.scope.names.lookup p.2=some .free)∧
  ((relabel scope X.env).names.lookup p.2=some .cell∨(relabel scope X.env).names.lookup p.2=some .free)∧∃c,cl.lookup p.2=some c
theorem vL {prog:Program}{w:World}{A:Around}{R:Result->Shared->Prop}{s:Shared}{elt target iter:Expr}{scope:Scope}{pos:Pos}{it acc:Value}{env:Env}(I:Nat->Shared->Prop)
  (turn:∀n s (E:Value->Shared->Prop),I n s->wpAny (model prog w) A (pyNext it) (λr s₁=>match r with
   | none=>R (.ok .next) s₁
   | some v=>wpAny (model prog w) A (letOwnedTupleGo target it v) (λ_ s₂=>wpAny (model prog w) A (assign target env v) (λ_ s₃=>wpAny (model prog w) A (eval elt env) (λx s₄=>
     wpAny (model prog w) A (call (.builtin "list.append") [acc,x]) (λ_ s₅=>∃m,m<n∧I m s₅) E s₄) E s₃) E s₂) E s₁) E s)
  (n:Nat) (h:I n s):
  codeAny (model prog w) A (.compLoop (.ListComp elt [⟨target,iter,[],0⟩] scope pos) 0 it acc env) R s:=by
 refine codeAny_loop rfl I (λn s hI=>?_) n h;show wpAny _ _ ((compTurn (.ListComp elt [⟨target,iter,[],0⟩] scope pos) 0 it acc env).onRaise (λx=>do noteFrame x env;theTreesLotGoes x)) _ _ s;refine wpAny_noted ?_;rw[PySem.compTurn_list1];refine wpAny_bind (wpAny_standAt (wpAny_bind (wpAny_mono (turn n s _ hI) (λr s₁ h₁=>?_) λ_ _ h'=>h')))
 cases r with
 | none=>exact wpAny_pure h₁
 | some v=>
  exact wpAny_bind (thn h₁ λ_ s₂ h₂=>wpAny_bind (thn h₂ λ_ s₃ h₃=>wpAny_bind (wpAny_bind (thn h₃ λx s₄ h₄=>wpAny_bind (thn h₄ λ_ s₅ h₅=>wpAny_pure (wpAny_pure ⟨rfl,h₅⟩))))))
section
variable {X:Cx}{elt iter:Expr}{x:Str}{px:Pos}{fv:List (Nat×Str)}{scope:Scope}{cl:List (Str×Addr)}{pos:Pos}{te:TE}{wi:TI}
def kK (fv:List (Nat×Str))(wi:TI)(te:TE):TE:=λσ H Q=>wi σ H λJ H1=>∀D,H1 D=none->∃W:Nat->Nat->Hp->Prop,(∃m,W 0 m (upd H1 D (.lst [])))∧∀i m H,W i m H->
 (J.stop i H∧Q (.ref D) H)∨(J.go i H∧∃N:Hp->Prop,(∀H',N H'->∃m',m'<m∧W (i+1) m' H')∧∀v H',J.yld i H v H'->te (bst fv σ (some v)) H' λy H2=>∃ys,H2 D=some (.lst ys)∧ys.length<sizeLine∧N (upd H2 D (.lst (ys++[y]))))
theorem JB {Tj:List (Addr×Obj)}{σ:St}{H:Hp}{s:Shared}{fp:List Addr}{C:Addr}(B:BlkOk X x fv scope cl)(I:Inv X Tj σ H s)(hf:∀b∈fp,cF X Tj H b)(hC:s.heap.objs.size<=C)(hfC:∀b∈fp,b≠C):
  (blk X x fv scope cl C s H fp).Ok where
 mod:=I.ok.mod
 kind:=B.kind
 glob:=I.ok.glob
 blt:=I.ok.blt
 above:=hC
 inj:=λy z c h1 h2=>I.ok.inj y z c (B.sub y c h1) (B.sub z c h2)
 has:=λy hy=>B.has y hy
 cab:=λy c h=>nomatch h
 hd:=I.ok.hd
 frames:=I.ok.frames
 stk:=.inl rfl
 exf:=λb hb=>⟨hfC b hb,λy c e=>(hf b hb).2.2.2.2.1 y c (B.sub y c e)⟩
 bs:=I.bs
 bsz:=aE I.ok.bsz I.sz
 noex:=λb o e hb=>by
  obtain⟨_,_,_,f3,_⟩:=hf b hb;rcases f3 with z|z
  ·exact I.ok.noex b o e z
  ·exact absurd (bV (Heap.lt_size e) (aE I.ok.bsz z)) (i4 _)
 exfs:=λb hb hs=>by
  obtain⟨_,f1,f2,_⟩:=hf b hb;rcases aO.mp (I.stkSub b hs) with z|z
  ·exact f1 z
  ·exact f2 z
 funs:=I.stack
 frf:=I.stkFree
theorem vM {fv:List (Nat×Str)}{σ:St}{o:Option V}{j:Nat}{y:Str}{v:V}(h1:(x :: fv.map (·.2))[j+1]?=some y)(h2:(bst fv σ o)[j+1]?=some (some v)):∃p∈fv,p.2=y∧σ[p.1]?=some (some v):=by
 have e1:(fv.map (·.2))[j]?=some y:=by simpa using h1
 have e2:(fv.map λp=>(σ[p.1]?).getD none)[j]?=some (some v):=by simpa [bst] using h2
 rw[az]at e1 e2
 cases q:fv[j]? with
 | none=>rw[q]at e1;cases e1
 | some p=>
  rw[q]at e1 e2;refine⟨p,bH q,Option.some.inj e1,?_⟩;have e3:(σ[p.1]?).getD none=some v:=Option.some.inj e2
  cases r:σ[p.1]? with
  | none=>rw[r]at e3;cases e3
  | some w=>rw[r]at e3;exact congrArg some e3
theorem CG {Tj:List (Addr×Obj)}{σ:St}{H:Hp}{s s4:Shared}{fp:List Addr}{C:Addr}{m:Str->Option Value}(B:BlkOk X x fv scope cl) (I:Inv X Tj σ H s) (hf:∀b∈fp,cF X Tj H b) (hC:C=s.heap.objs.size)
  (hfC:∀b∈fp,b≠C) (os:s4.os=s.os) (gens:s4.gens=s.gens) (keep:∀b o,s.heap.get? b=some o->s4.heap.get? b=some o) (ns:s4.heap.Ns C m):
  Inv (blk X x fv scope cl C s H fp) [] (bst fv σ none) H s4:=by
 subst hC;refine⟨JB B I hf (am _) hfC,os,by rw[gens];exact I.bare,Un.kept keep,⟨m,ns,λi y v h1 h2 h3=>?_⟩,λy c e=>?_,I.hok.fresh (am _),λy c e=>I.freeC y c (B.sub y c e),λp hp=>absurd (show p∈([]:List (Addr×Obj)) from hp) (by simp),I.hok.kept keep,by simp[bst]⟩
 ·cases i with
  | zero=>simp[bst]at h2
  | succ j=>
   obtain⟨p,hp,rfl,hv⟩:=vM h1 h2;obtain⟨_,hN,hk,hk2,c,hc⟩:=B.fvs p hp;obtain⟨m0,_,hl⟩:=I.loc;have vis:Vis X.env.scope p.2:=hk.elim (λz=>.inr (.inl z)) λz=>.inr (.inr z);obtain⟨u,r,l⟩:=hl p.1 p.2 v hN hv vis;refine⟨u,r,.inr ⟨hk2,c,hc,?_⟩⟩;rcases l with ⟨z,_⟩|⟨_,c',hc',o,ho,hd⟩
   ·have z':X.env.scope.names.lookup p.2=some .local:=z;rcases hk with k|k <;> (rw[k]at z';cases z')
   ·have:=B.sub p.2 c hc;rw[hc']at this;cases this;exact⟨o,keep _ o ho,hd⟩
 ·obtain⟨v,o,ho,hd⟩:=I.cell y c (B.sub y c e);exact⟨v,o,keep c o ho,hd⟩
theorem CH {pins':List (Addr×Obj)}{σ:St}{H H0:Hp}{s s5:Shared}{fp:List Addr}{C:Addr}{o:Option V}{v:V}{u:Value}{E:Value->Shared->Prop}{Q:Unit->Shared->Prop}(B:BlkOk X x fv scope cl)
  (I:Inv (blk X x fv scope cl C s H0 fp) pins' (bst fv σ o) H s5) (r:RelV v u) (h:∀s6,Inv (blk X x fv scope cl C s H0 fp) pins' (bst fv σ (some v)) H s6->Q () s6):
  wpAny (model X.prog X.w) X.A (assign (.Name x px) (compEnvC scope cl C X.env) u) Q E s5:=by
 obtain⟨m,hn,hl⟩:=id I.loc;have hk:(relabel scope X.env).names.lookup x=some .local:=lookup_relabel_local B.here;have hcls:((compEnvC scope cl C X.env).scope.kind == .class || ((compEnvC scope cl C X.env).scope.kind == .module && (compEnvC scope cl C X.env).locals != (compEnvC scope cl C X.env).globals))=false:=by
  have:(compEnvC scope cl C X.env).scope.kind=.function:=B.kind;rw[this];rfl
 refine wpAny_assign_Name (wpAny_storeName_local hk hn (λh' hn' hs=>?_) hcls);have cne:=I.cne;obtain⟨oL,_,_,hoL,_⟩:=id hn;have tracked:HOk X.prog X.w H h':=λb ob e=>by
  refine (I.hok b ob e).stay (λc w' hc q=>(hs.2 c ?_).trans q) (λ_ q=>q) λ_ _ q=>q;intro z;have z':c=C:=z;have fr:H C=none:=I.free;rcases hc with hc|hc
  ·rw[←hc,z',fr]at e;cases e
  ·rw[z',fr]at hc;cases hc
 refine h _ ⟨I.ok,I.os,I.bare,⟨λb o e n hb hx=>?_,λb o e n hb hx=>?_,I.base.free,λb o e hx=>?_,I.base.tups,I.base.frzs,I.base.tbls⟩,⟨_,hn',λj y v' e1 e2 e3=>?_⟩,λy c e=>?_,I.free,I.freeC,λp hp=>?_,tracked,by simp[bst]⟩
 ·exact (hs.2 b (cC (bV (Heap.lt_size e) I.ok.above))).trans (I.base.keep b o e n hb hx)
 ·obtain⟨sl,e1⟩:=I.base.slot b o e n hb hx;exact⟨sl,(hs.2 b (cC (bV (Heap.lt_size e) I.ok.above))).trans e1⟩
 ·obtain⟨o',e1⟩:=I.base.there b o e hx;exact⟨o',(hs.2 b (cC (bV (Heap.lt_size e) I.ok.above))).trans e1⟩
 ·cases j with
  | zero=>
   have e1':x=y:=by simpa using e1
   subst e1';have e2':v=v':=by simpa [bst] using e2
   subst e2';exact⟨u,r,.inl ⟨hk,by simp⟩⟩
  | succ j=>
   have e2':(bst fv σ o)[j+1]?=some (some v'):=by simpa [bst] using e2
   obtain⟨u',r',q⟩:=hl (j+1) y v' e1 e2' e3;refine⟨u',r',?_⟩;obtain⟨p,hp,rfl,_⟩:=vM e1 e2;rcases q with ⟨k,e⟩|⟨k,c,e,z⟩
   ·exact .inl ⟨k,by simp[(B.fvs p hp).1,e]⟩
   ·exact .inr ⟨k,c,e,z.sameBut hs (cne _ c e)⟩
 ·obtain⟨w',z⟩:=I.cell y c e;exact⟨w',z.sameBut hs (cne y c e)⟩
 ·obtain⟨e,n,ne,nf,d⟩:=I.pin p hp;exact⟨(hs.2 p.1 ne).trans e,n,ne,nf,d⟩
theorem CI {Tj:List (Addr×Obj)}{σ:St}{H:Hp}{s2:Shared}{it:Addr}{fp:List Addr}{tn:Nat->Heap->Prop}{J:It}{Q:VK}{E:Value->Shared->Prop}{RR:Value->Addr->Result->Shared->Prop}
  (hc:X.calm=true) (B:BlkOk X x fv scope cl) (he:∀C s H fp,PE (blk X x fv scope cl C s H fp) elt te) (I:Inv X Tj σ H s2) (T:Turn X.prog X.w X.K (.Name x px) J fp it tn) (st:tn 0 s2.heap) (hf:∀b∈fp,cF X Tj H b)
  (rd:∀D,H D=none->∃W:Nat->Nat->Hp->Prop,(∃m,W 0 m (upd H D (.lst [])))∧∀i m H,W i m H->
   (J.stop i H∧Q (.ref D) H)∨(J.go i H∧∃N:Hp->Prop,(∀H',N H'->∃m',m'<m∧W (i+1) m' H')∧∀v H',J.yld i H v H'->te (bst fv σ (some v)) H' λy H2=>∃ys,H2 D=some (.lst ys)∧ys.length<sizeLine∧N (upd H2 D (.lst (ys++[y])))))
  (hRR:∀D C s' H' m',Inv X Tj σ H' s'->cF X Tj H' C->s'.heap.Ns C m'->Q (.ref D) H'->RR (.ref D) C (.ok .next) s'):
  wpAny (model X.prog X.w) X.A (newList []) (λacc s₃=>wpAny (model X.prog X.w) X.A (newFunctionEnv scope X.env.globals cl [] X.env.qual none .none (some X.env)) (λcenv s₄=>
   codeAny (model X.prog X.w) X.A (.compStart (.ListComp elt [⟨.Name x px,iter,[],0⟩] scope pos) 0 (.ref it) acc { cenv with scope:=relabel scope X.env }) (RR acc cenv.locals) s₄) E s₃) E s2:=by
 refine wpAny_newObj_type ?_ (by show 0<=sizeLine;exact aI _);have hD:H s2.heap.objs.size=none:=I.hok.fresh (am _);have I3:=I.lnew (ys:=[]) (its:=[]) (t':=s2.toks) .nil (aI _);generalize hs3:({ s2 with heap:=s2.heap.push { cls:=.type "list",data:=.seq ([]:List Value).toArray },toks:=s2.toks }:Shared)=s3 at I3;have sz3:s3.heap.objs.size=s2.heap.objs.size+1:=by rw[←hs3];exact Heap.size_push ..
 have up3:∀b o,s2.heap.get? b=some o->s3.heap.get? b=some o:=λb o e=>by rw[←hs3];exact Heap.get?_push_of_some _ e
 have hf3:∀b∈fp,cF X Tj (upd H s2.heap.objs.size (.lst [])) b:=λb hb=>by
  obtain⟨f0,r⟩:=hf b hb;refine⟨?_,r⟩;obtain⟨o,e,_⟩:=T.obj 0 _ st b hb;rw[aj (cC (Heap.lt_size e))];exact f0
 have ltf:∀b∈fp,b<s2.heap.objs.size:=λb hb=>by
  obtain⟨o,e,_⟩:=T.obj 0 _ st b hb;exact Heap.lt_size e
 have st3:tn 0 s3.heap:=T.keep 0 _ _ st λb _ o e=>up3 b o e;obtain⟨W,⟨m0,w0⟩,turn⟩:=rd _ hD;refine wpAny_newFunctionEnv B.nocell (by intro y hy;simp at hy) (λh₁ hns₁ hsb₁=>?_) B.kind;have hfC:∀b∈fp,b≠s3.heap.objs.size:=λb hb=>cC (by rw[sz3];exact lV (ltf b hb));have up4:∀b o,s3.heap.get? b=some o->h₁.get? b=some o:=λb o e=>hsb₁.extBut b o (cC (Heap.lt_size e)) (Heap.get?_push_of_some _ e);generalize hs4:({ s3 with heap:=h₁,toks:=s3.toks+([]:List (Str×Value)).length }:Shared)=s4;have h4:s4.heap=h₁:=by rw[←hs4]
 have I4:Inv (blk X x fv scope cl s3.heap.objs.size s3 (upd H s2.heap.objs.size (.lst [])) fp) [] (bst fv σ none) (upd H s2.heap.objs.size (.lst [])) s4:=
  CG B I3 hf3 rfl hfC (by rw[←hs4]) (by rw[←hs4]) (λb o e=>by rw[h4];exact up4 b o e) (by rw[h4];exact hns₁)
 have st4:tn 0 s4.heap:=by rw[h4];exact T.keep 0 _ _ st3 λb _ o e=>up4 b o e
 have stat:∀{H':Hp},(∀b∈fp,H' b=none)->∀b∈fp,cF (blk X x fv scope cl s3.heap.objs.size s3 (upd H s2.heap.objs.size (.lst [])) fp) [] H' b:=λ{H'} hn b hb=>by
  obtain⟨_,f1,f2,f3,f4,f5⟩:=hf b hb;refine⟨hn b hb,hfC b hb,λz=>?_,.inl hb,λy c e=>f4 y c (B.sub y c e),λp hp=>absurd (show p∈([]:List (Addr×Obj)) from hp) (by simp)⟩;rcases aO.mp (I.stkSub b z) with q|q
  ·exact f1 q
  ·exact f2 q
 have loop:codeAny (model X.prog X.w) X.A (.compLoop (.ListComp elt [⟨.Name x px,iter,[],0⟩] scope pos) 0 (.ref it) (.ref s2.heap.objs.size) (compEnvC scope cl s3.heap.objs.size X.env)) (RR (.ref s2.heap.objs.size) s3.heap.objs.size) s4:=by
  refine vL (λn s'=>∃i H' o,Inv (blk X x fv scope cl s3.heap.objs.size s3 (upd H s2.heap.objs.size (.lst [])) fp) [] (bst fv σ o) H' s'∧tn i s'.heap∧(∀b∈fp,H' b=none)∧W i n H') ?_ m0
   ⟨0,_,none,I4,st4,λb hb=>(hf3 b hb).1,w0⟩
  rintro n s5 E' ⟨i,H5,o5,I5,st5,fr5,w5⟩
  rcases turn i n H5 w5 with ⟨stop,q⟩|⟨go,N,hN,step⟩
  ·refine thn (T.done (blk X x fv scope cl s3.heap.objs.size s3 (upd H s2.heap.objs.size (.lst [])) fp) rfl rfl rfl hc i [] s5 _ H5 _ I5 (stat fr5) st5 stop) λr s6 ⟨hr,I6⟩=>?_;subst hr;obtain⟨m6,hn6,_⟩:=I6.loc;have un:Un (frs X.stack) fp H H5 s2.heap s6.heap:=by
    have u1:Un (frs X.stack) fp H (upd H s2.heap.objs.size (.lst [])) s2.heap s3.heap:=Un.laid up3 (am _) hD;exact u1.trans I6.base
   have J6:Inv X Tj σ H5 s6:=by
    refine I.call' ?_ un I6.hok I6.bare λb hb=>?_
    ·have:=I6.os;rw[show (blk X x fv scope cl s3.heap.objs.size s3 (upd H s2.heap.objs.size (.lst [])) fp).s₀.os=s2.os by rw[←hs3]]at this;exact this
    ·obtain⟨_,f1,f2,f3,f4,f5⟩:=hf b hb;exact⟨f3,f1,f4,f5⟩
   refine hRR _ _ s6 H5 m6 J6 ?_ hn6 q;exact I3.fpOk (am _) I6.free
  ·refine thn (T.item (blk X x fv scope cl s3.heap.objs.size s3 (upd H s2.heap.objs.size (.lst [])) fp) rfl rfl rfl hc i [] s5 _ H5 _ I5 (stat fr5) st5 go) λr s6 ⟨u,hr,h6⟩=>?_;subst hr;refine thn h6 λ_ s7 ⟨v,H7,I7,r7,y7,st7,fr7⟩=>?_;have I7':=I7.pinned (stat fr7) (T.obj _ _ st7);refine CH B I7' r7 λs8 I8=>?_;have e8:=he _ _ _ _ _ s8 _ H7 _ I8 (step v H7 y7);refine wpAny_mono e8 (λy s9 ⟨yv,H9,I9,r9,ys,hD9,hz,n9⟩=>?_) λ_ _ z=>False.elim z;have a9:=e_ (X:=blk X x fv scope cl s3.heap.objs.size s3 (upd H s2.heap.objs.size (.lst [])) fp) _ s9 _ H9 (.ref s2.heap.objs.size) [yv] (.ref s2.heap.objs.size) [y] (λ_ H10=>H10=upd H9 s2.heap.objs.size (.lst (ys++[yv]))) I9 rfl (.cons r9 .nil)
    ⟨_,ys,yv,rfl,rfl,hD9,hz,rfl⟩
   refine wpAny_mono a9 (λ_ s10 ⟨_,H10,I10,_,e10⟩=>?_) λ_ _ z=>False.elim z;subst e10;obtain⟨m',hm,w9⟩:=hN _ n9;refine⟨m',hm,i+1,_,some v,I10.unpinned,T.keep _ _ _ st7 λb hb o e=>(I10.pin (b,o) (cP _ (cP _ (ge hb e)))).1,λb hb=>?_,w9⟩;obtain⟨o,e,_⟩:=T.obj _ _ st7 b hb;exact (I10.pin (b,o) (cP _ (cP _ (ge hb e)))).2.1
 exact codeAny_compStart_list loop (T.self _ 0 _ _ _ st4 loop)
end
section
variable {X:Cx}{elt iter:Expr}{x:Str}{px:Pos}{fv:List (Nat×Str)}{scope:Scope}{cl:List (Str×Addr)}{pos:Pos}{te:TE}{wi:TI}
theorem ff (hc:X.calm=true) (B:BlkOk X x fv scope cl) (hi:PI X (.Name x px) iter wi) (he:∀C s H fp,PE (blk X x fv scope cl C s H fp) elt te)
  (hs:∀v,foldedSetIterable iter X.env v=pure v:=by intro _;rfl):PE X (.ListComp elt [⟨.Name x px,iter,[],0⟩] scope pos) (kK fv wi te):=by
 intro Tj s σ H Q I h;rw[eval_ListComp];refine wpAny_comprehension_free (use:=none) rfl hs B.clos B.kind B.names (thn (hi Tj s σ H _ I h) λv s1 h1=>thn h1 λitv s2 h2=>?_);obtain⟨it,fp,tn,J,H2,e,I2,T,st2,f2,rd⟩:=h2;subst e;refine CI (RR:=λacc C=>compPost (model X.prog X.w) X.A X.xe none (EP X Tj σ Q) acc C) hc B he I2 T st2 f2 rd ?_;intro D C s' H' m' I' fC hn q;exact⟨m',hn,λh' sb=>⟨.ref D,H',I'.turned (t':=s'.toks) (λb o hb e=>(sb.2 b hb).trans e) fC.1 fC.2.1 fC.2.2.2.1 fC.2.2.2.2.1 fC.2.2.2.2.2,rfl,q⟩⟩
theorem jL {i:Nat}{y:Str}{py spos:Pos}(hc:X.calm=true) (B:BlkOk X x fv scope cl) (hi:PI X (.Name x px) iter wi) (he:∀C s H fp,PE (blk X x fv scope cl C s H fp) elt te)
  (hN:X.N.Nodup) (hiy:X.N[i]?=some y) (hy:X.env.scope.names.lookup y=some .local)
  (hsw:swapsWith (.ListComp elt [⟨.Name x px,iter,[],0⟩] scope pos) (some (.Name y py)) spos.line X.env=pure true:=by rfl)
  (hs:∀v,foldedSetIterable iter X.env v=pure v:=by intro _;rfl):
  PS X (.Assign [.Name y py] (.ListComp elt [⟨.Name x px,iter,[],0⟩] scope pos) spos) (je (kK fv wi te) (fV i)):=by
 intro Tj s σ H D I h;rw[exec_Assign_Name_used _ _ _ _ hsw];refine wpAny_bind (wpAny_standAt (wpAny_bind ?_));show wpAny _ X.A (do let _ ←comprehension (.ListComp elt [⟨.Name x px,iter,[],0⟩] scope pos) scope X.env _ (newList []) false (eval iter X.env) (some (assign (.Name y py) X.env))) _ _ s;refine wpAny_bind (wpAny_mono (wpAny_comprehension_free (use:=some (assign (.Name y py) X.env)) (Q:=λ_ s'=>SP X Tj D .next s') rfl hs B.clos B.kind B.names
  (thn (hi Tj s σ H _ I h) λv s1 h1=>thn h1 λitv s2 h2=>?_)) (λ_ s' hq=>wpAny_pure (wpAny_pure hq)) λ_ _ e=>e)
 obtain⟨it,fp,tn,J,H2,e,I2,T,st2,f2,rd⟩:=h2;subst e;refine CI (Q:=λx H1=>fV i x σ H1 D.nx) (RR:=λacc C=>compPost (model X.prog X.w) X.A X.xe (some (assign (.Name y py) X.env)) (λ_ s'=>SP X Tj D .next s') acc C) hc B he I2 T st2 f2 rd ?_;intro Dl C s' H' m' I' fC hn q;show wpAny _ X.A (assign (.Name y py) X.env (.ref Dl)) _ _ _;refine wpAny_assign_Name (kD I' hN hiy (.inl hy) (v:=.ref Dl) rfl (λs'' I'' hab=>?_) (.inr hy));obtain⟨a,sb,ha⟩:=hab;have hCa:C≠a:=by
  rcases ha with rfl|e
  ·exact fC.2.1
  ·exact Ne.symm (fC.2.2.2.2.1 _ _ e)
 exact⟨m',hn.sameBut sb hCa,λh' sb'=>⟨_,H',I''.turned (t':=s''.toks) (λb o hb e=>(sb'.2 b hb).trans e) fC.1 fC.2.1 fC.2.2.2.1 fC.2.2.2.2.1 fC.2.2.2.2.2,q⟩⟩
end
def jl (lo c:Int)(n:Nat):It:=⟨λi _=>i<n,λi H x H'=>H'=H∧x=.int (lo+i*c),λi _=>n<=i⟩
theorem JC {P:Program}{w:World}{K:W.Frag}{tg:Expr}(it:Addr)(lo c:Int)(n:Nat):Turn P w K tg (jl lo c n) [it] it (λi h=>IsRangeIter h it (lo+(i:Nat)*c) ((n:Int)-(i:Nat)) c) where
 mem:=by simp
 obj:=λi h st b hb=>by
  have e:b=it:=by simpa using hb
  subst e;exact⟨_,st,λv z=>by
   have z':Data.fields _=Data.cell v:=z
   cases z'⟩
 keep:=λi h h' st k=>k it (by simp) _ st
 item:=by
  intro X hP hw hK hc i Tj s σ H E I hf st hg;subst hP hw hK;obtain⟨f0,f1,f2,f3,f4,f5⟩:=hf it (by simp);have W:=Walks.range (prog:=X.prog) (w:=X.w) (I.ok.hd hc) it lo c n;refine W.item i s _ _ hg st λv h' tk hv st' kk=>?_;obtain⟨t,rfl⟩:=hv;have I1:Inv X Tj σ H { s with heap:=h',toks:=tk }:=I.turned (λb o hb e=>kk b o (by simpa using hb) e) f0 f1 f3 f4 f5;exact⟨_,rfl,mJ (s:={ s with heap:=h',toks:=tk }) (n := "range_iterator") st' rfl rfl (by decide) ⟨.int (lo+i*c),H,I1,⟨t,rfl⟩,⟨rfl,rfl⟩,st',λb hb=>(hf b hb).1⟩⟩
 done:=by
  intro X hP hw hK hc i Tj s σ H E I hf st hg;subst hP hw hK;obtain⟨f0,f1,f2,f3,f4,f5⟩:=hf it (by simp);exact wpAny_pyNext_range_end (I.ok.hd hc) st (by have:n<=i:=hg;omega) λh' eb=>⟨rfl,I.turned (t':=s.toks) (λb o hb e=>eb b o hb e) f0 f1 f3 f4 f5⟩
 self:=λ_ _ _ _ _ st h=>wpAny_pyIter_rangeiter st h
section
variable {X:Cx}{tg:Expr}
def CJ (ta:TA):TI:=λσ H R=>ta σ H λvs H1=>∃(i j k:Int) (n:Nat),vs=[.int i,.int j,.int k]∧k≠0∧k.natAbs<1073741824∧Builtin.Range.small i j k=true∧Builtin.Range.rangeSize i j k=n∧R (jl i k n) H1
theorem vN {a b c:Expr}{ta:TA}{p pos:Pos}(hg:Gl X "range") (hm:X.mg "range" = none) (ha:PA X [a,b,c] ta) (hs:starEach [a,b,c] X.env=[(false,eval a X.env),(false,eval b X.env),(false,eval c X.env)]:=by rfl)
  (hs2:starEach [b,c] X.env=[(false,eval b X.env),(false,eval c X.env)]:=by rfl):PI X tg (.Call (.Name "range" p) [a,b,c] [] pos) (CJ ta):=by
 intro Tj s σ H R I h;refine Call_ (gT I hg hm boot_range (PyProof.Rows.callWith_type1 (thn (ha pos Tj s σ H _ I h) λus s1 ⟨vs,H1,I1,r1,q1⟩=>?_) (by rw[hs,hs2]) (by rw[hs2];rfl)));obtain⟨i,j,k,n,e,hk,hk2,hsm,hn,q⟩:=q1;subst e
 cases r1 with
 | cons r rr=>
  cases rr with
  | cons r' rr=>
   cases rr with
   | cons r'' rr=>
    cases rr
    obtain⟨t,rfl⟩:=r;obtain⟨t',rfl⟩:=r';obtain⟨t'',rfl⟩:=r'';refine call_range_3 hk ?_ (.inl (PyProof.noPylong_small hk2));refine wpAny_pyIter_range (IsRange.new ..) hsm ?_;have I2:Inv X Tj σ H1 { s1 with heap:=s1.heap.push { cls:=.type "range",data:=.fields #[.int i t,.int j t',.int k t''] },toks:=s1.toks }:=I1.kept λb o e=>Heap.get?_push_of_some _ e;refine⟨(s1.heap.push { cls:=.type "range",data:=.fields #[.int i t,.int j t',.int k t''] }).objs.size,[(s1.heap.push { cls:=.type "range",data:=.fields #[.int i t,.int j t',.int k t''] }).objs.size],_,_,H1,rfl,
     I2.kept (t':=s1.toks) λb o e=>Heap.get?_push_of_some _ e,JC _ i k n,?_,λb hb=>?_,q⟩
    ·have e1:i+((0:Nat):Int)*k=i:=by simp
     have e2:((n:Nat):Int)-((0:Nat):Int)=Builtin.Range.rangeSize i j k:=by rw[hn];simp
     show IsRangeIter _ _ (i+((0:Nat):Int)*k) (((n:Nat):Int)-((0:Nat):Int)) k;rw[e1,e2];exact Heap.get?_push_size _ rfl
    ·have e:b=(s1.heap.push { cls:=.type "range",data:=.fields #[.int i t,.int j t',.int k t''] }).objs.size:=by simpa using hb
     subst e;exact I2.fpOk (am _) (I2.hok.fresh (am _))
end
theorem JD {lo c:Int}{n:Nat}{g:TG}{tb:TS}{D:Ends}{σ:St}{H:Hp}(Pv:Nat->St->Hp->Prop) (h0:Pv 0 σ H)
  (hs:∀i σ H,i<n->Pv i σ H->g (.int (lo+i*c)) σ H λσ2 H2=>tb { D with nx:=Pv (i+1),ct:=Pv (i+1),bk:=D.nx } σ2 H2) (hd:∀σ H,Pv n σ H->D.nx σ H):
  ∃W:Nat->Nat->St->Hp->Prop,(∃m,W 0 m σ H)∧∀i m σ H,W i m σ H->
   ((jl lo c n).stop i H∧D.nx σ H)∨((jl lo c n).go i H∧∃N:St->Hp->Prop,(∀σ' H',N σ' H'->∃m',m'<m∧W (i+1) m' σ' H')∧∀x H',(jl lo c n).yld i H x H'->g x σ H' λσ2 H2=>tb { D with nx:=N,ct:=N,bk:=D.nx } σ2 H2):=by
 refine⟨λi m σ H=>m=n-i∧i<=n∧Pv i σ H,⟨n,by simp,aI _,h0⟩,?_⟩
 rintro i m σ H ⟨rfl,hi,p⟩
 by_cases hlt:i<n
 ·refine .inr ⟨hlt,Pv (i+1),λσ' H' p'=>⟨n-(i+1),by omega,rfl,hlt,p'⟩,λx H' y=>?_⟩;obtain⟨e,y⟩:=y;subst e y;exact hs i σ _ hlt p
 ·have e:i=n:=by omega
  subst e;exact .inl ⟨am _,hd σ H p⟩
theorem JE {K:W.Frag}{a:Addr}{xs:List V}{fv:List (Nat×Str)}{te:TE}{Q:VK}{σ:St}{H1:Hp}{D:Addr}(Pv:Nat->Hp->Prop) (h0:Pv 0 (upd H1 D (.lst []))) (hl:∀i H,i<=xs.length->Pv i H->SqL K H a xs)
  (hs:∀i v H,xs[i]?=some v->Pv i H->te (bst fv σ (some v)) H λy H2=>∃ys,H2 D=some (.lst ys)∧ys.length<sizeLine∧Pv (i+1) (upd H2 D (.lst (ys++[y])))) (hd:∀H,Pv xs.length H->Q (.ref D) H):
  ∃W:Nat->Nat->Hp->Prop,(∃m,W 0 m (upd H1 D (.lst [])))∧∀i m H,W i m H->
   ((Itl K a).stop i H∧Q (.ref D) H)∨((Itl K a).go i H∧∃N:Hp->Prop,(∀H',N H'->∃m',m'<m∧W (i+1) m' H')∧∀v H',(Itl K a).yld i H v H'->te (bst fv σ (some v)) H' λy H2=>∃ys,H2 D=some (.lst ys)∧ys.length<sizeLine∧N (upd H2 D (.lst (ys++[y])))):=by
 refine⟨λi m H=>m=xs.length-i∧i<=xs.length∧Pv i H,⟨xs.length,by simp,aI _,h0⟩,?_⟩
 rintro i m H ⟨rfl,hi,p⟩
 have q:=hl i H hi p;by_cases hlt:i<xs.length
 ·refine .inr ⟨⟨xs,xs[i],q,ak hlt⟩,Pv (i+1),λH' p'=>⟨xs.length-(i+1),by omega,rfl,hlt,p'⟩,λv H' y=>?_⟩;obtain⟨e,y⟩:=y;subst e;exact hs i v _ (y xs q) p
 ·have e:i=xs.length:=by omega
  subst e;exact .inl ⟨⟨xs,q,am _⟩,hd H p⟩
theorem JF {lo:Int}{n:Nat}{fv:List (Nat×Str)}{te:TE}{Q:VK}{σ:St}{H1:Hp}{D:Addr}(Pv:Nat->Hp->Prop) (h0:Pv 0 (upd H1 D (.lst [])))
  (hs:∀i H,i<n->Pv i H->te (bst fv σ (some (.int (lo+i)))) H λy H2=>∃ys,H2 D=some (.lst ys)∧ys.length<sizeLine∧Pv (i+1) (upd H2 D (.lst (ys++[y])))) (hd:∀H,Pv n H->Q (.ref D) H):
  ∃W:Nat->Nat->Hp->Prop,(∃m,W 0 m (upd H1 D (.lst [])))∧∀i m H,W i m H->
   ((Itr lo n).stop i H∧Q (.ref D) H)∨((Itr lo n).go i H∧∃N:Hp->Prop,(∀H',N H'->∃m',m'<m∧W (i+1) m' H')∧∀v H',(Itr lo n).yld i H v H'->te (bst fv σ (some v)) H' λy H2=>∃ys,H2 D=some (.lst ys)∧ys.length<sizeLine∧N (upd H2 D (.lst (ys++[y])))):=by
 refine⟨λi m H=>m=n-i∧i<=n∧Pv i H,⟨n,by simp,aI _,h0⟩,?_⟩
 rintro i m H ⟨rfl,hi,p⟩
 by_cases hlt:i<n
 ·refine .inr ⟨hlt,Pv (i+1),λH' p'=>⟨n-(i+1),by omega,rfl,hlt,p'⟩,λv H' y=>?_⟩;obtain⟨e,y⟩:=y;subst e y;exact hs i _ hlt p
 ·have e:i=n:=by omega
  subst e;exact .inl ⟨am _,hd H p⟩
theorem ck {cells:List (Str×Addr)}:∀y c,([]:List (Str×Addr)).lookup y=some c->cells.lookup y=some c:=λ_ _ h=>nomatch h
theorem du {n:Str}{c0:Addr}{r cells:List (Str×Addr)}(h0:cells.lookup n=some c0)(h:∀y c,r.lookup y=some c->cells.lookup y=some c):∀y c,((n,c0) :: r).lookup y=some c->cells.lookup y=some c:=λy c q=>by
 rw[xE]at q
 cases e:y == n with
 | true=>
  rw[e]at q
  cases q
  rw[eq_of_beq e];exact h0
 | false=>
  rw[e]at q;exact h y c q
theorem vO {l:List (Str×NameKind)}{cl:List (Str×Addr)}(h:(l.all λp=>(p.2 != .cell && p.2 != .free) || (cl.lookup p.1).isSome)=true):∀y,(l.lookup y=some .cell∨l.lookup y=some .free)->∃c,cl.lookup y=some c:=λy hy=>by
 have key:∀k,l.lookup y=some k->(k=.cell∨k=.free)->∃c,cl.lookup y=some c:=λk e hk=>by
  have q:=List.all_eq_true.mp h (y,k) (PySem.mem_of_lookup e);have z:(k != .cell && k != .free)=false:=by rcases hk with rfl|rfl <;> rfl
  rw[show ((y,k).2 != .cell && (y,k).2 != .free)=false from z,Bool.false_or]at q;exact N4.mp q
 rcases hy with e|e
 ·exact key _ e (.inl rfl)
 ·exact key _ e (.inr rfl)
def kL (X:Cx)(x:Str)(scope:Scope)(cl:List (Str×Addr))(fv:List (Nat×Str)):Prop:=
 ∀p∈fv,p.2≠x∧X.N[p.1]?=some p.2∧(X.env.scope.names.lookup p.2=some .cell∨X.env.scope.names.lookup p.2=some .free)∧
  ((relabel scope X.env).names.lookup p.2=some .cell∨(relabel scope X.env).names.lookup p.2=some .free)∧∃c,cl.lookup p.2=some c
theorem cJ {X:Cx}{x:Str}{scope:Scope}{cl:List (Str×Addr)}:kL X x scope cl []:=λ_ h=>nomatch h
theorem d9 {X:Cx}{x:Str}{scope:Scope}{cl:List (Str×Addr)}{fv:List (Nat×Str)}(i:Nat) (y:Str) (h1:y≠x) (h2:X.N[i]?=some y) (h3:X.env.scope.names.lookup y=some .cell∨X.env.scope.names.lookup y=some .free)
  (h4:(relabel scope X.env).names.lookup y=some .cell∨(relabel scope X.env).names.lookup y=some .free) (h5:∃c,cl.lookup y=some c) (r:kL X x scope cl fv):kL X x scope cl ((i,y) :: fv):=λp hp=>by
 rcases aO.mp hp with rfl|hp
 ·exact⟨h1,h2,h3,h4,h5⟩
 ·exact r p hp
theorem dg {X:Cx}{x:Str}{fv:List (Nat×Str)}{scope:Scope}{cl:List (Str×Addr)}(clos:closureFor scope X.env=pure cl) (sub:∀y c,cl.lookup y=some c->X.env.cells.lookup y=some c) (fvs:kL X x scope cl fv)
  (kind:scope.kind=.function:=by rfl) (here:scope.names.lookup x=some .local:=by rfl) (nocell:∀y∈scope.names,y.2≠.cell:=by decide +kernel)
  (names:∀y∈scope.names,y.2=.local->scope.names.lookup y.1=some .local:=by decide +kernel)
  (has:((relabel scope X.env).names.all λp=>(p.2 != .cell && p.2 != .free) || (cl.lookup p.1).isSome)=true:=by rfl):BlkOk X x fv scope cl:=
 ⟨clos,nocell,kind,names,here,sub,vO has,fvs⟩
section
variable {X:Cx}
theorem jM:fD X (.builtin "isinstance") (λxs H Q=>∃x n t b,xs=[x,.ty n]∧TyOf X.K H x t∧PySem.W.kitOne X.K t (.type n)=some b∧Q (.bl b) H):=by
 intro Tj s σ H xs us Q I rv h;obtain⟨x,n,t,b,rfl,ty,e,q⟩:=h
 cases rv with
 | cons r rr=>
  cases rr with
  | cons r' rr=>
   cases rr
   cases r'
   exact Ja I r ty e λtk=>⟨.bl b,H,I.tok _,rfl,q⟩
theorem CK:MtR X "int.bit_length" (λx xs H Q=>∃i,x=.int i∧xs=[]∧Q (.int (Builtin.Int.intBits i:Nat)) H):=by
 intro Tj s σ H x xs v us Q I rx rv h;obtain⟨i,rfl,rfl,q⟩:=h
 cases rv
 obtain⟨t,rfl⟩:=rx;exact call_gives F.slot_int_bit_length (typeIs_int s i t) F.entry_int_bit_length (F.args_int_bit_length_1 _) (PySem.AutoIntG2.int_bit_length_int_0 i t) ⟨.int _,H,I.tok _,⟨_,rfl⟩,q⟩
end
theorem vP {i:Int}{k:Nat}(h:i.natAbs<2 ^ k):Builtin.Int.intBits i<=k:=by
 unfold Builtin.Int.intBits
 split
 ·exact aI _
 ·rename_i hz;have hz':i≠0:=by simpa using hz
  have:i.natAbs.log2<k:=(Nat.log2_lt (by omega)).mpr h;omega
theorem JG {i j:Int}{k l:Nat}(h1:i.natAbs<2 ^ k)(h2:j.natAbs<2 ^ l)(h:k+l<=134217728):IntMulOk i j:=IntMulOk.of_le (vP h1) (vP h2) h
theorem jm {X:Cx}:OpR X (binaryOp .FloorDiv) (rI (λ_ j=>j≠0∧j.natAbs<2 ^ 9000) λi j=>.int (i.fdiv j)):=
 opI λ_ j _ _ _ _ _ hc q=>floordiv_int hc.1 q (.inl (PyProof.noPylong_of_log2 ((Nat.log2_lt (by have:=hc.1;omega)).mpr hc.2)))
section
variable {σ:St}{H:Hp}{Q:VK}{D:Ends}{t u:TS}{te ta tb tc to ti:TE}{tt:TT}{tA:TA}{i:Nat}{x y v:V}{r r':R2}{QT:Bool->Hp->Prop}{QA:List V->Hp->Prop}
theorem aB:BC t u D σ H=t { D with nx:=u D } σ H:=rfl
theorem mT:BB D σ H=D.nx σ H:=rfl
theorem mU:IC D σ H=D.bk σ H:=rfl
theorem mV:BD D σ H=D.ct σ H:=rfl
theorem mW:BE te D σ H=te σ H λ_ H1=>D.nx σ H1:=rfl
theorem mX:BF te D σ H=te σ H D.rt:=rfl
theorem mY:IE D σ H=D.rt .non H:=rfl
theorem mZ:BG tt t u D σ H=tt σ H λb H1=>if b=true then t D σ H1 else u D σ H1:=rfl
theorem m7 {g:TG}:je te g D σ H=te σ H λx H1=>g x σ H1 D.nx:=rfl
theorem m8 {Q:St->Hp->Prop}:fV i v σ H Q=Q (σ.set i (some v)) H:=rfl
theorem m9 {ts:jd}{Q:St->Hp->Prop}:BH to ti ts v σ H Q=to σ H λo H1=>ti σ H1 λi H2=>ts o i v H2 λH3=>Q σ H3:=rfl
theorem m_ {K:W.Frag}{n:Nat}{ts:TGs}{Q:St->Hp->Prop}:u9 K n ts v σ H Q=∃a xs,v=.ref a∧SqT K H a xs∧xs.length=n∧ts xs σ H Q:=rfl
theorem nj {vs:List V}{Q:St->Hp->Prop}:uZ vs σ H Q=(vs=[]∧Q σ H):=rfl
theorem nE {g:TG}{gs:TGs}{vs:List V}{Q:St->Hp->Prop}:mI g gs vs σ H Q=∃v r,vs=v :: r∧g v σ H λσ' H'=>gs r σ' H' Q:=rfl
theorem nG {ip:TIp}:BI i te ip D σ H=∃x,σ[i]?=some (some x)∧te σ H λy H1=>ip x y H1 λz H2=>D.nx (σ.set i (some z)) H2:=rfl
theorem nI {tget:V->V->Hp->VK->Prop}{tip:TIp}{tset:jd}:BJ to ti te tget tip tset D σ H=to σ H λo H1=>ti σ H1 λi H2=>tget o i H2 λx H3=>te σ H3 λy H4=>tip x y H4 λz H5=>tset o i z H5 λH6=>D.nx σ H6:=rfl
theorem nJ {f:Int->Int->Int}:ipI f x y H Q=∃i j,x=.int i∧y=.int j∧Q (.int (f i j)) H:=rfl
theorem nK:uX i σ H Q=∃v,σ[i]?=some (some v)∧Q v H:=rfl
theorem a_c:tC v σ H Q=Q v H:=rfl
theorem nL:tOp r ta tb σ H Q=ta σ H λx H1=>tb σ H1 λy H2=>r x y H2 Q:=rfl
theorem nN {r:V->Hp->VK->Prop}:tUn r ta σ H Q=ta σ H λx H1=>r x H1 Q:=rfl
theorem nP {C:Int->Int->Prop}{g:Int->Int->V}:rI C g x y H Q=∃i j,x=.int i∧y=.int j∧C i j∧Q (g i j) H:=rfl
theorem nQ {g:Int->Int->V}:rI0 g x y H Q=∃i j,x=.int i∧y=.int j∧Q (g i j) H:=rfl
theorem nU {g:Int->V}:rU g x H Q=∃i,x=.int i∧Q (g i) H:=rfl
theorem nV {i j:Int}:rEq (.int i) (.int j) H Q=Q (.bl (decide (i=j))) H:=by
 show (true=true∧Q (.bl (decide (V.int i=V.int j))) H)=_;rw[show decide (V.int i=V.int j)=decide (i=j) by rw[mL];exact Bool.beq_eq_decide_eq i j];simp
theorem n6 {i j:Int}:rNe (.int i) (.int j) H Q=Q (.bl (!decide (i=j))) H:=by
 show (true=true∧Q (.bl (!decide (V.int i=V.int j))) H)=_;rw[show decide (V.int i=V.int j)=decide (i=j) by rw[mL];exact Bool.beq_eq_decide_eq i j];simp
theorem n_ {i j:Bool}:rEq (.bl i) (.bl j) H Q=Q (.bl (decide (i=j))) H:=by
 show (true=true∧Q (.bl (decide (V.bl i=V.bl j))) H)=_
 cases i <;> cases j <;> simp
theorem oa {i j:Bool}:rNe (.bl i) (.bl j) H Q=Q (.bl (!decide (i=j))) H:=by
 show (true=true∧Q (.bl (!decide (V.bl i=V.bl j))) H)=_
 cases i <;> cases j <;> simp
theorem og:tB te σ H QT=te σ H λx H1=>∃c,x=.bl c∧QT c H1:=rfl
theorem oh:BY te σ H QT=te σ H λx H'=>∃k,x=.bl k∧QT k H':=rfl
theorem oi {tt':TT}:Bw tt tt' σ H QT=tt σ H λc H1=>if c=true then tt' σ H1 QT else QT false H1:=rfl
theorem oj {tt':TT}:tOr tt tt' σ H QT=tt σ H λc H1=>if c=true then QT true H1 else tt' σ H1 QT:=rfl
theorem ol:Bx tt σ H QT=tt σ H λc H1=>QT (!c) H1:=rfl
theorem om:By ta tb σ H Q=ta σ H λx H1=>∃c,x=.bl c∧if c=true then tb σ H1 Q else Q (.bl false) H1:=rfl
theorem oo:Ix ta tb σ H Q=ta σ H λx H1=>∃c,x=.bl c∧if c=true then Q (.bl true) H1 else tb σ H1 Q:=rfl
theorem oq:Bz ta σ H Q=ta σ H λx H1=>∃c,x=.bl c∧Q (.bl (!c)) H1:=rfl
theorem ot:tIf tt ta tb σ H Q=tt σ H λc H1=>if c=true then ta σ H1 Q else tb σ H1 Q:=rfl
theorem ou:IS r r' ta tb tc σ H Q=ta σ H λx H1=>tb σ H1 λy H2=>r x y H2 λz H3=>∃k,z=.bl k∧(if k=true then tc σ H3 λw' H4=>r' y w' H4 Q else Q (.bl false) H3):=rfl
theorem ow:mR σ H QA=QA [] H:=rfl
theorem ox:vz ta tA σ H QA=ta σ H λx H1=>tA σ H1 λxs H2=>QA (x :: xs) H2:=rfl
theorem oy:Cb tA σ H Q=tA σ H λxs H1=>xs.length<=sizeLine∧∀p,H1 p=none->Q (.ref p) (upd H1 p (.lst xs)):=rfl
theorem oz:Ca tA σ H Q=tA σ H λxs H1=>xs.length<=sizeLine∧∀p,H1 p=none->Q (.ref p) (upd H1 p (.tup xs)):=rfl
theorem oA {sp:Sp}{dvs:List V}{E:XK}:Cc sp dvs E tA σ H Q=tA σ H λvs H1=>sp (vs++dvs) H1 Q E:=rfl
theorem oC {r:List V->Hp->VK->Prop}:tCB r tA σ H Q=tA σ H λvs H1=>r vs H1 Q:=rfl
theorem oE {K:W.Frag}{T:String}{r:V->List V->Hp->VK->Prop}:Cu K T r to σ H Q=to σ H λx H1=>tyV K T x H1∧r x [] H1 Q:=rfl
theorem oG {K:W.Frag}{T:String}{r:V->List V->Hp->VK->Prop}:tBM K T r to tA σ H Q=to σ H λx H1=>tyV K T x H1∧tA σ H1 λxs H2=>r x xs H2 Q:=rfl
theorem oH {r:V->Option Int->Option Int->Hp->VK->Prop}{tl th:TO}:tSl r te tl th σ H Q=te σ H λx H1=>tl σ H1 λl H2=>th σ H2 λu H3=>r x l u H3 Q:=rfl
theorem oI {Q:Option Int->Hp->Prop}:Cm σ H Q=Q none H:=rfl
theorem oJ {Q:Option Int->Hp->Prop}:Cn te σ H Q=te σ H λx H1=>∃i,x=.int i∧Q (some i) H1:=rfl
theorem oM {K:W.Frag}{T:String}{i:Int}:tyV K T (.int i) H=(T = "int"):=rfl
theorem fZ {K:W.Frag}{p:Addr}{xs:List V}(h:SqL K H p xs):tyV K "list" (.ref p) H:=.inl ⟨rfl,xs,h⟩
end
def iS (J:It)(g:TG)(tb:TS)(D:Ends)(σ:St)(H:Hp):Prop:=∃W:Nat->Nat->St->Hp->Prop,(∃m,W 0 m σ H)∧∀i m σ H,W i m σ H->
 (J.stop i H∧D.nx σ H)∨(J.go i H∧∃N:St->Hp->Prop,(∀σ' H',N σ' H'->∃m',m'<m∧W (i+1) m' σ' H')∧∀x H',J.yld i H x H'->g x σ H' λσ2 H2=>tb { D with nx:=N,ct:=N,bk:=D.nx } σ2 H2)
theorem oN {wi:TI}{g:TG}{tb:TS}{D:Ends}{σ:St}{H:Hp}:BP wi g tb D σ H=wi σ H λJ H1=>iS J g tb D σ H1:=rfl
def jN (J:It)(fv:List (Nat×Str))(te:TE)(Q:VK)(σ:St)(H1:Hp)(D:Addr):Prop:=∃W:Nat->Nat->Hp->Prop,(∃m,W 0 m (upd H1 D (.lst [])))∧∀i m H,W i m H->
 (J.stop i H∧Q (.ref D) H)∨(J.go i H∧∃N:Hp->Prop,(∀H',N H'->∃m',m'<m∧W (i+1) m' H')∧∀v H',J.yld i H v H'->te (bst fv σ (some v)) H' λy H2=>∃ys,H2 D=some (.lst ys)∧ys.length<sizeLine∧N (upd H2 D (.lst (ys++[y]))))
theorem oO {fv:List (Nat×Str)}{wi:TI}{te:TE}{σ:St}{H:Hp}{Q:VK}:kK fv wi te σ H Q=wi σ H λJ H1=>∀D,H1 D=none->jN J fv te Q σ H1 D:=rfl
theorem oP {K:W.Frag}{tl:TE}{σ:St}{H:Hp}{R:It->Hp->Prop}:vi K tl σ H R=tl σ H λx H1=>∃a,x=.ref a∧(∃xs,SqL K H1 a xs)∧R (Itl K a) H1:=rfl
theorem oQ {K:W.Frag}{tl:TE}{σ:St}{H:Hp}{R:It->Hp->Prop}:IH K tl σ H R=tl σ H λx H1=>∃a,x=.ref a∧(∃xs,SqT K H1 a xs)∧R (Itt K a) H1:=rfl
theorem oR {ta:TA}{σ:St}{H:Hp}{R:It->Hp->Prop}:BN ta σ H R=ta σ H λvs H1=>∃j:Int,vs=[.int j]∧-(2 ^ 62)<=j∧j<2 ^ 62∧R (Itr 0 j.toNat) H1:=rfl
theorem oS {ta:TA}{σ:St}{H:Hp}{R:It->Hp->Prop}:BO ta σ H R=ta σ H λvs H1=>∃i j:Int,vs=[.int i,.int j]∧(-(2 ^ 62)<=i∧i<2 ^ 62∧-(2 ^ 62)<=j∧j<2 ^ 62)∧R (Itr i (j-i).toNat) H1:=rfl
theorem oU {ta:TA}{σ:St}{H:Hp}{R:It->Hp->Prop}:CJ ta σ H R=ta σ H λvs H1=>∃(i j k:Int) (n:Nat),vs=[.int i,.int j,.int k]∧k≠0∧k.natAbs<1073741824∧Builtin.Range.small i j k=true∧Builtin.Range.rangeSize i j k=n∧R (jl i k n) H1:=rfl
theorem gD {c:TT}{tb:TS}{D:Ends}{σ:St}{H:Hp}(Pv:Nat->St->Hp->Prop) (m:Nat) (h0:Pv m σ H)
  (hs:∀m σ H,Pv m σ H->c σ H λb H1=>if b=true then ∃N:St->Hp->Prop,(∀σ' H',N σ' H'->∃m',m'<m∧Pv m' σ' H')∧tb { D with nx:=N,ct:=N,bk:=D.nx } σ H1 else D.nx σ H1):BL c tb D σ H:=⟨Pv,⟨m,h0⟩,hs⟩
section
variable {σ:St}{H:Hp}{Q:VK}{x y v:V}{K:W.Frag}
theorem oV {lo hi:Option Int}:vG K x lo hi H Q=∃a xs,x=.ref a∧SqL K H a xs∧∀p,H p=none->Q (.ref p) (upd H p (.lst (dr xs lo hi))):=rfl
theorem oW:mS K x y H Q=∃p xs i v,x=.ref p∧y=.int i∧SqL K H p xs∧atI xs i=some v∧Q v H:=rfl
theorem oX:vE K x y H Q=∃p xs i v,x=.ref p∧y=.int i∧SqT K H p xs∧atI xs i=some v∧Q v H:=rfl
theorem oY {Q:Hp->Prop}:Cr x y v H Q=∃p xs k j,x=.ref p∧y=.int k∧H p=some (.lst xs)∧ixN xs.length k=some j∧Q (upd H p (.lst (xs.set j v))):=rfl
theorem oZ {vs:List V}:Cy x vs H Q=∃l xs y,x=.ref l∧vs=[y]∧H l=some (.lst xs)∧xs.length<sizeLine∧Q .non (upd H l (.lst (xs++[y]))):=rfl
theorem cutV_map (ns:List Int)(lo hi:Option Int):dr (ns.map V.int) lo hi=((ns.drop (HT.sIx ns.length 0 lo)).take (HT.sIx ns.length ns.length hi-HT.sIx ns.length 0 lo)).map V.int:=by
 unfold dr;rw[ae,re,rf]
end
theorem aS:bootBuiltins "len" = some (.builtin "len"):=by decide +kernel
theorem jn:bootBuiltins "abs" = some (.builtin "abs"):=by decide +kernel
theorem jO:bootBuiltins "isinstance" = some (.builtin "isinstance"):=by decide +kernel
theorem vQ:bootBuiltins "min" = some (.builtin "min"):=by decide +kernel
theorem iz:bootBuiltins "max" = some (.builtin "max"):=by decide +kernel
theorem JH:bootBuiltins "int" = some (.type "int"):=by decide +kernel
theorem JI:bootBuiltins "bool" = some (.type "bool"):=by decide +kernel
theorem fG:bootBuiltins "list" = some (.type "list"):=by decide +kernel
theorem JJ:bootBuiltins "tuple" = some (.type "tuple"):=by decide +kernel
def CL (t u:TS):TS:=λD σ H=>∃M:St->Hp->Prop,t { D with nx:=M } σ H∧∀σ' H',M σ' H'->u D σ' H'
theorem gZ {X:Cx}{st:Stmt}{rest:List Stmt}{t u:TS}(h1:PS X st t)(h2:PSs X rest u):PSs X (st :: rest) (CL t u):=by
 intro Tj s σ H D I h;obtain⟨M,h,hM⟩:=h;refine wpAny_execs_cons (thn (h1 Tj s σ H { D with nx:=M } I h) λf s1 q=>?_)
 cases f with
 | next=>
  obtain⟨σ',H',I',q⟩:=q;exact h2 Tj s1 σ' H' D I' (hM σ' H' q)
 | ret v=>exact q
 | brk=>exact q
 | cont=>exact q
theorem gE {t u:TS}{D:Ends}{σ:St}{H:Hp}(M:St->Hp->Prop)(h1:t { D with nx:=M } σ H)(h2:∀σ' H',M σ' H'->u D σ' H'):CL t u D σ H:=⟨M,h1,h2⟩
theorem o0 {CX:CXT}{P:Program}{w:World}{K:W.Frag}{mg:Str->Option Value}{base:Heap}{N:List Str}{qual:Str}{scope:Scope}{f:Addr}{cd:Value}{A:Around}{outer:List Env}{s:Shared}{H:Hp}{E:XK}:
  (fP CX P w K mg base N qual scope f cd A outer s H E).K=K:=rfl
section
variable {K:W.Frag}{a:Addr}{xs:List V}{g:TG}{tb:TS}{D:Ends}{σ:St}{H H1:Hp}{fv:List (Nat×Str)}{te:TE}{Q:VK}{L:Addr}{lo c:Int}{n:Nat}
theorem eJ (Pv:Nat->Hp->Prop) (h0:Pv 0 (upd H1 L (.lst []))) (hl:∀i H,i<=xs.length->Pv i H->SqL K H a xs)
  (hs:∀i v H,xs[i]?=some v->Pv i H->te (bst fv σ (some v)) H λy H2=>∃ys,H2 L=some (.lst ys)∧ys.length<sizeLine∧Pv (i+1) (upd H2 L (.lst (ys++[y])))) (hd:∀H,Pv xs.length H->Q (.ref L) H):
  jN (Itl K a) fv te Q σ H1 L:=JE Pv h0 hl hs hd
theorem CM (Pv:Nat->Hp->Prop) (h0:Pv 0 (upd H1 L (.lst [])))
  (hs:∀i H,i<n->Pv i H->te (bst fv σ (some (.int (lo+i)))) H λy H2=>∃ys,H2 L=some (.lst ys)∧ys.length<sizeLine∧Pv (i+1) (upd H2 L (.lst (ys++[y])))) (hd:∀H,Pv n H->Q (.ref L) H):
  jN (Itr lo n) fv te Q σ H1 L:=JF Pv h0 hs hd
theorem iT (Pv:Nat->St->Hp->Prop) (h0:Pv 0 σ H) (hl:∀i σ H,i<=xs.length->Pv i σ H->SqL K H a xs)
  (hs:∀i v σ H,xs[i]?=some v->Pv i σ H->g v σ H λσ2 H2=>tb { D with nx:=Pv (i+1),ct:=Pv (i+1),bk:=D.nx } σ2 H2) (hd:∀σ H,Pv xs.length σ H->D.nx σ H):iS (Itl K a) g tb D σ H:=IK Pv h0 hl hs hd
theorem gF (Pv:Nat->St->Hp->Prop) (h0:Pv 0 σ H)
  (hs:∀i σ H,i<n->Pv i σ H->g (.int (lo+i)) σ H λσ2 H2=>tb { D with nx:=Pv (i+1),ct:=Pv (i+1),bk:=D.nx } σ2 H2) (hd:∀σ H,Pv n σ H->D.nx σ H):iS (Itr lo n) g tb D σ H:=IL Pv h0 hs hd
theorem o3 (Pv:Nat->St->Hp->Prop) (h0:Pv 0 σ H)
  (hs:∀i σ H,i<n->Pv i σ H->g (.int (lo+i*c)) σ H λσ2 H2=>tb { D with nx:=Pv (i+1),ct:=Pv (i+1),bk:=D.nx } σ2 H2) (hd:∀σ H,Pv n σ H->D.nx σ H):iS (jl lo c n) g tb D σ H:=JD Pv h0 hs hd
end
theorem OA {j:Int}(h0:0<=j)(h1:j<2 ^ 60):Builtin.Range.small 0 j 2=true:=by
 unfold Builtin.Range.small;simp only[Builtin.Range.rangeFitsLong,Builtin.Range.rangeSize,Bool.and_eq_true,Bool.or_eq_true,decide_eq_true_eq,beq_iff_eq,show (2:Int) > 0 by decide,if_true]
 split <;> omega
section
variable {X:Cx}
theorem vR:BK X (mS X.K):=by
 intro Tj s σ H o i ov iv Q I ro ri h;obtain⟨p,xs,i,z,rfl,rfl,hq,he,q⟩:=h
 cases ro
 obtain⟨t,rfl⟩:=ri;obtain⟨its,r,pl,hz⟩:=I.list hq;obtain⟨j,h1,h2,h3,h4,h5⟩:=vD he;obtain⟨w,ew,rw'⟩:=r.get h2;have hl:=r.length;have hn:=kH;have fin:EP X Tj σ Q w s:=⟨z,H,I,rw',q⟩
 by_cases h0:0<=i
 ·have hj:i.toNat=j:=by
   rw[seqIndex_of h0 h5]at h1;exact Option.some.inj h1
  exact wpAny_getItem_list pl.isList h0 (by omega) (by rw[hj];simpa using ew) fin
 ·have hj:(i+(its.toArray.size:Int)).toNat=j:=by
   rw[seqIndex_neg (by omega) h4]at h1;rw[cQ,←hl];exact Option.some.inj h1
  exact wpAny_getItem_list_neg pl.isList (by omega) (by rw[cQ] <;> omega) (by omega) (by rw[hj];simpa using ew) fin
mutual
inductive DV (K:W.Frag) (H:Hp):V->PyData->Prop
 | non:DV K H .non .none
 | bl (b):DV K H (.bl b) (.bool b)
 | int (i):DV K H (.int i) (.int i)
 | str (x):DV K H (.str x) (.str x)
 | lst {a xs ds}:SqL K H a xs->DVs K H xs ds->DV K H (.ref a) (.list ds)
 | tup {a xs ds}:SqT K H a xs->DVs K H xs ds->DV K H (.ref a) (.tuple ds)
inductive DVs (K:W.Frag) (H:Hp):List V->List PyData->Prop
 | nil:DVs K H [] []
 | cons {x xs d ds}:DV K H x d->DVs K H xs ds->DVs K H (x :: xs) (d :: ds)
end
theorem DVs.ints {K:W.Frag}{H:Hp}:∀ns:List Int,DVs K H (ns.map V.int) (ns.map PyData.int)
 | []=>.nil
 | n :: r=>.cons (.int n) (DVs.ints r)
theorem DV.ints {K:W.Frag}{H:Hp}{a:Addr}{ns:List Int}(h:SqL K H a (ns.map V.int)):DV K H (.ref a) (.list (ns.map PyData.int)):=.lst h (DVs.ints ns)
mutual
theorem DV.reads {Tj:List (Addr×Obj)}{σ:St}{H:Hp}{s:Shared}(I:Inv X Tj σ H s):∀{x:V}{d:PyData}{v:Value},DV X.K H x d->RelV x v->∃as,Reads s.heap v d as
 | _,_,_,.non,r=>by cases r;exact⟨_,.none⟩
 | _,_,_,.bl b,r=>by cases r;exact⟨_,.bool b⟩
 | _,_,_,.int i,r=>by obtain⟨t,rfl⟩:=r;exact⟨_,.int i t⟩
 | _,_,_,.str x,r=>by obtain⟨t,rfl⟩:=r;exact⟨_,.str x t⟩
 | _,_,_,.lst hq hs,r=>by
  cases r
  obtain⟨its,rv,⟨o,n,e,c,_,hd⟩,_⟩:=I.list hq;obtain⟨as,ra⟩:=DVs.reads I hs rv;exact⟨_,.list e c hd (by simpa using ra)⟩
 | _,_,_,.tup hq hs,r=>by
  cases r
  obtain⟨its,rv,⟨o,e,c,n,hd⟩,_⟩:=I.tuple hq;obtain⟨as,ra⟩:=DVs.reads I hs rv;exact⟨_,.tuple e c hd (by simpa using ra)⟩
theorem DVs.reads {Tj:List (Addr×Obj)}{σ:St}{H:Hp}{s:Shared}(I:Inv X Tj σ H s):∀{xs:List V}{ds:List PyData}{vs:List Value},DVs X.K H xs ds->Vals xs vs->∃as,ReadsAll s.heap vs ds as
 | _,_,_,.nil,r=>by cases r;exact⟨_,.nil⟩
 | _,_,_,.cons h t,r=>by
  cases r with
  | cons r1 r2=>
   obtain⟨as,ra⟩:=DV.reads I h r1;obtain⟨bs,rb⟩:=DVs.reads I t r2;exact⟨_,.cons ra rb⟩
end
theorem JK (hu:X.A.units+64<cLine):OpR X (compareOp .Eq) (λx y H Q=>∃da db,DV X.K H x da∧DV X.K H y db∧da.canLay0=true∧db.canLay0=true∧da.depth<=64∧Q (.bl (PyData.eqv da db)) H):=by
 intro Tj s σ H x y v u Q I rx ry h;obtain⟨da,db,hx,hy,c1,c2,hd,q⟩:=h;obtain⟨as,ra⟩:=hx.reads I rx;obtain⟨bs,rb⟩:=hy.reads I ry;exact PySem.SeqAt.eqOverData _ _ _ _ _ _ _ _ _ _ _ _ ra rb c1 c2 (by omega) ⟨.bl _,H,I,rfl,q⟩
theorem vT (hu:X.A.units+64<cLine):OpR X (compareOp .NotEq) (λx y H Q=>∃da db,DV X.K H x da∧DV X.K H y db∧da.canLay0=true∧db.canLay0=true∧da.depth<=64∧Q (.bl (!PyData.eqv da db)) H):=by
 intro Tj s σ H x y v u Q I rx ry h;obtain⟨da,db,hx,hy,c1,c2,hd,q⟩:=h;obtain⟨as,ra⟩:=hx.reads I rx;obtain⟨bs,rb⟩:=hy.reads I ry;exact PySem.SeqAt.neOverData _ _ _ _ _ _ _ _ _ _ _ _ ra rb c1 c2 (by omega) ⟨.bl _,H,I,rfl,q⟩
end
theorem vU:∀xs ys:List Int,PyData.eqvAll (xs.map PyData.int) (ys.map PyData.int)=decide (xs=ys)
 | [],[]=>by simp[PyData.eqvAll]
 | [],_ :: _=>by simp[PyData.eqvAll]
 | _ :: _,[]=>by simp[PyData.eqvAll]
 | x :: xs,y :: ys=>by
  have ih:=vU xs ys;simp only[c_,PyData.eqvAll,PyData.eqv,ih];by_cases h:x=y
  ·subst h;simp
  ·simp[h]
theorem vV:∀xs:List Int,PyData.canLayAll0 (xs.map PyData.int)=true
 | []=>rfl
 | _ :: r=>by simp[PyData.canLayAll0,PyData.canLay0,vV r]
theorem vX:∀xs:List Int,PyData.depthAll (xs.map PyData.int)=0
 | []=>rfl
 | _ :: r=>by simp[PyData.depthAll,PyData.depth,vX r]
def Ite (K:W.Frag)(a:Addr):It:=
 ⟨λi H=>∃xs x,SqL K H a xs∧xs[i]?=some x,λi H v H'=>∃p x,H p=none∧v=.ref p∧H'=upd H p (.tup [.int i,x])∧∀xs,SqL K H a xs->xs[i]?=some x,λi H=>∃xs,SqL K H a xs∧xs.length<=i⟩
theorem JL {P:Program}{w:World}{K:W.Frag}{elts:List Expr}{tk:Nat}{tpos:Pos}(a e it:Addr)(hne:e≠it):
  Turn P w K (.Tuple elts tk tpos) (Ite K a) [e,it] e (λi h=>(∃old,IsEnum h e it i old)∧h.IsListIter it a i) where
 mem:=by simp
 obj:=λi h st b hb=>by
  obtain⟨⟨old,he⟩,o,ho,c,d⟩:=st;rcases aO.mp hb with rfl|hb
  ·exact⟨_,he,λv z=>by
    have z':Data.fields _=Data.cell v:=z
    cases z'⟩
  ·rw[aP.mp hb];exact⟨o,ho,λv z=>by rw[d]at z;cases z⟩
 keep:=λi h h' st k=>by
  obtain⟨⟨old,he⟩,hit⟩:=st;exact⟨⟨old,k e (by simp) _ he⟩,hit.at λo q=>k it (by simp) o q⟩
 item:=by
  intro X hP hw hK hc i Tj s σ H E I hf st hg;subst hP hw hK;obtain⟨xs,x,hq,hx⟩:=hg;obtain⟨its,rv,pl,hz⟩:=I.list hq;obtain⟨u,hu,ru⟩:=rv.get hx;obtain⟨⟨old,he⟩,hit⟩:=st;have fe:=hf e (by simp);have fi:=hf it (by simp);refine wpAny_pyNext_enum_item he hit pl.isList (x:=u) (by simpa using hu) hne λh1 ho hit1 hT hsz hk=>?_;refine⟨_,rfl,wpAny_letOwnedTupleGo_enum ho λh2 he2 hs2=>?_⟩;have hp:H s.heap.objs.size=none:=I.hok.fresh (am _);have hpe:s.heap.objs.size≠e:=Gj (Heap.lt_size he);have k2:∀b o,b∉[e,it]->s.heap.get? b=some o->h2.get? b=some o:=λb o hb q=>
   (hs2.2 b λz=>hb (by simp[z])).trans (hk b o (λz=>hb (by simp[z])) (λz=>hb (by simp[z])) q)
  have hT2:h2.get? s.heap.objs.size=some { cls:=.type "tuple",data:=.seq #[.int i s.toks,u] }:=(hs2.2 _ hpe).trans hT;have nch:∀b u,H b=some u->b∉[e,it]:=λb u q hb=>by
   rcases aO.mp hb with rfl|hb
   ·rw[fe.1]at q;cases q
   ·rw[aP.mp hb,fi.1]at q;cases q
  have up:∀b,b<s.heap.objs.size->b≠s.heap.objs.size:=λb hb=>cC hb;have I2:Inv X Tj σ (upd H s.heap.objs.size (.tup [.int i,x])) { s with heap:=h2,toks:=s.toks+1 }:=by
   refine I.step (g':=s.gens) (d':=s.drawn) (t':=s.toks+1) (ch:=[e,it]) (λb hb=>?_) (λb o _ _ hc q _=>k2 b o hc q) (λb o _ _ hc q _=>⟨o.slots,k2 b o hc q⟩)
    (λb o _ q n=>by rw[aj (up b (Heap.lt_size q))];exact n) (λb o hc q=>⟨o,k2 b o hc q⟩) (λb ys q=>by rw[aj (dq q hp)];exact q) (λb o v q=>by rw[aj (dq q hp)];exact q)
    (λb ps q=>⟨#[],by rw[aj (dq q hp),q];simp⟩) (λm hm=>?_) (λb v q=>?_) I.bare
   ·rcases aO.mp hb with rfl|hb
    ·exact⟨fe.2.2.2.1,fe.2.1,fe.2.2.2.2.1,fe.2.2.2.2.2⟩
    ·rw[aP.mp hb];exact⟨fi.2.2.2.1,fi.2.1,fi.2.2.2.2.1,fi.2.2.2.2.2⟩
   ·obtain⟨o,es,ep,q,r⟩:=hm;refine⟨o,es,ep,k2 _ o (λz=>?_) q,r⟩;rcases aO.mp z with z|z
    ·exact fe.2.1 z.symm
    ·exact fi.2.1 (aP.mp z).symm
   ·by_cases hb:b=s.heap.objs.size
    ·subst hb;rw[ag]at q;cases q;exact⟨by show 2<=sizeLine;decide,[.int i s.toks,u],.cons ⟨_,rfl⟩ (.cons ru .nil),⟨_,hT2,rfl,_,rfl⟩⟩
    ·rw[aj hb]at q;refine (I.hok b v q).stay (λc o hc r=>k2 c o ?_ r) (λc r=>by rw[aj (dq r hp)];exact r) λc ys r=>by rw[aj (dq r hp)];exact r
     rcases hc with z|z
     ·rw[z];exact nch b v q
     ·exact nch c _ z
  refine⟨.ref s.heap.objs.size,_,I2,rfl,⟨_,x,hp,rfl,rfl,λys hy=>by rw[I.list_inj hy hq];exact hx⟩,⟨⟨_,by simpa using he2⟩,hit1.at λo q=>(hs2.2 it (Ne.symm hne)).trans q⟩,λb hb=>?_⟩;have lb:b<s.heap.objs.size:=by
   rcases aO.mp hb with rfl|hb
   ·exact Heap.lt_size he
   ·rw[aP.mp hb];obtain⟨_,q,_⟩:=hit;exact Heap.lt_size q
  rw[aj (up b lb)];exact (hf b hb).1
 done:=by
  intro X hP hw hK hc i Tj s σ H E I hf st hg;subst hP hw hK;obtain⟨xs,hq,hx⟩:=hg;obtain⟨its,rv,pl,hz⟩:=I.list hq;obtain⟨⟨old,he⟩,hit⟩:=st;obtain⟨f0,f1,f2,f3,f4,f5⟩:=hf it (by simp);have hl:=rv.length;exact wpAny_pyNext_enum_end (I.ok.hd hc) he hit pl.isList (by simp;omega) λh' eb=>⟨rfl,I.turned (t':=s.toks) (λb o hb q=>eb b o hb q) f0 f1 f3 f4 f5⟩
 self:=λ_ _ _ _ _ st h=>by
  obtain⟨⟨old,he⟩,_⟩:=st;exact wpAny_pyIter_enum he h
section
variable {X:Cx}
def CN (K:W.Frag)(ta:TA):TI:=λσ H R=>ta σ H λvs H1=>∃a xs,vs=[.ref a]∧SqL K H1 a xs∧R (Ite K a) H1
theorem o4 {elts:List Expr}{tk:Nat}{tpos:Pos}{a:Expr}{ta:TA}{p pos:Pos}(hg:Gl X "enumerate") (hm:X.mg "enumerate" = none) (ha:PA X [a] ta) (hs:starEach [a] X.env=[(false,eval a X.env)]:=by rfl):
  PI X (.Tuple elts tk tpos) (.Call (.Name "enumerate" p) [a] [] pos) (CN X.K ta):=by
 intro Tj s σ H R I h;refine Call_ (gT I hg hm boot_enumerate (PyProof.Rows.callWith_type1 (thn (ha pos Tj s σ H _ I h) λus s1 ⟨vs,H1,I1,r1,q1⟩=>?_) hs rfl));obtain⟨a,xs,e,hq,q⟩:=q1;subst e
 cases r1 with
 | cons r rr=>
  cases rr
  cases r
  obtain⟨its,rv,pl,hz⟩:=I1.list hq;refine call_enumerate_list pl.isList λh1 he hit hsz hk=>?_;have I2:Inv X Tj σ H1 { s1 with heap:=h1 }:=I1.kept (t':=s1.toks) hk;refine wpAny_pyIter_enum he ?_;refine⟨s1.heap.objs.size+1,[s1.heap.objs.size+1,s1.heap.objs.size],_,_,H1,rfl,I2,JL a _ _ (Nat.succ_ne_self _),⟨⟨_,he⟩,hit⟩,λb hb=>?_,q⟩;have hb':s1.heap.objs.size<=b:=by
   rcases aO.mp hb with rfl|hb
   ·exact i5 _
   ·rw[aP.mp hb];exact am _
  exact I1.fpOk hb' (I1.hok.fresh hb')
end
theorem o7 {K:W.Frag}{ta:TA}{σ:St}{H:Hp}{R:It->Hp->Prop}:CN K ta σ H R=ta σ H λvs H1=>∃a xs,vs=[.ref a]∧SqL K H1 a xs∧R (Ite K a) H1:=rfl
theorem JM {K:W.Frag}{a:Addr}{xs:List V}{g:TG}{tb:TS}{D:Ends}{σ:St}{H:Hp}(Pv:Nat->St->Hp->Prop) (h0:Pv 0 σ H) (hl:∀i σ H,i<=xs.length->Pv i σ H->SqL K H a xs)
  (hs:∀i v p σ H,xs[i]?=some v->Pv i σ H->H p=none->g (.ref p) σ (upd H p (.tup [.int i,v])) λσ2 H2=>tb { D with nx:=Pv (i+1),ct:=Pv (i+1),bk:=D.nx } σ2 H2) (hd:∀σ H,Pv xs.length σ H->D.nx σ H):iS (Ite K a) g tb D σ H:=by
 refine⟨λi m σ H=>m=xs.length-i∧i<=xs.length∧Pv i σ H,⟨xs.length,by simp,aI _,h0⟩,?_⟩
 rintro i m σ H ⟨rfl,hi,p⟩
 have q:=hl i σ H hi p;by_cases hlt:i<xs.length
 ·refine .inr ⟨⟨xs,xs[i],q,ak hlt⟩,Pv (i+1),λσ' H' p'=>⟨xs.length-(i+1),by omega,rfl,hlt,p'⟩,λx H' y=>?_⟩;obtain⟨pa,z,hn,e1,e2,y⟩:=y;subst e1 e2;exact hs i z pa σ H (y xs q) p hn
 ·have e:i=xs.length:=by omega
  subst e;exact .inl ⟨⟨xs,q,am _⟩,hd σ H p⟩
def Itv (K:W.Frag)(a:Addr)(n:Nat):It:=
 ⟨λi H=>i<n∧∃xs,SqL K H a xs∧xs.length=n,λi H x H'=>H'=H∧∀xs,SqL K H a xs->xs[n-1-i]?=some x,λi _=>i=n⟩
theorem JN {P:Program}{w:World}{K:W.Frag}{tg:Expr}(a it:Addr)(n:Nat):Turn P w K tg (Itv K a n) [it] it (λi h=>h.IsRevIter it a ((n:Int)-1-i)) where
 mem:=by simp
 obj:=λi h st b hb=>by
  have e:b=it:=by simpa using hb
  subst e;obtain⟨o,e,c,d⟩:=st;exact⟨o,e,λv z=>by rw[d]at z;cases z⟩
 keep:=λi h h' st k=>st.at λo e=>k it (by simp) o e
 item:=by
  intro X hP hw hK hc i Tj s σ H E I hf st hg;subst hP hw hK;obtain⟨hi,xs,hq,hn⟩:=hg;obtain⟨its,rv,p,hz⟩:=I.list hq;have hx:xs[n-1-i]?=some (xs[n-1-i]'(by omega)):=ak (by omega);obtain⟨u,hu,ru⟩:=rv.get hx;obtain⟨f0,f1,f2,f3,f4,f5⟩:=hf it (by simp);have e0:(n:Int)-1-i=((n-1-i:Nat):Int):=by omega
  rw[e0]at st;refine wpAny_pyNext_rev_item st p.isList (x:=u) (by simpa using hu) λh' st' sb=>?_;have I1:Inv X Tj σ H { s with heap:=h' }:=I.turned (t':=s.toks) (λb o hb e=>(sb.2 b hb).trans e) f0 f1 f3 f4 f5;have e1:((n-1-i:Nat):Int)-1=(n:Int)-1-((i+1:Nat):Int):=by omega
  rw[e1]at st';obtain⟨o,e,c,d⟩:=id st';exact⟨u,rfl,mJ (s:={ s with heap:=h' }) e c d (by decide) ⟨_,H,I1,ru,⟨rfl,λys hy=>by rw[I.list_inj hy hq];exact hx⟩,st',λb hb=>(hf b hb).1⟩⟩
 done:=by
  intro X hP hw hK hc i Tj s σ H E I hf st hg;subst hP hw hK;obtain⟨f0,f1,f2,f3,f4,f5⟩:=hf it (by simp);have e0:(n:Int)-1-i=-1:=by have:i=n:=hg;omega
  rw[e0]at st;exact wpAny_pyNext_rev_end (I.ok.hd hc) st λh' eb=>⟨rfl,I.turned (t':=s.toks) (λb o hb e=>eb b o hb e) f0 f1 f3 f4 f5⟩
 self:=λ_ _ _ _ _ st h=>wpAny_pyIter_revIter st h
section
variable {X:Cx}{tg:Expr}
def CO (K:W.Frag)(ta:TA):TI:=λσ H R=>ta σ H λvs H1=>∃a xs,vs=[.ref a]∧SqL K H1 a xs∧R (Itv K a xs.length) H1
theorem CP {a:Expr}{ta:TA}{p pos:Pos}(hg:Gl X "reversed") (hm:X.mg "reversed" = none) (ha:PA X [a] ta) (hs:starEach [a] X.env=[(false,eval a X.env)]:=by rfl):
  PI X tg (.Call (.Name "reversed" p) [a] [] pos) (CO X.K ta):=by
 intro Tj s σ H R I h;refine Call_ (gT I hg hm boot_reversed (PyProof.Rows.callWith_type1 (thn (ha pos Tj s σ H _ I h) λus s1 ⟨vs,H1,I1,r1,q1⟩=>?_) hs rfl));obtain⟨a,xs,e,hq,q⟩:=q1;subst e
 cases r1 with
 | cons r rr=>
  cases rr
  cases r
  obtain⟨its,rv,pl,hz⟩:=I1.list hq;have hl:=rv.length;refine call_reversed_list pl.isList ?_;have I2:Inv X Tj σ H1 { s1 with heap:=s1.heap.push (revObj a ((its.toArray.size:Int)-1)) }:=I1.kept (t':=s1.toks) λb o e=>Heap.get?_push_of_some _ e;have st:(s1.heap.push (revObj a ((its.toArray.size:Int)-1))).IsRevIter s1.heap.objs.size a ((xs.length:Int)-1-((0:Nat):Int)):=by
   have e1:(xs.length:Int)-1-((0:Nat):Int)=(its.toArray.size:Int)-1:=by rw[cQ,hl];simp
   rw[e1];exact⟨_,Heap.get?_push_size _ rfl,rfl,rfl⟩
  refine wpAny_pyIter_revIter st ?_;refine⟨s1.heap.objs.size,[s1.heap.objs.size],_,_,H1,rfl,I2,JN a _ xs.length,st,λb hb=>?_,q⟩;have e:b=s1.heap.objs.size:=by simpa using hb
  subst e;exact I1.fpOk (am _) (I1.hok.fresh (am _))
end
theorem o8 {K:W.Frag}{ta:TA}{σ:St}{H:Hp}{R:It->Hp->Prop}:CO K ta σ H R=ta σ H λvs H1=>∃a xs,vs=[.ref a]∧SqL K H1 a xs∧R (Itv K a xs.length) H1:=rfl
theorem CQ {K:W.Frag}{a:Addr}{xs:List V}{g:TG}{tb:TS}{D:Ends}{σ:St}{H:Hp}(Pv:Nat->St->Hp->Prop) (h0:Pv 0 σ H) (hl:∀i σ H,i<=xs.length->Pv i σ H->SqL K H a xs)
  (hs:∀i v σ H,i<xs.length->xs[xs.length-1-i]?=some v->Pv i σ H->g v σ H λσ2 H2=>tb { D with nx:=Pv (i+1),ct:=Pv (i+1),bk:=D.nx } σ2 H2) (hd:∀σ H,Pv xs.length σ H->D.nx σ H):iS (Itv K a xs.length) g tb D σ H:=by
 refine⟨λi m σ H=>m=xs.length-i∧i<=xs.length∧Pv i σ H,⟨xs.length,by simp,aI _,h0⟩,?_⟩
 rintro i m σ H ⟨rfl,hi,p⟩
 have q:=hl i σ H hi p;by_cases hlt:i<xs.length
 ·refine .inr ⟨⟨hlt,xs,q,rfl⟩,Pv (i+1),λσ' H' p'=>⟨xs.length-(i+1),by omega,rfl,hlt,p'⟩,λx H' y=>?_⟩;obtain⟨e,y⟩:=y;subst e;exact hs i x σ _ hlt (y xs q) p
 ·have e:i=xs.length:=by omega
  subst e;exact .inl ⟨rfl,hd σ H p⟩
section
variable {σ:St}{H:Hp}{Q:VK}{x y v:V}{vs:List V}
theorem o9:CC x y H Q=∃l b xs zs,x=.ref l∧y=.ref b∧H l=some (.lst xs)∧H b=some (.lst zs)∧xs.length+zs.length<=sizeLine∧∀p,H p=none->Q (.ref p) (upd H p (.lst (xs++zs))):=rfl
theorem o_:CD x y H Q=∃l k xs,x=.ref l∧y=.int k∧H l=some (.lst xs)∧-(2 ^ 63)<=k∧k<2 ^ 63∧xs.length*k.toNat<=sizeLine∧∀p,H p=none->Q (.ref p) (upd H p (.lst (aC k.toNat xs).flatten)):=rfl
theorem ph:CB x vs H Q=∃l xs y,x=.ref l∧vs=[]∧H l=some (.lst xs)∧xs[xs.length-1]?=some y∧Q y (upd H l (.lst xs.dropLast)):=rfl
theorem pi:Jt x vs H Q=∃l xs,x=.ref l∧vs=[]∧H l=some (.lst xs)∧Q .non (upd H l (.lst [])):=rfl
end
theorem dw {X:Cx}:OpR X (binaryOp .Mult) (rI IntMulOk λi j=>.int (i*j)):=opI λ_ _ _ _ _ _ _ hc q=>mul_int q hc
def Bd (k:Nat)(x:Int):Prop:=x.natAbs<2 ^ k
theorem Bd.mono {k l:Nat}{x:Int}(h:Bd k x)(hl:k<=l):Bd l x:=bV h (fo (by decide) hl)
theorem Bd.zero (k:Nat):Bd k 0:=dj k
theorem Bd.one {k:Nat}(h:0<k):Bd k 1:=by
 have:Bd 1 1:=by show (1:Nat)<2 ^ 1;decide
 exact this.mono h
theorem Bd.neg {k:Nat}{x:Int}(h:Bd k x):Bd k (-x):=by unfold Bd;rw[Int.natAbs_neg];exact h
theorem Bd.mul {k l:Nat}{x y:Int}(h:Bd k x)(g:Bd l y):Bd (k+l) (x*y):=by
 unfold Bd at *;rw[b4,de];exact Nat.mul_lt_mul_of_lt_of_lt h g
theorem Bd.add {k:Nat}{x y:Int}(h:Bd k x)(g:Bd k y):Bd (k+1) (x+y):=by
 unfold Bd at *;rw[i7];have:=i8 x y;omega
theorem Bd.sub {k:Nat}{x y:Int}(h:Bd k x)(g:Bd k y):Bd (k+1) (x-y):=by
 rw[Int.sub_eq_add_neg];exact h.add g.neg
theorem Bd.fits {k l:Nat}{x y:Int}(h:Bd k x)(g:Bd l y)(hz:k+l<=134217728):IntMulOk x y:=JG h g hz
theorem Bd.of_lt {k:Nat}{x:Int}{m:Nat}(h:x.natAbs<m)(hm:m<=2 ^ k):Bd k x:=bV h hm
def dH (H:Hp)(Q:VK)(ys:List V):Prop:=∀r H',Same H H'->H r=none->H' r=some (.lst ys)->Q (.ref r) H'
theorem ar {H:Hp}{p:Addr}(h:H p=none)(o:HO):Same H (upd H p o):=λb u q=>by rw[aj (dq q h)];exact q
theorem fg {xs:List Int}{i:Nat}(h:i<xs.length):atI (xs.map V.int) (i:Int)=some (V.int xs[i]):=eI (by rw[az,ak h];rfl)
theorem iA {n i:Nat}(h:i<n):ixN n (i:Int)=some i:=by
 unfold ixN;rw[if_pos (by omega),if_pos (by omega)];simp
theorem CS {n i:Nat}(h:0<i)(h2:i<=n):ixN n (-(i:Int))=some (n-i):=by
 unfold ixN;rw[if_neg (by omega),if_pos (by omega)];congr 1;omega
theorem jP {xs:List Int}(h:xs≠[]):atI (xs.map V.int) (-1)=some (V.int (xs.getLast h)):=by
 unfold atI;have h0:0<xs.length:=by cases xs with|nil=>exact absurd rfl h|cons _ _=>simp
 have e:=CS (n:=(xs.map V.int).length) (i:=1) (by decide) (by rw[ae];exact h0);have e1:(-((1:Nat):Int))=-1:=rfl;rw[e1]at e;rw[e];show (xs.map V.int)[(xs.map V.int).length-1]?=_;rw[az,ae,←rg,xF h];rfl
theorem map_set (xs:List Int)(i:Nat)(v:Int):(xs.map V.int).set i (V.int v)=(xs.set i v).map V.int:=by rw[List.map_set]
theorem vY {i j:Int}(h1:-(2 ^ 60)<i)(h2:i<2 ^ 60)(h3:-(2 ^ 60)<j)(h4:j<2 ^ 60):Builtin.Range.small i j (-1)=true:=by
 unfold Builtin.Range.small;simp only[Builtin.Range.rangeFitsLong,Builtin.Range.rangeSize,Bool.and_eq_true,Bool.or_eq_true,decide_eq_true_eq,beq_iff_eq,show ¬(-1:Int) > 0 by decide,if_false,Int.neg_neg,Int.ediv_one]
 split <;> omega
theorem vZ {i j:Int}{n:Nat}(h:(i-j).toNat=n):Builtin.Range.rangeSize i j (-1)=n:=by
 unfold Builtin.Range.rangeSize;simp only[show ¬(-1:Int) > 0 by decide,if_false,Int.neg_neg,Int.ediv_one]
 split <;> omega
theorem v5 {xs:List Int}{i:Nat}{v:Int}(h:xs[i]?=some v):atI (xs.map V.int) (i:Int)=some (V.int v):=eI (by rw[az,h];rfl)
theorem Same.more {H H':Hp}{p:Addr}{o:HO}(e:Same H H')(h:H p=none):Same H (L2.upd H' p o):=λb u q=>by rw[aj (dq q h)];exact e b u q
section
variable {κ:Type}[DecidableEq κ]
noncomputable def dU (kvs:List (κ×V)) (k:κ):Option V:=(kvs.find? λkv=>decide (kv.1=k)).map (·.2)
noncomputable def gh (kvs:List (κ×V)) (k:κ) (v:V):List (κ×V):=
 if (kvs.any λkv=>decide (kv.1=k))=true then kvs.map (λkv=>if kv.1=k then (kv.1,v) else kv) else kvs++[(k,v)]
theorem JO {p:κ×V}{r:List (κ×V)}{k:κ}(e:p.1=k):dU (p :: r) k=some p.2:=by simp[dU,xG,e]
theorem JP {p:κ×V}{r:List (κ×V)}{k:κ}(e:¬p.1=k):dU (p :: r) k=dU r k:=by simp[dU,xG,e]
theorem JQ (kvs:List (κ×V))(k:κ)(v:V):(gh kvs k v).length<=kvs.length+1:=by
 unfold gh
 split
 ·rw[ae];omega
 ·rw[bU,bX,xH];omega
theorem KV.val {kvs:List (κ×V)}{vs:List (κ×Value)}(r:KV kvs vs)(k:κ):RelO (dU kvs k) (valueAt vs k):=by
 unfold KV at r
 induction r with
 | nil=>exact True.intro
 | @cons p q ps qs h t ih=>
  obtain⟨h1,h2⟩:=h;by_cases e:p.1=k
  ·have e':q.1=k:=h1.symm.trans e;have b:valueAt (q :: qs) k=some q.2:=by simp[valueAt,xG,e']
   rw[JO e,b];exact h2
  ·have e':¬q.1=k:=λz=>e (h1.trans z);have b:valueAt (q :: qs) k=valueAt qs k:=by simp[valueAt,xG,e']
   rw[JP e,b];exact ih
theorem KV.any {kvs:List (κ×V)}{vs:List (κ×Value)}(r:KV kvs vs)(k:κ):(kvs.any λkv=>decide (kv.1=k))=vs.any λkv=>decide (kv.1=k):=by
 unfold KV at r
 induction r with
 | nil=>rfl
 | cons h t ih=>rw[q_,q_,ih,h.1]
theorem KV.repl {kvs:List (κ×V)}{vs:List (κ×Value)}(r:KV kvs vs)(k:κ){y:V}{u:Value}(ry:RelV y u):
  KV (kvs.map λkv=>if kv.1=k then (kv.1,y) else kv) (vs.map λkv=>if kv.1=k then (kv.1,u) else kv):=by
 unfold KV at r ⊢
 induction r with
 | nil=>exact .nil
 | @cons p q ps qs h t ih=>
  rw[c_,c_];refine .cons ?_ ih;obtain⟨h1,h2⟩:=h;by_cases e:p.1=k
  ·rw[if_pos e,if_pos (h1.symm.trans e)];exact⟨h1,ry⟩
  ·rw[if_neg e,if_neg (λz=>e (h1.trans z))];exact⟨h1,h2⟩
theorem KV.put {kvs:List (κ×V)}{vs:List (κ×Value)}(r:KV kvs vs)(k:κ){y:V}{u:Value}(ry:RelV y u):KV (gh kvs k y) (stored vs k u):=by
 unfold gh stored;rw[r.any k];by_cases e:(vs.any λkv=>decide (kv.1=k))=true
 ·rw[if_pos e,if_pos e];exact r.repl k ry
 ·rw[if_neg e,if_neg e];exact Paired.snoc r ⟨rfl,ry⟩
theorem KV.length {kvs:List (κ×V)}{vs:List (κ×Value)}(r:KV kvs vs):kvs.length=vs.length:=Paired.length r
end
theorem JR {P:Program}{w:World}{k:Key}{u:Value}(r:RelV (kV k) u):(im P w).is k u=true:=by
 cases k with
 | inl i=>obtain⟨t,e⟩:=(show ∃t,u=Value.int i t from r);subst e;exact Ij P w i t
 | inr x=>obtain⟨t,e⟩:=(show ∃t,u=Value.str x t from r);subst e;exact Ik P w x t
section
variable {P:Program}{w:World}{H:Hp}{h:Heap}{a:Addr}
theorem JS {u:HO}(ok:HOk P w H h)(e:Rd H a u):ObjOk P w H h a u:=e.ok ok
theorem JT {kvs:List (Key×V)}(ok:HOk P w H h)(e:Rd H a (.dK kvs)):kvs.length<=sizeLine∧(a == sysModules)=false∧∃vs,KV kvs vs∧h.DictOf (im P w) a vs:=
 show ObjOk P w H h a (.dK kvs) from JS ok e
theorem JU {kvs:List (Key×V)}(ok:HOk P w H h)(e:H a=some (.dK kvs)):kvs.length<=sizeLine∧(a == sysModules)=false∧∃vs,KV kvs vs∧h.DictOf (im P w) a vs:=JT ok (.inl e)
end
def jQ (H:Hp)(a:Addr)(y:V)(r:Option V):Prop:=
 (∃kvs k,Rd H a (.dK kvs)∧y=kV k∧r=dU kvs k)∨∃kvs k b,Rd H a (.dT kvs)∧y=.ref b∧H b=some (.tup (k.map kV))∧r=dU kvs k
def CT (H:Hp)(a:Addr)(y v:V)(H':Hp):Prop:=
 (∃kvs k,H a=some (.dK kvs)∧y=kV k∧kvs.length<sizeLine∧H'=upd H a (.dK (gh kvs k v)))∨
 ∃kvs k b,H a=some (.dT kvs)∧y=.ref b∧H b=some (.tup (k.map kV))∧kvs.length<sizeLine∧H'=upd H a (.dT (gh kvs k v))
section
variable {X:Cx}{Tj:List (Addr×Obj)}{σ:St}{H:Hp}{s:Shared}{a:Addr}{y v:V}{u r:Value}{o:Option V}{A:Around}{E:Value->Shared->Prop}
theorem Inv.big (I:Inv X Tj σ H s):sysModules<s.heap.objs.size:=by
 have h:mainGlobals<s.heap.objs.size:=(I.mod.glob.keeps I.bk).lt;exact Nat.lt_trans (by decide) h
theorem JV {h':Heap}{t':Nat}{ob:HO}(I:Inv X Tj σ H s)(mu:Mut (H a))(hs:Heap.SameBut a s.heap h')(he:∃q,h'.get? a=some q)(new:ObjOk X.prog X.w (upd H a ob) h' a ob):
  Inv X Tj σ (upd H a ob) { s with heap:=h',toks:=t' }:=
 I.write (x:=a) (e:=a) mu (.inl rfl) (λb q hb z=>(hs.2 b hb).trans z) he new
theorem JW {P:Program}{w:World}{H':Hp}{h':Heap}{kvs:List (Key×V)}{vs:List (Key×Value)}(z:kvs.length<=sizeLine)(hd:(a == sysModules)=false)(rel:KV kvs vs)(dd:h'.DictOf (im P w) a vs):
  ObjOk P w H' h' a (.dK kvs):=⟨z,hd,vs,rel,dd⟩
end
def JX (td ty:TE):TE:=λσ H Q=>td σ H λx H1=>ty σ H1 λy H2=>∃a v,x=.ref a∧jQ H2 a y (some v)∧Q v H2
def JY (ty td:TE):TE:=λσ H Q=>ty σ H λy H1=>td σ H1 λx H2=>∃a o,x=.ref a∧jQ H2 a y o∧Q (.bl (!o.isSome)) H2
def JZ (td ty tv:TE):TS:=λD σ H=>tv σ H λv H1=>td σ H1 λx H2=>ty σ H2 λy H3=>∃a H4,x=.ref a∧CT H3 a y v H4∧D.nx σ H4
theorem J0 {P:Program}{w:World}{H:Hp}(h:Heap)(hb:sysModules<h.objs.size):ObjOk P w H (h.push { cls:=.type "dict",data:=.dict #[] }) h.objs.size (.dK []):=
 ⟨aI _,beq_eq_false_iff_ne.mpr (Ne.symm (cC hb)),[],.nil,Heap.DictOf.new h⟩
def CU:TE:=λ_ H Q=>∀p,H p=none->Q (.ref p) (upd H p (.dK []))
def J3:TE:=λ_ H Q=>∀p,H p=none->Q (.ref p) (upd H p (.dT []))
section
variable {X:Cx}{pos:Pos}
theorem J4:PE X (.Dict [] [] pos) CU:=λTj s σ H Q I h=>
 wpAny_Dict_empty ⟨.ref s.heap.objs.size,_,I.laid (a:=s.heap.objs.size) (o:=.dK []) (t':=s.toks) (λ_ _ q=>Heap.get?_push_of_some _ q) (am _) (J0 s.heap I.big),rfl,h _ (I.hok.fresh (am _))⟩
end
def jR:List (TE×TE)->St->Hp->(List (V×V)->Hp->Prop)->Prop
 | [],_,H,Q=>Q [] H
 |(tk,tv) :: r,σ,H,Q=>tk σ H λx H1=>tv σ H1 λy H2=>jR r σ H2 λps H3=>Q ((x,y) :: ps) H3
structure M1 (X:Cx)(o:Expr)(m:Str)(apos:Pos)(e:Expr)(cpos:Pos):Prop where
 base:attributeBase o m X.env (eval o X.env)=eval o X.env
 few:((backTo cpos (starEach [e] X.env)).all (λx=>!x.1) && (backToKw cpos (keywordEach [] X.env)).all (λx=>x.1.isSome)
  && decide (([e]:List Expr).length+([]:List Keyword).length+(if ([]:List Keyword).isEmpty then 0 else 1)<30))=true
 line:(apos.endLine == cpos.line)=true
 trees:backTo cpos (starEach [e] X.env)=[(false,eval e X.env)]
structure M2 (X:Cx)(o:Expr)(m:Str)(apos:Pos)(e f:Expr)(cpos:Pos):Prop where
 base:attributeBase o m X.env (eval o X.env)=eval o X.env
 few:((backTo cpos (starEach [e,f] X.env)).all (λx=>!x.1) && (backToKw cpos (keywordEach [] X.env)).all (λx=>x.1.isSome)
  && decide (([e,f]:List Expr).length+([]:List Keyword).length+(if ([]:List Keyword).isEmpty then 0 else 1)<30))=true
 line:(apos.endLine == cpos.line)=true
 trees:backTo cpos (starEach [e,f] X.env)=[(false,eval e X.env),(false,eval f X.env)]
def IsD (H:Hp)(a:Addr):Prop:=(∃kvs,Rd H a (.dK kvs))∨∃kvs,Rd H a (.dT kvs)
def J5 (td ty tx:TE):TE:=λσ H Q=>td σ H λx H1=>∃a,x=.ref a∧IsD H1 a∧ty σ H1 λy H2=>tx σ H2 λz H3=>∃o,jQ H3 a y o∧Q (o.getD z) H3
structure Grd (P:Program)(w:World)(fs:List Addr)(H H':Hp)(h B:Heap):Prop where
 keep:∀b o,h.get? b=some o->H b=none->b∉fs->B.get? b=some o
 there:∀b o,h.get? b=some o->b∉fs->∃o',B.get? b=some o'
 free:∀b o,h.get? b=some o->H b=none->H' b=none
 tups:∀b xs,H b=some (.tup xs)->H' b=some (.tup xs)
 frzs:∀b o u,H b=some (.frz o u)->H' b=some (.frz o u)
 tbls:∀b ps,H b=some (.tbl ps)->∃more,H' b=some (.tbl (ps++more))
 hok:HOk P w H' B
def Slt (fs:List Addr)(h h':Heap):Prop:=∀b o,h.get? b=some o->b∈fs->∃sl,h'.get? b=some { o with slots:=sl }
def CXE (P:Program)(w:World):CXT:=λouter H s E e s'=>∃(a t C:Addr) (H':Hp) (B:Heap),e=.ref a∧s'.os=s.os∧AllBare s'.gens∧Heap.FlyingW B outer a (.ref C) (.ref t) s'.heap∧
 Grd P w (frs outer) H H' s.heap B∧Slt (frs outer) s.heap s'.heap∧E (.ref C) none H'
theorem v7 {P:Program}{w:World}{X:Cx}:iO (CXE P w) X E0:=λ_ _ _ _ _ _ _ h=>by
 obtain⟨_,_,_,_,_,_,_,_,_,_,_,q⟩:=h;exact q.elim
section
variable {X:Cx}{Tj:List (Addr×Obj)}{σ:St}{H H':Hp}{s:Shared}
theorem HOk.hide {P:Program}{w:World}{h:Heap}{fs:List Addr}(x:HOk P w H h)(hf:∀b∈fs,H b=none):HOk P w H (PySem.W.hideAll h fs):=λa o e=>
 (x a o e).stay (λb u hb q=>PySem.W.hideAll_get _ q λz=>by
  have n:=hf b z;rcases hb with hb|hb
  ·rw[hb,e]at n;cases n
  ·rw[hb]at n;cases n) (λ_ q=>q) λ_ _ q=>q
end
section
variable {P:Program}{w:World}{K:W.Frag}{mg:Str->Option Value}{base:Heap}{N:List Str}{qual:Str}{scope:Scope}{f:Addr}{cd:Value}{A:Around}{outer:List Env}{s0:Shared}{H0:Hp}{E:XK}
theorem CV {Tj:List (Addr×Obj)}{σ:St}{H:Hp}{s:Shared}(I:Inv (fP (CXE P w) P w K mg base N qual scope f cd A outer s0 H0 E) Tj σ H s){b:Addr}{o:Obj}(q:s0.heap.get? b=some o)(hb:b∉frs outer):
  b∉frs (envOfC qual scope s0.heap.objs.size f cd :: outer):=λz=>by
 rcases aO.mp (I.stkSub b z) with e|e
 ·exact absurd (Heap.lt_size q) (by rw[e];exact Nat.not_lt.mpr I.ok.above)
 ·exact hb e
theorem J7 {Tj:List (Addr×Obj)}{σ:St}{H:Hp}{s:Shared}{h':Heap}{a C:Addr}{args:List Value}(I:Inv (fP (CXE P w) P w K mg base N qual scope f cd A outer s0 H0 E) Tj σ H s)
  (hx:Heap.MadeExcOf s.heap h' a (.ref C) args) (q:E (.ref C) none H):(fP (CXE P w) P w K mg base N qual scope f cd A outer s0 H0 E).xe (.ref a) { s with heap:=h' }:=by
 have hfs:∀b∈frs (envOfC qual scope s0.heap.objs.size f cd :: outer),H b=none:=I.stkFree;have hin:∀env∈(envOfC qual scope s0.heap.objs.size f cd :: outer),∀b,env.frame=some b->b∈frs (envOfC qual scope s0.heap.objs.size f cd :: outer):=λenv he b hb=>Gk.mpr ⟨env,he,hb⟩;have hst:s.heap.FunFrames base (envOfC qual scope s0.heap.objs.size f cd :: outer):=I.stack;have noE:∀b:Addr,b∉(fP (CXE P w) P w K mg base N qual scope f cd A outer s0 H0 E).ex:=λb z=>absurd (show b∈([]:List Addr) from z) (by simp);refine wpAny_leaves_madeW (base:=PySem.W.hideAll s.heap (frs (envOfC qual scope s0.heap.objs.size f cd :: outer))) I.ok.frames rfl (λb o z=>PySem.W.of_hideAll _ z) (PySem.W.funFrames_hide hst hin) hx λh2 t fl _ _ up=>?_;refine⟨a,t,C,H,_,rfl,I.os,I.bare,fl,⟨λb o e n hb=>?_,λb o e hb=>?_,λb o e n=>I.base.free b o e n (noE b),I.base.tups,I.base.frzs,I.base.tbls,I.hok.hide hfs⟩,λb o e hb=>?_,q⟩
 ·exact PySem.W.hideAll_get _ (I.base.keep b o e n hb (noE b)) (CV I e hb)
 ·obtain⟨o',e'⟩:=I.base.there b o e (noE b);exact⟨o',PySem.W.hideAll_get _ e' (CV I e hb)⟩
 ·obtain⟨_,o',ho',hd⟩:=I.ok.funs.mem hb;rw[show (fP (CXE P w) P w K mg base N qual scope f cd A outer s0 H0 E).s₀.heap.get? b=some o from e]at ho';cases ho';obtain⟨sl,e1⟩:=I.base.slot b o e (I.ok.frf b hb) hb (noE b);obtain⟨sl',e2⟩:=up b _ (hx.keeps _ _ e1) hd;exact⟨sl',e2⟩
theorem Fun.okE {x:Str}{st:Stmt}{fd:FuncData}{ps:List Str}{k:Nat}{sp:Sp}(F:Fun K x qual st f fd) (S:FnScope N ps (aR st)) (len:∀vs H Q E,sp vs H Q E->vs.length=ps.length)
  (hbody:∀(cdv:Value) (A:Around) (outer:List Env) (s:Shared) (H:Hp) (vs:List V) (Q:VK) (E:XK),Room k (A.deeper (envOfC qual (aR st) s.heap.objs.size f cdv))->sp vs H Q E->
   ∃t,PSs (fP (CXE P w) P w K mg base N qual (aR st) f cdv A outer s H E) (jk st) t∧t { nx:=λ_ H'=>Q .non H',rt:=Q } (gB N vs) H):FnOk P w K mg base (CXE P w) (k+1) f fd ps sp:=by
 obtain⟨oc,od,kV,doc,pm,an,cdv,ct,osl,rfl,lk,hcd⟩:=F.ex;exact Ck lk hcd S len λA outer s H vs Q E hr hsp=>hbody cdv A outer s H vs Q E hr hsp
end
theorem PS.nox {X:Cx}{st:Stmt}{t:TS}(h:PS X.nox st t):PS X st t:=λTj s σ H D I hw=>
 wpAny_mono (h Tj s σ H D (I.wish _) hw) (λ_ _ q=>q.unwish) λ_ _ z=>False.elim z
abbrev bmV:List Value:=[.type "ValueError",.type "Exception",.type "BaseException",.type "object"]
theorem J8 {K:W.Frag}{C:Addr}(q:PySem.W.excIn K C bmV "ValueError.__new__" = true):∃bm N nm qn bs hd sn sub ab col dd k0 k1 k2 k3 k5,
  K.lookup C=some (excClassObj nm qn C N bs bm hd sn sub ab col dd k0 k1 k2 k3 k5 "ValueError.__new__")∧PySem.W.tailIn K bmV bm=true∧PySem.W.nsOkIn K N=true∧PySem.W.nsIn K N "__init__" = some none:=by
 unfold PySem.W.excIn at q
 split at q
 ·rename_i dd cd sl ho
  split at q
  ·rename_i C1 bm k0 k1 k2 k3 n k5 hm hs;rw[Bool.and_eq_true,Bool.and_eq_true,Bool.and_eq_true,Bool.and_eq_true,Bool.and_eq_true]at q;obtain⟨⟨⟨⟨⟨q1,q2⟩,q3⟩,q4⟩,q5⟩,q6⟩:=q;have r1:=beq_iff_eq.mp q1;have r2:=beq_iff_eq.mp q2;have r6:=beq_iff_eq.mp q6;subst r1 r2;obtain⟨nm,bs,mro,ns,qn,hd,sn,sub,ab,col,del⟩:=cd;simp only at hm q3 q5 r6;have q3':del=false:=by cases del <;> simp at q3 ⊢
   subst hm q3';obtain⟨l⟩:=sl;simp only at hs;subst hs;exact⟨bm,ns,nm,qn,bs,hd,sn,sub,ab,col,dd,k0,k1,k2,k3,k5,ho,q4,q5,r6⟩
  ·cases q
 ·cases q
def CW (X:Cx)(E:XK):Prop:=∀(Tj:List (Addr×Obj)) (σ:St) (H:Hp) (s:Shared) (h':Heap) (a C:Addr) (args:List Value),Inv X Tj σ H s->Heap.MadeExcOf s.heap h' a (.ref C) args->E (.ref C) none H->X.xe (.ref a) { s with heap:=h' }
theorem J9 {P:Program}{w:World}{K:W.Frag}{mg:Str->Option Value}{base:Heap}{N:List Str}{qual:Str}{scope:Scope}{f:Addr}{cd:Value}{A:Around}{outer:List Env}{s0:Shared}{H0:Hp}{E:XK}:
  CW (fP (CXE P w) P w K mg base N qual scope f cd A outer s0 H0 E) E:=λ_ _ _ _ _ _ _ _ I hx q=>J7 I hx q
def CY (C:Addr)(ta:TA)(E:XK):TS:=λ_ σ H=>ta σ H λvs H1=>vs.length<=sizeLine∧E (.ref C) none H1
theorem pj {C:Addr}{ta:TA}{E:XK}{D:Ends}{σ:St}{H:Hp}:CY C ta E D σ H=ta σ H λvs H1=>vs.length<=sizeLine∧E (.ref C) none H1:=rfl
theorem J_ {X:Cx}{E:XK}{x:Str}{C:Addr}{e0:Expr}{ta:TA}{np cpos pos:Pos}(hc:X.calm=true) (hr:CW X E) (hg:Gl X x) (hm:X.mg x=some (.ref C)) (hx:PySem.W.excIn X.K C bmV "ValueError.__new__" = true) (ha:PA X [e0] ta)
  (he:starEach [e0] X.env=[(false,eval e0 X.env)]:=by rfl) (hpl:(backTo cpos (starEach [e0] X.env)).any (·.1)=false:=by rfl) (hd:(x == ("__debug__" : Str))=false:=by decide):
  PS X (.Raise (some (.Call (.Name x np) [e0] [] cpos)) none pos) (CY C ta E):=by
 intro Tj s σ H D I h;obtain⟨bm,N,nm,qn,bs,hdc,sn,sub,ab,col,dd,k0,k1,k2,k3,k5,lk,tl,ok,ni⟩:=J8 hx;have T0:OwnTail s.heap bmV bm:=PySem.W.tail_of_in I.kIn tl;refine wpAny_Raise_call_subT (C:=C) (nm:=nm) (q:=qn) (N:=N) (bs:=bs) (bm:=bm) (hdct:=hdc) (sn:=sn) (sub:=sub) (ab:=ab) (col:=col) (dd:=dd) (k0:=k0) (k1:=k1) (k2:=k2) (k3:=k3) (k5:=k5)
  PySem.F.excBase_ValueError (mN:=s.heap.nsMap N) (T0.hasType PySem.F.excBase_ValueError.hasBase) (I.ok.hd hc) hpl (PySem.W.nsMap_none_of_in I.kIn ok ni) (mG I hg hm ⟨rfl,?_⟩ hd)
 have ns0:s.heap.Ns N (s.heap.nsMap N):=.of_isNs (PySem.W.isNs_of_in I.kIn ok);have h2:=ha cpos Tj s σ H _ I h;rw[he]at h2 ⊢;refine Calls.evalArgs_plain (wpAny_mono h2 (λvs s2 z=>?_) λ_ _ y=>y);obtain⟨xs,H1,I1,r1,q1,q2⟩:=z;have eN:s.heap.nsMap N=s2.heap.nsMap N:=by
  obtain⟨o,es,ep,ho,hdt,_⟩:=id ns0;unfold PySem.W.nsOkIn at ok
  split at ok
  ·rename_i z;unfold Heap.nsMap;rw[I.kIn _ _ z,I1.kIn _ _ z]
  ·cases ok
 refine⟨rfl,by rw[←r1.length];exact q1,I1.kIn _ _ lk,?_,PySem.W.tail_of_in I1.kIn tl,λh' a hm'=>hr Tj σ H1 s2 h' a C vs I1 hm' q2⟩;rw[eN];exact .of_isNs (PySem.W.isNs_of_in I1.kIn ok)
def pk (a C:Addr):HO:=.ext λh=>∃oe vs,h.get? a=some oe∧oe.cls=.ref C∧oe.data=.fields vs
structure Catches (K:W.Frag)(C D:Addr):Prop where
 c:PySem.W.excIn K C bmV "ValueError.__new__" = true
 d:PySem.W.excIn K D bmV "ValueError.__new__" = true
 base:PySem.W.mroIn K D (.type "BaseException")=some true
 sub:PySem.W.mroIn K C (.ref D)=some true
def Ka (K:W.Frag)(Dc:Addr)(t:XK->TS)(th:TS):TS:=λD σ H=>t (λc _ H1=>∃C,c=.ref C∧Catches K C Dc∧∀a,H1 a=none->th D σ (upd H1 a (pk a C))) D σ H
theorem pA {K:W.Frag}{Dc:Addr}{t:XK->TS}{th:TS}{D:Ends}{σ:St}{H:Hp}:Ka K Dc t th D σ H=t (λc _ H1=>∃C,c=.ref C∧Catches K C Dc∧∀a,H1 a=none->th D σ (upd H1 a (pk a C))) D σ H:=rfl
def Ends.drop (D:Ends)(i:Nat):Ends:={ nx:=λσ H=>D.nx (σ.set i none) H,rt:=D.rt,bk:=λσ H=>D.bk (σ.set i none) H,ct:=λσ H=>D.ct (σ.set i none) H }
def Kb (K:W.Frag)(Dc:Addr)(i:Nat)(t:XK->TS)(th:TS):TS:=λD σ H=>t (λc _ H1=>∃C,c=.ref C∧Catches K C Dc∧∀a,H1 a=none->th (D.drop i) (σ.set i (some (.ref a))) (upd H1 a (pk a C))) D σ H
theorem pB {K:W.Frag}{Dc:Addr}{i:Nat}{t:XK->TS}{th:TS}{D:Ends}{σ:St}{H:Hp}:Kb K Dc i t th D σ H=t (λc _ H1=>∃C,c=.ref C∧Catches K C Dc∧∀a,H1 a=none->th (D.drop i) (σ.set i (some (.ref a))) (upd H1 a (pk a C))) D σ H:=rfl
theorem pC {D:Ends}{i:Nat}{σ:St}{H:Hp}:(D.drop i).nx σ H=D.nx (σ.set i none) H:=rfl
open PySem PySem.Spec PySem.W PyProof.Rows Builtin Builtin.ObjectAttr Builtin.Getset_descriptor
theorem pD {K:W.Frag}{a:Addr}{xs:List V}{g:TG}{tb:TS}{D:Ends}{σ:St}{H:Hp}(Pv:Nat->St->Hp->Prop) (h0:Pv 0 σ H) (hl:∀i σ H,i<=xs.length->Pv i σ H->SqL K H a xs)
  (hs:∀i v p σ H,xs[i]?=some v->Pv i σ H->H p=none->g (.ref p) σ (upd H p (.tup [.int i,v])) λσ2 H2=>tb { D with nx:=Pv (i+1),ct:=Pv (i+1),bk:=D.nx } σ2 H2) (hd:∀σ H,Pv xs.length σ H->D.nx σ H):iS (Ite K a) g tb D σ H:=JM Pv h0 hl hs hd
theorem Kc {prog:Program}{w:World}{A:Around}{R:Result->Shared->Prop}{s:Shared}{elt target iter cnd:Expr}{scope:Scope}{pos:Pos}{it acc:Value}{env:Env}(I:Nat->Shared->Prop)
  (turn:∀n s (E:Value->Shared->Prop),I n s->wpAny (model prog w) A (pyNext it) (λr s₁=>match r with
   | none=>R (.ok .next) s₁
   | some v=>wpAny (model prog w) A (letOwnedTupleGo target it v) (λ_ s₂=>wpAny (model prog w) A (assign target env v) (λ_ s₃=>wpAny (model prog w) A (isTrue cnd env (eval cnd env)) (λb s₄=>if b=true then wpAny (model prog w) A (eval elt env) (λx s₅=>
     wpAny (model prog w) A (call (.builtin "list.append") [acc,x]) (λ_ s₆=>∃m,m<n∧I m s₆) E s₅) E s₄ else ∃m,m<n∧I m s₄) E s₃) E s₂) E s₁) E s)
  (n:Nat) (h:I n s):
  codeAny (model prog w) A (.compLoop (.ListComp elt [⟨target,iter,[cnd],0⟩] scope pos) 0 it acc env) R s:=by
 refine codeAny_loop rfl I (λn s hI=>?_) n h;show wpAny _ _ ((compTurn (.ListComp elt [⟨target,iter,[cnd],0⟩] scope pos) 0 it acc env).onRaise (λx=>do noteFrame x env;theTreesLotGoes x)) _ _ s;refine wpAny_noted ?_;unfold compTurn;dsimp only[Gr];refine wpAny_bind (wpAny_standAt (wpAny_bind (wpAny_mono (turn n s _ hI) (λr s₁ h₁=>?_) λ_ _ h'=>h')))
 cases r with
 | none=>exact wpAny_pure h₁
 | some v=>
  refine wpAny_bind (thn h₁ λ_ s₂ h₂=>wpAny_bind (thn h₂ λ_ s₃ h₃=>wpAny_bind ?_));rw[List.forIn_cons,if_pos rfl];refine wpAny_bind (wpAny_bind (thn h₃ λb s₄ h₄=>wpAny_pure ?_));dsimp only;rw[List.forIn_nil];refine wpAny_pure ?_
  cases b with
  | true=>
   rw[if_pos rfl]at h₄ ⊢;exact wpAny_bind (wpAny_bind (thn h₄ λx s₅ h₅=>wpAny_bind (thn h₅ λ_ s₆ h₆=>wpAny_pure (wpAny_pure ⟨rfl,h₆⟩))))
  | false=>
   rw[if_neg (by decide)]at h₄ ⊢;exact wpAny_pure ⟨rfl,h₄⟩
section
variable {X:Cx}{elt iter cnd:Expr}{x:Str}{px:Pos}{fv:List (Nat×Str)}{scope:Scope}{cl:List (Str×Addr)}{pos:Pos}{te:TE}{tt:TT}{wi:TI}
def v8 (J:It)(fv:List (Nat×Str))(tt:TT)(te:TE)(Q:VK)(σ:St)(H1:Hp)(D:Addr):Prop:=∃W:Nat->Nat->Hp->Prop,(∃m,W 0 m (upd H1 D (.lst [])))∧∀i m H,W i m H->
 (J.stop i H∧Q (.ref D) H)∨(J.go i H∧∃N:Hp->Prop,(∀H',N H'->∃m',m'<m∧W (i+1) m' H')∧∀v H',J.yld i H v H'->tt (bst fv σ (some v)) H' λb Hb=>if b=true then te (bst fv σ (some v)) Hb λy H2=>∃ys,H2 D=some (.lst ys)∧ys.length<sizeLine∧N (upd H2 D (.lst (ys++[y]))) else N Hb)
def CZ (fv:List (Nat×Str))(wi:TI)(tt:TT)(te:TE):TE:=λσ H Q=>wi σ H λJ H1=>∀D,H1 D=none->v8 J fv tt te Q σ H1 D
theorem Kd {Tj:List (Addr×Obj)}{σ:St}{H:Hp}{s2:Shared}{it:Addr}{fp:List Addr}{tn:Nat->Heap->Prop}{J:It}{Q:VK}{E:Value->Shared->Prop}{RR:Value->Addr->Result->Shared->Prop}
  (hc:X.calm=true) (B:BlkOk X x fv scope cl) (hcn:∀C s H fp,PT (blk X x fv scope cl C s H fp) cnd tt) (he:∀C s H fp,PE (blk X x fv scope cl C s H fp) elt te) (I:Inv X Tj σ H s2) (T:Turn X.prog X.w X.K (.Name x px) J fp it tn) (st:tn 0 s2.heap) (hf:∀b∈fp,cF X Tj H b)
  (rd:∀D,H D=none->∃W:Nat->Nat->Hp->Prop,(∃m,W 0 m (upd H D (.lst [])))∧∀i m H,W i m H->
   (J.stop i H∧Q (.ref D) H)∨(J.go i H∧∃N:Hp->Prop,(∀H',N H'->∃m',m'<m∧W (i+1) m' H')∧∀v H',J.yld i H v H'->tt (bst fv σ (some v)) H' λb Hb=>if b=true then te (bst fv σ (some v)) Hb λy H2=>∃ys,H2 D=some (.lst ys)∧ys.length<sizeLine∧N (upd H2 D (.lst (ys++[y]))) else N Hb))
  (hRR:∀D C s' H' m',Inv X Tj σ H' s'->cF X Tj H' C->s'.heap.Ns C m'->Q (.ref D) H'->RR (.ref D) C (.ok .next) s'):
  wpAny (model X.prog X.w) X.A (newList []) (λacc s₃=>wpAny (model X.prog X.w) X.A (newFunctionEnv scope X.env.globals cl [] X.env.qual none .none (some X.env)) (λcenv s₄=>
   codeAny (model X.prog X.w) X.A (.compStart (.ListComp elt [⟨.Name x px,iter,[cnd],0⟩] scope pos) 0 (.ref it) acc { cenv with scope:=relabel scope X.env }) (RR acc cenv.locals) s₄) E s₃) E s2:=by
 refine wpAny_newObj_type ?_ (by show 0<=sizeLine;exact aI _);have hD:H s2.heap.objs.size=none:=I.hok.fresh (am _);have I3:=I.lnew (ys:=[]) (its:=[]) (t':=s2.toks) .nil (aI _);generalize hs3:({ s2 with heap:=s2.heap.push { cls:=.type "list",data:=.seq ([]:List Value).toArray },toks:=s2.toks }:Shared)=s3 at I3;have sz3:s3.heap.objs.size=s2.heap.objs.size+1:=by rw[←hs3];exact Heap.size_push ..
 have up3:∀b o,s2.heap.get? b=some o->s3.heap.get? b=some o:=λb o e=>by rw[←hs3];exact Heap.get?_push_of_some _ e
 have hf3:∀b∈fp,cF X Tj (upd H s2.heap.objs.size (.lst [])) b:=λb hb=>by
  obtain⟨f0,r⟩:=hf b hb;refine⟨?_,r⟩;obtain⟨o,e,_⟩:=T.obj 0 _ st b hb;rw[aj (cC (Heap.lt_size e))];exact f0
 have ltf:∀b∈fp,b<s2.heap.objs.size:=λb hb=>by
  obtain⟨o,e,_⟩:=T.obj 0 _ st b hb;exact Heap.lt_size e
 have st3:tn 0 s3.heap:=T.keep 0 _ _ st λb _ o e=>up3 b o e;obtain⟨W,⟨m0,w0⟩,turn⟩:=rd _ hD;refine wpAny_newFunctionEnv B.nocell (by intro y hy;simp at hy) (λh₁ hns₁ hsb₁=>?_) B.kind;have hfC:∀b∈fp,b≠s3.heap.objs.size:=λb hb=>cC (by rw[sz3];exact lV (ltf b hb));have up4:∀b o,s3.heap.get? b=some o->h₁.get? b=some o:=λb o e=>hsb₁.extBut b o (cC (Heap.lt_size e)) (Heap.get?_push_of_some _ e);generalize hs4:({ s3 with heap:=h₁,toks:=s3.toks+([]:List (Str×Value)).length }:Shared)=s4;have h4:s4.heap=h₁:=by rw[←hs4]
 have I4:Inv (blk X x fv scope cl s3.heap.objs.size s3 (upd H s2.heap.objs.size (.lst [])) fp) [] (bst fv σ none) (upd H s2.heap.objs.size (.lst [])) s4:=
  CG B I3 hf3 rfl hfC (by rw[←hs4]) (by rw[←hs4]) (λb o e=>by rw[h4];exact up4 b o e) (by rw[h4];exact hns₁)
 have st4:tn 0 s4.heap:=by rw[h4];exact T.keep 0 _ _ st3 λb _ o e=>up4 b o e
 have stat:∀{H':Hp},(∀b∈fp,H' b=none)->∀b∈fp,cF (blk X x fv scope cl s3.heap.objs.size s3 (upd H s2.heap.objs.size (.lst [])) fp) [] H' b:=λ{H'} hn b hb=>by
  obtain⟨_,f1,f2,f3,f4,f5⟩:=hf b hb;refine⟨hn b hb,hfC b hb,λz=>?_,.inl hb,λy c e=>f4 y c (B.sub y c e),λp hp=>absurd (show p∈([]:List (Addr×Obj)) from hp) (by simp)⟩;rcases aO.mp (I.stkSub b z) with q|q
  ·exact f1 q
  ·exact f2 q
 have loop:codeAny (model X.prog X.w) X.A (.compLoop (.ListComp elt [⟨.Name x px,iter,[cnd],0⟩] scope pos) 0 (.ref it) (.ref s2.heap.objs.size) (compEnvC scope cl s3.heap.objs.size X.env)) (RR (.ref s2.heap.objs.size) s3.heap.objs.size) s4:=by
  refine Kc (λn s'=>∃i H' o,Inv (blk X x fv scope cl s3.heap.objs.size s3 (upd H s2.heap.objs.size (.lst [])) fp) [] (bst fv σ o) H' s'∧tn i s'.heap∧(∀b∈fp,H' b=none)∧W i n H') ?_ m0
   ⟨0,_,none,I4,st4,λb hb=>(hf3 b hb).1,w0⟩
  rintro n s5 E' ⟨i,H5,o5,I5,st5,fr5,w5⟩
  rcases turn i n H5 w5 with ⟨stop,q⟩|⟨go,N,hN,step⟩
  ·refine thn (T.done (blk X x fv scope cl s3.heap.objs.size s3 (upd H s2.heap.objs.size (.lst [])) fp) rfl rfl rfl hc i [] s5 _ H5 _ I5 (stat fr5) st5 stop) λr s6 ⟨hr,I6⟩=>?_;subst hr;obtain⟨m6,hn6,_⟩:=I6.loc;have un:Un (frs X.stack) fp H H5 s2.heap s6.heap:=by
    have u1:Un (frs X.stack) fp H (upd H s2.heap.objs.size (.lst [])) s2.heap s3.heap:=Un.laid up3 (am _) hD;exact u1.trans I6.base
   have J6:Inv X Tj σ H5 s6:=by
    refine I.call' ?_ un I6.hok I6.bare λb hb=>?_
    ·have:=I6.os;rw[show (blk X x fv scope cl s3.heap.objs.size s3 (upd H s2.heap.objs.size (.lst [])) fp).s₀.os=s2.os by rw[←hs3]]at this;exact this
    ·obtain⟨_,f1,f2,f3,f4,f5⟩:=hf b hb;exact⟨f3,f1,f4,f5⟩
   refine hRR _ _ s6 H5 m6 J6 ?_ hn6 q;exact I3.fpOk (am _) I6.free
  ·refine thn (T.item (blk X x fv scope cl s3.heap.objs.size s3 (upd H s2.heap.objs.size (.lst [])) fp) rfl rfl rfl hc i [] s5 _ H5 _ I5 (stat fr5) st5 go) λr s6 ⟨u,hr,h6⟩=>?_;subst hr;refine thn h6 λ_ s7 ⟨v,H7,I7,r7,y7,st7,fr7⟩=>?_;have I7':=I7.pinned (stat fr7) (T.obj _ _ st7);refine CH B I7' r7 λs8 I8=>?_;have c8:=hcn _ _ _ _ _ s8 _ H7 _ I8 (step v H7 y7);refine wpAny_mono c8 (λbb sb ⟨Hb,Ib,qb⟩=>?_) λ_ _ z=>False.elim z
   cases bb with
   | false=>
    rw[if_neg (by decide)]at qb;show (if false=true then _ else _);rw[if_neg (by decide)];obtain⟨m',hm,w9⟩:=hN _ qb;refine⟨m',hm,i+1,_,some v,Ib.unpinned,T.keep _ _ _ st7 λb hb o e=>(Ib.pin (b,o) (cP _ (cP _ (ge hb e)))).1,λb hb=>?_,w9⟩;obtain⟨o,e,_⟩:=T.obj _ _ st7 b hb;exact (Ib.pin (b,o) (cP _ (cP _ (ge hb e)))).2.1
   | true=>
    rw[if_pos rfl]at qb;show (if true=true then _ else _);rw[if_pos rfl];have e8:=he _ _ _ _ _ sb _ Hb _ Ib qb;refine wpAny_mono e8 (λy s9 ⟨yv,H9,I9,r9,ys,hD9,hz,n9⟩=>?_) λ_ _ z=>False.elim z;have a9:=e_ (X:=blk X x fv scope cl s3.heap.objs.size s3 (upd H s2.heap.objs.size (.lst [])) fp) _ s9 _ H9 (.ref s2.heap.objs.size) [yv] (.ref s2.heap.objs.size) [y] (λ_ H10=>H10=upd H9 s2.heap.objs.size (.lst (ys++[yv]))) I9 rfl (.cons r9 .nil)
     ⟨_,ys,yv,rfl,rfl,hD9,hz,rfl⟩
    refine wpAny_mono a9 (λ_ s10 ⟨_,H10,I10,_,e10⟩=>?_) λ_ _ z=>False.elim z;subst e10;obtain⟨m',hm,w9⟩:=hN _ n9;refine⟨m',hm,i+1,_,some v,I10.unpinned,T.keep _ _ _ st7 λb hb o e=>(I10.pin (b,o) (cP _ (cP _ (ge hb e)))).1,λb hb=>?_,w9⟩;obtain⟨o,e,_⟩:=T.obj _ _ st7 b hb;exact (I10.pin (b,o) (cP _ (cP _ (ge hb e)))).2.1
 exact codeAny_compStart_list loop (T.self _ 0 _ _ _ st4 loop)
end
theorem pE {fv:List (Nat×Str)}{wi:TI}{tt:TT}{te:TE}{σ:St}{H:Hp}{Q:VK}:CZ fv wi tt te σ H Q=wi σ H λJ H1=>∀D,H1 D=none->v8 J fv tt te Q σ H1 D:=rfl
theorem jS:∀{ns:List Int}{us:List Value},Vals (ns.map V.int) us->IntsAre us ns
 | [],us,h=>by
  cases h;exact .nil
 | n :: ns,us,h=>by
  cases h with
  | cons r rr=>
   obtain⟨t,rfl⟩:=r;exact .cons n t (jS rr)
theorem v9 {zs:Array (Int×Tok)}{ns:List Int}(e:ns=zs.toList.map (·.1)){j:Nat}(hj:j<zs.size):numAt zs j∈ns:=by
 rw[e,numAt_eq];exact PySem.getD_mem (by simpa using hj)
theorem v_ {zs:Array (Int×Tok)}{ns:List Int}(e:ns=zs.toList.map (·.1)){x:Int}(hx:x∈ns):∃j,j<zs.size∧numAt zs j=x:=by
 rw[e]at hx;obtain⟨i,hi,h⟩:=mem_getD hx;exact⟨i,by simpa using hi,by rw[numAt_eq];exact h⟩
theorem Ke {X:Cx}(hc:X.calm=true):fD X (.builtin "min") (λxs H Q=>∃p ns,xs=[.ref p]∧SqL X.K H p (ns.map V.int)∧ns≠[]∧∀M,M∈ns->(∀a,a∈ns->M<=a)->Q (.int M) H):=by
 intro Tj s σ H xs us Q I r h;obtain⟨p,ns,rfl,hq,hne,q⟩:=h;obtain⟨u,rfl,rx⟩:=gY r
 cases rx
 obtain⟨its,r',pl,hz⟩:=I.list hq;have hi:=jS r';obtain⟨zs,e⟩:=hi.allInts.items;have hns:ns=zs.toList.map (·.1):=by rw[←hi.numsOf,←nums_intItems,←e]
 have hsz:0<zs.size:=by
  have h3:=dO.mpr hne;rw[hns,ae,Array.length_toList]at h3;exact h3
 have hl:=pl.isList;rw[e]at hl;refine min_intList (I.ok.hd hc) hl hsz λv h' tk hv hk=>?_;obtain⟨tv,rfl⟩:=intItems_at hv;obtain⟨g1,g2⟩:=argBest_lt (numAt zs) (zs.size-1);refine⟨.int _,H,I.kept hk,⟨tv,rfl⟩,q _ (v9 hns (by omega)) λx hx=>?_⟩;obtain⟨i,hi,rfl⟩:=v_ hns hx;exact g2 i (by omega)
theorem Kf {X:Cx}(hc:X.calm=true):fD X (.builtin "max") (λxs H Q=>∃p ns,xs=[.ref p]∧SqL X.K H p (ns.map V.int)∧ns≠[]∧∀M,M∈ns->(∀a,a∈ns->a<=M)->Q (.int M) H):=by
 intro Tj s σ H xs us Q I r h;obtain⟨p,ns,rfl,hq,hne,q⟩:=h;obtain⟨u,rfl,rx⟩:=gY r
 cases rx
 obtain⟨its,r',pl,hz⟩:=I.list hq;have hi:=jS r';obtain⟨zs,e⟩:=hi.allInts.items;have hns:ns=zs.toList.map (·.1):=by rw[←hi.numsOf,←nums_intItems,←e]
 have hsz:0<zs.size:=by
  have h3:=dO.mpr hne;rw[hns,ae,Array.length_toList]at h3;exact h3
 have hl:=pl.isList;rw[e]at hl;refine max_intList (I.ok.hd hc) hl hsz λv h' tk hv hk=>?_;obtain⟨tv,rfl⟩:=intItems_at hv;obtain⟨g1,g2⟩:=argBest_gt (numAt zs) (zs.size-1);refine⟨.int _,H,I.kept hk,⟨tv,rfl⟩,q _ (v9 hns (by omega)) λx hx=>?_⟩;obtain⟨i,hi,rfl⟩:=v_ hns hx;exact g2 i (by omega)
@[reducible] def f7 (X:Cx) (x z:Str) (fv:List (Nat×Str)) (scope:Scope) (cl:List (Str×Addr)) (C:Addr) (s:Shared) (H:Hp) (fp:List Addr):Cx where
 prog:=X.prog
 w:=X.w
 K:=X.K
 mg:=X.mg
 base:=X.base
 A:=X.A
 N:=x :: z :: fv.map (·.2)
 s₀:=s
 H₀:=H
 env:=compEnvC scope cl C X.env
 outer:=X.stack
 stack:=X.stack
 ex:=fp
 fn:=λ_=>false
 calm:=X.calm
 pn:=[]
 xe:=λ_ _=>False
def ej (fv:List (Nat×Str))(σ:St)(v v2:Option V):St:=v :: v2 :: fv.map λp=>(σ[p.1]?).getD none
structure BlkOk2 (X:Cx)(x z:Str)(fv:List (Nat×Str))(scope:Scope)(cl:List (Str×Addr)):Prop where
 clos:closureFor scope X.env=pure cl
 nocell:∀y∈scope.names,y.2≠.cell
 kind:scope.kind=.function
 names:∀y∈scope.names,y.2=.local->scope.names.lookup y.1=some .local
 here:scope.names.lookup x=some .local
 here2:scope.names.lookup z=some .local
 nd:(x :: z :: fv.map (·.2)).Nodup
 sub:∀y c,cl.lookup y=some c->X.env.cells.lookup y=some c
 has:∀y,((relabel scope X.env).names.lookup y=some .cell∨(relabel scope X.env).names.lookup y=some .free)->∃c,cl.lookup y=some c
 fvs:∀p∈fv,X.N[p.1]?=some p.2∧(X.env.scope.names.lookup p.2=some .cell∨X.env.scope.names.lookup p.2=some .free)∧
  ((relabel scope X.env).names.lookup p.2=some .cell∨(relabel scope X.env).names.lookup p.2=some .free)∧∃c,cl.lookup p.2=some c
section
variable {X:Cx}{elt iter:Expr}{x z:Str}{px pz:Pos}{tk:Nat}{tpos:Pos}{fv:List (Nat×Str)}{scope:Scope}{cl:List (Str×Addr)}{pos:Pos}{te:TE}{wi:TI}
theorem Kg {Tj:List (Addr×Obj)}{σ:St}{H:Hp}{s:Shared}{fp:List Addr}{C:Addr}(B:BlkOk2 X x z fv scope cl)(I:Inv X Tj σ H s)(hf:∀b∈fp,cF X Tj H b)(hC:s.heap.objs.size<=C)(hfC:∀b∈fp,b≠C):
  (f7 X x z fv scope cl C s H fp).Ok where
 mod:=I.ok.mod
 kind:=B.kind
 glob:=I.ok.glob
 blt:=I.ok.blt
 above:=hC
 inj:=λy y' c h1 h2=>I.ok.inj y y' c (B.sub y c h1) (B.sub y' c h2)
 has:=λy hy=>B.has y hy
 cab:=λy c h=>nomatch h
 hd:=I.ok.hd
 frames:=I.ok.frames
 stk:=.inl rfl
 exf:=λb hb=>⟨hfC b hb,λy c e=>(hf b hb).2.2.2.2.1 y c (B.sub y c e)⟩
 bs:=I.bs
 bsz:=aE I.ok.bsz I.sz
 noex:=λb o e hb=>by
  obtain⟨_,_,_,f3,_⟩:=hf b hb;rcases f3 with z'|z'
  ·exact I.ok.noex b o e z'
  ·exact absurd (bV (Heap.lt_size e) (aE I.ok.bsz z')) (i4 _)
 exfs:=λb hb hs=>by
  obtain⟨_,f1,f2,_⟩:=hf b hb;rcases aO.mp (I.stkSub b hs) with z|z
  ·exact f1 z
  ·exact f2 z
 funs:=I.stack
 frf:=I.stkFree
theorem Kh {fv:List (Nat×Str)}{σ:St}{o o2:Option V}{j:Nat}{y:Str}{v:V}(h1:(x :: z :: fv.map (·.2))[j+2]?=some y)(h2:(ej fv σ o o2)[j+2]?=some (some v)):∃p∈fv,p.2=y∧σ[p.1]?=some (some v):=by
 have e1:(fv.map (·.2))[j]?=some y:=by simpa using h1
 have e2:(fv.map λp=>(σ[p.1]?).getD none)[j]?=some (some v):=by simpa [ej] using h2
 rw[az]at e1 e2
 cases q:fv[j]? with
 | none=>rw[q]at e1;cases e1
 | some p=>
  rw[q]at e1 e2;refine⟨p,bH q,Option.some.inj e1,?_⟩;have e3:(σ[p.1]?).getD none=some v:=Option.some.inj e2
  cases r:σ[p.1]? with
  | none=>rw[r]at e3;cases e3
  | some w=>rw[r]at e3;exact congrArg some e3
theorem Ki {Tj:List (Addr×Obj)}{σ:St}{H:Hp}{s s4:Shared}{fp:List Addr}{C:Addr}{m:Str->Option Value}(B:BlkOk2 X x z fv scope cl) (I:Inv X Tj σ H s) (hf:∀b∈fp,cF X Tj H b) (hC:C=s.heap.objs.size)
  (hfC:∀b∈fp,b≠C) (os:s4.os=s.os) (gens:s4.gens=s.gens) (keep:∀b o,s.heap.get? b=some o->s4.heap.get? b=some o) (ns:s4.heap.Ns C m):
  Inv (f7 X x z fv scope cl C s H fp) [] (ej fv σ none none) H s4:=by
 subst hC;refine⟨Kg B I hf (am _) hfC,os,by rw[gens];exact I.bare,Un.kept keep,⟨m,ns,λi y v h1 h2 h3=>?_⟩,λy c e=>?_,I.hok.fresh (am _),λy c e=>I.freeC y c (B.sub y c e),λp hp=>absurd (show p∈([]:List (Addr×Obj)) from hp) (by simp),I.hok.kept keep,by simp[ej]⟩
 ·cases i with
  | zero=>simp[ej]at h2
  | succ j=>
   cases j with
   | zero=>simp[ej]at h2
   | succ j=>
   obtain⟨p,hp,rfl,hv⟩:=Kh h1 h2;obtain⟨hN,hk,hk2,c,hc⟩:=B.fvs p hp;obtain⟨m0,_,hl⟩:=I.loc;have vis:Vis X.env.scope p.2:=hk.elim (λz=>.inr (.inl z)) λz=>.inr (.inr z);obtain⟨u,r,l⟩:=hl p.1 p.2 v hN hv vis;refine⟨u,r,.inr ⟨hk2,c,hc,?_⟩⟩;rcases l with ⟨z,_⟩|⟨_,c',hc',o,ho,hd⟩
   ·have z':X.env.scope.names.lookup p.2=some .local:=z;rcases hk with k|k <;> (rw[k]at z';cases z')
   ·have:=B.sub p.2 c hc;rw[hc']at this;cases this;exact⟨o,keep _ o ho,hd⟩
 ·obtain⟨v,o,ho,hd⟩:=I.cell y c (B.sub y c e);exact⟨v,o,keep c o ho,hd⟩
theorem Kj {s:Shared}{H0:Hp}{fp:List Addr}{C:Addr}(hc:X.calm=true)(B:BlkOk2 X x z fv scope cl):
  PG (f7 X x z fv scope cl C s H0 fp) (.Tuple [.Name x px,.Name z pz] tk tpos) (u9 X.K 2 (mI (fV 0) (mI (fV 1) uZ))):=by
 have h1:(relabel scope X.env).names.lookup x=some .local:=lookup_relabel_local B.here;have h2:(relabel scope X.env).names.lookup z=some .local:=lookup_relabel_local B.here2;exact gX (X:=f7 X x z fv scope cl C s H0 fp) hc (dQ (a7 (i:=0) B.nd rfl (.inl h1) (.inr h1)) (dQ (a7 (i:=1) B.nd rfl (.inl h2) (.inr h2)) gW))
theorem Kk {Tj:List (Addr×Obj)}{σ:St}{H:Hp}{s2:Shared}{it:Addr}{fp:List Addr}{tn:Nat->Heap->Prop}{J:It}{Q:VK}{E:Value->Shared->Prop}{RR:Value->Addr->Result->Shared->Prop}
  (hc:X.calm=true) (B:BlkOk2 X x z fv scope cl) (he:∀C s H fp,PE (f7 X x z fv scope cl C s H fp) elt te) (I:Inv X Tj σ H s2) (T:Turn X.prog X.w X.K (.Tuple [.Name x px,.Name z pz] tk tpos) J fp it tn) (st:tn 0 s2.heap) (hf:∀b∈fp,cF X Tj H b)
  (rd:∀D,H D=none->∃W:Nat->Nat->Hp->Prop,(∃m,W 0 m (upd H D (.lst [])))∧∀i m H,W i m H->
   (J.stop i H∧Q (.ref D) H)∨(J.go i H∧∃N:Hp->Prop,(∀H',N H'->∃m',m'<m∧W (i+1) m' H')∧∀v H',J.yld i H v H'->∃q x1 x2,v=.ref q∧SqT X.K H' q [x1,x2]∧te (ej fv σ (some x1) (some x2)) H' λy H2=>∃ys,H2 D=some (.lst ys)∧ys.length<sizeLine∧N (upd H2 D (.lst (ys++[y])))))
  (hRR:∀D C s' H' m',Inv X Tj σ H' s'->cF X Tj H' C->s'.heap.Ns C m'->Q (.ref D) H'->RR (.ref D) C (.ok .next) s'):
  wpAny (model X.prog X.w) X.A (newList []) (λacc s₃=>wpAny (model X.prog X.w) X.A (newFunctionEnv scope X.env.globals cl [] X.env.qual none .none (some X.env)) (λcenv s₄=>
   codeAny (model X.prog X.w) X.A (.compStart (.ListComp elt [⟨(.Tuple [.Name x px,.Name z pz] tk tpos),iter,[],0⟩] scope pos) 0 (.ref it) acc { cenv with scope:=relabel scope X.env }) (RR acc cenv.locals) s₄) E s₃) E s2:=by
 refine wpAny_newObj_type ?_ (by show 0<=sizeLine;exact aI _);have hD:H s2.heap.objs.size=none:=I.hok.fresh (am _);have I3:=I.lnew (ys:=[]) (its:=[]) (t':=s2.toks) .nil (aI _);generalize hs3:({ s2 with heap:=s2.heap.push { cls:=.type "list",data:=.seq ([]:List Value).toArray },toks:=s2.toks }:Shared)=s3 at I3;have sz3:s3.heap.objs.size=s2.heap.objs.size+1:=by rw[←hs3];exact Heap.size_push ..
 have up3:∀b o,s2.heap.get? b=some o->s3.heap.get? b=some o:=λb o e=>by rw[←hs3];exact Heap.get?_push_of_some _ e
 have hf3:∀b∈fp,cF X Tj (upd H s2.heap.objs.size (.lst [])) b:=λb hb=>by
  obtain⟨f0,r⟩:=hf b hb;refine⟨?_,r⟩;obtain⟨o,e,_⟩:=T.obj 0 _ st b hb;rw[aj (cC (Heap.lt_size e))];exact f0
 have ltf:∀b∈fp,b<s2.heap.objs.size:=λb hb=>by
  obtain⟨o,e,_⟩:=T.obj 0 _ st b hb;exact Heap.lt_size e
 have st3:tn 0 s3.heap:=T.keep 0 _ _ st λb _ o e=>up3 b o e;obtain⟨W,⟨m0,w0⟩,turn⟩:=rd _ hD;refine wpAny_newFunctionEnv B.nocell (by intro y hy;simp at hy) (λh₁ hns₁ hsb₁=>?_) B.kind;have hfC:∀b∈fp,b≠s3.heap.objs.size:=λb hb=>cC (by rw[sz3];exact lV (ltf b hb));have up4:∀b o,s3.heap.get? b=some o->h₁.get? b=some o:=λb o e=>hsb₁.extBut b o (cC (Heap.lt_size e)) (Heap.get?_push_of_some _ e);generalize hs4:({ s3 with heap:=h₁,toks:=s3.toks+([]:List (Str×Value)).length }:Shared)=s4;have h4:s4.heap=h₁:=by rw[←hs4]
 have I4:Inv (f7 X x z fv scope cl s3.heap.objs.size s3 (upd H s2.heap.objs.size (.lst [])) fp) [] (ej fv σ none none) (upd H s2.heap.objs.size (.lst [])) s4:=
  Ki B I3 hf3 rfl hfC (by rw[←hs4]) (by rw[←hs4]) (λb o e=>by rw[h4];exact up4 b o e) (by rw[h4];exact hns₁)
 have st4:tn 0 s4.heap:=by rw[h4];exact T.keep 0 _ _ st3 λb _ o e=>up4 b o e
 have stat:∀{H':Hp},(∀b∈fp,H' b=none)->∀b∈fp,cF (f7 X x z fv scope cl s3.heap.objs.size s3 (upd H s2.heap.objs.size (.lst [])) fp) [] H' b:=λ{H'} hn b hb=>by
  obtain⟨_,f1,f2,f3,f4,f5⟩:=hf b hb;refine⟨hn b hb,hfC b hb,λz'=>?_,.inl hb,λy c e=>f4 y c (B.sub y c e),λp hp=>absurd (show p∈([]:List (Addr×Obj)) from hp) (by simp)⟩;rcases aO.mp (I.stkSub b z') with q|q
  ·exact f1 q
  ·exact f2 q
 have loop:codeAny (model X.prog X.w) X.A (.compLoop (.ListComp elt [⟨(.Tuple [.Name x px,.Name z pz] tk tpos),iter,[],0⟩] scope pos) 0 (.ref it) (.ref s2.heap.objs.size) (compEnvC scope cl s3.heap.objs.size X.env)) (RR (.ref s2.heap.objs.size) s3.heap.objs.size) s4:=by
  refine vL (λn s'=>∃i H' o o2,Inv (f7 X x z fv scope cl s3.heap.objs.size s3 (upd H s2.heap.objs.size (.lst [])) fp) [] (ej fv σ o o2) H' s'∧tn i s'.heap∧(∀b∈fp,H' b=none)∧W i n H') ?_ m0
   ⟨0,_,none,none,I4,st4,λb hb=>(hf3 b hb).1,w0⟩
  rintro n s5 E' ⟨i,H5,o5,o6,I5,st5,fr5,w5⟩
  rcases turn i n H5 w5 with ⟨stop,q⟩|⟨go,N,hN,step⟩
  ·refine thn (T.done (f7 X x z fv scope cl s3.heap.objs.size s3 (upd H s2.heap.objs.size (.lst [])) fp) rfl rfl rfl hc i [] s5 _ H5 _ I5 (stat fr5) st5 stop) λr s6 ⟨hr,I6⟩=>?_;subst hr;obtain⟨m6,hn6,_⟩:=I6.loc;have un:Un (frs X.stack) fp H H5 s2.heap s6.heap:=by
    have u1:Un (frs X.stack) fp H (upd H s2.heap.objs.size (.lst [])) s2.heap s3.heap:=Un.laid up3 (am _) hD;exact u1.trans I6.base
   have J6:Inv X Tj σ H5 s6:=by
    refine I.call' ?_ un I6.hok I6.bare λb hb=>?_
    ·have:=I6.os;rw[show (f7 X x z fv scope cl s3.heap.objs.size s3 (upd H s2.heap.objs.size (.lst [])) fp).s₀.os=s2.os by rw[←hs3]]at this;exact this
    ·obtain⟨_,f1,f2,f3,f4,f5⟩:=hf b hb;exact⟨f3,f1,f4,f5⟩
   refine hRR _ _ s6 H5 m6 J6 ?_ hn6 q;exact I3.fpOk (am _) I6.free
  ·refine thn (T.item (f7 X x z fv scope cl s3.heap.objs.size s3 (upd H s2.heap.objs.size (.lst [])) fp) rfl rfl rfl hc i [] s5 _ H5 _ I5 (stat fr5) st5 go) λr s6 ⟨u,hr,h6⟩=>?_;subst hr;refine thn h6 λ_ s7 ⟨v,H7,I7,r7,y7,st7,fr7⟩=>?_;have I7':=I7.pinned (stat fr7) (T.obj _ _ st7);obtain⟨q7,x1,x2,ev,sq7,rd7⟩:=step v H7 y7;refine wpAny_mono (Kj (px:=px) (pz:=pz) (tk:=tk) (tpos:=tpos) hc B _ s7 _ H7 v u (λσ' H'=>σ'=ej fv σ (some x1) (some x2)∧H'=H7) I7' r7 ⟨q7,[x1,x2],ev,sq7,rfl,x1,[x2],rfl,x2,[],rfl,rfl,rfl,rfl⟩) (λ_ s8 ⟨σ8,H8,I8,e8a,e8b⟩=>?_) λ_ _ z=>False.elim z;subst e8a e8b;have e8:=he _ _ _ _ _ s8 _ _ _ I8 rd7;refine wpAny_mono e8 (λy s9 ⟨yv,H9,I9,r9,ys,hD9,hz,n9⟩=>?_) λ_ _ z=>False.elim z;have a9:=e_ (X:=f7 X x z fv scope cl s3.heap.objs.size s3 (upd H s2.heap.objs.size (.lst [])) fp) _ s9 _ H9 (.ref s2.heap.objs.size) [yv] (.ref s2.heap.objs.size) [y] (λ_ H10=>H10=upd H9 s2.heap.objs.size (.lst (ys++[yv]))) I9 rfl (.cons r9 .nil)
    ⟨_,ys,yv,rfl,rfl,hD9,hz,rfl⟩
   refine wpAny_mono a9 (λ_ s10 ⟨_,H10,I10,_,e10⟩=>?_) λ_ _ z=>False.elim z;subst e10;obtain⟨m',hm,w9⟩:=hN _ n9;refine⟨m',hm,i+1,_,some x1,some x2,I10.unpinned,T.keep _ _ _ st7 λb hb o e=>(I10.pin (b,o) (cP _ (cP _ (ge hb e)))).1,λb hb=>?_,w9⟩;obtain⟨o,e,_⟩:=T.obj _ _ st7 b hb;exact (I10.pin (b,o) (cP _ (cP _ (ge hb e)))).2.1
 exact codeAny_compStart_list loop (T.self _ 0 _ _ _ st4 loop)
def pF (K:W.Frag)(J:It)(fv:List (Nat×Str))(te:TE)(Q:VK)(σ:St)(H1:Hp)(D:Addr):Prop:=∃W:Nat->Nat->Hp->Prop,(∃m,W 0 m (upd H1 D (.lst [])))∧∀i m H,W i m H->
 (J.stop i H∧Q (.ref D) H)∨(J.go i H∧∃N:Hp->Prop,(∀H',N H'->∃m',m'<m∧W (i+1) m' H')∧∀v H',J.yld i H v H'->∃q x1 x2,v=.ref q∧SqT K H' q [x1,x2]∧te (ej fv σ (some x1) (some x2)) H' λy H2=>∃ys,H2 D=some (.lst ys)∧ys.length<sizeLine∧N (upd H2 D (.lst (ys++[y]))))
def C0 (K:W.Frag)(fv:List (Nat×Str))(wi:TI)(te:TE):TE:=λσ H Q=>wi σ H λJ H1=>∀D,H1 D=none->pF K J fv te Q σ H1 D
theorem pG {K:W.Frag}{σ:St}{H:Hp}{Q:VK}:C0 K fv wi te σ H Q=wi σ H λJ H1=>∀D,H1 D=none->pF K J fv te Q σ H1 D:=rfl
def pH (X:Cx)(scope:Scope)(cl:List (Str×Addr))(fv:List (Nat×Str)):Prop:=∀p∈fv,X.N[p.1]?=some p.2∧(X.env.scope.names.lookup p.2=some .cell∨X.env.scope.names.lookup p.2=some .free)∧
  ((relabel scope X.env).names.lookup p.2=some .cell∨(relabel scope X.env).names.lookup p.2=some .free)∧∃c,cl.lookup p.2=some c
theorem C2 {X:Cx}{scope:Scope}{cl:List (Str×Addr)}:pH X scope cl []:=λ_ h=>nomatch h
theorem wc {X:Cx}{scope:Scope}{cl:List (Str×Addr)}{fv:List (Nat×Str)}(i:Nat) (y:Str) (h2:X.N[i]?=some y) (h3:X.env.scope.names.lookup y=some .cell∨X.env.scope.names.lookup y=some .free)
  (h4:(relabel scope X.env).names.lookup y=some .cell∨(relabel scope X.env).names.lookup y=some .free) (h5:∃c,cl.lookup y=some c) (r:pH X scope cl fv):pH X scope cl ((i,y) :: fv):=λp hp=>by
 rcases aO.mp hp with rfl|hp
 ·exact⟨h2,h3,h4,h5⟩
 ·exact r p hp
theorem C3 {X:Cx}{x z:Str}{fv:List (Nat×Str)}{scope:Scope}{cl:List (Str×Addr)}(clos:closureFor scope X.env=pure cl) (sub:∀y c,cl.lookup y=some c->X.env.cells.lookup y=some c) (fvs:pH X scope cl fv)
  (nd:(x :: z :: fv.map (·.2)).Nodup:=by decide) (kind:scope.kind=.function:=by rfl) (here:scope.names.lookup x=some .local:=by rfl) (here2:scope.names.lookup z=some .local:=by rfl) (nocell:∀y∈scope.names,y.2≠.cell:=by decide +kernel)
  (names:∀y∈scope.names,y.2=.local->scope.names.lookup y.1=some .local:=by decide +kernel)
  (has:((relabel scope X.env).names.all λp=>(p.2 != .cell && p.2 != .free) || (cl.lookup p.1).isSome)=true:=by rfl):BlkOk2 X x z fv scope cl:=
 ⟨clos,nocell,kind,names,here,here2,nd,sub,vO has,fvs⟩
end
def Itz (K:W.Frag)(a b:Addr):It:=
 ⟨λi H=>∃xs ys x y,SqL K H a xs∧SqL K H b ys∧xs[i]?=some x∧ys[i]?=some y,λi H v H'=>∃p x y,H p=none∧v=.ref p∧H'=upd H p (.tup [x,y])∧(∀xs,SqL K H a xs->xs[i]?=some x)∧∀ys,SqL K H b ys->ys[i]?=some y,
  λi H=>∃xs ys,SqL K H a xs∧SqL K H b ys∧(xs.length<=i∨ys.length<=i)⟩
theorem Kl {P:Program}{w:World}{K:W.Frag}{elts:List Expr}{tk:Nat}{tpos:Pos}(a b z TI TO i1 i2:Addr)(D:ZipApart z TI TO i1 i2 a b):
  Turn P w K (.Tuple elts tk tpos) (Itz K a b) [z,TI,TO,i1,i2] z (λi h=>IsZip h z TI TO .none∧IsPair h TI (.ref i1) (.ref i2)∧(∃u v,IsPair h TO u v)∧h.IsListIter i1 a i∧h.IsListIter i2 b i) where
 mem:=by simp
 obj:=λi h st c hb=>by
  obtain⟨hz,hTI,⟨u,v,hTO⟩,⟨o1,e1,c1,d1⟩,⟨o2,e2,c2,d2⟩⟩:=st;simp only[aO,gQ,or_false]at hb;rcases hb with rfl|rfl|rfl|rfl|rfl
  ·exact⟨_,hz,λv z=>by
    have z':Data.fields _=Data.cell v:=z
    cases z'⟩
  ·exact⟨_,hTI,λv z=>by
    have z':Data.seq _=Data.cell v:=z
    cases z'⟩
  ·exact⟨_,hTO,λv z=>by
    have z':Data.seq _=Data.cell v:=z
    cases z'⟩
  ·exact⟨o1,e1,λv z=>by rw[d1]at z;cases z⟩
  ·exact⟨o2,e2,λv z=>by rw[d2]at z;cases z⟩
 keep:=λi h h' st k=>by
  obtain⟨hz,hTI,⟨u,v,hTO⟩,h1,h2⟩:=st;exact⟨k z (by simp) _ hz,k TI (by simp) _ hTI,⟨u,v,k TO (by simp) _ hTO⟩,h1.at λo q=>k i1 (by simp) o q,h2.at λo q=>k i2 (by simp) o q⟩
 item:=by
  intro X hP hw hK hc i Tj s σ H E I hf st hg;subst hP hw hK;obtain⟨xs,ys,x,y,hq1,hq2,hx,hy⟩:=hg;obtain⟨its1,rv1,pl1,hz1⟩:=I.list hq1;obtain⟨its2,rv2,pl2,hz2⟩:=I.list hq2;obtain⟨u1,hu1,ru1⟩:=rv1.get hx;obtain⟨u2,hu2,ru2⟩:=rv2.get hy;obtain⟨hz,hTI,⟨_,_,hTO⟩,hit1,hit2⟩:=st;refine wpAny_pyNext_zip_item D hz hTI hTO hit1 hit2 pl1.isList pl2.isList (x:=u1) (y:=u2) (by simpa using hu1) (by simpa using hu2) λh1 ho hTO1 hi1 hi2 hT hsz hk=>?_;refine⟨_,rfl,wpAny_letOwnedTupleGo_zip ho λh2 he2 hs2=>?_⟩;have hp:H s.heap.objs.size=none:=I.hok.fresh (am _);have hpz:s.heap.objs.size≠z:=Gj (Heap.lt_size hz);have k2:∀c o,c∉[z,TI,TO,i1,i2]->s.heap.get? c=some o->h2.get? c=some o:=λc o hb q=>
   (hs2.2 c λe=>hb (by simp[e])).trans (hk c o (λe=>hb (by simp[e])) (λe=>hb (by simp[e])) (λe=>hb (by simp[e])) (λe=>hb (by simp[e])) q)
  have hT2:h2.get? s.heap.objs.size=some { cls:=.type "tuple",data:=.seq #[u1,u2] }:=(hs2.2 _ hpz).trans hT;have nch:∀c u,H c=some u->c∉[z,TI,TO,i1,i2]:=λc u q hb=>by
   rw[(hf c hb).1]at q;cases q
  have up:∀c,c<s.heap.objs.size->c≠s.heap.objs.size:=λc hb=>cC hb;have I2:Inv X Tj σ (upd H s.heap.objs.size (.tup [x,y])) { s with heap:=h2 }:=by
   refine I.step (g':=s.gens) (d':=s.drawn) (t':=s.toks) (ch:=[z,TI,TO,i1,i2]) (λc hb=>?_) (λc o _ _ hc q _=>k2 c o hc q) (λc o _ _ hc q _=>⟨o.slots,k2 c o hc q⟩)
    (λc o _ q n=>by rw[aj (up c (Heap.lt_size q))];exact n) (λc o hc q=>⟨o,k2 c o hc q⟩) (λc ys q=>by rw[aj (dq q hp)];exact q) (λc o v q=>by rw[aj (dq q hp)];exact q)
    (λc ps q=>⟨#[],by rw[aj (dq q hp),q];simp⟩) (λm hm=>?_) (λc v q=>?_) I.bare
   ·obtain⟨f0,f1,f2,f3,f4,f5⟩:=hf c hb;exact⟨f3,f1,f4,f5⟩
   ·obtain⟨o,es,ep,q,r⟩:=hm;refine⟨o,es,ep,k2 _ o (λe=>?_) q,r⟩;exact (hf _ e).2.1 rfl
   ·by_cases hb:c=s.heap.objs.size
    ·subst hb;rw[ag]at q;cases q;exact⟨by show 2<=sizeLine;decide,[u1,u2],.cons ru1 (.cons ru2 .nil),⟨_,hT2,rfl,_,rfl⟩⟩
    ·rw[aj hb]at q;refine (I.hok c v q).stay (λc' o hc r=>k2 c' o ?_ r) (λc' r=>by rw[aj (dq r hp)];exact r) λc' ys r=>by rw[aj (dq r hp)];exact r
     rcases hc with e|e
     ·rw[e];exact nch c v q
     ·exact nch c' _ e
  refine⟨.ref s.heap.objs.size,_,I2,rfl,⟨_,x,y,hp,rfl,rfl,λzs hz'=>by rw[I.list_inj hz' hq1];exact hx,λzs hz'=>by rw[I.list_inj hz' hq2];exact hy⟩,
   ⟨he2,(hs2.2 TI D.TIz).trans (hk TI _ D.TIz D.TITO D.TIi1 D.TIi2 hTI),⟨_,_,(hs2.2 TO D.TOz).trans hTO1⟩,hi1.at λo q=>(hs2.2 i1 D.i1z).trans q,hi2.at λo q=>(hs2.2 i2 D.i2z).trans q⟩,λc hb=>?_⟩
  have lb:c<s.heap.objs.size:=by
   simp only[aO,gQ,or_false]at hb;rcases hb with rfl|rfl|rfl|rfl|rfl
   ·exact Heap.lt_size hz
   ·exact Heap.lt_size hTI
   ·exact Heap.lt_size hTO
   ·obtain⟨_,q,_⟩:=hit1;exact Heap.lt_size q
   ·obtain⟨_,q,_⟩:=hit2;exact Heap.lt_size q
  rw[aj (up c lb)];exact (hf c hb).1
 done:=by
  intro X hP hw hK hc i Tj s σ H E I hf st hg;subst hP hw hK;obtain⟨xs,ys,hq1,hq2,hx⟩:=hg;obtain⟨its1,rv1,pl1,hz1⟩:=I.list hq1;obtain⟨its2,rv2,pl2,hz2⟩:=I.list hq2;obtain⟨hz,hTI,⟨_,_,hTO⟩,hit1,hit2⟩:=st;have hl1:=rv1.length;have hl2:=rv2.length;refine wpAny_pyNext_zip_end (I.ok.hd hc) D hz hTI hTO hit1 hit2 pl1.isList pl2.isList (by rcases hx with e|e;exact .inl (by simp;omega);exact .inr (by simp;omega)) λh' eb=>⟨rfl,?_⟩
  have k2:∀c o,c∉[z,TI,TO,i1,i2]->s.heap.get? c=some o->h'.get? c=some o:=λc o hb q=>eb c o (λe=>hb (by simp[e])) (λe=>hb (by simp[e])) (λe=>hb (by simp[e])) (λe=>hb (by simp[e])) q;refine I.step (g':=s.gens) (d':=s.drawn) (t':=s.toks) (ch:=[z,TI,TO,i1,i2]) (λc hb=>?_) (λc o _ _ hc q _=>k2 c o hc q) (λc o _ _ hc q _=>⟨o.slots,k2 c o hc q⟩)
   (λc o _ q n=>n) (λc o hc q=>⟨o,k2 c o hc q⟩) (λc ys q=>q) (λc o v q=>q) (λc ps q=>⟨#[],by rw[q];simp⟩) (λm hm=>?_) (λc v q=>?_) I.bare
  ·obtain⟨f0,f1,f2,f3,f4,f5⟩:=hf c hb;exact⟨f3,f1,f4,f5⟩
  ·obtain⟨o,es,ep,q,r⟩:=hm;exact⟨o,es,ep,k2 _ o (λe=>(hf _ e).2.1 rfl) q,r⟩
  ·refine (I.hok c v q).stay (λc' o hc r=>k2 c' o ?_ r) (λc' r=>r) λc' ys r=>r;have nch:∀c u,H c=some u->c∉[z,TI,TO,i1,i2]:=λc u q hb=>by
    rw[(hf c hb).1]at q;cases q
   rcases hc with e|e
   ·rw[e];exact nch c v q
   ·exact nch c' _ e
 self:=λ_ _ _ _ _ st h=>wpAny_pyIter_zip st.1 h
section
variable {X:Cx}
def C4 (K:W.Frag)(ta:TA):TI:=λσ H R=>ta σ H λvs H1=>∃a b xs ys,vs=[.ref a,.ref b]∧SqL K H1 a xs∧SqL K H1 b ys∧R (Itz K a b) H1
theorem jT {elts:List Expr}{tk:Nat}{tpos:Pos}{a b:Expr}{ta:TA}{p pos:Pos}(hg:Gl X "zip") (hm:X.mg "zip" = none) (ha:PA X [a,b] ta) (hs:starEach [a,b] X.env=[(false,eval a X.env),(false,eval b X.env)]:=by rfl)
  (hs2:starEach [b] X.env=[(false,eval b X.env)]:=by rfl):
  PI X (.Tuple elts tk tpos) (.Call (.Name "zip" p) [a,b] [] pos) (C4 X.K ta):=by
 intro Tj s σ H R I h;refine Call_ (gT I hg hm boot_zip (PyProof.Rows.callWith_type1 (thn (ha pos Tj s σ H _ I h) λus s1 ⟨vs,H1,I1,r1,q1⟩=>?_) (by rw[hs,hs2]) (by rw[hs2];rfl)));obtain⟨a,b,xs,ys,e,hq1,hq2,q⟩:=q1;subst e
 cases r1 with
 | cons r rr=>
  cases rr with
  | cons r' rr=>
  cases rr
  cases r
  cases r'
  obtain⟨its1,rv1,pl1,hz1⟩:=I1.list hq1;obtain⟨its2,rv2,pl2,hz2⟩:=I1.list hq2;have a1:a<s1.heap.objs.size:=by obtain⟨_,e,_⟩:=pl1.isList;exact Heap.lt_size e
  have a2:b<s1.heap.objs.size:=by obtain⟨_,e,_⟩:=pl2.isList;exact Heap.lt_size e
  refine call_zip_2 pl1.isList pl2.isList λh1 hz hTI hTO hi1 hi2 hsz hk=>?_;have I2:Inv X Tj σ H1 { s1 with heap:=h1 }:=I1.kept (t':=s1.toks) hk;refine wpAny_pyIter_zip hz ?_;refine⟨s1.heap.objs.size+4,[s1.heap.objs.size+4,s1.heap.objs.size+2,s1.heap.objs.size+3,s1.heap.objs.size,s1.heap.objs.size+1],_,_,H1,rfl,I2,Kl a b _ _ _ _ _ (zipApart_new a1 a2),⟨hz,hTI,⟨_,_,hTO⟩,hi1,hi2⟩,λc hb=>?_,q⟩;have hb':s1.heap.objs.size<=c:=by
   simp only[aO,gQ,or_false]at hb;rcases hb with rfl|rfl|rfl|rfl|rfl <;> omega
  exact I1.fpOk hb' (I1.hok.fresh hb')
end
theorem pI {K:W.Frag}{ta:TA}{σ:St}{H:Hp}{R:It->Hp->Prop}:C4 K ta σ H R=ta σ H λvs H1=>∃a b xs ys,vs=[.ref a,.ref b]∧SqL K H1 a xs∧SqL K H1 b ys∧R (Itz K a b) H1:=rfl
theorem C5 {K:W.Frag}{a b:Addr}{xs ys:List V}{fv:List (Nat×Str)}{te:TE}{Q:VK}{σ:St}{H1:Hp}{D:Addr}(Pv:Nat->Hp->Prop) (h0:Pv 0 (upd H1 D (.lst []))) (hl:∀i H,i<=xs.length->i<=ys.length->Pv i H->SqL K H a xs∧SqL K H b ys)
  (hs:∀i v1 v2 p H,xs[i]?=some v1->ys[i]?=some v2->Pv i H->H p=none->te (ej fv σ (some v1) (some v2)) (upd H p (.tup [v1,v2])) λy H2=>∃zs,H2 D=some (.lst zs)∧zs.length<sizeLine∧Pv (i+1) (upd H2 D (.lst (zs++[y]))))
  (hd:∀H,Pv (min xs.length ys.length) H->Q (.ref D) H):pF K (Itz K a b) fv te Q σ H1 D:=by
 refine⟨λi m H=>m=min xs.length ys.length-i∧i<=min xs.length ys.length∧Pv i H,⟨_,rfl,aI _,h0⟩,?_⟩
 rintro i m H ⟨rfl,hi,p⟩
 obtain⟨q1,q2⟩:=hl i H (by omega) (by omega) p;by_cases hlt:i<min xs.length ys.length
 ·have l1:i<xs.length:=by omega
  have l2:i<ys.length:=by omega
  refine .inr ⟨⟨xs,ys,xs[i],ys[i],q1,q2,ak l1,ak l2⟩,Pv (i+1),λH' p'=>⟨min xs.length ys.length-(i+1),by omega,rfl,hlt,p'⟩,λv H' y=>?_⟩;obtain⟨pa,x1,x2,hn,e1,e2,y1,y2⟩:=y;subst e1 e2;exact⟨pa,x1,x2,rfl,.inl (.inl ag),hs i x1 x2 pa H (y1 xs q1) (y2 ys q2) p hn⟩
 ·have e:i=min xs.length ys.length:=by omega
  refine .inl ⟨⟨xs,ys,q1,q2,by omega⟩,?_⟩;rw[e]at p;exact hd H p
section
variable {X:Cx}
def ipC (C:Int->Int->Prop)(f:Int->Int->Int):TIp:=λx y H Q=>∃i j,x=.int i∧y=.int j∧C i j∧Q (.int (f i j)) H
theorem pJ {C:Int->Int->Prop}{f:Int->Int->Int}{x y:V}{H:Hp}{Q:VK}:ipC C f x y H Q=∃i j,x=.int i∧y=.int j∧C i j∧Q (.int (f i j)) H:=rfl
theorem C6 (hc:X.calm=true):fD X (.builtin "sum") (λxs H Q=>∃(p:Addr) (ns:List Int),xs=[.ref p]∧SqL X.K H p (ns.map V.int)∧Q (.int ns.sum) H):=by
 intro Tj s σ H xs us Q I r h;obtain⟨p,ns,rfl,hq,q⟩:=h;obtain⟨u,rfl,rx⟩:=gY r
 cases rx
 obtain⟨its,r',pl,hz⟩:=I.list hq;have hi:=jS r';obtain⟨zs,e⟩:=hi.allInts.items;have hns:ns=zs.toList.map (·.1):=by rw[←hi.numsOf,←nums_intItems,←e]
 have hl:=pl.isList;rw[e]at hl;refine sum_intListG (I.ok.hd hc) hl λh' tk t' hk=>?_;have es:preSum (numAt zs) zs.size=ns.sum:=by rw[preSum_eq,hns,d_ (by simp)]
 rw[es];exact⟨.int _,H,I.kept hk,⟨t',rfl⟩,q⟩
end
section
variable {X:Cx}{elt iter cnd:Expr}{x:Str}{px:Pos}{fv:List (Nat×Str)}{scope:Scope}{cl:List (Str×Addr)}{pos:Pos}{te:TE}{tt:TT}{wi:TI}
theorem Km {i:Nat}{y:Str}{py spos:Pos}(hc:X.calm=true) (B:BlkOk X x fv scope cl) (hi:PI X (.Name x px) iter wi) (hcn:∀C s H fp,PT (blk X x fv scope cl C s H fp) cnd tt) (he:∀C s H fp,PE (blk X x fv scope cl C s H fp) elt te)
  (hN:X.N.Nodup) (hiy:X.N[i]?=some y) (hy:X.env.scope.names.lookup y=some .local)
  (hsw:swapsWith (.ListComp elt [⟨.Name x px,iter,[cnd],0⟩] scope pos) (some (.Name y py)) spos.line X.env=pure true:=by rfl)
  (hs:∀v,foldedSetIterable iter X.env v=pure v:=by intro _;rfl):
  PS X (.Assign [.Name y py] (.ListComp elt [⟨.Name x px,iter,[cnd],0⟩] scope pos) spos) (je (CZ fv wi tt te) (fV i)):=by
 intro Tj s σ H D I h;rw[exec_Assign_Name_used _ _ _ _ hsw];refine wpAny_bind (wpAny_standAt (wpAny_bind ?_));show wpAny _ X.A (do let _ ←comprehension (.ListComp elt [⟨.Name x px,iter,[cnd],0⟩] scope pos) scope X.env _ (newList []) false (eval iter X.env) (some (assign (.Name y py) X.env))) _ _ s;refine wpAny_bind (wpAny_mono (wpAny_comprehension_free (use:=some (assign (.Name y py) X.env)) (Q:=λ_ s'=>SP X Tj D .next s') rfl hs B.clos B.kind B.names
  (thn (hi Tj s σ H _ I h) λv s1 h1=>thn h1 λitv s2 h2=>?_)) (λ_ s' hq=>wpAny_pure (wpAny_pure hq)) λ_ _ e=>e)
 obtain⟨it,fp,tn,J,H2,e,I2,T,st2,f2,rd⟩:=h2;subst e;refine Kd (Q:=λx H1=>fV i x σ H1 D.nx) (RR:=λacc C=>compPost (model X.prog X.w) X.A X.xe (some (assign (.Name y py) X.env)) (λ_ s'=>SP X Tj D .next s') acc C) hc B hcn he I2 T st2 f2 rd ?_;intro Dl C s' H' m' I' fC hn q;show wpAny _ X.A (assign (.Name y py) X.env (.ref Dl)) _ _ _;refine wpAny_assign_Name (kD I' hN hiy (.inl hy) (v:=.ref Dl) rfl (λs'' I'' hab=>?_) (.inr hy));obtain⟨a,sb,ha⟩:=hab;have hCa:C≠a:=by
  rcases ha with rfl|e
  ·exact fC.2.1
  ·exact Ne.symm (fC.2.2.2.2.1 _ _ e)
 exact⟨m',hn.sameBut sb hCa,λh' sb'=>⟨_,H',I''.turned (t':=s''.toks) (λb o hb e=>(sb'.2 b hb).trans e) fC.1 fC.2.1 fC.2.2.2.1 fC.2.2.2.2.1 fC.2.2.2.2.2,q⟩⟩
end
theorem pK {K:W.Frag}{a b:Addr}{xs ys:List V}{g:TG}{tb:TS}{D:Ends}{σ:St}{H:Hp}(Pv:Nat->St->Hp->Prop) (h0:Pv 0 σ H) (hl:∀i σ H,i<=xs.length->i<=ys.length->Pv i σ H->SqL K H a xs∧SqL K H b ys)
  (hs:∀i v1 v2 p σ H,xs[i]?=some v1->ys[i]?=some v2->Pv i σ H->H p=none->g (.ref p) σ (upd H p (.tup [v1,v2])) λσ2 H2=>tb { D with nx:=Pv (i+1),ct:=Pv (i+1),bk:=D.nx } σ2 H2)
  (hd:∀σ H,Pv (min xs.length ys.length) σ H->D.nx σ H):iS (Itz K a b) g tb D σ H:=by
 refine⟨λi m σ H=>m=min xs.length ys.length-i∧i<=min xs.length ys.length∧Pv i σ H,⟨_,rfl,aI _,h0⟩,?_⟩
 rintro i m σ H ⟨rfl,hi,p⟩
 obtain⟨q1,q2⟩:=hl i σ H (by omega) (by omega) p;by_cases hlt:i<min xs.length ys.length
 ·have l1:i<xs.length:=by omega
  have l2:i<ys.length:=by omega
  refine .inr ⟨⟨xs,ys,xs[i],ys[i],q1,q2,ak l1,ak l2⟩,Pv (i+1),λσ' H' p'=>⟨min xs.length ys.length-(i+1),by omega,rfl,hlt,p'⟩,λx H' y=>?_⟩;obtain⟨pa,x1,x2,hn,e1,e2,y1,y2⟩:=y;subst e1 e2;exact hs i x1 x2 pa σ H (y1 xs q1) (y2 ys q2) p hn
 ·have e:i=min xs.length ys.length:=by omega
  rw[e]at p;exact .inl ⟨⟨xs,ys,q1,q2,by omega⟩,hd σ H p⟩
section
variable {prog:Program}{w:World}{A:Around}{R:Result->Shared->Prop}{I S:Addr}{fp wr:List Addr}{n:Nat}{P:Nat->Value->Prop}{St:Nat->Heap->Prop}{bt:Nat->Nat->Bool}{d:List (Str×Value)}
theorem pL:(toString "max" ++ toString ".loop" : String) = "max.loop" := by decide
theorem we (W:Walks prog w A.in1 I fp wr n P St)(cm:CmpOf prog w A.in1 .Gt P bt)(nS:S∉fp):∀(m i:Nat) (z:Shared) (u:Value) (cap:Nat),n=i+1+m->St (i+1) z.heap->P (argBest bt i) u->
  z.heap.get? S=some { cls:=.type "list",dict:=none,data:=.seq #[u,u] cap,slots:=#[] }->
  (∀v g tk,P (argBest bt (n-1)) v->(∀b o,b∉wr->b≠S->z.heap.get? b=some o->g.get? b=some o)->R (.ok (.ret v)) { z with heap:=g,toks:=tk })->codeAny (model prog w) A (.builtin "max.loop" ⟨[.ref I,.none,.ref S],d⟩) R z
 | 0,i,z,u,cap,hn,st,hp,eS,q=>by
  have nw:S∉wr:=λh=>nS (W.sub _ h);refine codeAny_builtin PySem.F.entry_max_loop ?_;rw[Around.under_plainId PySem.F.plain_max_loop _];show wpAny _ A.in1 (seqItems? (.ref S) >>= _) _ _ z;refine wpAny_bind (wpAny_seqItems eS rfl ?_);show wpAny _ A.in1 (tryCatch (pyNext (.ref I)) _ >>= _) _ _ z;have hin:n=i+1:=hn;refine wpAny_bind (wpAny_tryCatch (W.done z _ _ (by rw[hin];exact st) λg tk kp=>?_));have eS':=kp S _ nw eS;show wpAny _ A.in1 (updateSeq S (λ_=>#[]) >>= _) _ _ _;refine wpAny_bind (wpAny_updateSeq eS' rfl (wpAny_bind (wpAny_letGo (wpAny_pure (q u _ tk (by rw[hin];exact hp) λb o nb bS e=>?_)))));exact (Heap.get?_update_other _ _ (Ne.symm bS)).trans (kp b o nb e)
 | m+1,i,z,u,cap,hn,st,hp,eS,q=>by
  have nw:S∉wr:=λh=>nS (W.sub _ h);refine codeAny_builtin PySem.F.entry_max_loop ?_;rw[Around.under_plainId PySem.F.plain_max_loop _];show wpAny _ A.in1 (seqItems? (.ref S) >>= _) _ _ z;refine wpAny_bind (wpAny_seqItems eS rfl ?_);show wpAny _ A.in1 (tryCatch (pyNext (.ref I)) _ >>= _) _ _ z;refine wpAny_bind (wpAny_tryCatch (W.item (i+1) z _ _ (by omega) st λv g tk pv st' kp=>?_));have eS':=kp S _ nw eS;show wpAny _ A.in1 (tryCatch (holding [v,v] (richCompare .Gt v u >>= _)) _ >>= _) _ _ _;refine wpAny_bind (wpAny_tryCatch (wpAny_holding (wpAny_bind (cm (i+1) (argBest bt i) v u _ _ _ pv hp (wpAny_bind (wpAny_holding (wpAny_truthy_bool (wpAny_bind (wpAny_letGo (wpAny_pure ?_))))))))))
  cases hb:bt (i+1) (argBest bt i) with
  | true=>
   simp only[if_true];refine wpAny_bind (wpAny_updateSeq eS' rfl (wpAny_bind (wpAny_letGo ?_)));rw[pL];refine wpAny_pure ⟨plainId_quiet PySem.F.plain_max_loop _,we W cm nS m (i+1) _ v _ (by omega) (W.frame _ _ _ st' λb bf o e=>(Heap.get?_update_other _ _ (λh:S=b=>nS (h ▸ bf))).trans e) (by simp only[argBest,hb,if_true];exact pv) (Heap.get?_update_self _ eS' rfl) λv' g' tk' pv' kp'=>?_⟩;exact q v' g' tk' pv' λb o nb bS e=>kp' b o nb bS ((Heap.get?_update_other _ _ (Ne.symm bS)).trans (kp b o nb e))
  | false=>
   simp only[Bool.false_eq_true,if_false];refine wpAny_bind (wpAny_letGo ?_);rw[pL];exact wpAny_pure ⟨plainId_quiet PySem.F.plain_max_loop _,we W cm nS m (i+1) _ u cap (by omega) st' (by simp only[argBest,hb,Bool.false_eq_true,if_false];exact hp) eS' λv' g' tk' pv' kp'=>q v' g' tk' pv' λb o nb bS e=>kp' b o nb bS (kp b o nb e)⟩
theorem Kn (W:Walks prog w A.in1 I fp wr n P St) (cm:CmpOf prog w A.in1 .Gt P bt) (nS:S∉fp){z:Shared}{cap:Nat}{x:Value}{k:Str}(st:St 0 z.heap) (eS:z.heap.get? S=some { cls:=.type "list",dict:=none,data:=.seq #[] cap,slots:=#[] })
  (q:∀v g tk,(n=0∧v=x)∨(0<n∧P (argBest bt (n-1)) v)->(∀b o,b∉wr->b≠S->z.heap.get? b=some o->g.get? b=some o)->R (.ok (.ret v)) { z with heap:=g,toks:=tk }):codeAny (model prog w) A (.builtin "max.loop" ⟨[.ref I,.none,.ref S],[(k,x)]⟩) R z:=by
 have nw:S∉wr:=λh=>nS (W.sub _ h);refine codeAny_builtin PySem.F.entry_max_loop ?_;rw[Around.under_plainId PySem.F.plain_max_loop _];show wpAny _ A.in1 (seqItems? (.ref S) >>= _) _ _ z;refine wpAny_bind (wpAny_seqItems eS rfl ?_);show wpAny _ A.in1 (tryCatch (pyNext (.ref I)) _ >>= _) _ _ z;by_cases n0:n=0
 ·refine wpAny_bind (wpAny_tryCatch (W.done z _ _ (by rw[n0];exact st) λg tk kp=>?_));show wpAny _ A.in1 (rule _ >>= _) _ _ _;refine wpAny_bind (wpAny_rule ?_);exact wpAny_pure (q x g tk (.inl ⟨n0,rfl⟩) λb o nb bS e=>kp b o nb e)
 ·refine wpAny_bind (wpAny_tryCatch (W.item 0 z _ _ (by omega) st λv g tk pv st' kp=>?_));have eS':=kp S _ nw eS;show wpAny _ A.in1 (updateSeq S (λ_=>#[v,v]) >>= _) _ _ _;refine wpAny_bind (wpAny_updateSeq eS' rfl ?_);rw[pL];refine wpAny_pure ⟨plainId_quiet PySem.F.plain_max_loop _,we W cm nS (n-1) 0 _ v _ (by omega) (W.frame _ _ _ st' λb bf o e=>(Heap.get?_update_other _ _ (λh:S=b=>nS (h ▸ bf))).trans e) pv (Heap.get?_update_self _ eS' rfl) λv' g' tk' pv' kp'=>?_⟩;exact q v' g' tk' (.inr ⟨by omega,pv'⟩) λb o nb bS e=>kp' b o nb bS ((Heap.get?_update_other _ _ (Ne.symm bS)).trans (kp b o nb e))
end
theorem Ko (a v:Value):argsOk "max" ⟨[a],[(Str.ofString "default",v)]⟩:=by unfold argsOk;kernel_rfl
theorem Kq {prog:Program}{w:World}{A:Around}{E:Value->Shared->Prop}{s:Shared}{l:Addr}{xs:Array (Int×Tok)}{x:Value}{Q:Value->Shared->Prop}(hh:A.handled=none) (hl:s.heap.IsList l (intItems xs))
  (q:∀v h' tk,(xs.size=0∧v=x)∨(0<xs.size∧(intItems xs)[argBest (λi j=>decide (numAt xs i > numAt xs j)) (xs.size-1)]?=some v)->(∀b o,s.heap.get? b=some o->h'.get? b=some o)->Q v { s with heap:=h',toks:=tk }):
  wpAny (model prog w) A (call (.builtin "max") [.ref l] [(Str.ofString "default",x)]) Q E s:=by
 refine PyProof.Rows.kmk_tree PySem.F.kind_max PySem.F.plain_max PySem.F.entry_max (Ko _ _) ?_;show wpAny _ A.in1 (Builtin.Builtins.bindParams "max" ["key","default"] 0 ⟨[],[(Str.ofString "default",x)]⟩ >>= _) _ _ s;refine wpAny_bind (wpAny_of_eq (show Builtin.Builtins.bindParams "max" ["key","default"] 0 ⟨[],[(Str.ofString "default",x)]⟩=pure [none,some x] from rfl) ?_);refine wpAny_bind (wpAny_pure (wpAny_bind (iter_intList hl λs₂ e st hfp hlI=>?_)));subst e;refine wpAny_bind (wpAny_newObj_type ?_);rw[pL];have W:=Walks.list (prog:=prog) (w:=w) (A:=A.in1) hh _ l hlI (intItems xs);refine wpAny_pure ⟨plainId_quiet PySem.F.plain_max_loop _,Kn W (CmpOf.ints_gt (numAt xs) (λ_ _=>intItems_at)) (λhm=>i4 _ (hfp _ hm)) (W.frame _ _ _ st λb _ o e=>Heap.get?_push_of_some _ e) (Heap.get?_push_size _ rfl) λv h' tk hv hk=>?_⟩;refine q v h' tk (by simpa [intItems] using hv) (old_kept (s:=s) (l:=l) λb o nb e=>?_);exact hk b o nb (cC (Heap.lt_size e)) (Heap.get?_push_of_some _ e)
def C7 (K:W.Frag)(t tk:TA):TE:=λσ H Q=>t σ H λvs H1=>tk σ H1 λzs H2=>∃p ns d,vs=[.ref p]∧zs=[.int d]∧SqL K H2 p (ns.map V.int)∧∀M,(ns=[]∧M=d)∨(M∈ns∧∀a∈ns,a<=M)->Q (.int M) H2
theorem Kr {X:Cx}{p pos kpos:Pos}{e k:Expr}{t tk:TA}(hc:X.calm=true) (hg:Gl X "max") (hm:X.mg "max" = none) (ha:PA X [e] t) (hkw:PK X [⟨some "default",k,kpos⟩] tk)
  (he:backTo pos (starEach [e] X.env)=(false,eval e X.env) :: backTo pos (starEach [] X.env):=by rfl) (hpl:(backTo pos (starEach [e] X.env)).any (·.1)=false:=by rfl)
  (hall:(backToKw pos (keywordEach [⟨some "default",k,kpos⟩] X.env)).all (·.1.isSome)=true:=by rfl) (hks:(backToKw pos (keywordEach [⟨some "default",k,kpos⟩] X.env)).filterMap (·.1)=[Str.ofString "default"]:=by rfl)
  (hno:(backToKw pos (keywordEach [⟨some "default",k,kpos⟩] X.env)).any (·.1.isNone)=false:=by rfl):
  PE X (.Call (.Name "max" p) [e] [⟨some "default",k,kpos⟩] pos) (C7 X.K t tk):=by
 intro Tj s σ H Q I h;refine wpAny_Call_Name_kw (gT I hg hm iz ?_ (by decide) (by decide));refine PyProof.Rows.callWith_kw (thn (ha pos Tj s σ H _ I h) λus s1 ⟨vs,H1,I1,r,q⟩=>?_) he hpl hall hno;refine thn (hkw pos Tj s1 σ H1 _ I1 q) λkws s2 ⟨zs,H2,I2,rz,q2⟩=>?_;rw[hks];obtain⟨a,ns,d,rfl,rfl,hq,q3⟩:=q2;obtain⟨u,rfl,rx⟩:=gY r;obtain⟨u',rfl,rx'⟩:=gY rz;obtain⟨td,rfl⟩:=rx'
 cases rx
 obtain⟨its,r',pl,hz⟩:=I2.list hq;have hi:=jS r';obtain⟨zs,e⟩:=hi.allInts.items;have hns:ns=zs.toList.map (·.1):=by rw[←hi.numsOf,←nums_intItems,←e]
 have hl:=pl.isList;rw[e]at hl;refine Kq (x:=.int d td) (I2.ok.hd hc) hl λv h' tk hv hk=>?_;rcases hv with ⟨h0,rfl⟩|⟨h0,hv⟩
 ·exact⟨.int _,H2,I2.kept hk,⟨td,rfl⟩,q3 d (.inl ⟨by rw[hns,xI];exact bE (by rw[Array.length_toList];exact h0),rfl⟩)⟩
 ·obtain⟨tv,rfl⟩:=intItems_at hv;obtain⟨g1,g2⟩:=argBest_gt (numAt zs) (zs.size-1);refine⟨.int _,H2,I2.kept hk,⟨tv,rfl⟩,q3 _ (.inr ⟨v9 hns (by omega),λx hx=>?_⟩)⟩;obtain⟨i,hi,rfl⟩:=v_ hns hx;exact g2 i (by omega)
theorem pM {K:W.Frag}{t tk:TA}{σ:St}{H:Hp}{Q:VK}:C7 K t tk σ H Q=t σ H λvs H1=>tk σ H1 λzs H2=>∃p ns d,vs=[.ref p]∧zs=[.int d]∧SqL K H2 p (ns.map V.int)∧∀M,(ns=[]∧M=d)∨(M∈ns∧∀a∈ns,a<=M)->Q (.int M) H2:=rfl
theorem pO {K:W.Frag}{neg:Bool}{x y:V}{H:Hp}{Q:VK}:rIn K neg x y H Q=∃p xs,y=.ref p∧(SqL K H p xs∨SqT K H p xs)∧gg x=true∧xs.all gg=true∧Q (.bl (if neg then !inV x xs else inV x xs)) H:=rfl
theorem Ks (n:Int)(ns:List Int):inV (.int n) (ns.map V.int)=decide (n∈ns):=by
 unfold inV
 induction ns with
 | nil=>rfl
 | cons m ns ih=>
  rw[c_,q_,ih];have:eqV (.int m) (.int n)=decide (n=m):=by
   rw[Bool.eq_iff_iff];simp only[eqV,beq_iff_eq,decide_eq_true_eq];exact eq_comm
  rw[this];simp
open PySem
open PySem
open PySem
open PySem
open PySem
open PySem
open PySem
open PySem
open PySem
open PySem
inductive Tr where|lf|nd (l:Tr) (k:Nat) (r:Tr)
def Tr.ins (k:Nat):Tr->Option Tr
 | .lf=>some (.nd .lf k .lf)
 | .nd l m r=>match Nat.blt k m with
  | true=>match Tr.ins k l with|some l'=>some (.nd l' m r)|none=>none
  | false=>match Nat.blt m k with
   | true=>match Tr.ins k r with|some r'=>some (.nd l m r')|none=>none
   | false=>none
def Tr.all:List Nat->Tr->Bool
 | [],_=>true
 | k :: ks,t=>match t.ins k with|some t'=>Tr.all ks t'|none=>false
def Tr.mem (x:Nat):Tr->Prop
 | .lf=>False
 | .nd l k r=>x=k∨l.mem x∨r.mem x
def Thw (X:Cx)(H:Hp)(a:Addr)(o:Obj)(kvs:List (List Key×V)):Prop:=H a=some (.frz o (.dT kvs))∨(H a=some (.dT kvs)∧∀o' u',X.H₀ a≠some (.frz o' u'))
def Itd (a:Addr)(o:Obj)(kvs:List (List Key×V)):It:=
 ⟨λi H=>H a=some (.frz o (.dT kvs))∧i<kvs.length,λi H v H'=>∃p b k x,H p=none∧v=.ref p∧kvs[i]?=some (k,x)∧H b=some (.tup (k.map kV))∧H'=upd H p (.tup [.ref b,x]),
  λi H=>H a=some (.frz o (.dT kvs))∧kvs.length<=i⟩
section
variable {X:Cx}
def Kt (X:Cx)(td:TE):TI:=λσ H R=>td σ H λx H1=>∃a kvs,x=.ref a∧Rd H1 a (.dT kvs)∧∀o,Thw X H1 a o kvs->R (Itd a o kvs) (upd H1 a (.frz o (.dT kvs)))
end
section
variable {X:Cx}{elt iter cnd:Expr}{x z:Str}{px pz:Pos}{tk:Nat}{tpos:Pos}{fv:List (Nat×Str)}{scope:Scope}{cl:List (Str×Addr)}{pos:Pos}{te:TE}{tt:TT}{wi:TI}
def C8 (K:W.Frag)(J:It)(fv:List (Nat×Str))(tt:TT)(te:TE)(Q:VK)(σ:St)(H1:Hp)(D:Addr):Prop:=∃W:Nat->Nat->Hp->Prop,(∃m,W 0 m (upd H1 D (.lst [])))∧∀i m H,W i m H->
 (J.stop i H∧Q (.ref D) H)∨(J.go i H∧∃N:Hp->Prop,(∀H',N H'->∃m',m'<m∧W (i+1) m' H')∧∀v H',J.yld i H v H'->∃q x1 x2,v=.ref q∧SqT K H' q [x1,x2]∧tt (ej fv σ (some x1) (some x2)) H' λb Hb=>if b=true then te (ej fv σ (some x1) (some x2)) Hb λy H2=>∃ys,H2 D=some (.lst ys)∧ys.length<sizeLine∧N (upd H2 D (.lst (ys++[y]))) else N Hb)
def Ku (K:W.Frag)(fv:List (Nat×Str))(wi:TI)(tt:TT)(te:TE):TE:=λσ H Q=>wi σ H λJ H1=>∀D,H1 D=none->C8 K J fv tt te Q σ H1 D
theorem pP {K:W.Frag}{σ:St}{H:Hp}{Q:VK}:Ku K fv wi tt te σ H Q=wi σ H λJ H1=>∀D,H1 D=none->C8 K J fv tt te Q σ H1 D:=rfl
end
section
variable {X:Cx}{Tj:List (Addr×Obj)}{σ:St}{H:Hp}{s:Shared}{A:Around}{E:Value->Shared->Prop}
def C9 (ks:List (List Key×Addr×V))(kvs:List (List Key×V)):List (List Key×V):=ks.foldl (λa x=>gh a x.1 x.2.2) kvs
def Kv (trs:List (TE×TE)):TE:=λσ H Q=>∀p,H p=none->jR trs σ (upd H p (.dT [])) λps H2=>H2 p=some (.dT [])∧∃ks:List (List Key×Addr×V),ps=ks.map (λx=>(V.ref x.2.1,x.2.2))∧(∀x∈ks,H2 x.2.1=some (.tup (x.1.map kV)))∧ks.length<=15∧Q (.ref p) (upd H2 p (.dT (C9 ks [])))
end
section
variable {X:Cx}{td ty tv tx to:TE}{σ:St}{H:Hp}{Q:VK}{D:Ends}
theorem pQ:JX td ty σ H Q=td σ H λx H1=>ty σ H1 λy H2=>∃a v,x=.ref a∧jQ H2 a y (some v)∧Q v H2:=rfl
theorem pR:JY ty td σ H Q=ty σ H λy H1=>td σ H1 λx H2=>∃a o,x=.ref a∧jQ H2 a y o∧Q (.bl (!o.isSome)) H2:=rfl
theorem pS:JZ td ty tv D σ H=tv σ H λv H1=>td σ H1 λx H2=>ty σ H2 λy H3=>∃a H4,x=.ref a∧CT H3 a y v H4∧D.nx σ H4:=rfl
theorem pT:J5 td ty tx σ H Q=td σ H λx H1=>∃a,x=.ref a∧IsD H1 a∧ty σ H1 λy H2=>tx σ H2 λz H3=>∃o,jQ H3 a y o∧Q (o.getD z) H3:=rfl
theorem pU:J3 σ H Q=∀p,H p=none->Q (.ref p) (upd H p (.dT [])):=rfl
theorem pV {trs:List (TE×TE)}:Kv trs σ H Q=∀p,H p=none->jR trs σ (upd H p (.dT [])) λps H2=>H2 p=some (.dT [])∧∃ks:List (List Key×Addr×V),ps=ks.map (λx=>(V.ref x.2.1,x.2.2))∧(∀x∈ks,H2 x.2.1=some (.tup (x.1.map kV)))∧ks.length<=15∧Q (.ref p) (upd H2 p (.dT (C9 ks []))):=rfl
theorem pW {R:List (V×V)->Hp->Prop}:jR [] σ H R=R [] H:=rfl
theorem pX {r:List (TE×TE)}{R:List (V×V)->Hp->Prop}:jR ((td,tv) :: r) σ H R=td σ H λx H1=>tv σ H1 λy H2=>jR r σ H2 λps H3=>R ((x,y) :: ps) H3:=rfl
theorem pY {R:It->Hp->Prop}:Kt X td σ H R=td σ H λx H1=>∃a kvs,x=.ref a∧Rd H1 a (.dT kvs)∧∀o,Thw X H1 a o kvs->R (Itd a o kvs) (upd H1 a (.frz o (.dT kvs))):=rfl
end
def Itk (a:Addr)(o:Obj)(kvs:List (List Key×V)):It:=
 ⟨λi H=>H a=some (.frz o (.dT kvs))∧i<kvs.length,λi H v H'=>∃b k x,H'=H∧v=.ref b∧kvs[i]?=some (k,x)∧H b=some (.tup (k.map kV)),λi H=>H a=some (.frz o (.dT kvs))∧kvs.length<=i⟩
section
variable {X:Cx}
def Kw (X:Cx)(td:TE):TI:=λσ H R=>td σ H λx H1=>∃a kvs,x=.ref a∧Rd H1 a (.dT kvs)∧∀o,Thw X H1 a o kvs->R (Itk a o kvs) (upd H1 a (.frz o (.dT kvs)))
end
theorem pZ {X:Cx}{td:TE}{σ:St}{H:Hp}{R:It->Hp->Prop}:Kw X td σ H R=td σ H λx H1=>∃a kvs,x=.ref a∧Rd H1 a (.dT kvs)∧∀o,Thw X H1 a o kvs->R (Itk a o kvs) (upd H1 a (.frz o (.dT kvs))):=rfl
section
variable {K:W.Frag}{C:Addr}{m f:Str}{sp:Sp}{dvs:List V}{E:XK}{ta tv:TE}{t:TA}{σ:St}{H:Hp}{Q:VK}{D:Ends}
theorem p4:vw K ta f σ H Q=ta σ H λx H1=>∃a C dx fs v,x=.ref a∧H1 a=some (.ins C dx fs)∧Cls K C∧NoAttr K C f∧fs.lookup f=some v∧Q v H1:=rfl
theorem p6:B7 K ta tv f D σ H=tv σ H λy H1=>ta σ H1 λx H2=>∃a C dx fs,x=.ref a∧H2 a=some (.ins C dx fs)∧Cls K C∧NoAttr K C f∧fs.length<1000∧D.nx σ (upd H2 a (.ins C dx (aG f y fs))):=rfl
theorem p7:vB C m sp dvs E ta t σ H Q=ta σ H λx H1=>∃a dx fs,x=.ref a∧H1 a=some (.ins C dx fs)∧fs.lookup m=none∧t σ H1 λvs H2=>sp (x :: (vs++dvs)) H2 Q E:=rfl
theorem p8:Cd C sp dvs E t σ H Q=t σ H λvs H1=>∀x dx,H1 x=none->H1 dx=none->dx≠x->sp (.ref x :: (vs++dvs)) (upd (upd H1 dx (.own x)) x (.ins C dx [])) (λv H2=>v=.non∧Q (.ref x) H2) E:=rfl
end
def Kx (fv:List (Nat×Str))(σ:St)(v v2 v3:Option V):St:=v :: v2 :: v3 :: fv.map λp=>(σ[p.1]?).getD none
section
variable {X:Cx}{elt iter:Expr}{x z z3:Str}{px pz p3:Pos}{tk:Nat}{tpos:Pos}{fv:List (Nat×Str)}{scope:Scope}{cl:List (Str×Addr)}{pos:Pos}{te:TE}{wi:TI}
def C_ (K:W.Frag)(J:It)(fv:List (Nat×Str))(te:TE)(Q:VK)(σ:St)(H1:Hp)(D:Addr):Prop:=∃W:Nat->Nat->Hp->Prop,(∃m,W 0 m (upd H1 D (.lst [])))∧∀i m H,W i m H->
 (J.stop i H∧Q (.ref D) H)∨(J.go i H∧∃N:Hp->Prop,(∀H',N H'->∃m',m'<m∧W (i+1) m' H')∧∀v H',J.yld i H v H'->∃q x1 x2 x3,v=.ref q∧SqT K H' q [x1,x2,x3]∧te (Kx fv σ (some x1) (some x2) (some x3)) H' λy H2=>∃ys,H2 D=some (.lst ys)∧ys.length<sizeLine∧N (upd H2 D (.lst (ys++[y]))))
def Ky (K:W.Frag)(fv:List (Nat×Str))(wi:TI)(te:TE):TE:=λσ H Q=>wi σ H λJ H1=>∀D,H1 D=none->C_ K J fv te Q σ H1 D
theorem p9 {K:W.Frag}{σ:St}{H:Hp}{Q:VK}:Ky K fv wi te σ H Q=wi σ H λJ H1=>∀D,H1 D=none->C_ K J fv te Q σ H1 D:=rfl
end
def Da (K:W.Frag)(a b c:Addr):It:=
 ⟨λi H=>∃xs ys zs x y v,SqT K H a xs∧SqT K H b ys∧SqT K H c zs∧xs[i]?=some x∧ys[i]?=some y∧zs[i]?=some v,
  λi H v H'=>∃p x y u,H p=none∧v=.ref p∧H'=upd H p (.tup [x,y,u])∧(∀xs,SqT K H a xs->xs[i]?=some x)∧(∀ys,SqT K H b ys->ys[i]?=some y)∧∀zs,SqT K H c zs->zs[i]?=some u,
  λi H=>∃xs,SqT K H a xs∧xs.length<=i⟩
section
variable {X:Cx}
def Kz (K:W.Frag)(ta:TA):TI:=λσ H R=>ta σ H λvs H1=>∃a b c xs ys zs,vs=[.ref a,.ref b,.ref c]∧SqT K H1 a xs∧SqT K H1 b ys∧SqT K H1 c zs∧R (Da K a b c) H1
theorem p_ {K:W.Frag}{ta:TA}{σ:St}{H:Hp}{R:It->Hp->Prop}:Kz K ta σ H R=ta σ H λvs H1=>∃a b c xs ys zs,vs=[.ref a,.ref b,.ref c]∧SqT K H1 a xs∧SqT K H1 b ys∧SqT K H1 c zs∧R (Da K a b c) H1:=rfl
end
section
variable {X:Cx}
def KC (C:Addr):TE:=λ_ H Q=>∀x dx,H x=none->H dx=none->dx≠x->Q (.ref x) (upd (upd H dx (.own x)) x (.ins C dx []))
theorem qc {C:Addr}{σ:St}{H:Hp}{Q:VK}:KC C σ H Q=∀x dx,H x=none->H dx=none->dx≠x->Q (.ref x) (upd (upd H dx (.own x)) x (.ins C dx [])):=rfl
end
theorem qd {x y:Str}{H:Hp}{Q:VK}:rEq (.str x) (.str y) H Q=Q (.bl (decide (x=y))) H:=by
 unfold rEq;simp[vn]
theorem qe {x:V}{vs:List V}{H:Hp}{Q:VK}:Cz x vs H Q=∃l b xs zs,x=.ref l∧vs=[.ref b]∧H l=some (.lst xs)∧H b=some (.lst zs)∧xs.length+zs.length<=sizeLine∧Q .non (upd H l (.lst (xs++zs))):=rfl
@[reducible] def fH (X:Cx) (x:Str) (fv:List (Nat×Str)) (scope:Scope) (cl:List (Str×Addr)) (C:Addr) (s:Shared) (H:Hp) (fp:List Addr):Cx:=
 { blk X x fv scope cl C s H fp with env:={ compEnvC scope cl C X.env with cells:=(x,C+1) :: cl },fn:=λy=>y == x }
structure BlkOkC (X:Cx)(x:Str)(fv:List (Nat×Str))(scope:Scope)(cl:List (Str×Addr)):Prop where
 clos:closureFor scope X.env=pure cl
 one:∀n,cellsFrom n scope.names cl=(x,n) :: cl
 push:∀h,pushCells h scope.names=h.push { cls:=.type "cell",data:=.cell none }
 kind:scope.kind=.function
 names:∀y∈scope.names,y.2=.local->scope.names.lookup y.1=some .local
 here:(relabel scope X.env).names.lookup x=some .cell
 sub:∀y c,cl.lookup y=some c->X.env.cells.lookup y=some c
 has:∀y,y≠x->((relabel scope X.env).names.lookup y=some .cell∨(relabel scope X.env).names.lookup y=some .free)->∃c,cl.lookup y=some c
 nd:(x :: fv.map (·.2)).Nodup
 fvs:∀p∈fv,p.2≠x∧X.N[p.1]?=some p.2∧(X.env.scope.names.lookup p.2=some .cell∨X.env.scope.names.lookup p.2=some .free)∧
  ((relabel scope X.env).names.lookup p.2=some .cell∨(relabel scope X.env).names.lookup p.2=some .free)∧∃c,cl.lookup p.2=some c
theorem iB {x y:Str}{n c:Addr}{cl:List (Str×Addr)}(h:((x,n) :: cl).lookup y=some c):(y=x∧c=n)∨(y≠x∧cl.lookup y=some c):=by
 rw[xE]at h
 cases e:y == x with
 | true=>rw[e]at h;cases h;exact .inl ⟨eq_of_beq e,rfl⟩
 | false=>rw[e]at h;exact .inr ⟨λz=>by rw[z]at e;simp at e,h⟩
theorem Dd {x y:Str}{n c:Addr}{cl:List (Str×Addr)}(ne:y≠x)(h:cl.lookup y=some c):((x,n) :: cl).lookup y=some c:=by
 rw[xE,show (y == x)=false by simpa using ne];exact h
theorem KD {x:Str}{n:Addr}{cl:List (Str×Addr)}:((x,n) :: cl).lookup x=some n:=by
 rw[xE,show (x == x)=true by simp]
section
variable {X:Cx}{elt iter:Expr}{x:Str}{px:Pos}{fv:List (Nat×Str)}{scope:Scope}{cl:List (Str×Addr)}{pos:Pos}{te:TE}{wi:TI}
theorem KE {Tj:List (Addr×Obj)}{σ:St}{H:Hp}{s:Shared}{fp:List Addr}{C:Addr}(B:BlkOkC X x fv scope cl)(I:Inv X Tj σ H s)(hf:∀b∈fp,cF X Tj H b)(hC:s.heap.objs.size<=C)(hfC:∀b∈fp,b≠C)(hfD:∀b∈fp,b≠C+1):
  (fH X x fv scope cl C s H fp).Ok where
 mod:=I.ok.mod
 kind:=B.kind
 glob:=I.ok.glob
 blt:=I.ok.blt
 above:=hC
 inj:=λy z c h1 h2=>by
  have old:∀{y:Str},cl.lookup y=some (C+1)->False:=λ{y} h=>by
   obtain⟨v,o,ho,_⟩:=I.cell y _ (B.sub y _ h);exact absurd (Heap.lt_size ho) (Nat.not_lt.mpr (Nat.le_succ_of_le hC))
  rcases iB h1 with ⟨rfl,rfl⟩|⟨n1,h1⟩
  ·rcases iB h2 with ⟨rfl,_⟩|⟨n2,h2⟩
   ·rfl
   ·exact (old h2).elim
  ·rcases iB h2 with ⟨_,e⟩|⟨n2,h2⟩
   ·rw[e]at h1;exact (old h1).elim
   ·exact I.ok.inj y z c (B.sub y c h1) (B.sub z c h2)
 has:=λy hy=>by
  by_cases e:y=x
  ·exact⟨C+1,by rw[e];exact KD⟩
  ·obtain⟨c,hc⟩:=B.has y e hy;exact⟨c,Dd e hc⟩
 cab:=λy c hy h=>by
  have e:y=x:=eq_of_beq hy;rcases iB h with ⟨_,rfl⟩|⟨n,_⟩
  ·exact Nat.le_succ_of_le hC
  ·exact absurd e n
 hd:=I.ok.hd
 frames:=I.ok.frames
 stk:=.inl rfl
 exf:=λb hb=>⟨hfC b hb,λy c e=>by
  rcases iB e with ⟨_,rfl⟩|⟨_,e⟩
  ·exact Ne.symm (hfD b hb)
  ·exact (hf b hb).2.2.2.2.1 y c (B.sub y c e)⟩
 bs:=I.bs
 bsz:=aE I.ok.bsz I.sz
 noex:=λb o e hb=>by
  obtain⟨_,_,_,f3,_⟩:=hf b hb;rcases f3 with z|z
  ·exact I.ok.noex b o e z
  ·exact absurd (bV (Heap.lt_size e) (aE I.ok.bsz z)) (i4 _)
 exfs:=λb hb hs=>by
  obtain⟨_,f1,f2,_⟩:=hf b hb;rcases aO.mp (I.stkSub b hs) with z|z
  ·exact f1 z
  ·exact f2 z
 funs:=I.stack
 frf:=I.stkFree
theorem KF {Tj:List (Addr×Obj)}{σ:St}{H:Hp}{s s4:Shared}{fp:List Addr}{C:Addr}{m:Str->Option Value}(B:BlkOkC X x fv scope cl) (I:Inv X Tj σ H s) (hf:∀b∈fp,cF X Tj H b) (hC:C=s.heap.objs.size)
  (hfC:∀b∈fp,b≠C) (hfD:∀b∈fp,b≠C+1) (os:s4.os=s.os) (gens:s4.gens=s.gens) (keep:∀b o,s.heap.get? b=some o->s4.heap.get? b=some o) (ns:s4.heap.Ns C m) (ce:s4.heap.IsCell (C+1) none):
  Inv (fH X x fv scope cl C s H fp) [] (bst fv σ none) H s4:=by
 subst hC;refine⟨KE B I hf (am _) hfC hfD,os,by rw[gens];exact I.bare,Un.kept keep,⟨m,ns,λi y v h1 h2 h3=>?_⟩,λy c e=>?_,I.hok.fresh (am _),λy c e=>?_,λp hp=>absurd (show p∈([]:List (Addr×Obj)) from hp) (by simp),I.hok.kept keep,by simp[bst]⟩
 ·cases i with
  | zero=>simp[bst]at h2
  | succ j=>
   obtain⟨p,hp,rfl,hv⟩:=vM h1 h2;obtain⟨hne,hN,hk,hk2,c,hc⟩:=B.fvs p hp;obtain⟨m0,_,hl⟩:=I.loc;have vis:Vis X.env.scope p.2:=hk.elim (λz=>.inr (.inl z)) λz=>.inr (.inr z);obtain⟨u,r,l⟩:=hl p.1 p.2 v hN hv vis;refine⟨u,r,.inr ⟨hk2,c,Dd hne hc,?_⟩⟩;rcases l with ⟨z,_⟩|⟨_,c',hc',o,ho,hd⟩
   ·have z':X.env.scope.names.lookup p.2=some .local:=z;rcases hk with k|k <;> (rw[k]at z';cases z')
   ·have:=B.sub p.2 c hc;rw[hc']at this;cases this;exact⟨o,keep _ o ho,hd⟩
 ·rcases iB e with ⟨_,rfl⟩|⟨_,e⟩
  ·exact⟨none,ce⟩
  ·obtain⟨v,o,ho,hd⟩:=I.cell y c (B.sub y c e);exact⟨v,o,keep c o ho,hd⟩
 ·rcases iB e with ⟨_,rfl⟩|⟨_,e⟩
  ·exact I.hok.fresh (i5 _)
  ·exact I.freeC y c (B.sub y c e)
theorem KG {s:Shared}{g:Addr}{q:Str}{env:Env}{M:Model}{A:Around}{E:Value->Shared->Prop}{Q:Env->Shared->Prop}
  (one:∀n,cellsFrom n scope.names cl=(x,n) :: cl) (push:∀h,pushCells h scope.names=h.push { cls:=.type "cell",data:=.cell none })
  (h:Q { scope:=scope,locals:=s.heap.objs.size,globals:=g,cells:=(x,s.heap.objs.size+1) :: cl,qual:=q,func:=none,code:=env.code,frame:=env.frame,builtins:=env.builtins }
   { s with heap:=(s.heap.push { cls:=.type "dict",data:=.dict #[] }).push { cls:=.type "cell",data:=.cell none } }):
  wpAny M A (newFunctionEnv scope g cl [] q none .none (some env)) Q E s:=by
 simp only[newFunctionEnv,Option.isSome_some,if_true];refine wpAny_bind (wpAny_alloc ?_);refine wpAny_bind (wpAny_layCells _ (λname kind cells=>by cases hkc:kind == NameKind.cell <;> simp[hkc]) _ _ _ _ ?_);rw[show ({ s with heap:=s.heap.push { cls:=.type "dict",data:=.dict #[] } }:Shared).heap.objs.size=s.heap.objs.size+1 from Heap.size_push ..];dsimp only;rw[one,push];rw[List.forIn_nil];exact wpAny_bind (wpAny_pure (wpAny_pure h))
theorem KI {pins':List (Addr×Obj)}{σ:St}{H H0:Hp}{s s5:Shared}{fp:List Addr}{C:Addr}{o:Option V}{v:V}{u:Value}{E:Value->Shared->Prop}{Q:Unit->Shared->Prop}(B:BlkOkC X x fv scope cl)
  (I:Inv (fH X x fv scope cl C s H0 fp) pins' (bst fv σ o) H s5) (r:RelV v u) (h:∀s6,Inv (fH X x fv scope cl C s H0 fp) pins' (bst fv σ (some v)) H s6->Q () s6):
  wpAny (model X.prog X.w) X.A (assign (.Name x px) { compEnvC scope cl C X.env with cells:=(x,C+1) :: cl } u) Q E s5:=
 wpAny_assign_Name (mF (X:=fH X x fv scope cl C s H0 fp) (i:=0) I B.nd rfl (.inr B.here) r h (.inl (by show (x == x)=true;simp)))
end
section
variable {X:Cx}{elt iter:Expr}{x:Str}{px:Pos}{fv:List (Nat×Str)}{scope:Scope}{cl:List (Str×Addr)}{pos:Pos}{te:TE}{wi:TI}
theorem De {Tj:List (Addr×Obj)}{σ:St}{H:Hp}{s2:Shared}{it:Addr}{fp:List Addr}{tn:Nat->Heap->Prop}{J:It}{Q:VK}{E:Value->Shared->Prop}{RR:Value->Addr->Result->Shared->Prop}
  (hc:X.calm=true) (B:BlkOkC X x fv scope cl) (he:∀C s H fp,PE (fH X x fv scope cl C s H fp) elt te) (I:Inv X Tj σ H s2) (T:Turn X.prog X.w X.K (.Name x px) J fp it tn) (st:tn 0 s2.heap) (hf:∀b∈fp,cF X Tj H b)
  (rd:∀D,H D=none->∃W:Nat->Nat->Hp->Prop,(∃m,W 0 m (upd H D (.lst [])))∧∀i m H,W i m H->
   (J.stop i H∧Q (.ref D) H)∨(J.go i H∧∃N:Hp->Prop,(∀H',N H'->∃m',m'<m∧W (i+1) m' H')∧∀v H',J.yld i H v H'->te (bst fv σ (some v)) H' λy H2=>∃ys,H2 D=some (.lst ys)∧ys.length<sizeLine∧N (upd H2 D (.lst (ys++[y])))))
  (hRR:∀D C s' H' m',Inv X Tj σ H' s'->cF X Tj H' C->s'.heap.Ns C m'->Q (.ref D) H'->RR (.ref D) C (.ok .next) s'):
  wpAny (model X.prog X.w) X.A (newList []) (λacc s₃=>wpAny (model X.prog X.w) X.A (newFunctionEnv scope X.env.globals cl [] X.env.qual none .none (some X.env)) (λcenv s₄=>
   codeAny (model X.prog X.w) X.A (.compStart (.ListComp elt [⟨.Name x px,iter,[],0⟩] scope pos) 0 (.ref it) acc { cenv with scope:=relabel scope X.env }) (RR acc cenv.locals) s₄) E s₃) E s2:=by
 refine wpAny_newObj_type ?_ (by show 0<=sizeLine;exact aI _);have hD:H s2.heap.objs.size=none:=I.hok.fresh (am _);have I3:=I.lnew (ys:=[]) (its:=[]) (t':=s2.toks) .nil (aI _);generalize hs3:({ s2 with heap:=s2.heap.push { cls:=.type "list",data:=.seq ([]:List Value).toArray },toks:=s2.toks }:Shared)=s3 at I3;have sz3:s3.heap.objs.size=s2.heap.objs.size+1:=by rw[←hs3];exact Heap.size_push ..
 have up3:∀b o,s2.heap.get? b=some o->s3.heap.get? b=some o:=λb o e=>by rw[←hs3];exact Heap.get?_push_of_some _ e
 have hf3:∀b∈fp,cF X Tj (upd H s2.heap.objs.size (.lst [])) b:=λb hb=>by
  obtain⟨f0,r⟩:=hf b hb;refine⟨?_,r⟩;obtain⟨o,e,_⟩:=T.obj 0 _ st b hb;rw[aj (cC (Heap.lt_size e))];exact f0
 have ltf:∀b∈fp,b<s2.heap.objs.size:=λb hb=>by
  obtain⟨o,e,_⟩:=T.obj 0 _ st b hb;exact Heap.lt_size e
 have st3:tn 0 s3.heap:=T.keep 0 _ _ st λb _ o e=>up3 b o e;obtain⟨W,⟨m0,w0⟩,turn⟩:=rd _ hD;refine KG B.one B.push ?_;have hfC:∀b∈fp,b≠s3.heap.objs.size:=λb hb=>cC (by rw[sz3];exact lV (ltf b hb));have hfD:∀b∈fp,b≠s3.heap.objs.size+1:=λb hb=>cC (by rw[sz3];exact lV (lV (ltf b hb)));generalize hh1:(s3.heap.push { cls:=.type "dict",data:=.dict #[] }).push { cls:=.type "cell",data:=.cell none }=h₁;have up4:∀b o,s3.heap.get? b=some o->h₁.get? b=some o:=λb o e=>by rw[←hh1];exact Heap.get?_push_of_some _ (Heap.get?_push_of_some _ e)
 have ns4:h₁.Ns s3.heap.objs.size (λ_=>none):=by
  rw[←hh1];exact (Heap.Ns.new s3.heap (.type "dict")).keeps λb o e=>Heap.get?_push_of_some _ e
 have ce4:h₁.IsCell (s3.heap.objs.size+1) none:=by
  rw[←hh1,show s3.heap.objs.size+1=(s3.heap.push { cls:=.type "dict",data:=.dict #[] }).objs.size from (Heap.size_push ..).symm];exact⟨{ cls:=.type "cell",data:=.cell none },Heap.get?_push_size _ rfl,rfl⟩
 generalize hs4:({ s3 with heap:=h₁ }:Shared)=s4;have h4:s4.heap=h₁:=by rw[←hs4]
 have I4:Inv (fH X x fv scope cl s3.heap.objs.size s3 (upd H s2.heap.objs.size (.lst [])) fp) [] (bst fv σ none) (upd H s2.heap.objs.size (.lst [])) s4:=
  KF B I3 hf3 rfl hfC hfD (by rw[←hs4]) (by rw[←hs4]) (λb o e=>by rw[h4];exact up4 b o e) (by rw[h4];exact ns4) (by rw[h4];exact ce4)
 have st4:tn 0 s4.heap:=by rw[h4];exact T.keep 0 _ _ st3 λb _ o e=>up4 b o e
 have stat:∀{H':Hp},(∀b∈fp,H' b=none)->∀b∈fp,cF (fH X x fv scope cl s3.heap.objs.size s3 (upd H s2.heap.objs.size (.lst [])) fp) [] H' b:=λ{H'} hn b hb=>by
  obtain⟨_,f1,f2,f3,f4,f5⟩:=hf b hb;refine⟨hn b hb,hfC b hb,λz=>?_,.inl hb,λy c e=>?_,λp hp=>absurd (show p∈([]:List (Addr×Obj)) from hp) (by simp)⟩
  ·rcases aO.mp (I.stkSub b z) with q|q
   ·exact f1 q
   ·exact f2 q
  ·rcases iB e with ⟨_,rfl⟩|⟨_,e⟩
   ·exact Ne.symm (hfD b hb)
   ·exact f4 y c (B.sub y c e)
 have loop:codeAny (model X.prog X.w) X.A (.compLoop (.ListComp elt [⟨.Name x px,iter,[],0⟩] scope pos) 0 (.ref it) (.ref s2.heap.objs.size) { compEnvC scope cl s3.heap.objs.size X.env with cells:=(x,s3.heap.objs.size+1) :: cl }) (RR (.ref s2.heap.objs.size) s3.heap.objs.size) s4:=by
  refine vL (λn s'=>∃i H' o,Inv (fH X x fv scope cl s3.heap.objs.size s3 (upd H s2.heap.objs.size (.lst [])) fp) [] (bst fv σ o) H' s'∧tn i s'.heap∧(∀b∈fp,H' b=none)∧W i n H') ?_ m0
   ⟨0,_,none,I4,st4,λb hb=>(hf3 b hb).1,w0⟩
  rintro n s5 E' ⟨i,H5,o5,I5,st5,fr5,w5⟩
  rcases turn i n H5 w5 with ⟨stop,q⟩|⟨go,N,hN,step⟩
  ·refine thn (T.done (fH X x fv scope cl s3.heap.objs.size s3 (upd H s2.heap.objs.size (.lst [])) fp) rfl rfl rfl hc i [] s5 _ H5 _ I5 (stat fr5) st5 stop) λr s6 ⟨hr,I6⟩=>?_;subst hr;obtain⟨m6,hn6,_⟩:=I6.loc;have un:Un (frs X.stack) fp H H5 s2.heap s6.heap:=by
    have u1:Un (frs X.stack) fp H (upd H s2.heap.objs.size (.lst [])) s2.heap s3.heap:=Un.laid up3 (am _) hD;exact u1.trans I6.base
   have J6:Inv X Tj σ H5 s6:=by
    refine I.call' ?_ un I6.hok I6.bare λb hb=>?_
    ·have:=I6.os;rw[show (fH X x fv scope cl s3.heap.objs.size s3 (upd H s2.heap.objs.size (.lst [])) fp).s₀.os=s2.os by rw[←hs3]]at this;exact this
    ·obtain⟨_,f1,f2,f3,f4,f5⟩:=hf b hb;exact⟨f3,f1,f4,f5⟩
   refine hRR _ _ s6 H5 m6 J6 ?_ hn6 q;exact I3.fpOk (am _) I6.free
  ·refine thn (T.item (fH X x fv scope cl s3.heap.objs.size s3 (upd H s2.heap.objs.size (.lst [])) fp) rfl rfl rfl hc i [] s5 _ H5 _ I5 (stat fr5) st5 go) λr s6 ⟨u,hr,h6⟩=>?_;subst hr;refine thn h6 λ_ s7 ⟨v,H7,I7,r7,y7,st7,fr7⟩=>?_;have I7':=I7.pinned (stat fr7) (T.obj _ _ st7);refine KI B I7' r7 λs8 I8=>?_;have e8:=he _ _ _ _ _ s8 _ H7 _ I8 (step v H7 y7);refine wpAny_mono e8 (λy s9 ⟨yv,H9,I9,r9,ys,hD9,hz,n9⟩=>?_) λ_ _ z=>False.elim z;have a9:=e_ (X:=fH X x fv scope cl s3.heap.objs.size s3 (upd H s2.heap.objs.size (.lst [])) fp) _ s9 _ H9 (.ref s2.heap.objs.size) [yv] (.ref s2.heap.objs.size) [y] (λ_ H10=>H10=upd H9 s2.heap.objs.size (.lst (ys++[yv]))) I9 rfl (.cons r9 .nil)
    ⟨_,ys,yv,rfl,rfl,hD9,hz,rfl⟩
   refine wpAny_mono a9 (λ_ s10 ⟨_,H10,I10,_,e10⟩=>?_) λ_ _ z=>False.elim z;subst e10;obtain⟨m',hm,w9⟩:=hN _ n9;refine⟨m',hm,i+1,_,some v,I10.unpinned,T.keep _ _ _ st7 λb hb o e=>(I10.pin (b,o) (cP _ (cP _ (ge hb e)))).1,λb hb=>?_,w9⟩;obtain⟨o,e,_⟩:=T.obj _ _ st7 b hb;exact (I10.pin (b,o) (cP _ (cP _ (ge hb e)))).2.1
 exact codeAny_compStart_list loop (T.self _ 0 _ _ _ st4 loop)
theorem Df {i:Nat}{y:Str}{py spos:Pos}(hc:X.calm=true) (B:BlkOkC X x fv scope cl) (hi:PI X (.Name x px) iter wi) (he:∀C s H fp,PE (fH X x fv scope cl C s H fp) elt te)
  (hN:X.N.Nodup) (hiy:X.N[i]?=some y) (hy:X.env.scope.names.lookup y=some .local)
  (hsw:swapsWith (.ListComp elt [⟨.Name x px,iter,[],0⟩] scope pos) (some (.Name y py)) spos.line X.env=pure true:=by rfl)
  (hs:∀v,foldedSetIterable iter X.env v=pure v:=by intro _;rfl):
  PS X (.Assign [.Name y py] (.ListComp elt [⟨.Name x px,iter,[],0⟩] scope pos) spos) (je (kK fv wi te) (fV i)):=by
 intro Tj s σ H D I h;rw[exec_Assign_Name_used _ _ _ _ hsw];refine wpAny_bind (wpAny_standAt (wpAny_bind ?_));show wpAny _ X.A (do let _ ←comprehension (.ListComp elt [⟨.Name x px,iter,[],0⟩] scope pos) scope X.env _ (newList []) false (eval iter X.env) (some (assign (.Name y py) X.env))) _ _ s;refine wpAny_bind (wpAny_mono (wpAny_comprehension_free (use:=some (assign (.Name y py) X.env)) (Q:=λ_ s'=>SP X Tj D .next s') rfl hs B.clos B.kind B.names
  (thn (hi Tj s σ H _ I h) λv s1 h1=>thn h1 λitv s2 h2=>?_)) (λ_ s' hq=>wpAny_pure (wpAny_pure hq)) λ_ _ e=>e)
 obtain⟨it,fp,tn,J,H2,e,I2,T,st2,f2,rd⟩:=h2;subst e;refine De (Q:=λx H1=>fV i x σ H1 D.nx) (RR:=λacc C=>compPost (model X.prog X.w) X.A X.xe (some (assign (.Name y py) X.env)) (λ_ s'=>SP X Tj D .next s') acc C) hc B he I2 T st2 f2 rd ?_;intro Dl C s' H' m' I' fC hn q;show wpAny _ X.A (assign (.Name y py) X.env (.ref Dl)) _ _ _;refine wpAny_assign_Name (kD I' hN hiy (.inl hy) (v:=.ref Dl) rfl (λs'' I'' hab=>?_) (.inr hy));obtain⟨a,sb,ha⟩:=hab;have hCa:C≠a:=by
  rcases ha with rfl|e
  ·exact fC.2.1
  ·exact Ne.symm (fC.2.2.2.2.1 _ _ e)
 exact⟨m',hn.sameBut sb hCa,λh' sb'=>⟨_,H',I''.turned (t':=s''.toks) (λb o hb e=>(sb'.2 b hb).trans e) fC.1 fC.2.1 fC.2.2.2.1 fC.2.2.2.2.1 fC.2.2.2.2.2,q⟩⟩
theorem Dg (hc:X.calm=true) (B:BlkOkC X x fv scope cl) (hi:PI X (.Name x px) iter wi) (he:∀C s H fp,PE (fH X x fv scope cl C s H fp) elt te)
  (hs:∀v,foldedSetIterable iter X.env v=pure v:=by intro _;rfl):PE X (.ListComp elt [⟨.Name x px,iter,[],0⟩] scope pos) (kK fv wi te):=by
 intro Tj s σ H Q I h;rw[eval_ListComp];refine wpAny_comprehension_free (use:=none) rfl hs B.clos B.kind B.names (thn (hi Tj s σ H _ I h) λv s1 h1=>thn h1 λitv s2 h2=>?_);obtain⟨it,fp,tn,J,H2,e,I2,T,st2,f2,rd⟩:=h2;subst e;refine De (RR:=λacc C=>compPost (model X.prog X.w) X.A X.xe none (EP X Tj σ Q) acc C) hc B he I2 T st2 f2 rd ?_;intro D C s' H' m' I' fC hn q;exact⟨m',hn,λh' sb=>⟨.ref D,H',I'.turned (t':=s'.toks) (λb o hb e=>(sb.2 b hb).trans e) fC.1 fC.2.1 fC.2.2.2.1 fC.2.2.2.2.1 fC.2.2.2.2.2,rfl,q⟩⟩
theorem qf (clos:closureFor scope X.env=pure cl) (sub:∀y c,cl.lookup y=some c->X.env.cells.lookup y=some c) (fvs:kL X x scope cl fv)
  (one:∀n,cellsFrom n scope.names cl=(x,n) :: cl:=by intro _;rfl) (push:∀h,pushCells h scope.names=h.push { cls:=.type "cell",data:=.cell none }:=by intro _;rfl)
  (kind:scope.kind=.function:=by rfl) (here:(relabel scope X.env).names.lookup x=some .cell:=by rfl) (nd:(x :: fv.map (·.2)).Nodup:=by decide +kernel)
  (names:∀y∈scope.names,y.2=.local->scope.names.lookup y.1=some .local:=by decide +kernel)
  (has:((relabel scope X.env).names.all λp=>(p.2 != .cell && p.2 != .free) || (((x,0) :: cl).lookup p.1).isSome)=true:=by rfl):BlkOkC X x fv scope cl:=
 ⟨clos,one,push,kind,names,here,sub,λy ne hy=>by
  obtain⟨c,h⟩:=vO has y hy;rcases iB h with ⟨e,_⟩|⟨_,h⟩
  ·exact absurd e ne
  ·exact⟨c,h⟩,nd,fvs⟩
end
theorem KJ {X:Cx}{K:W.Frag}{e:Expr}{ta:TE}{f:Str}{pos:Pos}(hK:X.K=K)(he:PE X e ta)(hb:attributeBase e f X.env (eval e X.env)=eval e X.env):PE X (.Attribute e f pos) (vw K ta f):=by subst hK;exact cH he hb
open PySem
theorem Dh {X:Cx}{elt iter:Expr}{x z:Str}{px pz tpos pos:Pos}{tk:Nat}{fv:List (Nat×Str)}{scope:Scope}{cl:List (Str×Addr)}{te:TE}{wi:TI}{i:Nat}{y:Str}{py spos:Pos}(hc:X.calm=true) (B:BlkOk2 X x z fv scope cl) (hi:PI X (.Tuple [.Name x px,.Name z pz] tk tpos) iter wi) (he:∀C s H fp,PE (f7 X x z fv scope cl C s H fp) elt te)
  (hN:X.N.Nodup) (hiy:X.N[i]?=some y) (hy:X.env.scope.names.lookup y=some .local)
  (hsw:swapsWith (.ListComp elt [⟨.Tuple [.Name x px,.Name z pz] tk tpos,iter,[],0⟩] scope pos) (some (.Name y py)) spos.line X.env=pure true:=by rfl)
  (hs:∀v,foldedSetIterable iter X.env v=pure v:=by intro _;rfl):
  PS X (.Assign [.Name y py] (.ListComp elt [⟨.Tuple [.Name x px,.Name z pz] tk tpos,iter,[],0⟩] scope pos) spos) (je (C0 X.K fv wi te) (fV i)):=by
 intro Tj s σ H D I h;rw[exec_Assign_Name_used _ _ _ _ hsw];refine wpAny_bind (wpAny_standAt (wpAny_bind ?_));show wpAny _ X.A (do let _ ←comprehension (.ListComp elt [⟨.Tuple [.Name x px,.Name z pz] tk tpos,iter,[],0⟩] scope pos) scope X.env _ (newList []) false (eval iter X.env) (some (assign (.Name y py) X.env))) _ _ s;refine wpAny_bind (wpAny_mono (wpAny_comprehension_free (use:=some (assign (.Name y py) X.env)) (Q:=λ_ s'=>SP X Tj D .next s') rfl hs B.clos B.kind B.names
  (thn (hi Tj s σ H _ I h) λv s1 h1=>thn h1 λitv s2 h2=>?_)) (λ_ s' hq=>wpAny_pure (wpAny_pure hq)) λ_ _ e=>e)
 obtain⟨it,fp,tn,J,H2,e,I2,T,st2,f2,rd⟩:=h2;subst e;refine Kk (Q:=λx H1=>fV i x σ H1 D.nx) (RR:=λacc C=>compPost (model X.prog X.w) X.A X.xe (some (assign (.Name y py) X.env)) (λ_ s'=>SP X Tj D .next s') acc C) hc B he I2 T st2 f2 rd ?_;intro Dl C s' H' m' I' fC hn q;show wpAny _ X.A (assign (.Name y py) X.env (.ref Dl)) _ _ _;refine wpAny_assign_Name (kD I' hN hiy (.inl hy) (v:=.ref Dl) rfl (λs'' I'' hab=>?_) (.inr hy));obtain⟨a,sb,ha⟩:=hab;have hCa:C≠a:=by
  rcases ha with rfl|e
  ·exact fC.2.1
  ·exact Ne.symm (fC.2.2.2.2.1 _ _ e)
 exact⟨m',hn.sameBut sb hCa,λh' sb'=>⟨_,H',I''.turned (t':=s''.toks) (λb o hb e=>(sb'.2 b hb).trans e) fC.1 fC.2.1 fC.2.2.2.1 fC.2.2.2.2.1 fC.2.2.2.2.2,q⟩⟩
def Di:V->List V->Hp->VK->Prop:=λx vs H Q=>∃a kvs k v,x=.ref a∧vs=[kV k,v]∧H a=some (.dK kvs)∧kvs.length<=900∧(∀u,dU kvs k=some u->Q u H)∧(dU kvs k=none->Q v (upd H a (.dK (gh kvs k v))))
theorem qg {x:V}{vs:List V}{H:Hp}{Q:VK}:Di x vs H Q=∃a kvs k v,x=.ref a∧vs=[kV k,v]∧H a=some (.dK kvs)∧kvs.length<=900∧(∀u,dU kvs k=some u->Q u H)∧(dU kvs k=none->Q v (upd H a (.dK (gh kvs k v)))):=rfl
theorem KL {X:Cx}:MtM X "dict.setdefault" Di:=by
 intro Tj s σ H x vs v us Q I rx rv h;obtain⟨a,kvs,k,y,rfl,rfl,e,l9,q1,q2⟩:=h
 cases rx
 cases rv with
 | cons r1 rr=>
  cases rr with
  | cons r2 rr=>
   cases rr
   rename_i u1 u2;obtain⟨z,hd,ws,rel,dd⟩:=JU I.hok e;refine call_meetsIn PySem.F.slot_dict_setdefault dd.typeIs PySem.F.entry_dict_setdefault (PySem.F.args_dict_setdefault_3 _ _ _) (kt_meets_setdefault (im X.prog X.w) a (JR r1) hd u2)
    ⟨ws,dd,by rw[←rel.length];exact z,λw' hw=>?_,λhn h' dd' hs=>?_⟩
   ·have hr:=rel.val k;rw[hw]at hr;obtain⟨v',hv,rv'⟩:∃v',dU kvs k=some v'∧RelV v' w':=by
     cases hv:dU kvs k with
     | none=>rw[hv]at hr;exact hr.elim
     | some v'=>rw[hv]at hr;exact⟨v',rfl,hr⟩
    exact⟨v',H,I.tok _,rv',q1 v' hv⟩
   ·have hn2:dU kvs k=none:=by
     have hr:=rel.val k;rw[hn]at hr
     cases hv:dU kvs k with
     | none=>rfl
     | some v'=>rw[hv]at hr;exact hr.elim
    have hl:(gh kvs k y).length<=sizeLine:=by
     have:=JQ kvs k y;exact bW (aX (by omega))
    have he:∃q,h'.get? a=some q:=let ⟨q,_,_,hq,_⟩:=dd';⟨q,hq⟩
    exact⟨y,_,JV I (by rw[e];exact True.intro) hs he (JW hl hd (rel.put k r2) dd'),r2,q2 hn2⟩
theorem qh {σ:St}{H:Hp}{Q:VK}:CU σ H Q=∀p,H p=none->Q (.ref p) (upd H p (.dK [])):=rfl
theorem qi {K:W.Frag}{ta tv:TE}{rd:V->V->Hp->VK->Prop}{f:Str}{D:Ends}{σ:St}{H:Hp}:B9 K ta tv rd f D σ H=ta σ H λx H1=>∃a C dx fs v,x=.ref a∧H1 a=some (.ins C dx fs)∧Cls K C∧NoAttr K C f∧fs.lookup f=some v∧
 tv σ H1 λy H2=>rd v y H2 λz H3=>∃dx' fs',H3 a=some (.ins C dx' fs')∧fs'.length<1000∧D.nx σ (upd H3 a (.ins C dx' (aG f z fs'))):=rfl
theorem qj {x y:V}{H:Hp}{Q:VK}:B_ x y H Q=∃i j,x=.int i∧y=.int j∧Q (.int (i+j)) H:=rfl
def KN (K:W.Frag)(t:TGs):TG:=λv σ H Q=>∃a x y,v=.ref a∧SqL K H a [x,y]∧t [x,y] σ H Q
theorem qk {K:W.Frag}{t:TGs}{v:V}{σ:St}{H:Hp}{Q:St->Hp->Prop}:KN K t v σ H Q=∃a x y,v=.ref a∧SqL K H a [x,y]∧t [x,y] σ H Q:=rfl
theorem Dj (ns:List Int)(nd:ns.Nodup):∀i,i<=ns.length->(firstMet (λi=>ns.getD i 0) i).length=i
 | 0,_=>rfl
 | i+1,hi=>by
  have ih:=Dj ns nd i (by omega);rw[firstMet_succ];have hn:(firstMet (λi=>ns.getD i 0) i).any (· == ns.getD i 0)=false:=by
   rw[firstMet_any];refine List.any_eq_false.mpr λx hx=>?_;obtain⟨j,hj,rfl⟩:=aT.mp hx;have hj':=dh.mp hj;intro z;have e:=beq_iff_eq.mp z;rw[av,av,ak (by omega),ak (by omega)]at e;exact jz.mp nd j i (by omega) (by omega) hj' e
  unfold step_dedup;rw[hn];show (_++[_]).length=_;rw[bU,ih];rfl
theorem KO:bootBuiltins "set" = some (.type "set"):=by decide +kernel
section
variable {X:Cx}
theorem KP (hc:X.calm=true):fD X (.type "set") (λxs H Q=>∃(p:Addr) (ns:List Int),xs=[.ref p]∧SqL X.K H p (ns.map V.int)∧ns.Nodup∧ns.length<4000∧∀a S,H a=none->Q (.ref a) (upd H a (.set S ns.length))):=by
 intro Tj s σ H xs us Q I r h;obtain⟨p,ns,rfl,hq,nd,hl,q⟩:=h;obtain⟨u,rfl,rx⟩:=gY r
 cases rx
 obtain⟨its,r',pl,hz⟩:=I.list hq;have li:its.length=ns.length:=by have:=r'.length;simp at this;omega
 have sz:its.toArray.size=ns.length:=by simpa using li
 refine call_set_list (ns:=ns) (I.ok.hd hc) pl.isList (by simpa using jS r') (by rw[sz];exact cE (Nat.succ_le_of_lt hl) (by decide)) λh' tk hS kp=>?_;rw[sz]at hS;have em:=Dj ns nd ns.length (am _);rw[em]at hS;exact⟨.ref s.heap.objs.size,_,I.laid (t':=tk) (λb u e=>kp b u (Heap.lt_size e) e) (am _) (show ObjOk X.prog X.w _ h' _ (.set _ ns.length) from hS),rfl,q _ _ (I.hok.fresh (am _))⟩
theorem KQ:fD X (.builtin "len") (λxs H Q=>∃p S n,xs=[.ref p]∧H p=some (.set S n)∧Q (.int (n:Nat)) H):=by
 intro Tj s σ H xs us Q I r h;obtain⟨p,S,n,rfl,e,q⟩:=h;obtain⟨u,rfl,rx⟩:=gY r
 cases rx
 obtain⟨o,es,ep,t,ho,hx,hd,_,_,hb,hf,hn⟩:=(show s.heap.SetOf (intKind X.prog X.w) p S n from I.hok p _ e)
 subst hn;refine call_len_set ho hx hd hf ?_ ⟨.int _,H,I.tok _,⟨_,rfl⟩,q⟩;have:(es.size:Int)<4096:=by
  have:es.size<4096:=hb;omega
 omega
end
section
variable {X:Cx}{Tj:List (Addr×Obj)}{σ:St}{H H':Hp}{s:Shared}{a:Addr}{o:Obj}{xs:List V}
theorem Inv.frzL (I:Inv X Tj σ H s)(e:H a=some (.lst xs)):∃o,Inv X Tj σ (upd H a (.frz o (.lst xs))) s:=by
 obtain⟨z,its,n,r,h1⟩:=(show ObjOk X.prog X.w H s.heap a (.lst xs) from I.hok a _ e)
 have nt:∀b ys,H b=some (.tup ys)->b≠a:=λb ys q=>iM q e (λz=>nomatch z);have no:∀b y,H b=some (.own y)->b≠a:=λb y q=>iM q e (λz=>nomatch z);obtain⟨o,ho⟩:∃o,s.heap.get? a=some o:=⟨_,h1⟩
 refine⟨o,?_⟩;have hok:HOk X.prog X.w (upd H a (.frz o (.lst xs))) s.heap:=λb u q=>by
  by_cases hb:b=a
  ·subst hb;rw[ag]at q;cases q;exact⟨ho,z,its,n,r,h1⟩
  ·rw[aj hb]at q;exact (I.hok b u q).stay (λ_ _ _ x=>x) (λc x=>by rw[aj (no _ _ x)];exact x) λc ys x=>by rw[aj (nt _ _ x)];exact x
 have un:Un X.fs [] H (upd H a (.frz o (.lst xs))) s.heap s.heap:=
  ⟨λb ob q _ _ _=>q,λb ob q _ _ _=>⟨ob.slots,q⟩,λb ob q n _=>by rw[aj (Ne.symm (dq e n))];exact n,λb ob q _=>⟨ob,q⟩,
   λb xs q=>by rw[aj (nt _ _ q)];exact q,λb ob u q=>by rw[aj (iM q e (λz=>nomatch z))];exact q,λb ps q=>⟨#[],by rw[aj (iM q e (λz=>nomatch z)),q];simp⟩⟩
 exact I.un (h':=s.heap) (t':=s.toks) un hok
theorem Inv.thawL (I:Inv X Tj σ H' s)(h:H' a=some (.frz o (.lst xs)))(n:∀o' u',X.H₀ a≠some (.frz o' u')):Inv X Tj σ (upd H' a (.lst xs)) s:=by
 have nn:∀b,H' b=none->b≠a:=λb q z=>by subst z;rw[h]at q;cases q
 have nt:∀b ys,H' b=some (.tup ys)->b≠a:=λb ys q=>iM q h (λz=>nomatch z);have no:∀b y,H' b=some (.own y)->b≠a:=λb y q=>iM q h (λz=>nomatch z);obtain⟨h1,z,its,k,r,h2⟩:=(show ObjOk X.prog X.w H' s.heap a (.frz o (.lst xs)) from I.hok a _ h)
 refine⟨I.ok,I.os,I.bare,⟨I.base.keep,I.base.slot,λb ob q m x=>?_,I.base.there,λb xs q=>?_,λb ob u q=>?_,λb ps q=>?_⟩,I.loc,I.cell,?_,λx c q=>?_,λp hp=>?_,λb u q=>?_,I.len⟩
 ·have w:=I.base.free b ob q m x;rw[aj (nn b w)];exact w
 ·have w:=I.base.tups b xs q;rw[aj (nt b xs w)];exact w
 ·have w:=I.base.frzs b ob u q;rw[aj (λz=>n ob u (by rw[←z];exact q))];exact w
 ·obtain⟨m,w⟩:=I.base.tbls b ps q;exact⟨m,by rw[aj (iM w h (λz=>nomatch z))];exact w⟩
 ·rw[aj (nn _ I.free)];exact I.free
 ·rw[aj (nn _ (I.freeC x c q))];exact I.freeC x c q
 ·obtain⟨p1,p2,p3⟩:=I.pin p hp;exact⟨p1,by rw[aj (nn _ p2)];exact p2,p3⟩
 ·by_cases hb:b=a
  ·subst hb;rw[ag]at q;cases q;exact⟨z,its,k,r,h2⟩
  ·rw[aj hb]at q;exact (I.hok b u q).stay (λ_ _ _ x=>x) (λc x=>by rw[aj (no _ _ x)];exact x) λc ys x=>by rw[aj (nt _ _ x)];exact x
theorem Inv.frzAll:∀(L:List (Addr×List V)){H:Hp},Inv X Tj σ H s->(L.map (·.1)).Nodup->(∀p∈L,H p.1=some (.lst p.2))->∃Hf,Inv X Tj σ Hf s∧(∀p∈L,∃o,Hf p.1=some (.frz o (.lst p.2)))∧∀b,b∉L.map (·.1)->Hf b=H b
 | [],H,I,_,_=>⟨H,I,λp hp=>by simp at hp,λ_ _=>rfl⟩
 |(a,xs) :: L,H,I,nd,hL=>by
  rw[c_,iI]at nd;obtain⟨Hf,If,h1,h2⟩:=Inv.frzAll L I nd.2 λp hp=>hL p (bM _ hp);have ea:Hf a=some (.lst xs):=by rw[h2 a nd.1];exact hL _ cD
  obtain⟨o,Io⟩:=If.frzL ea;refine⟨_,Io,λp hp=>?_,λb hb=>?_⟩
  ·rcases aO.mp hp with rfl|hp
   ·exact⟨o,ag⟩
   ·obtain⟨o',e⟩:=h1 p hp;have:p.1≠a:=λz=>nd.1 (by rw[←z];exact aT.mpr ⟨p,hp,rfl⟩);exact⟨o',by rw[aj this];exact e⟩
  ·rw[c_,aO,not_or]at hb;rw[aj hb.1];exact h2 b hb.2
theorem Inv.thawAll:∀(L:List (Addr×List V)){H:Hp},Inv X Tj σ H s->(L.map (·.1)).Nodup->(∀p∈L,∃o,H p.1=some (.frz o (.lst p.2)))->(∀p∈L,∀o' u',X.H₀ p.1≠some (.frz o' u'))->∃Hf,Inv X Tj σ Hf s∧(∀p∈L,Hf p.1=some (.lst p.2))∧∀b,b∉L.map (·.1)->Hf b=H b
 | [],H,I,_,_,_=>⟨H,I,λp hp=>by simp at hp,λ_ _=>rfl⟩
 |(a,xs) :: L,H,I,nd,hL,hn=>by
  rw[c_,iI]at nd;obtain⟨Hf,If,h1,h2⟩:=Inv.thawAll L I nd.2 (λp hp=>hL p (bM _ hp)) λp hp=>hn p (bM _ hp);obtain⟨o,eo⟩:=hL _ cD;have ea:Hf a=some (.frz o (.lst xs)):=by rw[h2 a nd.1];exact eo
  refine⟨_,If.thawL ea (hn _ cD),λp hp=>?_,λb hb=>?_⟩
  ·rcases aO.mp hp with rfl|hp
   ·exact ag
   ·have:p.1≠a:=λz=>nd.1 (by rw[←z];exact aT.mpr ⟨p,hp,rfl⟩);rw[aj this];exact h1 p hp
  ·rw[c_,aO,not_or]at hb;rw[aj hb.1];exact h2 b hb.2
end
def Dk (t:TE):TE:=λσ H Q=>∃L:List (Addr×List V),(L.map (·.1)).Nodup∧(∀p∈L,H p.1=some (.lst p.2))∧∀Hf:Hp,(∀p∈L,∃o,Hf p.1=some (.frz o (.lst p.2)))->(∀b,b∉L.map (·.1)->Hf b=H b)->
 t σ Hf λv H'=>(∀p∈L,H' p.1=Hf p.1)∧∀H'':Hp,(∀p∈L,H'' p.1=some (.lst p.2))->(∀b,b∉L.map (·.1)->H'' b=H' b)->Q v H''
theorem ql {t:TE}{σ:St}{H:Hp}{Q:VK}:Dk t σ H Q=∃L:List (Addr×List V),(L.map (·.1)).Nodup∧(∀p∈L,H p.1=some (.lst p.2))∧∀Hf:Hp,(∀p∈L,∃o,Hf p.1=some (.frz o (.lst p.2)))->(∀b,b∉L.map (·.1)->Hf b=H b)->
 t σ Hf λv H'=>(∀p∈L,H' p.1=Hf p.1)∧∀H'':Hp,(∀p∈L,H'' p.1=some (.lst p.2))->(∀b,b∉L.map (·.1)->H'' b=H' b)->Q v H'':=rfl
theorem Dm {X:Cx}{e:Expr}{t:TE}(h:PE X e t):PE X e (Dk t):=by
 intro Tj s σ H Q I r;obtain⟨L,nd,hL,k⟩:=r;obtain⟨Hf,If,f1,f2⟩:=Inv.frzAll L I nd hL;have hn:∀p∈L,∀o' u',X.H₀ p.1≠some (.frz o' u'):=λp hp o' u' q=>by
  have:=I.base.frzs p.1 o' u' q;rw[hL p hp]at this;cases this
 refine thn (h Tj s σ Hf _ If (k Hf f1 f2)) λu s' ⟨v,H',I',rv,hk,q⟩=>?_;obtain⟨H'',I'',g1,g2⟩:=Inv.thawAll L I' nd (λp hp=>by obtain⟨o,e⟩:=f1 p hp;exact⟨o,by rw[hk p hp];exact e⟩) hn;exact⟨v,H'',I'',rv,q H'' g1 g2⟩
end L2
namespace My
def aJ (xs:List Int):List Int:=(xs.reverse.dropWhile (· == 0)).reverse
theorem KR:aJ []=[]:=rfl
theorem wf (xs:List Int):aJ (xs++[0])=aJ xs:=by
 unfold aJ;rw[N7];rfl
theorem wg (xs:List Int){a:Int}(h:a≠0):aJ (xs++[a])=xs++[a]:=by
 unfold aJ;rw[N7];have:([a].reverse++xs.reverse).dropWhile (· == 0)=a :: xs.reverse:=by
  show (a :: xs.reverse).dropWhile (· == 0)=_;rw[List.dropWhile_cons];simp[h]
 rw[this];simp
def co (xs:List Int)(k:Nat):Int:=xs.getD k 0
theorem gG (k:Nat):co [] k=0:=rfl
theorem aw {xs:List Int}{k:Nat}(h:xs.length<=k):co xs k=0:=by
 unfold co;rw[av,rh h];rfl
theorem ax {xs:List Int}{k:Nat}(h:k<xs.length):co xs k=xs[k]:=by
 unfold co;rw[av,ak h];rfl
theorem jU (xs:List Int)(a:Int)(k:Nat):co (xs++[a]) k=if k=xs.length then a else co xs k:=by
 by_cases h:k<xs.length
 ·rw[if_neg (by omega)];unfold co;rw[av,av,b_ h]
 ·by_cases h2:k=xs.length
  ·subst h2;rw[if_pos rfl];unfold co;rw[av,di (am _)];simp
  ·rw[if_neg h2,aw (by simp;omega),aw (by omega)]
theorem kO {P:List Int->Prop}(h0:P [])(h1:∀xs a,P xs->P (xs++[a]))(xs:List Int):P xs:=by
 have:∀ys:List Int,P ys.reverse:=λys=>by
  induction ys with
  | nil=>exact h0
  | cons a r ih=>rw[List.reverse_cons];exact h1 _ _ ih
 have:=this xs.reverse
 rwa [List.reverse_reverse]at this
theorem cN (xs:List Int)(k:Nat):co (aJ xs) k=co xs k:=by
 refine kO (P:=λxs=>co (aJ xs) k=co xs k) rfl (λxs a ih=>?_) xs;by_cases h:a=0
 ·subst h;rw[wf,ih,jU];by_cases h2:k=xs.length
  ·rw[if_pos h2,aw (by omega)]
  ·rw[if_neg h2]
 ·rw[wg _ h]
def Nml (xs:List Int):Prop:=∀a ys,xs=ys++[a]->a≠0
theorem cI (xs:List Int):Nml (aJ xs):=by
 refine kO (P:=λxs=>Nml (aJ xs)) (λa ys h=>?_) (λxs a ih=>?_) xs
 ·rw[KR]at h;simp at h
 ·by_cases h:a=0
  ·subst h;rw[wf];exact ih
  ·rw[wg _ h];intro b ys e;have:=List.append_inj' e rfl;have e2:a=b:=by simpa using this.2
   rw[←e2];exact h
theorem KS {xs:List Int}(h:Nml xs):aJ xs=xs:=by
 rcases xJ xs with rfl|⟨ys,a,rfl⟩
 ·rfl
 ·rw[xK]at *;exact wg _ (h a ys rfl)
theorem g8 {xs:List Int}(h:Nml xs){n:Nat}(hz:∀k,n<=k->co xs k=0):xs.length<=n:=by
 rcases xJ xs with rfl|⟨ys,a,rfl⟩
 ·exact aI _
 ·rw[xK]at *;have ha:=h a ys rfl;by_cases hn:(ys++[a]).length<=n
  ·exact hn
  ·have:=hz ys.length (by simp at hn;omega);rw[jU,if_pos rfl]at this;exact absurd this ha
theorem wj {xs ys:List Int}(hl:xs.length=ys.length)(h:∀k,k<xs.length->co xs k=co ys k):xs=ys:=by
 refine i9 hl λk h1 h2=>?_;have:=h k h1;rw[ax h1,ax h2]at this;exact this
theorem gH {xs ys:List Int}(hx:Nml xs)(hy:Nml ys)(h:∀k,co xs k=co ys k):xs=ys:=by
 have l1:xs.length<=ys.length:=g8 hx λk hk=>by rw[h,aw hk]
 have l2:ys.length<=xs.length:=g8 hy λk hk=>by rw[←h,aw hk]
 exact wj (by omega) λk _=>h k
theorem Dn {xs ys:List Int}(h:∀k,co xs k=co ys k):aJ xs=aJ ys:=
 gH (cI _) (cI _) λk=>by rw[cN,cN,h]
theorem jV (xs:List Int):(aJ xs).length<=xs.length:=g8 (cI _) λk hk=>by rw[cN,aw hk]
theorem Do {xs:List Int}{n:Nat}(hn:n<=xs.length)(hz:∀k,n<=k->co xs k=0)(he:n=0∨co xs (n-1)≠0):aJ xs=xs.take n:=by
 have c:∀k,co (xs.take n) k=co xs k:=λk=>by
  by_cases hk:k<n
  ·unfold co;rw[av,av,Gn hk]
  ·rw[aw (by simp;omega),hz k (by omega)]
 have nm:Nml (xs.take n):=λa ys e=>by
  have hl:ys.length+1=n:=by
   have:=congrArg q9 e;rw[bT,bU,Gq]at this;omega
  rcases he with h0|h0
  ·omega
  ·have:=c (n-1);rw[e,jU,if_pos (by omega)]at this;rw[this];exact h0
 exact gH (cI _) nm λk=>by rw[cN,c]
end My
namespace My
def ay:Nat->(Nat->Int)->Int
 | 0,_=>0
 | n+1,f=>ay n f+f n
theorem cY {n:Nat}{f g:Nat->Int}(h:∀j,j<n->f j=g j):ay n f=ay n g:=by
 induction n with
 | zero=>rfl
 | succ n ih=>simp only[ay];rw[ih λj hj=>h j (by omega),h n (by omega)]
theorem fQ {n:Nat}{f:Nat->Int}(h:∀j,j<n->f j=0):ay n f=0:=by
 induction n with
 | zero=>rfl
 | succ n ih=>simp only[ay];rw[ih λj hj=>h j (by omega),h n (by omega)];rfl
def cz (xs:List Int)(k j:Nat):Int:=if j<=k then co xs (k-j) else 0
def cv (one Tk:List Int)(l k:Nat):Int:=ay l λj=>co one j*cz Tk k j
def dI (one Tk:List Int):List Int:=aJ ((a8 (one.length+Tk.length)).map λk=>cv one Tk one.length k)
theorem jW (n:Nat)(f:Nat->Int)(k:Nat):co ((a8 n).map f) k=if k<n then f k else 0:=by
 by_cases h:k<n
 ·rw[if_pos h,ax (by simpa using h)];simp
 ·rw[if_neg h,aw (by simp;omega)]
theorem wk (one Tk:List Int)(k:Nat)(h:one.length+Tk.length<=k+1):cv one Tk one.length k=0:=
 fQ λj hj=>by
  unfold cz;rw[if_pos (by omega),aw (xs:=Tk) (by omega),cT]
theorem KT (one Tk ans:List Int)(h:∀k,co ans k=if k+1<one.length+Tk.length then cv one Tk one.length k else 0):aJ ans=dI one Tk:=by
 refine Dn λk=>?_;rw[h,jW];by_cases h1:k+1<one.length+Tk.length
 ·rw[if_pos h1,if_pos (by omega)]
 ·rw[if_neg h1];by_cases h2:k<one.length+Tk.length
  ·rw[if_pos h2,wk _ _ _ (by omega)]
  ·rw[if_neg h2]
def gI (one Tk:List Int):List Int:=aJ ((a8 (max one.length Tk.length)).map λk=>co one k+co Tk k)
theorem KU (one Tk ans:List Int)(h:∀k,co ans k=co one k+co Tk k):aJ ans=gI one Tk:=by
 refine Dn λk=>?_;rw[h,jW];by_cases h1:k<max one.length Tk.length
 ·rw[if_pos h1]
 ·rw[if_neg h1,aw (by omega),aw (by omega)];rfl
theorem Dp (xs:List Int)(k:Nat):co (xs.map λx=>-x) k=- co xs k:=by
 by_cases h:k<xs.length
 ·rw[ax (by simpa using h),ax h];simp
 ·rw[aw (by simp;omega),aw (by omega)];rfl
theorem iU (xs:List Int)(i k:Nat)(v:Int)(h:i<xs.length):co (xs.set i v) k=if k=i then v else co xs k:=by
 by_cases hk:k<xs.length
 ·rw[ax (by simpa using hk),List.getElem_set,ax hk];by_cases e:k=i
  ·rw[if_pos e,if_pos e.symm]
  ·rw[if_neg e,if_neg (Ne.symm e)]
 ·rw[aw (by simp;omega),if_neg (by omega),aw (by omega)]
end My
namespace My
def val (n:Int):List Int->Int
 | []=>0
 | c :: r=>c+n*val n r
def hd (xs:List Int):Int:=xs.headD 0
theorem Dq:∀(xs:List Int) (M:Int),(∀n,M<n->val n xs=0)->∀x∈xs,x=0
 | [],_,_,_,h=>nomatch h
 | c :: r,M,h,x,hx=>by
  have hc:c=0:=by
   have h1:=h (max M 0+c.natAbs+1) (by omega);simp only[val]at h1;have hd:(max M 0+c.natAbs+1)∣c:=⟨-(val (max M 0+c.natAbs+1) r),by rw[rj];omega⟩
   by_cases hz:c=0
   ·exact hz
   ·have:=lY.mpr hd;have:=lZ (by omega) this;omega
  have hr:∀n,max M 0<n->val n r=0:=λn hn=>by
   have h1:=h n (by omega);simp only[val,hc,fq]at h1;rcases ki.mp h1 with z|z
   ·omega
   ·exact z
  rcases aO.mp hx with rfl|hx
  ·exact hc
  ·exact Dq r _ hr x hx
theorem Dr (n:Int):∀(xs ys:List Int),xs.length=ys.length->val n (i_ (· - ·) xs ys)=val n xs-val n ys
 | [],[],_=>rfl
 | x :: xs,y :: ys,h=>by
  have ih:=Dr n xs ys (by simpa using h);simp only[List.zipWith_cons_cons,val,ih,xL];omega
theorem Ds:∀(xs ys:List Int),xs.length=ys.length->(∀d∈i_ (· - ·) xs ys,d=0)->xs=ys
 | [],[],_,_=>rfl
 | x :: xs,y :: ys,h,hz=>by
  have h1:=hz (x-y) (by simp);have h2:=Ds xs ys (by simpa using h) λd hd=>hz d (by simp[hd]);rw[h2,show x=y by omega]
theorem KY {xs ys:List Int}(hl:xs.length=ys.length)(h:∀n,val n xs=val n ys):xs=ys:=
 Ds xs ys hl (Dq _ 0 λn _=>by rw[Dr n xs ys hl,h n];omega)
end My
namespace My
theorem en {xs:List Int}:Nml xs↔∀a,xs.getLast?=some a->a≠0:=by
 constructor
 ·intro h a e;rcases xJ xs with rfl|⟨ys,b,rfl⟩
  ·simp at e
  ·rw[xK]at *;rw[Gs]at e;rw[←Option.some.inj e];exact h b ys rfl
 ·intro h a ys e;exact h a (by rw[e,Gs])
end My
namespace My
def pm (f g:Nat->Int)(k:Nat):Int:=ay (k+1) λj=>f j*g (k-j)
theorem kP (n:Nat)(f g:Nat->Int):ay n (λj=>f j+g j)=ay n f+ay n g:=by
 induction n with
 | zero=>rfl
 | succ n ih=>simp only[ay];rw[ih];omega
theorem iV (n:Nat)(c:Int)(f:Nat->Int):ay n (λj=>c*f j)=c*ay n f:=by
 induction n with
 | zero=>simp[ay]
 | succ n ih=>simp only[ay];rw[ih,ja]
theorem qm {n i:Nat}{f:Nat->Int}(hi:i<n)(h:∀j,j<n->j≠i->f j=0):ay n f=f i:=by
 induction n with
 | zero=>omega
 | succ n ih=>
  simp only[ay];by_cases e:i=n
  ·subst e;rw[fQ λj hj=>h j (by omega) (by omega)];omega
  ·rw[ih (by omega) λj hj hne=>h j (by omega) hne,h n (by omega) (Ne.symm e)];omega
theorem kQ (f g h:Nat->Int)(k:Nat):pm f (λj=>g j-h j) k=pm f g k-pm f h k:=by
 unfold pm;have:(λj=>f j*(g (k-j)-h (k-j)))=λj=>f j*g (k-j)+(-1)*(f j*h (k-j)):=by
  funext j;rw[xL];omega
 rw[this,kP,iV];omega
theorem KZ (f g h:Nat->Int)(k:Nat):pm f (λj=>g j+h j) k=pm f g k+pm f h k:=by
 unfold pm;have:(λj=>f j*(g (k-j)+h (k-j)))=λj=>f j*g (k-j)+f j*h (k-j):=by
  funext j;rw[ja]
 rw[this,kP]
theorem kR (f g:Nat->Int)(c:Int)(k:Nat):pm f (λj=>c*g j) k=c*pm f g k:=by
 unfold pm;have:(λj=>f j*(c*g (k-j)))=λj=>c*(f j*g (k-j)):=by
  funext j;rw[←dm,cL (f j) c,dm]
 rw[this,iV]
theorem K0 (f g:Nat->Int)(c:Int)(k:Nat):pm (λj=>c*f j) g k=c*pm f g k:=by
 unfold pm;rw[←iV];exact cY λj _=>by rw[dm]
theorem wm {f g:Nat->Int}(h:∀j,g j=0)(k:Nat):pm f g k=0:=fQ λj _=>by rw[h];simp
theorem jo {g d:Nat->Int}{m t:Nat}(hg:∀j,m+1<=j->g j=0)(hd:∀j,t+1<=j->d j=0):pm g d (t+m)=g m*d t:=by
 unfold pm;rw[qm (i:=m) (by omega) λj hj hne=>?_]
 ·rw[show t+m-m=t by omega]
 ·by_cases h:j<m
  ·rw[hd (t+m-j) (by omega)];simp
  ·rw[hg j (by omega)];simp
theorem kS {g d:Nat->Int}{m:Nat}(hg:∀j,m+1<=j->g j=0)(h0:g m≠0)(t:Nat):∀n,(∀j,t+n<=j->d j=0)->(∀k,t+m<=k->pm g d k=0)->∀j,t<=j->d j=0
 | 0,hd,_,j,hj=>hd j (by omega)
 | n+1,hd,hz,j,hj=>by
  have top:=jo (t:=t+n) hg (λj hj=>hd j (by omega));rw[hz _ (by omega)]at top;have dn:d (t+n)=0:=by
   rcases ki.mp top.symm with z|z
   ·exact absurd z h0
   ·exact z
  exact kS hg h0 t n (λj hj=>by
   by_cases e:j=t+n
   ·rw[e];exact dn
   ·exact hd j (by omega)) hz j hj
def Div (one Tk q:List Int):Prop:=∀k,co one k=pm (co Tk) (co q) k
theorem cZ {xs:List Int}(h:Nml xs)(hne:xs≠[]):co xs (xs.length-1)≠0:=by
 rcases xJ xs with rfl|⟨ys,a,rfl⟩
 ·exact absurd rfl hne
 ·rw[xK]at *;rw[show (ys++[a]).length-1=ys.length by simp,jU,if_pos rfl];exact h a ys rfl
theorem gi {xs:List Int}(j:Nat)(h:xs.length-1+1<=j):co xs j=0:=aw (by omega)
theorem K1 {one Tk q r:List Int}(ho:Nml Tk)(hne:Tk≠[])(hq:Nml q)(hr:Nml r)(h1:Div one Tk q)(h2:Div one Tk r):q=r:=by
 refine gH hq hr λk=>?_;have z:=kS (g:=co Tk) (d:=λj=>co q j-co r j) (m:=Tk.length-1) (λj hj=>gi j hj) (cZ ho hne) 0 (q.length+r.length)
  (λj hj=>by show co q j-co r j=0;rw[aw (by omega),aw (by omega)];rfl) (λk _=>by rw[kQ,←h1 k,←h2 k];omega) k (by omega)
 have z':co q k-co r k=0:=z;omega
theorem K2 {one Tk q r l:List Int}(ho:Nml Tk)(hne:Tk≠[])(hl:l.length+1<=Tk.length)(h1:∀k,co one k=pm (co Tk) (co q) k+co l k)(h2:Div one Tk r):
  (∀k,co l k=0)∧∀k,co r k=co q k:=by
 have z:=kS (g:=co Tk) (d:=λj=>co r j-co q j) (m:=Tk.length-1) (λj hj=>gi j hj) (cZ ho hne) 0 (q.length+r.length)
  (λj hj=>by show co r j-co q j=0;rw[aw (by omega),aw (by omega)];rfl) (λk hk=>by
   rw[kQ,←h2 k,h1 k,aw (xs:=l) (by omega)];omega)
 have e:∀k,co r k=co q k:=λk=>by
  have z':co r k-co q k=0:=z k (by omega);omega
 refine⟨λk=>?_,e⟩;have h3:=h1 k;have h4:=h2 k;have:pm (co Tk) (co r) k=pm (co Tk) (co q) k:=by unfold pm;exact cY λj _=>by rw[e]
 omega
theorem wn {one Tk q:List Int}(ho:Nml Tk)(hne:Tk≠[])(h1:Nml one)(hq:Nml q)(h:Div one Tk q)(hone:one≠[]):q≠[]∧one.length+1=q.length+Tk.length:=by
 have qne:q≠[]:=by
  intro z;have:=cZ h1 hone;rw[h,z]at this;exact this (wm (λj=>rfl) _)
 have lq:0<q.length:=dO.mpr qne;have lo:0<Tk.length:=dO.mpr hne;have l1:0<one.length:=dO.mpr hone;refine⟨qne,?_⟩;have top:=jo (g:=co Tk) (d:=co q) (m:=Tk.length-1) (t:=q.length-1) (λj hj=>gi j hj) (λj hj=>gi j hj);rw[←h]at top;have tne:co one (q.length-1+(Tk.length-1))≠0:=by
  rw[top];intro z;rcases ki.mp z with z|z
  ·exact cZ ho hne z
  ·exact cZ hq qne z
 have lt:q.length-1+(Tk.length-1)<one.length:=by
  by_cases hlt:q.length-1+(Tk.length-1)<one.length
  ·exact hlt
  ·exact absurd (aw (by omega)) tne
 have big:one.length<=q.length-1+(Tk.length-1)+1:=g8 h1 λk hk=>by
  rw[h];refine fQ λj hj=>?_;by_cases hjm:j<Tk.length
  ·rw[aw (xs:=q) (by omega)];simp
  ·rw[aw (xs:=Tk) (by omega)];simp
 omega
structure DivAt (one Tk ans rest:List Int)(low:Nat):Prop where
 la:ans.length+Tk.length=one.length+1
 lr:rest.length=one.length
 eq:∀k,co one k=pm (co Tk) (co ans) k+co rest k
 hi:∀k,low+(Tk.length-1)<=k->co rest k=0
 lo:∀j,j<low->co ans j=0
theorem K3 {one Tk:List Int}{n:Nat}(hne:Tk≠[])(hn:n+Tk.length=one.length+1):DivAt one Tk (aC n 0) one n where
 la:=by rw[lN];exact hn
 lr:=rfl
 eq:=λk=>by
  rw[wm λj=>?_]
  ·omega
  ·unfold co;rw[av,iJ]
   split <;> rfl
 hi:=λk hk=>aw (by have:=dO.mpr hne;omega)
 lo:=λj _=>by
  unfold co;rw[av,iJ]
  split <;> rfl
theorem K4 {one Tk ans rest q:List Int}{low:Nat}(ho:Nml Tk)(hne:Tk≠[])(D:DivAt one Tk ans rest (low+1))(hq:Div one Tk q):
  co rest (low+(Tk.length-1))=co Tk (Tk.length-1)*(co q low-co ans low):=by
 have e:∀k,co rest k=pm (co Tk) (λj=>co q j-co ans j) k:=λk=>by
  have h1:=D.eq k;rw[kQ,←hq k];omega
 have z:=kS (g:=co Tk) (d:=λj=>co q j-co ans j) (m:=Tk.length-1) (λj hj=>gi j hj) (cZ ho hne) (low+1) (q.length+ans.length)
  (λj hj=>by show co q j-co ans j=0;rw[aw (by omega),aw (by omega)];rfl) (λk hk=>by rw[←e];exact D.hi k (by omega))
 rw[e];exact jo (λj hj=>gi j hj) z
theorem K5 {one Tk ans rest rest':List Int}{low:Nat}{f:Int}(hne:Tk≠[]) (D:DivAt one Tk ans rest (low+1)) (hlow:low<ans.length) (hf:f*co Tk (Tk.length-1)=co rest (low+(Tk.length-1)))
  (hr:rest'.length=rest.length) (h:∀k,co rest' k=co rest k-if low<=k then f*co Tk (k-low) else 0):DivAt one Tk (ans.set low f) rest' low where
 la:=by rw[i6];exact D.la
 lr:=by rw[hr];exact D.lr
 eq:=λk=>by
  have e1:pm (co Tk) (co (ans.set low f)) k=pm (co Tk) (co ans) k+(if low<=k then f*co Tk (k-low) else 0):=by
   have e2:(co (ans.set low f))=λj=>co ans j+if j=low then f else 0:=by
    funext j
    rw[iU _ _ _ _ hlow];by_cases e:j=low
    ·rw[if_pos e,if_pos e,e,D.lo low (by omega)];omega
    ·rw[if_neg e,if_neg e];omega
   rw[e2,KZ];congr 1;unfold pm;by_cases hk:low<=k
   ·rw[if_pos hk,qm (i:=k-low) (by omega) λj hj hne=>by show co Tk j*(if k-j=low then f else 0)=0;rw[if_neg (by omega)];simp];show co Tk (k-low)*(if k-(k-low)=low then f else 0)=_;rw[if_pos (by omega),cL]
   ·rw[if_neg hk];exact fQ λj hj=>by show co Tk j*(if k-j=low then f else 0)=0;rw[if_neg (by omega)];simp
  rw[e1,h,D.eq k];omega
 hi:=λk hk=>by
  rw[h];have lo:=dO.mpr hne;by_cases e:k=low+(Tk.length-1)
  ·rw[if_pos (by omega),e,←hf,show low+(Tk.length-1)-low=Tk.length-1 by omega];omega
  ·rw[D.hi k (by omega)];by_cases hl:low<=k
   ·rw[if_pos hl,aw (xs:=Tk) (by omega)];simp
   ·rw[if_neg hl];rfl
 lo:=λj hj=>by
  rw[iU _ _ _ _ hlow,if_neg (by omega)];exact D.lo j (by omega)
end My
namespace My
theorem Dt {one Tk ans rest:List Int}(D:DivAt one Tk ans rest 0)(hz:∀k,co rest k=0):Div one Tk ans:=λk=>by rw[D.eq k,hz k];omega
theorem K6 {one Tk ans rest:List Int}(ho:Nml Tk)(hne:Tk≠[])(D:DivAt one Tk ans rest 0)(q:List Int)(hq:Div one Tk q):∀k,co rest k=0:=by
 have hl:(rest.take (Tk.length-1)).length+1<=Tk.length:=by
  have:=dO.mpr hne;rw[bT];omega
 have ec:∀k,co (rest.take (Tk.length-1)) k=co rest k:=λk=>by
  by_cases hk:k<Tk.length-1
  ·unfold co;rw[av,av,Gn hk]
  ·rw[aw (by simp;omega),D.hi k (by omega)]
 have z:=(K2 (q:=ans) ho hne hl (λk=>by rw[ec];exact D.eq k) hq).1;exact λk=>by rw[←ec];exact z k
theorem K7 {one Tk ans rest q:List Int}{low:Nat}(ho:Nml Tk)(hne:Tk≠[])(D:DivAt one Tk ans rest (low+1))(hq:Div one Tk q):
  (co rest (low+(Tk.length-1))).fdiv (co Tk (Tk.length-1))*co Tk (Tk.length-1)=co rest (low+(Tk.length-1)):=by
 rw[K4 ho hne D hq,l6 _ (cZ ho hne),cL]
theorem K8 {one Tk ans:List Int}(hne:Tk≠[])(h1:Nml one)(hone:one≠[])(la:ans.length+Tk.length=one.length+1)(h:Div one Tk ans):Nml ans:=by
 have l1:=dO.mpr hone;have l2:=dO.mpr hne;intro a ys e;have la':ans.length=ys.length+1:=by rw[e];simp
 have top:=jo (g:=co Tk) (d:=co ans) (m:=Tk.length-1) (t:=ans.length-1) (λj hj=>gi j hj) (λj hj=>gi j hj);rw[←h,show ans.length-1+(Tk.length-1)=one.length-1 by omega]at top;have t0:=cZ h1 hone;rw[top]at t0;have ea:co ans (ans.length-1)=a:=by rw[show ans.length-1=ys.length by omega,e,jU,if_pos rfl]
 rw[ea]at t0;intro z;exact t0 (by rw[z];simp)
theorem b8:Nml []:=λa ys e=>by simp at e
theorem kT {xs:List Int}(h:Nml xs)(hz:∀k,co xs k=0):xs=[]:=gH h b8 λk=>by rw[hz];rfl
theorem K9 {Tk:List Int}:Div [] Tk []:=λk=>(wm (f:=co Tk) (g:=co []) (λ_=>rfl) k).symm
theorem qo {xs:List Int}:aJ xs=[]↔∀k,co xs k=0:=by
 constructor
 ·intro h k;rw[←cN,h];rfl
 ·intro h;exact kT (cI _) λk=>by rw[cN];exact h k
end My
namespace My
theorem g9 (c:Int)(f:List Int)(j:Nat):co (c :: f) j=if j=0 then c else co f (j-1):=by
 cases j with
 | zero=>rfl
 | succ j=>rw[if_neg (by omega)];rfl
end My
namespace My
def sh (g:Nat->Int)(j:Nat):Int:=if j=0 then 0 else g (j-1)
theorem jp (n:Nat)(f:Nat->Int):ay (n+1) f=f 0+ay n λj=>f (j+1):=by
 induction n with
 | zero=>simp[ay]
 | succ n ih=>
  rw[show ay (n+1+1) f=ay (n+1) f+f (n+1) from rfl,ih];simp only[ay];omega
theorem Du (f g:Nat->Int)(k:Nat):pm f (sh g) k=sh (pm f g) k:=by
 unfold sh;by_cases h:k=0
 ·subst h;rw[if_pos rfl];simp[pm,ay]
 ·rw[if_neg h];obtain⟨m,rfl⟩:∃m,k=m+1:=⟨k-1,by omega⟩
  unfold pm;rw[show ay (m+1+1) (λj=>f j*if m+1-j=0 then 0 else g (m+1-j-1))=ay (m+1) (λj=>f j*if m+1-j=0 then 0 else g (m+1-j-1))+f (m+1)*(if m+1-(m+1)=0 then 0 else g (m+1-(m+1)-1)) from rfl];rw[if_pos (by omega),cT,Gt,show m+1-1=m by omega];exact cY λj hj=>by rw[if_neg (by omega),show m+1-j-1=m-j by omega]
theorem K_ {f g h:Nat->Int}(e:∀j,g j=h j)(k:Nat):pm f g k=pm f h k:=cY λj _=>by rw[e]
theorem qp {f g:Nat->Int}{t e:Nat}(hf:∀j,t+1<=j->f j=0)(hg:∀j,e<=j->g j=0)(k:Nat)(hk:t+e<=k):pm f g k=0:=
 fQ λj hj=>by
  by_cases h:t+1<=j
  ·rw[hf j h,rl]
  ·rw[hg (k-j) (by omega),cT]
def ev (p:Int)(f:Nat->Int):Nat->Nat->Int
 | 0,_=>0
 | n+1,s=>f s+p*ev p f n (s+1)
theorem Dv (p a b:Int)(f g:Nat->Int):∀n s,ev p (λj=>a*f j-b*g j) n s=a*ev p f n s-b*ev p g n s
 | 0,_=>by simp[ev]
 | n+1,s=>by
  simp only[ev];rw[Dv p a b f g n (s+1),xL,ja,ja,←dm p a,←dm p b,cL p a,cL p b,dm,dm];omega
theorem qq (p:Int){K Z:Nat->Int}{e:Nat}(hK:∀j,e+1<=j->K j=0)(hZ:∀j,e<=j->Z j=0):
  ∃Z':Nat->Int,(∀j,e<=j->Z' j=0)∧∀j,p*Z' j-sh Z' j=ev p K (e+1) 0*Z j-ev p Z (e+1) 0*K j:=by
 let k0:=ev p K (e+1) 0
 let z0:=ev p Z (e+1) 0
 let F:Nat->Int:=λj=>k0*Z j-z0*K j
 let v:Nat->Int:=λj=>ev p F (e+1-j) j
 have hF:∀j,e+1<=j->F j=0:=λj hj=>by show k0*Z j-z0*K j=0;rw[hZ j (by omega),hK j hj];simp
 have hv:∀j,v j=F j+p*v (j+1):=λj=>by
  show ev p F (e+1-j) j=F j+p*ev p F (e+1-(j+1)) (j+1);by_cases h:j<=e
  ·rw[show e+1-j=(e-j)+1 by omega,show e+1-(j+1)=e-j by omega];rfl
  ·rw[show e+1-j=0 by omega,show e+1-(j+1)=0 by omega,hF j (by omega)];simp[ev]
 have h0:v 0=0:=by
  show ev p (λj=>k0*Z j-z0*K j) (e+1) 0=0;rw[Dv];show k0*z0-z0*k0=0;rw[cL];omega
 refine⟨λj=>- v (j+1),λj hj=>?_,λj=>?_⟩
 ·show-ev p F (e+1-(j+1)) (j+1)=0;rw[show e+1-(j+1)=0 by omega];rfl
 ·show p*(- v (j+1))-sh (λj=>- v (j+1)) j=F j;have a:=hv j;unfold sh;by_cases h:j=0
  ·subst h;rw[if_pos rfl];rw[h0]at a;rw[rj];omega
  ·rw[if_neg h];show p*(- v (j+1))-(- v (j-1+1))=F j;rw[show j-1+1=j by omega,rj];omega
theorem wo (f:Nat->Int):∀n,∃j,∀i,i<n->(f i).natAbs<=(f j).natAbs
 | 0=>⟨0,λi hi=>by omega⟩
 | n+1=>by
  obtain⟨j,hj⟩:=wo f n;by_cases h:(f j).natAbs<=(f n).natAbs
  ·exact⟨n,λi hi=>by
    by_cases e:i=n
    ·rw[e];exact am _
    ·exact aE (hj i (by omega)) h⟩
  ·exact⟨j,λi hi=>by
    by_cases e:i=n
    ·rw[e];omega
    ·exact hj i (by omega)⟩
section
variable {p:Int}{K L:Nat->Int}{e t M:Nat}(he:1<=e)(hK:∀j,e+1<=j->K j=0)(kt:K e≠0)(hL:∀j,t+1<=j->L j=0)(lt:L t≠0)(hM:∀j,(pm L K j).natAbs<=M)(hp:(ev p K (e+1) 0).natAbs+M+1<p.natAbs)
include he hK kt hL lt hM hp
theorem Dw {Z Z':Nat->Int}{n:Nat}(hZ:∀j,e<=j->Z j=0)(hZ':∀j,e<=j->Z' j=0)(hr:∀j,p*Z' j-sh Z' j=ev p K (e+1) 0*Z j-ev p Z (e+1) 0*K j)(hn:∀j,(pm L Z j).natAbs<=n):
  ∃b,(∀j,(pm L Z' j).natAbs<=b)∧(ev p Z (e+1) 0).natAbs<=b∧(p.natAbs-1-M)*b<=(ev p K (e+1) 0).natAbs*n:=by
 have r:∀j,p*pm L Z' j-sh (pm L Z') j=ev p K (e+1) 0*pm L Z j-ev p Z (e+1) 0*pm L K j:=λj=>by
  rw[←Du,←kR,←kR,←kR,←kQ,←kQ];exact K_ hr j
 obtain⟨j0,hj0⟩:=wo (pm L Z') (t+e);have hb:∀j,(pm L Z' j).natAbs<=(pm L Z' j0).natAbs:=λj=>by
  by_cases h:j<t+e
  ·exact hj0 j h
  ·rw[qp hL hZ' j (by omega)];exact aI _
 have top:pm L K (e+t)=L t*K e:=jo hL hK;have hz:(ev p Z (e+1) 0).natAbs<=(pm L Z' j0).natAbs:=by
  have a:=r (e+t);rw[qp hL hZ' (e+t) (by omega),qp hL hZ (e+t) (by omega),top]at a;unfold sh at a;rw[if_neg (by omega)]at a;have a':pm L Z' (e+t-1)=ev p Z (e+1) 0*(L t*K e):=by
   rw[cT,cT]at a;omega
  have b:=hb (e+t-1);rw[a',b4,b4]at b;have c:1<=(L t).natAbs*(K e).natAbs:=gS (iK.mpr lt) (iK.mpr kt);exact aE (ig _ c) b
 refine⟨_,hb,hz,?_⟩;have a:=r j0;generalize hB:(pm L Z' j0).natAbs=b at hb hz;have s1:(sh (pm L Z') j0).natAbs<=b:=by
  unfold sh;by_cases h:j0=0
  ·rw[if_pos h];exact aI _
  ·rw[if_neg h];exact hb _
 have e1:(p*pm L Z' j0).natAbs=p.natAbs*b:=by rw[b4,hB]
 have e2:(ev p K (e+1) 0*pm L Z j0).natAbs<=(ev p K (e+1) 0).natAbs*n:=by rw[b4];exact dC _ (hn j0)
 have e3:(ev p Z (e+1) 0*pm L K j0).natAbs<=b*M:=by rw[b4];exact d8 hz (hM j0)
 have e4:p.natAbs*b<=(ev p K (e+1) 0).natAbs*n+b*M+b:=by
  rw[←e1,←Int.sub_add_cancel (p*pm L Z' j0) (sh (pm L Z') j0),a];exact aE (i8 _ _) (l_ (aE (km _ _) (l_ e2 e3)) s1)
 have e5:(p.natAbs-1-M)*b=p.natAbs*b-b-b*M:=by rw[Nat.sub_mul,Nat.sub_mul,fR,gP M b]
 rw[e5];exact N8 (N8 e4)
theorem La (h0:ev p K (e+1) 0≠0):∀(n:Nat) (Z:Nat->Int),(∀j,e<=j->Z j=0)->(∀j,(pm L Z j).natAbs<=n)->∀j,Z j=0:=by
 intro n
 induction n using xM with
 | _ n ih=>
  intro Z hZ hn;by_cases hn0:n=0
  ·intro j;have z:=kS (g:=L) (d:=Z) (m:=t) hL lt 0 e (λj hj=>hZ j (by omega)) (λk _=>by have:=hn k;omega);exact z j (by omega)
  ·obtain⟨Z',hZ',hr⟩:=qq p hK hZ;obtain⟨b,hb,hz,hs⟩:=Dw he hK kt hL lt hM hp hZ hZ' hr hn;have lt1:b<n:=by
    refine ko λhle=>?_;have m1:((ev p K (e+1) 0).natAbs+1)*n<=(p.natAbs-1-M)*b:=d8 (by omega) hle;rw[Nat.succ_mul]at m1;omega
   have z':=ih b lt1 Z' hZ' hb;have r':∀j,ev p K (e+1) 0*Z j=ev p Z (e+1) 0*K j:=λj=>by
    have a:=hr j;rw[z' j]at a;have s0:sh Z' j=0:=by
     unfold sh;by_cases h:j=0
     ·rw[if_pos h]
     ·rw[if_neg h];exact z' _
    rw[s0,cT]at a;omega
   have zz:ev p Z (e+1) 0=0:=by
    have a:=r' e;rw[hZ e (am _),cT]at a;exact (ki.mp a.symm).resolve_right kt
   intro j;have a:=r' j;rw[zz,rl]at a;exact (ki.mp a).resolve_left h0
theorem Lb:False:=by
 have ev1:∀n,ev p (λj=>if j=0 then (1:Int) else 0) (n+1) 0=1:=λn=>by
  have z:∀n s,ev p (λj=>if j=0 then (1:Int) else 0) n (s+1)=0:=λn=>by
   induction n with
   | zero=>intro s;rfl
   | succ n ih=>intro s;simp only[ev];rw[ih (s+1)];simp
  simp only[ev];rw[z n 0];simp
 have hZ:∀j,e<=j->(λj=>if j=0 then (1:Int) else 0) j=0:=λj hj=>if_neg (by omega);obtain⟨j0,hj0⟩:=wo (pm L λj=>if j=0 then (1:Int) else 0) (t+e);have hn:∀j,(pm L (λj=>if j=0 then (1:Int) else 0) j).natAbs<=(pm L (λj=>if j=0 then (1:Int) else 0) j0).natAbs:=λj=>by
  by_cases h:j<t+e
  ·exact hj0 j h
  ·rw[qp hL hZ j (by omega)];exact aI _
 by_cases h0:ev p K (e+1) 0=0
 ·obtain⟨Z',hZ',hr⟩:=qq p hK hZ;obtain⟨b,hb,hz,hs⟩:=Dw he hK kt hL lt hM hp hZ hZ' hr hn;rw[h0]at hs;rw[ev1]at hz;have hz1:1<=b:=hz;have q:0<(p.natAbs-1-M)*b:=gS (by omega) hz1;rw[Int.natAbs_zero,Nat.zero_mul]at hs;omega
 ·have:=La he hK kt hL lt hM hp h0 _ _ hZ hn 0;simp at this
end
end My
namespace My
def Prm (q:Nat):Prop:=1<q∧∀m,m∣q->m=1∨m=q
theorem wt:∀n:Nat,1<n->∃q,q∣n∧Prm q:=by
 intro n
 induction n using xM with
 | _ n ih=>
  intro h;by_cases p:∀m,m∣n->m=1∨m=n
  ·exact⟨n,Nat.dvd_refl n,h,p⟩
  ·obtain⟨m,hm⟩:=Classical.not_forall.mp p;have hd:m∣n:=Classical.byContradiction λz=>hm λy=>absurd y z;have h1:¬(m=1∨m=n):=λz=>hm λ_=>z;have h0:m≠0:=λz=>by rw[z]at hd;have:=xN hd;omega
   have hle:=lZ (by omega) hd;obtain⟨q,hq,hp⟩:=ih m (by omega) (by omega);exact⟨q,Nat.dvd_trans hq hd,hp⟩
theorem Lc:Prm 2:=⟨by decide,λm hm=>by
 have h1:=lZ (by decide) hm;have h2:m≠0:=λz=>by
  rw[z]at hm;exact absurd (xN hm) (by decide)
 omega⟩
theorem Ld {q:Nat}(hq:Prm q){x y:Int}(h:(q:Int)∣x*y):(q:Int)∣x∨(q:Int)∣y:=by
 have h':q∣x.natAbs*y.natAbs:=by
  have:=lY.mpr h
  rwa [df,b4]at this
 rcases hq.2 (bh q x.natAbs) (md _ _) with z|z
 ·refine .inr ?_;have:q∣y.natAbs:=Nat.Coprime.dvd_of_dvd_mul_left z h';exact lY.mp (by rw[df];exact this)
 ·refine .inl ?_;have:q∣x.natAbs:=by have:=me q x.natAbs;rwa [z]at this
  exact lY.mp (by rw[df];exact this)
theorem Dx {q:Int}{f:Nat->Int}(h:¬∀j,q∣f j):∃i,¬q∣f i∧∀j,j<i->q∣f j:=by
 obtain⟨n,hn⟩:=Classical.not_forall.mp h
 induction n using xM with
 | _ n ih=>
  by_cases z:∀j,j<n->q∣f j
  ·exact⟨n,hn,z⟩
  ·obtain⟨j,hj⟩:=Classical.not_forall.mp z;have h1:j<n:=Classical.byContradiction λy=>hj λx=>absurd x y;exact ih j h1 λy=>hj λ_=>y
theorem Dy {q:Int}{f:Nat->Int}:∀n,(∀j,j<n->q∣f j)->q∣ay n f
 | 0,_=>mh q
 | n+1,h=>Gu (Dy n λj hj=>h j (by omega)) (h n (by omega))
theorem Dz {q:Int}{f:Nat->Int}{i:Nat}:∀n,i<n->(∀j,j<n->j≠i->q∣f j)->q∣ay n f->q∣f i
 | 0,h,_,_=>by omega
 | n+1,hi,h,hs=>by
  have e:ay (n+1) f=ay n f+f n:=rfl;rw[e]at hs;by_cases z:i=n
  ·subst z;exact (Int.dvd_add_right (Dy i λj hj=>h j (by omega) (by omega))).mp hs
  ·have fn:=h n (by omega) (by omega);exact Dz n (by omega) (λj hj hne=>h j (by omega) hne) ((Int.dvd_add_left fn).mp hs)
theorem qr {q:Nat}(hq:Prm q){f g:Nat->Int}(h:∀k,(q:Int)∣pm f g k):(∀j,(q:Int)∣f j)∨(∀j,(q:Int)∣g j):=by
 by_cases hf:∀j,(q:Int)∣f j
 ·exact .inl hf
 by_cases hg:∀j,(q:Int)∣g j
 ·exact .inr hg
 exfalso;obtain⟨a,ha,ha'⟩:=Dx hf;obtain⟨b,hb,hb'⟩:=Dx hg;have hs:=h (a+b);have:=Dz (i:=a) (a+b+1) (by omega) (λj hj hne=>by
  show (q:Int)∣f j*g (a+b-j);by_cases z:j<a
  ·exact fS (ha' j z) (jA _ _)
  ·exact fS (hb' (a+b-j) (by omega)) (rn _ _)) hs
 rw[show a+b-a=b by omega]at this;exact (Ld hq this).elim ha hb
def gJ (f:Nat->Int):Prop:=∀d:Nat,(∀j,(d:Int)∣f j)->d=1
theorem Le {f g:Nat->Int}(hf:gJ f)(hg:gJ g):gJ (pm f g):=λd hd=>by
 by_cases h1:d=1
 ·exact h1
 by_cases h0:d=0
 ·-- all numbers nought: then 2 divides them
  have z:∀k,((2:Nat):Int)∣pm f g k:=λk=>by
   have:=hd k;rw[h0]at this;have e:pm f g k=0:=xO.mp (by simpa using this);rw[e];exact mh _
  rcases qr (q:=2) Lc z with y|y
  ·exact absurd (hf 2 y) (by decide)
  ·exact absurd (hg 2 y) (by decide)
 ·obtain⟨q,hq,hp⟩:=wt d (by omega);have z:∀k,(q:Int)∣pm f g k:=λk=>fS (ii.mpr hq) (hd k);rcases qr hp z with y|y
  ·have:=hf q y;have:=hp.1;omega
  ·have:=hg q y;have:=hp.1;omega
theorem qt {f:Nat->Int}(hf:gJ f):∀(m:Nat),0<m->∀k:Nat->Int,(∀j,(m:Int)∣pm f k j)->∀j,(m:Int)∣k j:=by
 intro m
 induction m using xM with
 | _ m ih=>
  intro h0 k hk;by_cases h1:m=1
  ·intro j;rw[h1];exact Int.one_dvd _
  obtain⟨q,⟨r,hr⟩,hp⟩:=wt m (by omega);have q1:=hp.1;have r0:0<r:=kq λz=>by rw[z]at hr;omega
  have rm:r<m:=by
   rw[hr]
   calc r=1*r:=(fR r).symm
    _<q*r:=N9 q1 r0
  have mq:(m:Int)=(q:Int)*(r:Int):=by rw[hr];exact ga q r
  have d1:∀j,(q:Int)∣k j:=by
   rcases qr hp (f:=f) (g:=k) λj=>fS (by rw[mq];exact jA _ _) (hk j) with y|y
   ·have:=hf q y;omega
   ·exact y
  have e:∀j,k j=q*(k j / q):=λj=>(rp (d1 j)).symm;have d2:=ih r rm r0 (λj=>k j / q) λj=>by
   have a:=hk j;have b:pm f k j=q*pm f (λj=>k j / q) j:=by
    rw[←kR];refine cY λi _=>?_;show f i*k (j-i)=f i*(q*(k (j-i) / q));rw[←e]
   rw[b,mq]at a;exact N_ (by omega) a
  intro j;rw[e j,mq];exact Gv _ (d2 j)
end My
namespace My
def bK:List Int->List Int->List Int
 | [],ys=>ys
 | xs,[]=>xs
 | x :: xs,y :: ys=>(x+y) :: bK xs ys
theorem fI (n:Int):∀xs ys,val n (bK xs ys)=val n xs+val n ys
 | [],ys=>by simp[bK,val]
 | x :: xs,[]=>by simp[bK,val]
 | x :: xs,y :: ys=>by
  simp only[bK,val];rw[fI n xs ys,ja];omega
theorem bL (n c:Int):∀xs:List Int,val n (xs.map λx=>c*x)=c*val n xs
 | []=>by simp[val]
 | x :: xs=>by
  simp only[c_,val];rw[bL n c xs,ja,←dm n c,cL n c,dm]
def aY:List Int->List Int->List Int
 | [],_=>[]
 | c :: f,g=>bK (g.map λx=>c*x) (0 :: aY f g)
theorem dy (n:Int):∀f g,val n (aY f g)=val n f*val n g
 | [],g=>by simp[aY,val]
 | c :: f,g=>by
  simp only[aY];rw[fI,bL];simp only[val];rw[dy n f g,Gw,dm];omega
theorem fJ:∀(xs ys:List Int) (k:Nat),co (bK xs ys) k=co xs k+co ys k
 | [],ys,k=>by simp[bK,gG]
 | x :: xs,[],k=>by simp[bK,gG]
 | x :: xs,y :: ys,k=>by
  simp only[bK];rw[g9,g9,g9];by_cases h:k=0
  ·simp[h]
  ·rw[if_neg h,if_neg h,if_neg h,fJ xs ys]
theorem gj:∀(f g:List Int) (k:Nat),co (aY f g) k=pm (co f) (co g) k
 | [],g,k=>by
  rw[show aY [] g=[] from rfl,gG];exact (fQ λj _=>by rw[gG,rl]).symm
 | c :: f,g,k=>by
  simp only[aY];rw[fJ,g9];have e1:co (g.map λx=>c*x) k=c*co g k:=by
   by_cases h:k<g.length
   ·rw[ax (by simpa using h),ax h,b5]
   ·rw[aw (by simp;omega),aw (by omega),cT]
  rw[e1];unfold pm;rw[jp];have e2:co (c :: f) 0=c:=rfl;rw[e2,Gx];by_cases h:k=0
  ·subst h;rw[if_pos rfl];simp[ay]
  ·rw[if_neg h,gj f g (k-1)];obtain⟨m,rfl⟩:∃m,k=m+1:=⟨k-1,by omega⟩
   unfold pm;rw[show m+1-1=m by omega];congr 1;refine cY λj hj=>?_;rw[g9,if_neg (by omega),show j+1-1=j by omega,show m+1-(j+1)=m-j by omega]
theorem qu (n:Int)(xs:List Int):∀k,val n (xs++aC k 0)=val n xs:=by
 intro k
 induction xs with
 | nil=>
  induction k with
  | zero=>rfl
  | succ k ih=>rw[gO]at *;rw[gr];simp only[val];rw[ih];simp[val]
 | cons x xs ih=>simp only[jB,val];rw[ih]
theorem qx (xs:List Int)(k j:Nat):co (xs++aC k 0) j=co xs j:=by
 by_cases h:j<xs.length
 ·unfold co;rw[av,av,b_ h]
 ·rw[aw (xs:=xs) (by omega)];unfold co;rw[av,di (by omega),iJ]
  split <;> rfl
theorem f8 {xs ys:List Int}(h:∀n,val n xs=val n ys)(k:Nat):co xs k=co ys k:=by
 have e:xs++aC ys.length 0=ys++aC xs.length 0:=KY (by simp;omega) λn=>by rw[qu,qu,h]
 rw[←qx xs ys.length k,e,qx]
theorem f9 {xs ys:List Int}(h:∀k,co xs k=co ys k)(n:Int):val n xs=val n ys:=by
 have e:xs++aC ys.length 0=ys++aC xs.length 0:=wj (by simp;omega) λk _=>by rw[qx,qx,h]
 rw[←qu n xs ys.length,e,qu]
theorem g_ {one Tk q:List Int}:Div one Tk q↔∀n,val n one=val n Tk*val n q:=by
 constructor
 ·intro h n;rw[←dy];exact f9 (λk=>by rw[h k,gj]) n
 ·intro h k;rw[←gj];exact f8 (λn=>by rw[h n,dy]) k
theorem DA (p:Int)(xs:List Int):∀n s,ev p (co xs) n s=val p ((xs.drop s).take n)
 | 0,s=>by simp[ev,val]
 | n+1,s=>by
  simp only[ev];rw[DA p xs n (s+1)];by_cases h:s<xs.length
  ·rw[Gy h,Oa];simp only[val];rw[ax h]
  ·rw[aw (by omega),Oc (by omega),Oc (by omega)];simp[val]
theorem Lf {p:Int}{M:Nat}{f a b g x y qa qb U V:List Int}{c h m:Int}(hp:2*(M:Int)+29<=p)
  (fp:gJ (co f)) (fn:Nml f) (f0:f≠[]) (c1:1<=c) (fs:∀z∈f,2*(c*z).natAbs<=p.natAbs) (gp:gJ (co g)) (gn:Nml g)
  (ha:Div a g x) (hb:Div b g y) (hM:(a≠[]∧Nml a∧∀z∈a,z.natAbs<=M)∨(b≠[]∧Nml b∧∀z∈b,z.natAbs<=M))
  (fa:Div a f qa) (fb:Div b f qb) (m0:m≠0) (bz:∀n,val n U*val n a+val n V*val n b=m*val n g) (h1:1<=h) (fv:0<val p f) (hv:c*val p f=h*(val p g).natAbs):
  f=g∨f=g.map λz=>-1*z:=by
 have va:=g_.mp ha;have vb:=g_.mp hb;have wa:=g_.mp fa;have wb:=g_.mp fb
 let W:=bK (aY U qa) (aY V qb)
 have vW:∀n,val n f*val n W=m*val n g:=λn=>by
  show val n f*val n (bK (aY U qa) (aY V qb))=_;rw[fI,dy,dy,←bz n,wa n,wb n,ja,jb,jb (val n V)]
 have dW:∀j,((m.natAbs:Nat):Int)∣pm (co f) (co W) j:=λj=>by
  rw[←gj,f8 (ys:=g.map λz=>m*z) (λn=>by rw[dy,vW,bL]) j];have e1:co (g.map λz=>m*z) j=m*co g j:=by
   by_cases h:j<g.length
   ·rw[ax (by simpa using h),ax h,b5]
   ·rw[aw (by simp;omega),aw (by omega),cT]
  rw[e1];exact fS (rA.mpr (Gz m)) (jA _ _)
 have dk:=qt fp m.natAbs (iK.mpr m0) (co W) dW
 let k:=aJ (W.map λz=>z / m)
 have vk:∀n,val n g=val n f*val n k:=λn=>by
  have e:val n W=m*val n k:=by
   show _=m*val n (aJ (W.map λz=>z / m));rw[f9 (cN _) n,←bL];refine f9 (λj=>?_) n;rw[gu];by_cases h:j<W.length
   ·rw[ax (xs:=W) h,ax (xs:=W.map _) (by simpa using h),b5];have z:=dk j;rw[ax h]at z;exact (rp (rA.mp z)).symm
   ·rw[aw (xs:=W) (by omega),aw (xs:=W.map _) (by simp;omega)]
  have z:=vW n;rw[e,jb]at z;exact (rB m0 z).symm
 have kn:Nml k:=cI _;have c2:c=h*(val p k).natAbs:=by
  have z:=hv;rw[vk p,b4,ga,Int.natAbs_of_nonneg (xP fv),cL,jb]at z;exact rB (by omega) z
 have cp:2*c<=p:=by
  have l0:=cZ fn f0;have hl:f.length-1<f.length:=by have:=dO.mpr f0;omega
  rw[ax hl]at l0;have z:=fs _ (aW hl);rw[b4]at z;have z2:c.natAbs<=c.natAbs*f[f.length-1].natAbs:=ig _ (iK.mpr l0);omega
 have kc:((val p k).natAbs:Int)<=c:=by
  rw[c2];have:(0:Int)<=((val p k).natAbs:Int):=Int.natCast_nonneg _;have z:=xQ h1 this;rw[fu]at z;exact z
 have kl:∀(d w:List Int),d≠[]->Nml d->(∀z∈d,z.natAbs<=M)->(∀n,val n d=val n g*val n w)->k.length<=1:=λd w d0 dn dM vd=>by
  refine lU λh2=>?_
  let l:=aJ (aY f w)
  have vl:∀n,val n d=val n l*val n k:=λn=>by
   show _=val n (aJ (aY f w))*_;rw[f9 (cN _) n,dy,vd,vk,dm,cL (val n k),dm]
  have l0:l≠[]:=λz=>by
   have e:d=[]:=kT dn λj=>by
    have:=f8 (xs:=d) (ys:=[]) (λn=>by rw[vl n,z];simp[val]) j;rw[this];rfl
   exact d0 e
  have ll:=dO.mpr l0;have k0:k≠[]:=dO.mp (by omega);have dd:Div d l k:=g_.mpr vl;refine Lb (p:=p) (K:=co k) (L:=co l) (e:=k.length-1) (t:=l.length-1) (M:=M) (by omega) (λj hj=>aw (by omega)) (cZ kn k0) (λj hj=>aw (by omega)) (cZ (cI _) l0) (λj=>?_) ?_
  ·rw[←dd j];by_cases hj:j<d.length
   ·rw[ax hj];exact dM _ (aW hj)
   ·rw[aw (by omega)];exact aI _
  ·rw[DA,kr,d_ (by omega)];omega
 have k1:k.length<=1:=by
  rcases hM with ⟨d0,dn,dM⟩|⟨d0,dn,dM⟩
  ·exact kl a x d0 dn dM va
  ·exact kl b y d0 dn dM vb
 have cg:∀k0:Int,(∀n,val n g=val n f*k0)->∀j,co g j=k0*co f j:=λk0 hk j=>by
  have e1:co (f.map λz=>k0*z) j=k0*co f j:=by
   by_cases h:j<f.length
   ·rw[ax (xs:=f.map _) (by simpa using h),ax h,b5]
   ·rw[aw (xs:=f.map _) (by simp;omega),aw (by omega),cT]
  rw[←e1];exact f8 (λn=>by rw[hk n,bL,cL]) j
 have two:∀d:Int,(∀j,co g j=d*co f j)->d.natAbs=1:=λd hd=>gp d.natAbs λj=>by
  rw[hd j];exact fS (rA.mpr (Gz d)) (jA _ _)
 obtain⟨k0,hk⟩:∃k0:Int,∀n,val n g=val n f*k0:=by
  generalize k=kk at k1 vk
  match kk,k1 with
  | [],_=>exact⟨0,λn=>by rw[vk n];simp[val]⟩
  | [z],_=>exact⟨z,λn=>by rw[vk n];simp[val]⟩
  | _ :: _ :: _,h=>simp at h
 have cj:=cg k0 hk;have k01:=two k0 cj;have kk:k0=1∨k0=-1:=by omega
 rcases kk with rfl|rfl
 ·exact .inl (gH fn gn λj=>by rw[cj j];omega)
 ·refine .inr (gH fn (λz ys e=>?_) λj=>?_)
  ·have e':=congrArg (mj λz=>-1*z) e;rw[gu,aQ,List.map_singleton]at e';have e2:(λz:Int=>-1*z) ∘ (λz:Int=>-1*z)=id:=funext λz=>by simp
   rw[e2,List.map_id]at e';have:=gn _ _ e';omega
  ·have e1:co (g.map λz=>-1*z) j=-1*co g j:=by
    by_cases h:j<g.length
    ·rw[ax (xs:=g.map _) (by simpa using h),ax h,b5]
    ·rw[aw (xs:=g.map _) (by simp;omega),aw (by omega),cT]
   rw[e1,cj j];omega
end My
namespace My
theorem Lg {p:Int}(hp:0<p):∀(f g:List Int),(∀x∈f,2*x.natAbs<=p.natAbs)->(∀x∈g,2*x.natAbs<p.natAbs)->val p f=val p g->∀k,co f k=co g k:=by
 have key:∀(x y s t:Int),2*x.natAbs<=p.natAbs->2*y.natAbs<p.natAbs->x+p*s=y+p*t->x=y∧s=t:=λx y s t hx hy h=>by
  have e:p*(s-t)=y-x:=by rw[xL];omega
  have z:s-t=0:=by
   rcases Int.lt_trichotomy (s-t) 0 with u|u|u
   ·have:=jC (show s-t<=-1 by omega) (xP hp);rw[e,rj,xz]at this;omega
   ·exact u
   ·have:=jC (show 1<=s-t by omega) (xP hp);rw[e,xz]at this;omega
  rw[z,cT]at e;exact⟨by omega,by omega⟩
 have nil:∀g:List Int,(∀x∈g,2*x.natAbs<=p.natAbs)->val p g=0->∀k,co g k=0:=by
  intro g
  induction g with
  | nil=>intro _ _ k;rfl
  | cons y g ih=>
   intro hg h k;have h':y+p*val p g=0+p*0:=by
    have:val p (y :: g)=y+p*val p g:=rfl;rw[this]at h;rw[cT];omega
   obtain⟨e1,e2⟩:=key y 0 (val p g) 0 (hg y (by simp)) (by simp;omega) h';rw[g9];by_cases z:k=0
   ·rw[if_pos z];exact e1
   ·rw[if_neg z];exact ih (λx hx=>hg x (by simp[hx])) e2 (k-1)
 intro f
 induction f with
 | nil=>
  intro g _ hg h k;rw[nil g (λx hx=>bW (hg x hx)) h.symm k];rfl
 | cons x f ih=>
  intro g hf hg h k
  cases g with
  | nil=>rw[nil (x :: f) hf h k];rfl
  | cons y g=>
   obtain⟨e1,e2⟩:=key x y (val p f) (val p g) (hf x (by simp)) (hg y (by simp)) h;rw[g9,g9];by_cases z:k=0
   ·rw[if_pos z,if_pos z];exact e1
   ·rw[if_neg z,if_neg z];exact ih g (λw hw=>hf w (by simp[hw])) (λw hw=>hg w (by simp[hw])) e2 (k-1)
theorem qy {p:Int}(hp:1<=p):∀(f:List Int),f≠[]->(∀x∈f,2*x.natAbs<=p.natAbs)->0<co f (f.length-1)->p ^ (f.length-1)<=2 ^ (f.length-1)*val p f∧0<val p f:=by
 intro f
 induction f with
 | nil=>intro h;exact absurd rfl h
 | cons x f ih=>
  intro _ hf ht;by_cases z:f=[]
  ·subst z;have e:val p [x]=x:=by simp[val]
   have ht':0<x:=ht;rw[e];exact⟨by simp;omega,ht'⟩
  ·have hl:=dO.mpr z;have ht':0<co f (f.length-1):=by
    have:(x :: f).length-1=f.length:=by simp
    rw[this,g9,if_neg (by omega)]at ht;exact ht
   obtain⟨i1,i2⟩:=ih z (λw hw=>hf w (by simp[hw])) ht';have hx:=hf x (by simp);have e:val p (x :: f)=x+p*val p f:=rfl;have m1:p*1<=p*val p f:=jC (by omega) (by omega);have hv:p*val p f<=2*val p (x :: f):=by rw[e];omega
   refine⟨?_,by omega⟩;have l1:(x :: f).length-1=f.length-1+1:=by simp;omega
   rw[l1,jD,jD];have two:(0:Int)<=2 ^ (f.length-1):=Int.pow_nonneg (by decide)
   calc p ^ (f.length-1)*p<=2 ^ (f.length-1)*val p f*p:=xQ i1 (by omega)
    _=2 ^ (f.length-1)*(p*val p f):=by rw[dm,cL (val p f) p]
    _<=2 ^ (f.length-1)*(2*val p (x :: f)):=jC hv two
    _=2 ^ (f.length-1)*2*val p (x :: f):=by rw[dm]
end My
namespace My
def hx (x:Int)(g:Nat->Int):Nat->Int
 | 0=>g 0
 | d+1=>x*hx x g d+g (d+1)
def hs:List Int->Nat->Int
 | []=>λd=>if d=0 then 1 else 0
 | x :: xs=>hx x (hs xs)
theorem wu:∀xs:List Int,hs xs 0=1
 | []=>rfl
 | x :: xs=>wu xs
theorem wv (x y:Int)(g:Nat->Int):∀d,(x-y)*hx x (hx y g) d=x*hx x g d-y*hx y g d
 | 0=>by simp only[hx];rw[Int.sub_mul]
 | d+1=>by
  have ih:=wv x y g d;simp only[hx];generalize hx x (hx y g) d=A at ih ⊢;generalize hx x g d=a at ih ⊢;generalize hx y g d=b at ih ⊢;generalize g (d+1)=c;have e:(x-y)*(x*A+(y*b+c))=x*((x-y)*A)+(x-y)*(y*b+c):=by grind
  rw[e,ih];grind
theorem ww (x y:Int)(g:Nat->Int):∀d,hx x (hx y g) d=hx y (hx x g) d
 | 0=>rfl
 | d+1=>by
  have ih:=ww x y g d;have l:=wv x y g d;show x*hx x (hx y g) d+(y*hx y g d+g (d+1))=y*hx y (hx x g) d+(x*hx x g d+g (d+1))
  rw[←ih];generalize hx x (hx y g) d=A at l ⊢;grind
theorem kU {x:Int}{g h:Nat->Int}(e:∀d,g d=h d):∀d,hx x g d=hx x h d
 | 0=>e 0
 | d+1=>by simp only[hx];rw[kU e d,e]
theorem jq (y:Int):∀(xs:List Int) (d:Nat),hs (xs++[y]) d=hx y (hs xs) d
 | [],d=>rfl
 | x :: xs,d=>by
  show hx x (hs (xs++[y])) d=hx y (hx x (hs xs)) d;rw[kU (jq y xs) d,ww]
theorem Li (x:Int)(xs:List Int)(d:Nat):hs (x :: xs) d=hs (xs++[x]) d:=(jq x xs d).symm
theorem Lj (x y:Int)(xs:List Int)(d:Nat):(y-x)*hs (x :: (xs++[y])) d=hs (xs++[y]) (d+1)-hs (x :: xs) (d+1):=by
 have e1:hs (x :: (xs++[y])) d=hx x (hx y (hs xs)) d:=kU (jq y xs) d;have e2:hs (xs++[y]) (d+1)=y*hx y (hs xs) d+hs xs (d+1):=jq y xs (d+1);have e3:hs (x :: xs) (d+1)=x*hx x (hs xs) d+hs xs (d+1):=rfl;have l:=wv x y (hs xs) d;rw[e1,e2,e3];generalize hx x (hx y (hs xs)) d=A at l ⊢;grind
def dd (f xs:List Int):Int:=ay f.length λj=>co f (j+(xs.length-1))*hs xs j
theorem iC (n:Nat)(f:Nat->Int):ay (n+1) f=ay n f+f n:=by
 induction n generalizing f with
 | zero=>simp[ay]
 | succ n ih=>
  rw[jp (n+1),ih λj=>f (j+1),jp n];omega
theorem wx (f xs:List Int)(x y:Int):(y-x)*dd f (x :: (xs++[y]))=dd f (xs++[y])-dd f (x :: xs):=by
 unfold dd;have l1:(x :: (xs++[y])).length-1=xs.length+1:=by simp
 have l2:(xs++[y]).length-1=xs.length:=by simp
 have l3:(x :: xs).length-1=xs.length:=by simp
 rw[l1,l2,l3,←iV]
 cases hn:f.length with
 | zero=>simp[ay]
 | succ n=>
  have e:∀j,(y-x)*(co f (j+(xs.length+1))*hs (x :: (xs++[y])) j)=co f (j+1+xs.length)*hs (xs++[y]) (j+1)+(-1)*(co f (j+1+xs.length)*hs (x :: xs) (j+1)):=λj=>by
   have h:=Lj x y xs j;rw[show j+(xs.length+1)=j+1+xs.length by omega];generalize hs (x :: (xs++[y])) j=A at h ⊢;generalize co f (j+1+xs.length)=c;have:(y-x)*(c*A)=c*((y-x)*A):=by grind
   rw[this,h];grind
  have top:co f (n+(xs.length+1))=0:=aw (by omega);rw[iC,top,rl,cT,Gt,cY λj _=>e j,kP,iV,jp n λj=>co f (j+xs.length)*hs (xs++[y]) j,jp n λj=>co f (j+xs.length)*hs (x :: xs) j,wu,wu];omega
theorem Lk (f xs:List Int)(x:Int):dd f (x :: xs)=dd f (xs++[x]):=by
 unfold dd;rw[show (x :: xs).length=(xs++[x]).length by simp];exact cY λj _=>by rw[Li]
theorem DB {f xs:List Int}(h:f.length<xs.length):dd f xs=0:=by
 unfold dd;exact fQ λj _=>by rw[aw (by omega),rl]
theorem DC (x:Int):∀d,hs [x] d=x ^ d
 | 0=>by rw[Int.pow_zero];rfl
 | d+1=>by
  show x*hs [x] d+(if d+1=0 then 1 else 0)=x ^ (d+1);rw[DC x d,if_neg (by omega),jD,Gt,cL]
theorem DD (n:Int):∀f:List Int,val n f=ay f.length λj=>co f j*n ^ j
 | []=>rfl
 | a :: f=>by
  show val n (a :: f)=ay (f.length+1) λj=>co (a :: f) j*n ^ j;rw[jp];have e:∀j,co (a :: f) (j+1)*n ^ (j+1)=n*(co f j*n ^ j):=λj=>by
   rw[show co (a :: f) (j+1)=co f j from rfl,jD];grind
  rw[cY λj _=>e j,iV,←DD n f];show _=a*n ^ 0+n*val n f;simp[val]
theorem qz (f:List Int)(x:Int):dd f [x]=val x f:=by
 rw[DD];unfold dd;exact cY λj _=>by rw[DC];rfl
theorem Lm (f xs:List Int)(x n:Int):dd f (x :: (xs++[n]))=dd f ((xs++[x])++[n]):=by
 unfold dd;rw[show (x :: (xs++[n])).length=((xs++[x])++[n]).length by simp];refine cY λj _=>?_;congr 1;show hx x (hs (xs++[n])) j=_;rw[jq n (xs++[x]),kU (jq n xs),ww,kU (jq x xs)]
theorem DE (f xs:List Int)(x n:Int):dd f (xs++[n])=dd f (xs++[x])+(n-x)*dd f ((xs++[x])++[n]):=by
 have h:=wx f xs x n;rw[Lk f xs x,Lm]at h;omega
theorem Ln {f xs:List Int}{x y:Int}(h:y≠x):(dd f (xs++[y])-dd f (x :: xs)).fdiv (y-x)=dd f (x :: (xs++[y])):=by
 rw[←wx];exact l6 _ (by omega)
def run (ps:List Int)(a n:Nat):List Int:=(ps.drop a).take n
theorem DF {ps:List Int}{a:Nat}(h:a<ps.length)(n:Nat):run ps a (n+1)=ps[a] :: run ps (a+1) n:=by
 unfold run;rw[Gy h,Oa]
theorem wy {ps:List Int}{a n:Nat}(h:a+n<ps.length):run ps a (n+1)=run ps a n++[ps[a+n]]:=by
 unfold run;rw[cM,List.getElem?_drop,ak h];rfl
theorem DG {ps:List Int}{a g:Nat}(h:a+g+1<ps.length):run ps a (g+2)=ps[a] :: (run ps (a+1) g++[ps[a+g+1]])∧run ps (a+1) (g+1)=run ps (a+1) g++[ps[a+g+1]]∧run ps a (g+1)=ps[a] :: run ps (a+1) g:=by
 have e:run ps (a+1) (g+1)=run ps (a+1) g++[ps[a+g+1]]:=by
  rw[wy (by omega)];simp only[show a+1+g=a+g+1 by omega]
 exact⟨by rw[DF (by omega),e],e,DF (by omega) g⟩
theorem Lo (f:List Int){ps:List Int}{a g:Nat}(h:a+g+1<ps.length)(hne:ps[a+g+1]≠ps[a]):(dd f (run ps (a+1) (g+1))-dd f (run ps a (g+1))).fdiv (ps[a+g+1]-ps[a])=dd f (run ps a (g+2)):=by
 obtain⟨e1,e2,e3⟩:=DG h;rw[e1,e2,e3];exact Ln hne
theorem qA (f:List Int){ps:List Int}(hd:∀i j (hi:i<ps.length) (hj:j<ps.length),i≠j->ps[i]≠ps[j]){B:Nat}(hb:∀i (h:i<ps.length),(val ps[i] f).natAbs<=B):∀(n a:Nat),a+n<ps.length->(dd f (run ps a (n+1))).natAbs<=2 ^ n*B
 | 0,a,h=>by
  rw[wy h];show (dd f ([]++[ps[a+0]])).natAbs<=_;rw[gO,qz]
  simpa using hb a (by omega)
 | n+1,a,h=>by
  have i1:=qA f hd hb n a (by omega);have i2:=qA f hd hb n (a+1) (by omega);obtain⟨e1,e2,e3⟩:=DG (ps:=ps) (a:=a) (g:=n) (by omega);have g:=wx f (run ps (a+1) n) ps[a] ps[a+n+1];rw[←e1,←e2,←e3]at g;have ne:=hd (a+n+1) a (by omega) (by omega) (by omega);have hm:(dd f (run ps a (n+2))).natAbs<=((ps[a+n+1]-ps[a])*dd f (run ps a (n+2))).natAbs:=by
   rw[b4];exact gv _ (by omega)
  rw[g]at hm;have:2 ^ (n+1)*B=2 ^ n*B+2 ^ n*B:=by rw[i7];grind
  show (dd f (run ps a (n+2))).natAbs<=_;rw[this];exact aE hm (aE (km _ _) (l_ i2 i1))
def rnd (f ps:List Int)(g i:Nat):Int:=if i<g then dd f (run ps 0 (i+1)) else dd f (run ps (i-g) (g+1))
def mxR (f ps:List Int)(g c i:Nat):Int:=if c<=i then rnd f ps (g+1) i else rnd f ps g i
theorem Lp {f ps:List Int}{g i:Nat}(h:i<=g):rnd f ps (g+1) i=rnd f ps g i:=by
 unfold rnd;rw[if_pos (by omega)];by_cases z:i<g
 ·rw[if_pos z]
 ·rw[if_neg z,show i-g=0 by omega,show i=g by omega]
theorem Lq {f ps:List Int}{i:Nat}(h:i<ps.length):rnd f ps 0 i=val ps[i] f:=by
 unfold rnd;rw[if_neg (by omega),Gx,wy (show i+0<ps.length from h)];show dd f ([]++[ps[i]])=_;rw[gO,qz]
theorem Lr {f ps:List Int}{g i:Nat}(h:i<=g):rnd f ps g i=dd f (run ps 0 (i+1)):=by
 unfold rnd;by_cases z:i<g
 ·rw[if_pos z]
 ·rw[if_neg z,show i-g=0 by omega,show i=g by omega]
theorem Ls {f ps:List Int}{g i:Nat}(hg:g+1<=i)(hi:i<ps.length)(hne:ps[i]≠ps[i-(g+1)]):(rnd f ps g i-rnd f ps g (i-1)).fdiv (ps[i]-ps[i-(g+1)])=rnd f ps (g+1) i:=by
 obtain⟨a,rfl⟩:∃a,i=a+g+1:=⟨i-(g+1),by omega⟩
 have e0:a+g+1-(g+1)=a:=by omega
 have e1:a+g+1-g=a+1:=by omega
 have e2:a+g+1-1-g=a:=by omega
 unfold rnd;rw[if_neg (by omega),if_neg (by omega),if_neg (by omega),e1,e2];simp only[e0]at hne ⊢;exact Lo f hi hne
end My
namespace My
abbrev Rw:=Nat->Int
def io (c:Nat):List Rw->(List Rw->Int)->Int
 | [],_=>0
 | r :: w,F=>(-1) ^ w.length*r c*F w+io c w λu=>F (r :: u)
def dt:List Nat->List Rw->Int
 | [],[]=>1
 | [],_ :: _=>0
 | c :: cs,l=>io c l (dt cs)
theorem wz {c:Nat}:∀(w:List Rw){F G:List Rw->Int},(∀u,u.length+1=w.length->F u=G u)->io c w F=io c w G
 | [],_,_,_=>rfl
 | r :: w,F,G,h=>by
  rw[io,io,h w rfl,wz w (F:=λu=>F (r :: u)) (G:=λu=>G (r :: u)) λu hu=>h (r :: u) (by simp[hu])]
theorem DH {c:Nat}:∀(w:List Rw),io c w (λ_=>0)=0
 | []=>rfl
 | r :: w=>by rw[io,DH w];simp
theorem DI {c:Nat}(x:Int):∀(w:List Rw) (F G:List Rw->Int),io c w (λu=>x*F u+G u)=x*io c w F+io c w G
 | [],_,_=>by simp[io]
 | r :: w,F,G=>by
  rw[io,io,io,DI x w (λu=>F (r :: u)) (λu=>G (r :: u))];generalize io c w (λu=>F (r :: u))=p;generalize io c w (λu=>G (r :: u))=q;generalize ((-1:Int) ^ w.length)=e;grind
theorem DJ (a b:Nat):∀(w:List Rw) (F:List Rw->Int),io a w (λu=>io b u F)+io b w (λu=>io a u F)=0
 | [],_=>rfl
 | r :: w,F=>by
  have st:∀(a b:Nat),io a (r :: w) (λu=>io b u F)=(-1) ^ w.length*r a*io b w F+(-((-1) ^ w.length)*r b*io a w F+io a w λu=>io b u λv=>F (r :: v)):=λa b=>by
   rw[io];congr 1;rw[wz w (G:=λu=>-((-1) ^ w.length)*r b*F u+io b u λv=>F (r :: v)) λu hu=>?_]
   ·rw[DI]
   ·rw[io,←hu,jD];grind
  rw[st a b,st b a];have ih:=DJ a b w λu=>F (r :: u);generalize io a w (λu=>io b u λv=>F (r :: v))=p at ih ⊢;generalize io b w (λu=>io a u λv=>F (r :: v))=q at ih ⊢;grind
theorem DK (a b:Nat)(cs:List Nat)(l:List Rw):dt (a :: b :: cs) l=- dt (b :: a :: cs) l:=by
 have:=DJ a b l (dt cs);have e1:dt (a :: b :: cs) l=io a l (λu=>io b u (dt cs)):=rfl;have e2:dt (b :: a :: cs) l=io b l (λu=>io a u (dt cs)):=rfl;omega
theorem wA {j:Nat}:∀(cs:List Nat) (l:List Rw),j∈cs->dt (j :: cs) l=0
 | [],_,h=>by simp at h
 | c :: cs,l,h=>by
  by_cases z:j=c
  ·subst z;have:=DK j j cs l;omega
  ·have hm:j∈cs:=by
    rcases aO.mp h with h|h
    ·exact absurd h z
    ·exact h
   rw[DK];have e:dt (c :: j :: cs) l=io c l (λu=>dt (j :: cs) u):=rfl;rw[e,wz l (G:=λ_=>0) λu _=>wA cs u hm,DH];rfl
def dot:List Int->List Rw->Nat->Int
 | m :: ms,r :: rs,c=>m*r c+dot ms rs c
 | _,_,_=>0
theorem kW {ms:List Int}:∀{rs:List Rw}{m:Int}{r:Rw}{c:Nat},ms.length=rs.length->dot (ms++[m]) (rs++[r]) c=dot ms rs c+m*r c:=by
 induction ms with
 | nil=>intro rs m r c h;cases rs with
  | nil=>simp[dot]
  | cons=>simp at h
 | cons x ms ih=>intro rs m r c h;cases rs with
  | nil=>simp at h
  | cons y rs=>
   have:=ih (rs:=rs) (m:=m) (r:=r) (c:=c) (by simpa using h);simp only[jB,dot];omega
def coE:List Rw->(List Rw->Int)->List Int
 | [],_=>[]
 | r :: w,F=>(-1) ^ w.length*F w :: coE w λu=>F (r :: u)
theorem DL (c:Nat):∀(w:List Rw) (F:List Rw->Int),io c w F=dot (coE w F) w c
 | [],_=>rfl
 | r :: w,F=>by
  rw[io,coE,dot,DL c w];congr 1;grind
theorem DM:∀(w:List Rw) (r:Rw) (F:List Rw->Int),∃xs:List Int,xs.length=w.length∧coE (w++[r]) F=xs++[F w]
 | [],r,F=>⟨[],rfl,by simp[coE]⟩
 | x :: w,r,F=>by
  obtain⟨xs,h1,h2⟩:=DM w r λu=>F (x :: u);exact⟨(-1) ^ (w++[r]).length*F (w++[r]) :: xs,by simp[h1],by rw[jB,coE,h2];rfl⟩
theorem Lt (w:List Rw)(r:Rw)(F:List Rw->Int):∃xs:List Int,xs.length=w.length∧∀c,io c (w++[r]) F=dot xs w c+F w*r c:=by
 obtain⟨xs,h1,h2⟩:=DM w r F;exact⟨xs,h1,λc=>by rw[DL,h2,kW h1]⟩
theorem qB (a b:Int):∀(xs ys:List Int) (rs:List Rw),xs.length=rs.length->ys.length=rs.length->∃zs:List Int,zs.length=rs.length∧∀c,dot zs rs c=a*dot xs rs c+b*dot ys rs c
 | [],[],[],_,_=>⟨[],rfl,λc=>by simp[dot]⟩
 | x :: xs,y :: ys,r :: rs,h1,h2=>by
  obtain⟨zs,h3,h4⟩:=qB a b xs ys rs (by simpa using h1) (by simpa using h2);refine⟨(a*x+b*y) :: zs,by simp[h3],λc=>?_⟩;rw[dot,dot,dot,h4 c];grind
 | [],_ :: _,[],_,h=>by simp at h
 | _ :: _,_,[],h,_=>by simp at h
 | [],_,_ :: _,h,_=>by simp at h
 | _ :: _,[],_ :: _,_,h=>by simp at h
theorem Lu (rs:List Rw)(c:Nat):dot (aC rs.length 0) rs c=0:=by
 induction rs with
 | nil=>rfl
 | cons r rs ih=>rw[bX,gr,dot,ih];simp
section
variable (rs:List Rw)(cs:List Nat)
def cr (i:Nat):List Nat:=(cs.take i).reverse
def mi (i:Nat):Int:=dt (cr cs i) (rs.take i)
def bo (i:Nat)(x:Rw)(j:Nat):Int:=dt (j :: cr cs i) (rs.take i++[x])
variable {rs cs}
theorem Lv {i:Nat}(h:i<cs.length):cr cs (i+1)=cs[i] :: cr cs i:=by
 unfold cr;rw[cM,ak h];simp
theorem jr {i l:Nat}(x:Rw)(h:l<i)(hi:l<cs.length):bo rs cs i x cs[l]=0:=by
 refine wA _ _ ?_;unfold cr;rw[rC,List.mem_take_iff_getElem];exact⟨l,by omega,rfl⟩
theorem iD (i:Nat)(x:Rw):∃xs:List Int,xs.length=(rs.take i).length∧∀j,bo rs cs i x j=dot xs (rs.take i) j+mi rs cs i*x j:=by
 obtain⟨xs,h1,h2⟩:=Lt (rs.take i) x (dt (cr cs i));exact⟨xs,h1,h2⟩
theorem jX {i:Nat}(hr:i<rs.length)(hc:i<cs.length):mi rs cs (i+1)=bo rs cs i rs[i] cs[i]:=by
 unfold mi bo;rw[Lv hc,cM,ak hr];rfl
theorem wB:mi rs cs 0=1:=rfl
theorem wC:∀(k:Nat),k<=rs.length->k<=cs.length->(∀i,i<=k->mi rs cs i≠0)->∀(ms:List Int),ms.length=(rs.take k).length->(∀l (h:l<cs.length),l<k->dot ms (rs.take k) cs[l]=0)->∀j,dot ms (rs.take k) j=0
 | 0,_,_,_,ms,hl,_,j=>by
  have:ms=[]:=bE (by simpa using hl);subst this;simp[dot]
 | k+1,hr,hc,hm,ms,hl,hz,j=>by
  have et:rs.take (k+1)=rs.take k++[rs[k]]:=by rw[cM,ak (by omega)];rfl
  have lt:(rs.take k).length=k:=by rw[bT];omega
  rw[et,bU,lt]at hl;obtain⟨m0,m,rfl⟩:∃m0 m,ms=m0++[m]:=by
   cases e:ms.getLast? with
   | none=>rw[rD]at e;subst e;simp at hl
   | some a=>exact⟨_,a,(mn.mp e).choose_spec⟩
  have l0:m0.length=(rs.take k).length:=by rw[lt];simpa using hl
  have sp:∀j,dot (m0++[m]) (rs.take (k+1)) j=dot m0 (rs.take k) j+m*rs[k] j:=λj=>by rw[et,kW l0]
  obtain⟨xs,h1,h2⟩:=iD (rs:=rs) (cs:=cs) k rs[k];obtain⟨zs,z1,z2⟩:=qB (mi rs cs k) (-m) m0 xs (rs.take k) l0 h1;have key:∀j,dot zs (rs.take k) j=mi rs cs k*dot (m0++[m]) (rs.take (k+1)) j-m*bo rs cs k rs[k] j:=λj=>by
   rw[z2 j,sp j,h2 j];grind
  have ih:=wC k (by omega) (by omega) (λi hi=>hm i (by omega)) zs z1 λl h hlk=>by
   rw[key,hz l h (by omega),jr _ hlk];simp
  have e1:=key cs[k];rw[ih,hz k (by omega) (by omega),←jX (by omega) (by omega)]at e1;have m00:m=0:=by
   have h0:=hm (k+1) (am _);have:m*mi rs cs (k+1)=0:=by omega
   rcases ki.mp this with h|h
   ·exact h
   ·exact absurd h h0
  have e2:=key j;rw[ih,m00]at e2;have h0:=hm k (by omega);have:mi rs cs k*dot (m0++[0]) (rs.take (k+1)) j=0:=by omega
  rw[m00];rcases ki.mp this with h|h
  ·exact absurd h h0
  ·exact h
theorem Lw {i:Nat}(hr:i<rs.length)(hc:i<cs.length)(hm:∀l,l<=i+1->mi rs cs l≠0)(x:Rw)(j:Nat):mi rs cs i*bo rs cs (i+1) x j=mi rs cs (i+1)*bo rs cs i x j-bo rs cs i x cs[i]*bo rs cs i rs[i] j:=by
 have et:rs.take (i+1)=rs.take i++[rs[i]]:=by rw[cM,ak hr];rfl
 obtain⟨as,a1,a2⟩:=iD (rs:=rs) (cs:=cs) (i+1) x;obtain⟨bs,b1,b2⟩:=iD (rs:=rs) (cs:=cs) i x;obtain⟨ds,d1,d2⟩:=iD (rs:=rs) (cs:=cs) i rs[i];have b1':(bs++[0]).length=(rs.take (i+1)).length:=by rw[et,bU,bU,b1];rfl
 have d1':(ds++[mi rs cs i]).length=(rs.take (i+1)).length:=by rw[et,bU,bU,d1];rfl
 obtain⟨zs,z1,z2⟩:=qB (mi rs cs i) (- mi rs cs (i+1)) as (bs++[0]) (rs.take (i+1)) a1 b1';obtain⟨ys,y1,y2⟩:=qB 1 (bo rs cs i x cs[i]) zs (ds++[mi rs cs i]) (rs.take (i+1)) z1 d1';have key:∀j,dot ys (rs.take (i+1)) j=mi rs cs i*bo rs cs (i+1) x j-mi rs cs (i+1)*bo rs cs i x j+bo rs cs i x cs[i]*bo rs cs i rs[i] j:=λj=>by
  rw[y2 j,z2 j,a2 j,b2 j,d2 j,et,kW b1,kW d1];grind
 have:=wC (i+1) hr hc hm ys y1 (λl h hl=>by
  rw[key];by_cases z:l=i
  ·subst z;rw[jr x (lM _) h,←jX hr hc];grind
  ·rw[jr x (by omega) h,jr x (show l<i by omega) h,jr rs[i] (show l<i by omega) h];simp) j
 rw[key]at this;omega
end
end My
namespace My
theorem DN {B Fb:Nat}{c:Nat}:∀(w:List Rw) (F:List Rw->Int),(∀u,u.length+1=w.length->(∀r∈u,r∈w)->(F u).natAbs<=Fb)->(∀r∈w,(r c).natAbs<=B)->(io c w F).natAbs<=w.length*(B*Fb)
 | [],_,_,_=>by simp[io]
 | r :: w,F,h,hb=>by
  have ih:=DN (B:=B) (Fb:=Fb) (c:=c) w (λu=>F (r :: u)) (λu hu hm=>h (r :: u) (by simp[hu]) λx hx=>by
   rcases aO.mp hx with z|z
   ·rw[z];exact cD
   ·exact bM _ (hm x z)) λx hx=>hb x (bM _ hx)
  have h1:=h w rfl λx hx=>bM _ hx;have h2:=hb r cD;rw[io,bX,iL,fR];have h3:((-1:Int) ^ w.length*r c*F w).natAbs<=B*Fb:=by
   rw[b4,b4,GA];simp;exact d8 h2 h1
  have:=i8 ((-1:Int) ^ w.length*r c*F w) (io c w λu=>F (r :: u));omega
theorem wD {B N:Nat}(hB:1<=N*B):∀(cs:List Nat) (l:List Rw),l.length<=N->(∀r∈l,∀c,(r c).natAbs<=B)->(dt cs l).natAbs<=(N*B) ^ cs.length
 | [],[],_,_=>by simp[dt]
 | [],_ :: _,_,_=>by simp[dt]
 | c :: cs,l,hl,hb=>by
  have h:=DN (B:=B) (Fb:=(N*B) ^ cs.length) (c:=c) l (dt cs) (λu hu hm=>wD hB cs u (by omega) λr hr=>hb r (hm r hr)) λr hr=>hb r hr c;rw[dt,bX,i7];refine aE h ?_;rw[gP ((N*B) ^ cs.length) (N*B),ij];exact dE _ hl
theorem DO {us ws:List Int}{j:Nat}:∀{R1 R2:List Rw},us.length=R1.length->dot (us++ws) (R1++R2) j=dot us R1 j+dot ws R2 j:=by
 induction us with
 | nil=>intro R1 R2 h;cases R1 with
  | nil=>simp[dot]
  | cons=>simp at h
 | cons x us ih=>intro R1 R2 h;cases R1 with
  | nil=>simp at h
  | cons y R1=>
   have:=ih (R1:=R1) (R2:=R2) (by simpa using h);simp only[jB,dot];omega
theorem DP {rs:List Rw}{e N:Nat}(hz:∀r∈rs,∀J,e+N<=J->r J=0)(ind:∀ms:List Int,ms.length=rs.length->(∀J,e<=J->dot ms rs J=0)->∀m∈ms,m=0):∀i,i<=rs.length->∃cs:List Nat,cs.length=i∧cs.Nodup∧(∀c∈cs,e<=c∧c<e+N)∧∀l,l<=i->mi rs cs l≠0
 | 0,_=>⟨[],rfl,mo,by simp,λl hl=>by rw[show l=0 by omega,wB];decide⟩
 | i+1,hi=>by
  obtain⟨cs,h1,h2,h3,h4⟩:=DP hz ind i (by omega);obtain⟨xs,x1,x2⟩:=iD (rs:=rs) (cs:=cs) i rs[i];have et:rs=(rs.take i++[rs[i]])++rs.drop (i+1):=by
   conv=>lhs;rw[←Od (i+1) rs]
   rw[cM,ak (by omega)];rfl
  have key:∀J,dot ((xs++[mi rs cs i])++aC (rs.drop (i+1)).length 0) rs J=bo rs cs i rs[i] J:=λJ=>by
   have e1:dot ((xs++[mi rs cs i])++aC (rs.drop (i+1)).length 0) ((rs.take i++[rs[i]])++rs.drop (i+1)) J=bo rs cs i rs[i] J:=by
    rw[DO (by rw[bU,bU,x1];rfl),kW x1,Lu,x2 J];omega
   rw[←et]at e1;exact e1
  by_cases hb:∃J,e<=J∧bo rs cs i rs[i] J≠0
  ·obtain⟨J,J1,J2⟩:=hb;have Jn:J∉cs:=λhm=>by
    obtain⟨l,hl,rfl⟩:=cU.mp hm;exact J2 (jr _ (by omega) hl)
   have Jl:J<e+N:=by
    refine ko λh=>J2 ?_;rw[←key J];have:∀(ms:List Int) (R:List Rw),(∀r∈R,r J=0)->dot ms R J=0:=λms=>by
     induction ms with
     | nil=>intro R _;cases R <;> rfl
     | cons m ms ih=>intro R hR;cases R with
      | nil=>rfl
      | cons r R=>rw[dot,hR r cD,ih R λx hx=>hR x (bM _ hx)];simp
    exact this _ _ λr hr=>hz r hr J h
   have cre:∀l,l<=i->cr (cs++[J]) l=cr cs l:=λl hl=>by unfold cr;rw[List.take_append_of_le_length (by omega)]
   have same:∀l,l<=i->mi rs (cs++[J]) l=mi rs cs l:=λl hl=>by unfold mi;rw[cre l hl]
   refine⟨cs++[J],by simp[h1],?_,λc hc=>?_,λl hl=>?_⟩
   ·rw[ku];exact⟨h2,by simp,λa ha b hb=>by rw[aP.mp hb];intro z;rw[z]at ha;exact Jn ha⟩
   ·rcases aK.mp hc with h|h
    ·exact h3 c h
    ·rw[aP.mp h];exact⟨J1,Jl⟩
   ·by_cases z:l<=i
    ·rw[same l z];exact h4 l z
    ·have:l=i+1:=by omega
     subst this;rw[jX (by omega) (by simp;omega)];have e1:(cs++[J])[i]'(by simp;omega)=J:=by simp[h1]
     have e2:bo rs (cs++[J]) i rs[i] J=bo rs cs i rs[i] J:=by unfold bo;rw[cre i (am _)]
     rw[e1,e2];exact J2
  ·have:=ind ((xs++[mi rs cs i])++aC (rs.drop (i+1)).length 0) (by
    have:=congrArg q9 et;rw[bU,bU]at this;rw[bU,bU,lN,x1];exact this.symm) (λJ hJ=>by
    rw[key J];by_cases z:bo rs cs i rs[i] J=0
    ·exact z
    ·exact absurd ⟨J,hJ,z⟩ hb) (mi rs cs i) (by simp)
   exact absurd this (h4 i (am _))
end My
namespace My
def prb (β:Rw->Nat):List Rw->Nat
 | []=>1
 | r :: w=>β r*prb β w
theorem DQ {β:Rw->Nat}{c:Nat}:∀(w:List Rw) (C:Nat) (F:List Rw->Int),(∀u,u.length+1=w.length->(∀r∈u,r∈w)->(F u).natAbs<=C*prb β u)->(∀r∈w,(r c).natAbs<=β r)->(io c w F).natAbs<=w.length*(C*prb β w)
 | [],_,_,_,_=>by simp[io]
 | r :: w,C,F,h,hb=>by
  have ih:=DQ (β:=β) (c:=c) w (C * β r) (λu=>F (r :: u)) (λu hu hm=>by
   have:=h (r :: u) (by simp[hu]) λx hx=>by
    rcases aO.mp hx with z|z
    ·rw[z];exact cD
    ·exact bM _ (hm x z)
   rw[prb,←ij]at this;exact this) λx hx=>hb x (bM _ hx)
  have h1:=h w rfl λx hx=>bM _ hx;have h2:=hb r cD;rw[io,bX,iL,fR,prb];have h3:((-1:Int) ^ w.length*r c*F w).natAbs<=β r*(C*prb β w):=by
   rw[b4,b4,GA];simp;exact d8 h2 h1
  have e1:β r*(C*prb β w)=C*(β r*prb β w):=Nat.mul_left_comm _ _ _;have e2:C * β r*prb β w=C*(β r*prb β w):=ij _ _ _;rw[e1]at h3;rw[e2]at ih;have:=i8 ((-1:Int) ^ w.length*r c*F w) (io c w λu=>F (r :: u));omega
theorem wE {β:Rw->Nat}{N:Nat}(hN:1<=N):∀(cs:List Nat) (l:List Rw),l.length<=N->(∀r∈l,∀c,(r c).natAbs<=β r)->(∀r∈l,1<=β r)->(dt cs l).natAbs<=N ^ cs.length*prb β l
 | [],[],_,_,_=>by simp[dt,prb]
 | [],_ :: _,_,_,_=>by simp[dt]
 | c :: cs,l,hl,hb,h1=>by
  have h:=DQ (β:=β) (c:=c) l (N ^ cs.length) (dt cs) (λu hu hm=>wE hN cs u (by omega) (λr hr=>hb r (hm r hr)) λr hr=>h1 r (hm r hr)) λr hr=>hb r hr c;rw[dt,bX,i7];refine aE h ?_;rw[gP (N ^ cs.length) N,ij];exact dE _ hl
theorem wF (β:Rw->Nat):∀(a b:List Rw),prb β (a++b)=prb β a*prb β b
 | [],b=>by simp[prb]
 | r :: a,b=>by rw[jB,prb,prb,wF β a b,ij]
theorem wG {β:Rw->Nat}{B:Nat}:∀(a:List Rw),(∀r∈a,β r<=B)->prb β a<=B ^ a.length
 | [],_=>by simp[prb]
 | r :: a,h=>by
  rw[prb,bX,i7,gP];exact d8 (wG a λx hx=>h x (bM _ hx)) (h r cD)
end My
namespace My
open PySem PySem.Spec PyProof.Rows L2
seal L2.PE L2.PS L2.PSs L2.PA
def zWP (u d:Bool):Array Lean.Term:=(("ql qk qg qh qi qj p4 p6 p7 p8 pT pQ pR pS pU pV pW pX pY pZ pP pM pO pJ pI pG p_ p9 qc qd -V.str.injEq qe pB pC pj pA pE +aB mT mU mV mW mX mY mZ m7 m8 m9 m_ nj nE nG nI nJ nK a_c nL nN nP nQ nU nV n6 n_ oa og oh oi oj ol om oo oq ot ou ow ox oy oz oA oC oE oG oH oI oJ oM oN oO oP oQ oR oS oU o0 -and_assoc o8 o7 o9 o_ ph pi oV oW oX oY oZ -Gr -Oe -List.set_cons_zero -List.set_cons_succ -Option.some.injEq -V.int.injEq -V.bl.injEq -V.ref.injEq -V.ty.injEq -exists_eq_left' -exists_eq_left -exists_and_left -decide_eq_true_eq -jB -gO -q8 -List.cons.injEq -and_true -true_and -Bool.not_eq_true' -decide_eq_false_iff_not -ite_true -ite_false -Bool.false_eq_true -if_true -if_false -bX -xH -L2.gB -c_ -xD -gr -Of".splitOn " ").filter λx=>(u||!x.startsWith "+")&&(d||!x.startsWith "-")).toArray.map λx=>⟨Lean.mkIdent (String.toName (String.ofList (x.toList.filter λc=>c≠'+'&&c≠'-')))⟩
local macro_rules | `(tactic| k_units)=>`(tactic| ((try dsimp only[$[$(zWP true false):term],*]);(try simp only[$[$(zWP true true):term],*])))
local macro_rules | `(tactic| k_typeOf)=>`(tactic| ((try dsimp only[$[$(zWP false false):term],*]);(try simp only[$[$(zWP false true):term],*])))
local macro_rules | `(tactic| w_on)=>`(tactic| exact⟨rfl,rfl,rfl,by decide +kernel,rfl,by decide +kernel,by decide +kernel⟩)
theorem sc_trimmed:FnScope ["numbers","size"] ["numbers"] (aR rJ):=by w_on
theorem sc_poly_plus:FnScope ["one","other","answer","place","number"] ["one","other"] (aR rK):=by w_on
theorem sc_poly_times:FnScope ["one","other","answer","low","number","place","factor"] ["one","other"] (aR rL):=by w_on
theorem sc_poly_value:FnScope ["poly","n","answer","number"] ["poly","n"] (aR rM):=by w_on
theorem sc_quotient:FnScope ["one","other","rest","steps","answer","low","top","factor","place","number"] ["one","other"] (aR rN):=by w_on
theorem sc_shortened:FnScope ["big","small","cut","ahead","behind","half","upper","lower","times","rest","further"] ["big","small"] (aR rO):=by w_on
theorem sc_divisor:FnScope ["one","other","big","small","pair","rest"] ["one","other"] (aR rP):=by w_on
theorem sc_content:FnScope ["poly","answer","number"] ["poly"] (aR rQ):=by w_on
theorem Lx:FnScope ["poly","number"] ["poly","number"] (aR rR):=by w_on
theorem Ly:FnScope ["poly"] ["poly"] (aR rS):=by w_on
theorem sc_spread:FnScope ["number","base","answer","low"] ["number","base"] (aR rT):=by w_on
theorem Lz:FnScope ["poly"] ["poly"] (aR rV):=by w_on
theorem sc_bare_common:FnScope ["one","other","place","found"] ["one","other"] (aR rW):=by w_on
theorem sc_common:FnScope ["one","other","first","second","shared"] ["one","other"] (aR rX):=by w_on
theorem sc_common_of:FnScope ["polys","answer","poly"] ["polys"] (aR rY):=by w_on
theorem sc_lowered:FnScope ["row","table","columns","before","base","column","pivot","factor"] ["row","table","columns"] (aR rZ):=by w_on
theorem sc_through:FnScope ["places","values","steps","gap","place","answer"] ["places","values"] (aR r_):=by w_on
theorem LA:FnScope ["polys"] ["polys"] (aR sd):=by w_on
theorem sc_degree_bound:FnScope ["vectors","columns","by_vector","by_column"] ["vectors","columns"] (aR se):=by w_on
theorem sc_cleared:FnScope ["polys","shared"] ["polys"] (aR sf):=by w_on
theorem sc__law_poly:FnScope ["_law_cell","_law_found","_law_mixed","_law_k","_law_number"] ["_law_cell"] (aR si):=by w_on
theorem sc__law_cut:FnScope ["_law_numbers","_law_found"] ["_law_numbers"] (aR sj):=by w_on
theorem LB:FnScope ["_law_found"] ["_law_found"] (aR sk):=by w_on
theorem sc__law_product:FnScope ["_law_one","_law_other","_law_found","_law_i","_law_j"] ["_law_one","_law_other"] (aR sr):=by w_on
theorem sc__law_sum:FnScope ["_law_one","_law_other","_law_found","_law_k"] ["_law_one","_law_other"] (aR su):=by w_on
theorem sc__law_divisor:FnScope ["_law_one","_law_other","_law_rest"] ["_law_one","_law_other"] (aR sw):=by w_on
theorem sc__law_vector:FnScope ["_law_cells","_law_width","_law_kept","_law_k","_law_found"] ["_law_cells","_law_width","_law_kept","_law_k"] (aR sB):=by w_on
theorem sc__law_value:FnScope ["_law_poly_here","_law_n","_law_found","_law_number"] ["_law_poly_here","_law_n"] (aR sC):=by w_on
theorem sc__law_determinant:FnScope ["_law_rows","_law_found","_law_c","_law_rest"] ["_law_rows"] (aR sD):=by w_on
theorem sc__law_relation:FnScope ["_law_found","_law_kept","_law_vector_here","_law_every","_law_poly_here","_law_number","_law_rows","_law_c","_law_total","_law_row"] ["_law_found","_law_kept","_law_vector_here"] (aR sE):=by w_on
theorem sc__law_apart:FnScope ["_law_told","_law_kept","_law_width","_law_c"] ["_law_told","_law_kept","_law_width"] (aR sF):=by w_on
theorem sc_law:FnScope ["_law_script","_law_width","_law_span","_law_kept","_law_held","_law_cells","_law_k","_law_some","_law_vector_here","_law_handed","_law_found","_law_poly_here","_law_told","_law_copy"] ["_law_script"] (aR sI):=by w_on
theorem LC:FnScope ["self","width"] ["self","width"] (aR sJ):=by w_on
theorem sc_Span_row_at:FnScope ["self","vector","number","place","mark"] ["self","vector","number","place"] (aR sK):=by w_on
theorem sc_Span_table_at:FnScope ["self","place","table","number","row"] ["self","place"] (aR sL):=by w_on
theorem sc_Span_lowered_at:FnScope ["self","vector","place","table"] ["self","vector","place"] (aR sM):=by w_on
theorem sc_Span_only_choice:FnScope ["self","vector","many","places","marks","place","row"] ["self","vector"] (aR sO):=by w_on
theorem sc_Span_failing_column:FnScope ["self","vector","weights","column","answer","other","weight"] ["self","vector","weights"] (aR sR):=by w_on
theorem LD:FnScope ["self","vector","column"] ["self","vector","column"] (aR sS):=by w_on
theorem sc_Span_by_few:FnScope ["self","vector","few","span","number","found","weights","weight"] ["self","vector","few"] (aR sT):=by w_on
theorem sc_Span_take:FnScope ["self","vector","own","row","column","few","weights"] ["self","vector"] (aR sU):=by w_on
theorem LF:FnScope ["self"] ["self"] (aR sV):=by w_on
set_option genInjectivity false in
set_option genSizeOf false in
structure Tx (K:W.Frag) (mg:Str->Option Value) where
 Pb:Addr
 Pe:FuncData
 OQ:Fun K "trimmed" "trimmed" rJ Pb Pe
 Pf:mg "trimmed" = some (.ref Pb)
 Pg:Binds K Pe ["numbers"] []
 Ph:Addr
 Pj:FuncData
 Pk:Fun K "poly_plus" "poly_plus" rK Ph Pj
 Rf:mg "poly_plus" = some (.ref Ph)
 Rg:Binds K Pj ["one","other"] []
 Pm:Addr
 Po:FuncData
 Pp:Fun K "poly_times" "poly_times" rL Pm Po
 Rh:mg "poly_times" = some (.ref Pm)
 Ri:Binds K Po ["one","other"] []
 Pq:Addr
 Pr:FuncData
 OR:Fun K "poly_value" "poly_value" rM Pq Pr
 Ps:mg "poly_value" = some (.ref Pq)
 Pt:Binds K Pr ["poly","n"] []
 Pu:Addr
 Px:FuncData
 OS:Fun K "quotient" "quotient" rN Pu Px
 Py:mg "quotient" = some (.ref Pu)
 PB:Binds K Px ["one","other"] []
 PD:Addr
 PF:FuncData
 Rj:Fun K "shortened" "shortened" rO PD PF
 R8:mg "shortened" = some (.ref PD)
 R9:Binds K PF ["big","small"] []
 PH:Addr
 PJ:FuncData
 OT:Fun K "divisor" "divisor" rP PH PJ
 PL:mg "divisor" = some (.ref PH)
 PM:Binds K PJ ["one","other"] []
 PN:Addr
 PP:FuncData
 OU:Fun K "content" "content" rQ PN PP
 PQ:mg "content" = some (.ref PN)
 PR:Binds K PP ["poly"] []
 PU:Addr
 PV:FuncData
 OV:Fun K "over" "over" rR PU PV
 PX:mg "over" = some (.ref PU)
 PY:Binds K PV ["poly","number"] []
 PZ:Addr
 P0:FuncData
 P1:Fun K "upright" "upright" rS PZ P0
 Rk:mg "upright" = some (.ref PZ)
 Rm:Binds K P0 ["poly"] []
 P2:Addr
 P3:FuncData
 Rn:Fun K "spread" "spread" rT P2 P3
 R_:mg "spread" = some (.ref P2)
 Sb:Binds K P3 ["number","base"] []
 P4:Addr
 P5:FuncData
 P6:Fun K "greatest_size" "greatest_size" rV P4 P5
 Ro:mg "greatest_size" = some (.ref P4)
 Rq:Binds K P5 ["poly"] []
 P8:Addr
 P9:FuncData
 Rr:Fun K "bare_common" "bare_common" rW P8 P9
 Sc:mg "bare_common" = some (.ref P8)
 Sd:Binds K P9 ["one","other"] []
 P_:Addr
 Qa:FuncData
 Rs:Fun K "common" "common" rX P_ Qa
 Se:mg "common" = some (.ref P_)
 Sg:Binds K Qa ["one","other"] []
 Qb:Addr
 Qc:FuncData
 Rt:Fun K "common_of" "common_of" rY Qb Qc
 Sh:mg "common_of" = some (.ref Qb)
 Si:Binds K Qc ["polys"] []
 Qd:Addr
 Qe:FuncData
 Qf:Fun K "lowered" "lowered" rZ Qd Qe
 Ru:mg "lowered" = some (.ref Qd)
 Rv:Binds K Qe ["row","table","columns"] []
 Qg:Addr
 Qh:FuncData
 Rx:Fun K "through" "through" r_ Qg Qh
 Sj:mg "through" = some (.ref Qg)
 Sk:Binds K Qh ["places","values"] []
 Qi:Addr
 Qj:FuncData
 Qk:Fun K "greatest_degree" "greatest_degree" sd Qi Qj
 Ry:mg "greatest_degree" = some (.ref Qi)
 Rz:Binds K Qj ["polys"] []
 Ql:Addr
 Qm:FuncData
 RA:Fun K "degree_bound" "degree_bound" se Ql Qm
 Sl:mg "degree_bound" = some (.ref Ql)
 Sm:Binds K Qm ["vectors","columns"] []
 Qn:Addr
 Qo:FuncData
 RB:Fun K "cleared" "cleared" sf Qn Qo
 Sn:mg "cleared" = some (.ref Qn)
 So:Binds K Qo ["polys"] []
 Qp:Addr
 Qq:FuncData
 RC:Fun K "_law_poly" "_law_poly" si Qp Qq
 Sq:mg "_law_poly" = some (.ref Qp)
 Sr:Binds K Qq ["_law_cell"] []
 Qr:Addr
 Qs:FuncData
 OW:Fun K "_law_cut" "_law_cut" sj Qr Qs
 Qt:mg "_law_cut" = some (.ref Qr)
 Qu:Binds K Qs ["_law_numbers"] []
 Qv:Addr
 Qw:FuncData
 OX:Fun K "_law_whole" "_law_whole" sk Qv Qw
 Qx:mg "_law_whole" = some (.ref Qv)
 Qy:Binds K Qw ["_law_found"] []
 Qz:Addr
 QB:FuncData
 OY:Fun K "_law_product" "_law_product" sr Qz QB
 QC:mg "_law_product" = some (.ref Qz)
 QD:Binds K QB ["_law_one","_law_other"] []
 QE:Addr
 QF:FuncData
 QG:Fun K "_law_sum" "_law_sum" su QE QF
 RD:mg "_law_sum" = some (.ref QE)
 RE:Binds K QF ["_law_one","_law_other"] []
 QH:Addr
 QI:FuncData
 RF:Fun K "_law_divisor" "_law_divisor" sw QH QI
 Ss:mg "_law_divisor" = some (.ref QH)
 Su:Binds K QI ["_law_one","_law_other"] []
 QJ:Addr
 QK:FuncData
 RG:Fun K "_law_vector" "_law_vector" sB QJ QK
 Sv:mg "_law_vector" = some (.ref QJ)
 Sw:Binds K QK ["_law_cells","_law_width","_law_kept","_law_k"] []
 QL:Addr
 QM:FuncData
 RH:Fun K "_law_value" "_law_value" sC QL QM
 Sy:mg "_law_value" = some (.ref QL)
 Sz:Binds K QM ["_law_poly_here","_law_n"] []
 QN:Addr
 QO:FuncData
 OZ:Fun K "_law_determinant" "_law_determinant" sD QN QO
 RI:mg "_law_determinant" = some (.ref QN)
 RJ:Binds K QO ["_law_rows"] []
 QP:Addr
 QQ:FuncData
 QR:Fun K "_law_relation" "_law_relation" sE QP QQ
 RK:mg "_law_relation" = some (.ref QP)
 RL:Binds K QQ ["_law_found","_law_kept","_law_vector_here"] []
 QS:Addr
 QU:FuncData
 RM:Fun K "_law_apart" "_law_apart" sF QS QU
 SB:mg "_law_apart" = some (.ref QS)
 SC:Binds K QU ["_law_told","_law_kept","_law_width"] []
 OO:Addr
 OL:FuncData
 SD:Fun K "law" "law" sI OO OL
 Tg:mg "law" = some (.ref OO)
 Th:Binds K OL ["_law_script"] []
 QV:Addr
 QW:FuncData
 SE:Fun K "__init__" "Span.__init__" sJ QV QW
 RN:Binds K QW ["self","width"] []
 QX:Addr
 QY:FuncData
 SF:Fun K "row_at" "Span.row_at" sK QX QY
 RO:Binds K QY ["self","vector","number","place"] []
 QZ:Addr
 Q0:FuncData
 SG:Fun K "table_at" "Span.table_at" sL QZ Q0
 RP:Binds K Q0 ["self","place"] []
 Q1:Addr
 Q2:FuncData
 SH:Fun K "lowered_at" "Span.lowered_at" sM Q1 Q2
 RQ:Binds K Q2 ["self","vector","place"] []
 Q3:Addr
 Q4:FuncData
 SI:Fun K "only_choice" "Span.only_choice" sO Q3 Q4
 SJ:Binds K Q4 ["self","vector"] []
 Q5:Addr
 Q6:FuncData
 SK:Fun K "failing_column" "Span.failing_column" sR Q5 Q6
 SL:Binds K Q6 ["self","vector","weights"] []
 Q7:Addr
 Q8:FuncData
 SN:Fun K "keep" "Span.keep" sS Q7 Q8
 RS:Binds K Q8 ["self","vector","column"] []
 Q9:Addr
 Q_:FuncData
 SO:Fun K "by_few" "Span.by_few" sT Q9 Q_
 SQ:Binds K Q_ ["self","vector","few"] []
 O0:Addr
 O8:FuncData
 RT:Fun K "take" "Span.take" sU O0 O8
 O9:Binds K O8 ["self","vector"] []
 Ra:Addr
 Rb:FuncData
 SR:Fun K "apart" "Span.apart" sV Ra Rb
 SS:Binds K Rb ["self"] []
 Rc:Addr
 SU:mg "NoNumber" = some (.ref Rc)
 SV:PySem.W.excIn K Rc bmV "ValueError.__new__" = true
 OD:Addr
 RU:mg "Span" = some (.ref OD)
 OC:Cls K OD
 RV:Mk K OD QV
 RW:Meth K OD "row_at" QX
 RX:Meth K OD "table_at" QZ
 RY:Meth K OD "lowered_at" Q1
 SW:Meth K OD "only_choice" Q3
 SX:Meth K OD "failing_column" Q5
 RZ:Meth K OD "keep" Q7
 SY:Meth K OD "by_few" Q9
 O_:Meth K OD "take" O0
 SZ:Meth K OD "apart" Ra
 OI:NoAttr K OD "columns"
 OG:NoAttr K OD "kept"
 OP:NoAttr K OD "place"
 R3:NoAttr K OD "tables"
 OJ:NoAttr K OD "width"
 OB:mg "len" = none
 OF:mg "list" = none
 Pa:mg "enumerate" = none
 R4:mg "reversed" = none
 OH:mg "max" = none
 OE:mg "range" = none
 OK:mg "abs" = none
 Re:mg "min" = none
 OM:mg "zip" = none
 R6:mg "sum" = none
 ON:mg "isinstance" = none
 S_:mg "int" = none
 Ta:mg "bool" = none
 Tc:mg "tuple" = none
 Td:mg "set" = none
 R7:{ t:Tok // mg "WINDOW" = some (.int 300 t) }
 Te:{ t:Tok // mg "LONG" = some (.int 4000 t) }
 Tf:{ t:Tok // mg "START" = some (.int 97 t) }
def wH (K:W.Frag):Sp:=λvs H Q _=>∃(a:Addr) (xs:List Int),vs=[.ref a]∧SqL K H a (xs.map V.int)∧xs.length<=1000∧dH H Q ((aJ xs).map V.int)
theorem wI {P:Program}{w:World}{K:W.Frag}{mg:Str->Option Value}{base:Heap}(T:Tx K mg):FnOk P w K mg base CX0 1 T.Pb T.Pe ["numbers"] (wH K):=by
 refine T.OQ.ok sc_trimmed (λvs H Q E h=>?_) (λcdv A outer s H vs Q E hr h=>?_)
 ·obtain⟨a,xs,rfl,_⟩:=h;rfl
 obtain⟨a,xs,rfl,hS,hl,q⟩:=h;refine⟨_,((ai (au (i:=1) sc_trimmed.nd rfl (Or.inl rfl) (aA aU rfl T.OB aS (aa (pv 0) ac)))
  (ai (gy PassesOwn.never (PW.pt (jI (aM gz (pv 1) ah (aL _)) (jH (aM fE (aH a_ (pv 0) (ao cX (pv 1) ah) (λ_ _=>rfl)) ah (aL _))))) (aq (u_ (i:=1) sc_trimmed.nd rfl (Or.inl rfl) ah vh)))
  (aq (aF (fX iy rfl T.OF fG (aa (iu iP (pv 0) jj (gC (pv 1))) ac))))))),?_⟩
 k_units
 refine⟨_,.inl hS,?_⟩;rw[ae];refine gD (λm σ H'=>m<=xs.length∧σ=[some (.ref a),some (.int (m:Int))]∧H'=H∧∀k,m<=k->co xs k=0) xs.length ⟨am _,rfl,rfl,λk hk=>aw hk⟩ ?_;have fin:∀n:Nat,n<=xs.length->aJ xs=xs.take n->∃x,SqL K H a x∧∀p,H p=none->∃x1,(SqL K (upd H p (.lst (dr x none (some (n:Int))))) p x1∨SqT K (upd H p (.lst (dr x none (some (n:Int))))) p x1)∧
   ∀l,upd H p (.lst (dr x none (some (n:Int)))) l=none->Q (.ref l) (upd (upd H p (.lst (dr x none (some (n:Int))))) l (.lst x1)):=by
  intro n hn e;refine⟨_,hS,λp hp=>⟨_,.inl (SqL.of ag),λr hr'=>?_⟩⟩;rw[cutV_map]at hr' ⊢;have e2:((xs.drop (HT.sIx xs.length 0 none)).take (HT.sIx xs.length xs.length (some ((n:Nat):Int))-HT.sIx xs.length 0 none))=aJ xs:=by
   rw[HT.sIx_nat,HT.sIx_none,kr,e,xS hn];rfl
  rw[e2]at hr' ⊢;exact q r _ ((ar hp _).trans (ar hr' _)) ((ar hp _).free hr') ag
 rintro m σ H' ⟨hm,rfl,rfl,hz⟩
 cases m with
 | zero=>
  k_units
  rw[if_neg (by simp)];exact fin 0 (aI _) (Do (aI _) hz (.inl rfl))
 | succ m=>
  have e1:((m+1:Nat):Int)-1=(m:Int):=by omega
  (iterate 3 (k_units;(try simp only[e1]));k_units)
  rw[if_pos (by omega)];refine⟨_,hS,_,fg (by omega),?_⟩
  k_units
  refine bJ (λh=>?_) (λh=>?_)
  ·refine⟨λσ' H1=>σ'=[some (V.ref a),some (V.int (m:Int))]∧H1=H',?_,rfl,rfl⟩
   rintro σ' H1 ⟨rfl,rfl⟩
   refine⟨m,lM _,by omega,rfl,rfl,λk hk=>?_⟩;by_cases e:k=m
   ·rw[e,ax (by omega)];exact h
   ·exact hz k (by omega)
  ·exact fin (m+1) hm (Do hm hz (.inr (by show co xs m≠0;rw[ax (by omega)];exact h)))
def DR (K:W.Frag)(f:List Int->List Int->List Int):Sp:=λvs H Q _=>∃(a b:Addr) (xs ys:List Int),vs=[.ref a,.ref b]∧SqL K H a (xs.map V.int)∧SqL K H b (ys.map V.int)∧xs.length<=100∧ys.length<=100∧
 (∀x∈xs,Bd 60000 x)∧(∀y∈ys,Bd 60000 y)∧dH H Q ((f xs ys).map V.int)
theorem js (k:Nat):(aC k [V.int 0]).flatten=(aC k (0:Int)).map V.int:=by
 induction k with
 | zero=>rfl
 | succ k ih=>rw[gr,lP,ih,gr];rfl
theorem wJ (k j:Nat):co (aC k 0) j=0:=by
 unfold co;rw[av,iJ]
 split <;> rfl
theorem LG (xs:List Int)(k j:Nat):co (xs++aC k 0) j=co xs j:=by
 by_cases h:j<xs.length
 ·unfold co;rw[av,av,b_ h]
 ·rw[aw (xs:=xs) (by omega)];unfold co;rw[av,di (by omega),iJ]
  split <;> rfl
theorem DS {P:Program}{w:World}{K:W.Frag}{mg:Str->Option Value}{base:Heap}(T:Tx K mg):FnOk P w K mg base CX0 2 T.Ph T.Pj ["one","other"] (DR K gI):=by
 refine T.Pk.ok sc_poly_plus (λvs H Q E h=>?_) (λcdv A outer s H vs Q E hr h=>?_)
 ·obtain⟨a,b,xs,ys,rfl,_⟩:=h;rfl
 obtain⟨a,b,xs,ys,rfl,hA,hB,la,lb,_,_,q⟩:=h;refine⟨_,((ai (au (i:=2) sc_poly_plus.nd rfl (Or.inl rfl) (ao iQ (fX iy rfl T.OF fG (aa (pv 0) ac)) (ao iR (bN (aa ah ac)) (ao cX (aA aU rfl T.OB aS (aa (pv 1) ac)) (aA aU rfl T.OB aS (aa (pv 0) ac))))))
  (ai (bY PassesOwn.never rfl (o4 rfl T.Pa (aa (pv 1) ac)) (gX rfl (dQ (a7 (i:=3) sc_poly_plus.nd rfl (Or.inl rfl)) (dQ (a7 (i:=4) sc_poly_plus.nd rfl (Or.inl rfl)) gW))) (aq (ve (pv 2) (pv 3) vR (pv 4) vg iw)))
  (aq (aF (aN (FnOk.mono (wI T) (by decide)) hr rfl T.Pf T.OQ.kp T.Pg .nil aD (aa (pv 2) ac))))))),?_⟩
 k_units
 refine⟨_,.inl hA,λl hl=>⟨by decide,λp hp=>?_⟩⟩;have s1:=ar hl (.lst (xs.map V.int));have s2:=ar hp (.lst [V.int 0]);refine⟨_,.inl ((s1.trans s2).seq hB),_,.inl ((s1.trans s2).seq hA),_,ag,?_⟩;rw[ae,ae,js];obtain⟨k,hk⟩:∃k:Nat,((ys.length:Int)-(xs.length:Int)).toNat=k:=⟨_,rfl⟩
 rw[hk];have k100:k<=100:=by omega
 refine⟨by omega,by omega,bW (aX (by simp;omega)),λp1 hp1=>?_⟩;have s3:=ar hp1 (.lst ((aC k (0:Int)).map V.int));refine⟨_,s3 _ _ (s2 _ _ ag),_,ag,bW (aX (by simp;omega)),λA0 hA0=>?_⟩;rw[←aQ];have s4:=(s1.trans (s2.trans s3)).trans (ar hA0 (.lst ((xs++aC k 0).map V.int)));have hn0:=(s1.trans (s2.trans s3)).free hA0;have h4:upd (upd (upd (upd H l (.lst (xs.map V.int))) p (.lst [V.int 0])) p1 (.lst ((aC k (0:Int)).map V.int))) A0 (.lst ((xs++aC k 0).map V.int)) A0=_:=ag;generalize upd (upd (upd (upd H l (.lst (xs.map V.int))) p (.lst [V.int 0])) p1 (.lst ((aC k (0:Int)).map V.int))) A0 (.lst ((xs++aC k 0).map V.int))=H4 at s4 h4 ⊢;refine⟨_,s4.seq hB,?_⟩;obtain⟨Pv,hPv⟩:∃Pv:Nat->L2.St->Hp->Prop,∀i σ H',Pv i σ H'↔∃(zs:List Int) (r1 r2:Option V),σ=[some (V.ref a),some (V.ref b),some (V.ref A0),r1,r2]∧H' A0=some (.lst (zs.map V.int))∧zs.length=xs.length+k∧
  (∀j,co zs j=co xs j+if j<i then co ys j else 0)∧Same H H':=⟨_,λ_ _ _=>Iff.rfl⟩
 refine pD Pv ((hPv _ _ _).mpr ⟨_,none,none,rfl,h4,by simp,λj=>by rw[LG,if_neg (by omega)];omega,s4⟩) (λi σ H' _ z=>by obtain⟨_,_,_,_,_,_,_,z5⟩:=(hPv i σ H').mp z;exact z5.seq hB) ?_ ?_
 ·intro i v pt σ H' hv hp' hpt;obtain⟨zs,r1,r2,rfl,hz,lz,cz',sz⟩:=(hPv _ _ _).mp hp';have hi:i<ys.length:=by have:=(aV.mp hv).1;rw[ae]at this;exact this
  rw[az,ak hi]at hv;obtain rfl:V.int ys[i]=v:=Option.some.inj hv;have s5:=ar hpt (.tup [V.int i,V.int ys[i]])
  k_units
  refine⟨_,SqT.of ag,rfl,?_⟩
  k_units
  have hiz:i<zs.length:=by omega
  have hz5:=s5 _ _ hz;refine⟨_,SqL.of hz5,_,fg hiz,_,rfl,_,hz5,i,iA (by rw[ae];exact hiz),(hPv _ _ _).mpr ⟨zs.set i (zs[i]+ys[i]),_,_,rfl,by rw[ag,map_set],by rw[i6];exact lz,λj=>?_,(sz.trans s5).more hn0⟩⟩;rw[iU _ _ _ _ hiz];by_cases e:j=i
  ·subst e;have:=cz' j;rw[if_neg (by omega),ax hiz]at this;rw[if_pos rfl,if_pos (by omega),ax hi];omega
  ·rw[if_neg e,cz' j];by_cases hj:j<i
   ·rw[if_pos hj,if_pos (by omega)]
   ·rw[if_neg hj,if_neg (by omega)]
 ·intro σ H' hp';obtain⟨zs,r1,r2,rfl,hz,lz,cz',sz⟩:=(hPv _ _ _).mp hp';rw[ae]at cz'
  k_units
  refine⟨A0,zs,rfl,SqL.of hz,by omega,λr H'' s'' hr'' h''=>?_⟩;refine q r H'' (sz.trans s'') (sz.free hr'') ?_;rw[h'',KU xs ys zs λj=>by rw[cz' j];by_cases hj:j<ys.length;rw[if_pos hj];rw[if_neg hj,aw (xs:=ys) (by omega)]]
theorem LI (ys:List Int):dI [] ys=[]:=qo.mpr λk=>by
 rw[jW];split <;> rfl
theorem wK (xs:List Int):dI xs []=[]:=qo.mpr λk=>by
 rw[jW]
 split
 ·exact fQ λj _=>by unfold cz;split <;> simp[gG]
 ·rfl
theorem DT {P:Program}{w:World}{K:W.Frag}{mg:Str->Option Value}{base:Heap}(T:Tx K mg):FnOk P w K mg base CX0 2 T.Pm T.Po ["one","other"] (DR K dI):=by
 refine T.Pp.ok sc_poly_times (λvs H Q E h=>?_) (λcdv A outer s H vs Q E hr h=>?_)
 ·obtain⟨a,b,xs,ys,rfl,_⟩:=h;rfl
 obtain⟨a,b,xs,ys,rfl,hA,hB,la,lb,ba,bb,q⟩:=h;refine⟨_,((ai (bC (PW.pt (gd (aM fE (aA aU rfl T.OB aS (aa (pv 0) ac)) ah (aL _)) (jc (aM fE (aA aU rfl T.OB aS (aa (pv 1) ac)) ah (aL _))))) (aq (aF (bN ac))) bI)
  (ai (au (i:=2) sc_poly_times.nd rfl (Or.inl rfl) (ao iR (bN (aa ah ac)) (ao cX (ao cG (aA aU rfl T.OB aS (aa (pv 0) ac)) (aA aU rfl T.OB aS (aa (pv 1) ac))) ah)))
  (ai (bY PassesOwn.never rfl (o4 rfl T.Pa (aa (pv 0) ac)) (gX rfl (dQ (a7 (i:=3) sc_poly_times.nd rfl (Or.inl rfl)) (dQ (a7 (i:=4) sc_poly_times.nd rfl (Or.inl rfl)) gW))) (aq (bY PassesOwn.never rfl (o4 rfl T.Pa (aa (pv 1) ac)) (gX rfl (dQ (a7 (i:=5) sc_poly_times.nd rfl (Or.inl rfl)) (dQ (a7 (i:=6) sc_poly_times.nd rfl (Or.inl rfl)) gW))) (aq (ve (pv 2) (ao cG (pv 3) (pv 5)) vR (ao dw (pv 4) (pv 6)) vg iw)))))
  (aq (aF (aN (FnOk.mono (wI T) (by decide)) hr rfl T.Pf T.OQ.kp T.Pg .nil aD (aa (pv 2) ac)))))))),?_⟩
 k_units
 refine⟨_,.inl hA,?_⟩;rw[ae];have nil:dI xs ys=[]->0<=sizeLine∧∀(p:Addr),H p=none->Q (V.ref p) (upd H p (HO.lst [])):=λe=>⟨aI _,λp hp=>q p _ (ar hp _) hp (by rw[ag,e];rfl)⟩
 refine bJ (λh=>nil ?_) (λh=>⟨_,.inl hB,?_⟩)
 ·rw[bE (show xs.length=0 by omega)];exact LI ys
 rw[ae];refine bJ (λh2=>nil ?_) (λh2=>?_)
 ·rw[bE (show ys.length=0 by omega)];exact wK xs
 refine⟨by decide,λp hp=>?_⟩;have s1:=ar hp (.lst [V.int 0]);refine⟨_,.inl (s1.seq hA),_,.inl (s1.seq hB),_,ag,?_⟩;rw[ae,ae,js];obtain⟨k,hk⟩:∃k:Nat,((xs.length:Int)+(ys.length:Int)-1).toNat=k:=⟨_,rfl⟩
 rw[hk];refine⟨by omega,by omega,bW (aX (by simp;omega)),λA0 hA0=>?_⟩;have s4:=s1.trans (ar hA0 (.lst ((aC k (0:Int)).map V.int)));have hn0:=s1.free hA0;have h4:upd (upd H p (.lst [V.int 0])) A0 (.lst ((aC k (0:Int)).map V.int)) A0=_:=ag;generalize upd (upd H p (.lst [V.int 0])) A0 (.lst ((aC k (0:Int)).map V.int))=H4 at s4 h4 ⊢;refine⟨_,s4.seq hA,?_⟩;obtain⟨Pv,hPv⟩:∃Pv:Nat->L2.St->Hp->Prop,∀l σ H',Pv l σ H'↔∃(zs:List Int) (r1 r2 r3 r4:Option V),σ=[some (V.ref a),some (V.ref b),some (V.ref A0),r1,r2,r3,r4]∧H' A0=some (.lst (zs.map V.int))∧zs.length=k∧
  (∀j,co zs j=if j+1<xs.length+ys.length then cv xs ys l j else 0)∧Same H H':=⟨_,λ_ _ _=>Iff.rfl⟩
 refine pD Pv ((hPv _ _ _).mpr ⟨_,none,none,none,none,rfl,h4,by simp,λj=>by rw[wJ];split <;> rfl,s4⟩) (λi σ H' _ z=>by obtain⟨_,_,_,_,_,_,_,_,_,z5⟩:=(hPv i σ H').mp z;exact z5.seq hA) ?_ ?_
 ·intro l v pt σ H' hv hp' hpt;obtain⟨zs,r1,r2,r3,r4,rfl,hz,lz,cz',sz⟩:=(hPv _ _ _).mp hp';have hi:l<xs.length:=by have:=(aV.mp hv).1;rw[ae]at this;exact this
  rw[az,ak hi]at hv;obtain rfl:V.int xs[l]=v:=Option.some.inj hv;have s5:=ar hpt (.tup [V.int l,V.int xs[l]])
  k_units
  refine⟨_,SqT.of ag,rfl,?_⟩
  k_units
  have s6:=sz.trans s5;have hz5:=s5 _ _ hz;generalize upd H' pt (.tup [V.int l,V.int xs[l]])=H5 at s6 hz5 ⊢;refine⟨_,s6.seq hB,?_⟩;obtain⟨Pw,hPw⟩:∃Pw:Nat->L2.St->Hp->Prop,∀j σ H',Pw j σ H'↔∃(zs:List Int) (r3 r4:Option V),σ=[some (V.ref a),some (V.ref b),some (V.ref A0),some (V.int l),some (V.int xs[l]),r3,r4]∧H' A0=some (.lst (zs.map V.int))∧zs.length=k∧
   (∀t,co zs t=(if t+1<xs.length+ys.length then cv xs ys l t else 0)+if l<=t∧t<l+j then xs[l]*co ys (t-l) else 0)∧Same H H':=⟨_,λ_ _ _=>Iff.rfl⟩
  refine pD Pw ((hPw _ _ _).mpr ⟨zs,_,_,rfl,hz5,lz,λt=>by rw[cz' t,if_neg (show ¬(l<=t∧t<l+0) by omega)];omega,s6⟩) (λi σ H' _ z=>by obtain⟨_,_,_,_,_,_,_,z5⟩:=(hPw i σ H').mp z;exact z5.seq hB) ?_ ?_
  ·intro j v pt σ H' hv hp' hpt;obtain⟨zs,r3,r4,rfl,hz,lz,cz',sz⟩:=(hPw _ _ _).mp hp';have hj:j<ys.length:=by have:=(aV.mp hv).1;rw[ae]at this;exact this
   rw[az,ak hj]at hv;obtain rfl:V.int ys[j]=v:=Option.some.inj hv;have s5:=ar hpt (.tup [V.int j,V.int ys[j]])
   k_units
   refine⟨_,SqT.of ag,rfl,?_⟩;have eij:(l:Int)+(j:Int)=((l+j:Nat):Int):=rfl
   (iterate 3 (k_units;(try simp only[eij]));k_units)
   have hiz:l+j<zs.length:=by omega
   have hz5:=s5 _ _ hz;refine⟨_,SqL.of hz5,_,fg hiz,(ba _ (aW hi)).fits (bb _ (aW hj)) (by decide),_,rfl,_,hz5,l+j,iA (by rw[ae];exact hiz),(hPw _ _ _).mpr ⟨zs.set (l+j) (zs[l+j]+xs[l]*ys[j]),_,_,rfl,by rw[ag,map_set],by rw[i6];exact lz,λt=>?_,(sz.trans s5).more hn0⟩⟩;rw[iU _ _ _ _ hiz];by_cases e:t=l+j
   ·subst e;have:=cz' (l+j);rw[if_neg (show ¬(l<=l+j∧l+j<l+j) by omega),ax hiz]at this;rw[if_pos (show l+j=l+j from rfl),if_pos (show l<=l+j∧l+j<l+(j+1) by omega),show l+j-l=j by omega,ax hj];omega
   ·rw[if_neg e,cz' t];by_cases h3:l<=t∧t<l+j
    ·rw[if_pos h3,if_pos (show l<=t∧t<l+(j+1) by omega)]
    ·rw[if_neg h3,if_neg (show ¬(l<=t∧t<l+(j+1)) by omega)]
  ·intro σ H' hp';obtain⟨zs,r3,r4,rfl,hz,lz,cz',sz⟩:=(hPw _ _ _).mp hp';rw[ae]at cz';refine (hPv _ _ _).mpr ⟨zs,_,_,_,_,rfl,hz,lz,λt=>?_,sz⟩;rw[cz' t];have e:cv xs ys (l+1) t=cv xs ys l t+co xs l*cz ys t l:=rfl;rw[e,ax hi];unfold cz;by_cases h1:t+1<xs.length+ys.length
   ·rw[if_pos h1,if_pos h1];by_cases h2:l<=t
    ·rw[if_pos h2];by_cases h3:t<l+ys.length
     ·rw[if_pos ⟨h2,h3⟩]
     ·rw[if_neg (by omega),aw (xs:=ys) (by omega),cT]
    ·rw[if_neg (by omega),if_neg h2,cT]
   ·rw[if_neg h1,if_neg h1,if_neg (by omega)];rfl
 ·intro σ H' hp';obtain⟨zs,r1,r2,r3,r4,rfl,hz,lz,cz',sz⟩:=(hPv _ _ _).mp hp';rw[ae]at cz'
  k_units
  refine⟨A0,zs,rfl,SqL.of hz,by omega,λr H'' s'' hr'' h''=>q r H'' (sz.trans s'') (sz.free hr'') ?_⟩;rw[h'',KT xs ys zs cz']
theorem dX {xs:List Int}{P:Int->Prop}(h:∀x∈xs,P x)(h0:P 0)(j:Nat):P (co xs j):=by
 by_cases z:j<xs.length
 ·rw[ax z];exact h _ (aW z)
 ·rw[aw (by omega)];exact h0
theorem dY {xs:List Int}{P:Int->Prop}(h:∀j,P (co xs j)):∀x∈xs,P x:=λx hx=>by
 obtain⟨k,hk,rfl⟩:=cU.mp hx;rw[←ax hk];exact h k
theorem qC {xs:List Int}(h:xs=[]∨co xs (xs.length-1)≠0):Nml xs:=by
 refine en.mpr λx hx=>?_;rcases h with rfl|h
 ·simp at hx
 ·have hl:xs.length≠0:=by intro z;rw[bE z]at hx;simp at hx
  rw[ax (by omega)]at h;rw[rg,ak (by omega)]at hx;rw[←Option.some.inj hx];exact h
theorem LJ (xs:List Int):Nml (xs++[1]):=en.mpr λx hx=>by rw[Gs]at hx;rw[←Option.some.inj hx];decide
theorem hE {c:Int}(h:c≠0):Nml [c]:=en.mpr λx hx=>by simp at hx;omega
theorem wL {M N:Nat}{ys:List Int}(hy:∀y∈ys,y.natAbs<=N):∀xs:List Int,(∀x∈xs,x.natAbs<=M)->∀j,(co (aY xs ys) j).natAbs<=xs.length*(M*N)
 | [],_,j=>by simp[aY,gG]
 | x :: xs,h,j=>by
  have cm:co (ys.map λz=>x*z) j=x*co ys j:=by
   by_cases h:j<ys.length
   ·rw[ax (by rw[ae];exact h),ax h,b5]
   ·rw[aw (by rw[ae];omega),aw (xs:=ys) (by omega)];simp
  have h1:(x*co ys j).natAbs<=M*N:=by
   rw[b4];refine d8 (h x (by simp)) ?_;by_cases z:j<ys.length
   ·rw[ax z];exact hy _ (aW z)
   ·rw[aw (by omega)];exact aI _
  have h2:(co (0 :: aY xs ys) j).natAbs<=xs.length*(M*N):=by
   rw[g9]
   split
   ·exact aI _
   ·exact wL hy xs (λy hy=>h y (by simp[hy])) _
  have e:co (aY (x :: xs) ys) j=x*co ys j+co (0 :: aY xs ys) j:=by rw[aY,fJ,cm]
  rw[e,bX,iL,fR];have:=i8 (x*co ys j) (co (0 :: aY xs ys) j);omega
theorem wM {xs ys:List Int}{k l c:Nat}(hx:∀x∈xs,Bd k x)(hy:∀y∈ys,Bd l y)(hl:xs.length<=2 ^ c)(j:Nat):Bd (k+l+c) (pm (co xs) (co ys) j):=by
 rw[←gj];have h1:=wL (M:=2 ^ k-1) (N:=2 ^ l-1) (ys:=ys) (λy h=>by have:y.natAbs<2 ^ l:=hy y h;omega) xs (λx h=>by have:x.natAbs<2 ^ k:=hx x h;omega) j;have p1:=dj k;have p2:=dj l;have p3:=dj c;have h2:(2 ^ k-1)*(2 ^ l-1)<2 ^ k*2 ^ l:=by
  refine cE (dC _ (Nat.sub_le _ 1)) ?_;exact N9 (by omega) p2
 show (co (aY xs ys) j).natAbs<2 ^ (k+l+c);rw[de,de];refine cE h1 ?_;refine cE (dE _ hl) ?_;rw[gP (2 ^ k*2 ^ l)];exact GB h2 p3
theorem LK {xs ys ws:List Int}(nx:Nml xs)(ny:Nml ys)(nw:Nml ws)(h:∀j,co ws j=pm (co xs) (co ys) j):ws.length<=xs.length+ys.length-1:=by
 by_cases x0:xs=[]
 ·rw[kT nw λk=>by rw[h k,x0];exact fQ λj _=>by rw[gG];simp];exact aI _
 by_cases w0:ws=[]
 ·rw[w0];exact aI _
 have:=(wn nx x0 nw ny (one:=ws) (q:=ys) h w0).2;omega
theorem DU {n m:Nat}{f:Nat->Int}(h:n<=m)(hz:∀j,n<=j->j<m->f j=0):ay m f=ay n f:=by
 induction m with
 | zero=>rw[show n=0 by omega]
 | succ m ih=>
  by_cases e:n=m+1
  ·rw[e]
  ·simp only[ay];rw[ih (by omega) λj h1 h2=>hz j h1 (by omega),hz m (by omega) (by omega)];omega
theorem wN (xs ys:List Int)(k:Nat):pm (co xs) (co ys) k=cv xs ys xs.length k:=by
 have e1:pm (co xs) (co ys) k=ay (k+1) λj=>co xs j*cz ys k j:=by
  unfold pm;exact cY λj hj=>by unfold cz;rw[if_pos (by omega)]
 have e2:ay (k+1+xs.length) (λj=>co xs j*cz ys k j)=ay (k+1) λj=>co xs j*cz ys k j:=
  DU (by omega) λj h1 _=>by unfold cz;rw[if_neg (by omega)];simp
 have e3:ay (k+1+xs.length) (λj=>co xs j*cz ys k j)=ay xs.length λj=>co xs j*cz ys k j:=
  DU (by omega) λj h1 _=>by rw[aw h1];simp
 rw[e1,←e2,e3];rfl
theorem dZ {xs ys:List Int}(hx:Nml xs)(hy:Nml ys)(h:∀n,val n xs=val n ys):xs=ys:=gH hx hy λk=>f8 h k
theorem kX (xs ys:List Int)(k:Nat):co (dI xs ys) k=pm (co xs) (co ys) k:=by
 unfold dI;rw[cN,jW,wN]
 split
 ·rfl
 ·rw[wk _ _ _ (by omega)]
theorem wO (xs ys:List Int)(k:Nat):co (gI xs ys) k=co xs k+co ys k:=by
 unfold gI;rw[cN,jW]
 split
 ·rfl
 ·rw[aw (xs:=xs) (by omega),aw (xs:=ys) (by omega)];rfl
theorem DW (n:Int)(xs ys:List Int):val n (dI xs ys)=val n xs*val n ys:=by
 rw[←dy];exact f9 (λk=>by rw[kX,gj]) n
theorem DX (n:Int)(xs ys:List Int):val n (gI xs ys)=val n xs+val n ys:=by
 rw[←fI];exact f9 (λk=>by rw[wO,fJ]) n
theorem DY (xs ys:List Int):Nml (gI xs ys):=cI _
theorem DZ (xs ys:List Int):(gI xs ys).length<=max xs.length ys.length:=aE (jV _) (by simp)
theorem wP (xs ys:List Int)(hy:ys≠[]):(dI xs ys).length<=xs.length+ys.length-1:=by
 have h:=dO.mpr hy;refine g8 (cI _) λk hk=>?_;show co (dI xs ys) k=0;rw[kX,wN,wk _ _ _ (by omega)]
def LM (ps f:List Int):Prop:=f.length<=ps.length∧Nml f∧ps.length<=60∧(∀i j (hi:i<ps.length) (hj:j<ps.length),i≠j->ps[i]≠ps[j])∧(∀p∈ps,Bd 40 p)∧∀p∈ps,Bd 10000 (val p f)
theorem LN {m i:Nat}{g h:Nat->Int}(hi:i<m)(e:∀j,j<m->j≠i->h j=g j):((a8 m).map g).set i (h i)=(a8 m).map h:=by
 refine i9 (by simp) λj h1 h2=>?_;have hj:j<m:=by simpa using h2
 rw[List.getElem_set,b5,b5,ky]
 split
 ·rename_i z;rw[z]
 ·rename_i z;exact (e j hj (Ne.symm z)).symm
theorem wQ {m i:Nat}{g:Nat->Int}(hi:i<m):((a8 m).map g)[i]?=some (g i):=by
 rw[az,xT hi];rfl
theorem D4 {m:Nat}{g h:Nat->Int}(e:∀j,j<m->g j=h j):(a8 m).map g=(a8 m).map h:=gx λj hj=>e j (dh.mp hj)
def LO (K:W.Frag):Sp:=λvs H Q _=>∃(A B:Addr) (ps f:List Int),vs=[.ref A,.ref B]∧SqL K H A (ps.map V.int)∧SqL K H B ((ps.map λp=>val p f).map V.int)∧LM ps f∧dH H Q (f.map V.int)
theorem LP {P:Program}{w:World}{K:W.Frag}{mg:Str->Option Value}{base:Heap}(T:Tx K mg):FnOk P w K mg base CX0 3 T.Qg T.Qh ["places","values"] (LO K):=by
 refine T.Rx.ok sc_through (λvs H Q E h=>?_) (λcdv A outer s H vs Q E hr h=>?_)
 ·obtain⟨A,B,ps,f,rfl,_⟩:=h;rfl
 obtain⟨A,B,ps,f,rfl,hA,hB,⟨lf,nf,l60,dis,bp,bv⟩,q⟩:=h;refine⟨_,((ai (au (i:=2) sc_through.nd rfl (Or.inl rfl) (fX iy rfl T.OF fG (aa (pv 1) ac)))
  (ai (bY PassesOwn.never rfl (II rfl T.OE (aa ah (aa (aA aU rfl T.OB aS (aa (pv 2) ac)) ac))) (a7 (i:=3) sc_through.nd rfl (Or.inl rfl)) (aq (bY PassesOwn.never rfl (vN rfl T.OE (aa (ao cX (aA aU rfl T.OB aS (aa (pv 2) ac)) ah) (aa (ao cX (pv 3) ah) (aa (dF dG ah) ac)))) (a7 (i:=4) sc_through.nd rfl (Or.inl rfl)) (aq (jK (ao jm (ao cX (aH a_ (pv 2) (pv 4) (λ_ _=>rfl)) (aH a_ (pv 2) (ao cX (pv 4) ah) (λ_ _=>rfl))) (ao cX (aH a_ (pv 0) (pv 4) (λ_ _=>rfl)) (aH a_ (pv 0) (ao cX (pv 4) (pv 3)) (λ_ _=>rfl)))) (jJ (pv 2) (pv 4) iw))))))
  (ai (au (i:=5) sc_through.nd rfl (Or.inl rfl) (bN ac))
  (ai (bY PassesOwn.never rfl (vN rfl T.OE (aa (ao cX (aA aU rfl T.OB aS (aa (pv 2) ac)) ah) (aa (dF dG ah) (aa (dF dG ah) ac)))) (a7 (i:=4) sc_through.nd rfl (Or.inl rfl)) (aq (au (i:=5) sc_through.nd rfl (Or.inl rfl) (aN (FnOk.mono (DS T) (by decide)) hr rfl T.Rf T.Pk.kp T.Rg .nil aD (aa (aN (FnOk.mono (DT T) (by decide)) hr rfl T.Rh T.Pp.kp T.Ri .nil aD (aa (pv 5) (aa (bN (aa (dF dG (aH a_ (pv 0) (pv 4) (λ_ _=>rfl))) (aa ah ac))) ac))) (aa (bN (aa (aH a_ (pv 2) (pv 4) (λ_ _=>rfl)) ac)) ac))))))
  (aq (aF (pv 5)))))))),?_⟩
 dsimp only[aB]
 k_typeOf
 refine⟨_,.inl hB,λS nS=>?_⟩;have u0:=ar nS (.lst ((ps.map λp=>val p f).map V.int));have e0:(ps.map λp=>val p f)=(a8 ps.length).map (rnd f ps 0):=by
  refine i9 (by simp) λi h1 h2=>?_;rw[b5,b5,ky,Lq (by simpa using h1)]
 rw[e0]at u0 ⊢;have eS:=ag (H:=H) (a:=S) (o:=.lst (((a8 ps.length).map (rnd f ps 0)).map V.int));generalize L2.upd H S (.lst (((a8 ps.length).map (rnd f ps 0)).map V.int))=H1 at u0 eS ⊢;have lR:∀g:Nat->Int,(((a8 ps.length).map g).map V.int).length=ps.length:=λg=>by simp
 obtain⟨m,hm⟩:∃m,ps.length=m:=⟨_,rfl⟩
 dsimp only[aB]
 k_typeOf
 refine⟨_,.inl (SqL.of eS),by decide,by decide,by rw[lR];omega,by rw[lR];omega,?_⟩;rw[lR];obtain⟨Pv,hPv⟩:∃Pv:Nat->L2.St->Hp->Prop,∀i σ H',Pv i σ H'↔∃r3 r4:Option V,σ=[some (V.ref A),some (V.ref B),some (V.ref S),r3,r4,none]∧H' S=some (.lst (((a8 ps.length).map (rnd f ps i)).map V.int))∧Same H H':=⟨_,λ_ _ _=>Iff.rfl⟩
 refine gF Pv ((hPv _ _ _).mpr ⟨none,none,rfl,eS,u0⟩) ?_ ?_
 ·intro i σ H2 hi hp;obtain⟨r3,r4,rfl,eS2,s2⟩:=(hPv _ _ _).mp hp;have e1:(1:Int)+(i:Int)-1=(i:Int):=by omega
  (iterate 3 (k_units;(try simp only[e1]));k_units)
  refine⟨_,.inl (SqL.of eS2),by decide,by decide,?_⟩;rw[lR];refine⟨vY (by omega) (by omega) (by omega) (by omega),ps.length-1-i,vZ (by omega),?_⟩;obtain⟨Pw,hPw⟩:∃Pw:Nat->L2.St->Hp->Prop,∀t σ H',Pw t σ H'↔∃r:Option V,σ=[some (V.ref A),some (V.ref B),some (V.ref S),some (V.int (1+(i:Int))),r,none]∧H' S=some (.lst (((a8 ps.length).map (mxR f ps i (ps.length-t))).map V.int))∧Same H H':=⟨_,λ_ _ _=>Iff.rfl⟩
  refine o3 Pw ((hPw _ _ _).mpr ⟨r4,rfl,?_,s2⟩) ?_ ?_
  ·rw[eS2,D4 (h:=mxR f ps i (ps.length-0)) λj hj=>by unfold mxR;rw[if_neg (by omega)]]
  ·intro t σ H3 ht hp;obtain⟨r,rfl,eS3,s3⟩:=(hPw _ _ _).mp hp;obtain⟨pl,hpl⟩:∃pl,ps.length-t=pl+1:=⟨ps.length-t-1,by omega⟩
   rw[hpl]at eS3;have ep:(ps.length:Int)-1+(t:Int) * -1=(pl:Int):=by omega
   have ep1:(pl:Int)-1=((pl-1:Nat):Int):=by omega
   have ep2:(pl:Int)-(1+(i:Int))=((pl-(i+1):Nat):Int):=by omega
   have hl:pl<ps.length:=by omega
   have ne:=dis pl (pl-(i+1)) hl (by omega) (by omega);have g1:mxR f ps i (pl+1) pl=rnd f ps i pl:=by unfold mxR;rw[if_neg (by omega)]
   have g2:mxR f ps i (pl+1) (pl-1)=rnd f ps i (pl-1):=by unfold mxR;rw[if_neg (by omega)]
   have b1:=bp _ (aW hl);have b2:=bp _ (aW (show pl-(i+1)<ps.length by omega))
   (iterate 3 (k_units;(try simp only[ep,ep1,ep2]));k_units)
   refine⟨_,SqL.of eS3,_,v5 (wQ hl),_,SqL.of eS3,_,v5 (wQ (show pl-1<ps.length by omega)),_,rfl,_,rfl,_,s3.seq hA,_,fg hl,_,s3.seq hA,_,fg (show pl-(i+1)<ps.length by omega),_,rfl,_,rfl,by omega,bV (b1.sub b2) (fo (by decide) (by decide)),_,eS3,pl,iA (by rw[lR];exact hl),(hPw _ _ _).mpr ⟨_,rfl,?_,s3.more nS⟩⟩;rw[ag,g1,g2,Ls (by omega) hl ne,map_set,show ps.length-(t+1)=pl by omega];have hs:=LN (m:=ps.length) (i:=pl) (g:=mxR f ps i (pl+1)) (h:=mxR f ps i pl) hl λj _ hj=>by
    unfold mxR;by_cases z:pl<=j
    ·rw[if_pos z,if_pos (by omega)]
    ·rw[if_neg z,if_neg (by omega)]
   rw[←hs];congr 3;unfold mxR;rw[if_pos (am _)]
  ·intro σ H3 hp;obtain⟨r,rfl,eS3,s3⟩:=(hPw _ _ _).mp hp;refine (hPv _ _ _).mpr ⟨_,_,rfl,?_,s3⟩;rw[eS3,D4 λj hj=>?_];unfold mxR;by_cases z:ps.length-(ps.length-1-i)<=j
   ·rw[if_pos z]
   ·rw[if_neg z,Lp (by omega)]
 intro σ H2 hp;obtain⟨r3,r4,rfl,eS2,s2⟩:=(hPv _ _ _).mp hp;clear hp hPv Pv eS u0;dsimp only[aB]
 k_typeOf
 refine⟨aI _,λR0 n0=>?_⟩;have v0:=ar n0 (.lst []);have e0':=ag (H:=H2) (a:=R0) (o:=.lst []);generalize L2.upd H2 R0 (.lst [])=H3 at v0 e0' ⊢;have lt:∀i (h:i<ps.length),(val ps[i] f).natAbs<=2 ^ 10000:=λi h=>bW (bv _ (aW h));dsimp only[aB]
 k_typeOf
 refine⟨_,.inl (SqL.of (v0 _ _ eS2)),by decide,by decide,?_⟩;rw[lR];refine⟨vY (by omega) (by omega) (by decide) (by decide),ps.length,vZ (by omega),?_⟩;obtain⟨Pv,hPv⟩:∃Pv:Nat->L2.St->Hp->Prop,∀t σ H',Pv t σ H'↔∃(r4:Option V) (R:Addr) (a:List Int),σ=[some (V.ref A),some (V.ref B),some (V.ref S),r3,r4,some (V.ref R)]∧H' R=some (.lst (a.map V.int))∧H R=none∧Nml a∧a.length<=t∧(∀x∈a,Bd (10100+60*t) x)∧(∀n,val n a=dd f (ps.take (ps.length-t)++[n]))∧Same H2 H':=⟨_,λ_ _ _=>Iff.rfl⟩
 refine o3 Pv ((hPv _ _ _).mpr ⟨r4,R0,[],rfl,e0',s2.free n0,b8,am _,λx hx=>by simp at hx,λn=>?_,v0⟩) ?_ ?_
 ·rw[DB (by rw[bU,bT];simp;omega)];rfl
 ·intro t σ H4 ht hp;obtain⟨r4,R,a,rfl,eR,nR,na,la,ba,va,s4⟩:=(hPv _ _ _).mp hp;obtain⟨pl,hpl⟩:∃pl,ps.length-t=pl+1:=⟨ps.length-t-1,by omega⟩
  have hl:pl<ps.length:=by omega
  have ep:(ps.length:Int)-1+(t:Int) * -1=(pl:Int):=by omega
  have hA4:=(s2.trans s4).seq hA;have eS4:=s4 _ _ eS2;have g1:rnd f ps ((ps.length:Int)-1).toNat pl=dd f (run ps 0 (pl+1)):=Lr (by omega);have b1:=bp _ (aW hl);have bc:Bd 10061 (dd f (run ps 0 (pl+1))):=by
   have h:=qA f dis lt pl 0 (by omega);refine cE h ?_;rw[←de];exact mr (by decide) (by omega)
  have st:∀n,dd f (ps.take pl++[n])=dd f (run ps 0 (pl+1))+(n-ps[pl])*dd f (ps.take (pl+1)++[n]):=λn=>by
   have e1:ps.take (pl+1)=ps.take pl++[ps[pl]]:=by rw[cM,ak hl];rfl
   have e2:run ps 0 (pl+1)=ps.take (pl+1):=by unfold run;rw[kr]
   rw[e2,e1];exact DE f (ps.take pl) ps[pl] n
  generalize dd f (run ps 0 (pl+1))=c at g1 bc st;rw[hpl]at va;have by2:∀y∈[-ps[pl],1],Bd 41 y:=λy hy=>by
   simp only[aO,gQ,or_false]at hy;rcases hy with rfl|rfl
   ·exact b1.neg.mono (by decide)
   ·exact Bd.one (by decide)
  have bm:∀k,Bd (10147+60*t) (co (dI a [-ps[pl],1]) k):=λk=>by
   rw[kX];exact (wM (c:=6) ba by2 (aE la (by omega)) k).mono (by omega)
  have bn:∀k,Bd (10100+60*(t+1)) (co (gI (dI a [-ps[pl],1]) [c]) k):=λk=>by
   rw[wO];refine ((bm k).add (dX (P:=λv=>Bd (10147+60*t) v) (λv hv=>?_) (Bd.zero _) k)).mono (by omega);rw[aP.mp hv];exact bc.mono (by omega)
  have lm:=wP a [-ps[pl],1] (by simp);have lmm:(dI a [-ps[pl],1]).length<=t+1:=by simp at lm;omega
  (iterate 3 (k_units;(try simp only[ep]));k_units)
  refine⟨_,hA4,_,fg hl,_,rfl,by decide,λq1 m1=>?_⟩;have w1:=ar m1 (.lst [V.int (-ps[pl]),V.int 1]);refine⟨R,q1,a,[-ps[pl],1],rfl,SqL.of (w1 _ _ eR),SqL.of ag,by omega,by simp,λx hx=>(ba x hx).mono (by omega),λy hy=>(by2 y hy).mono (by decide),λR1 H5 s5 nR1 eR1=>?_⟩;have s45:=w1.trans s5;refine⟨_,SqL.of (s45 _ _ eS4),_,v5 (wQ hl),by decide,λq2 m2=>?_⟩;rw[g1];have w2:=ar m2 (.lst [V.int c]);refine⟨R1,q2,dI a [-ps[pl],1],[c],rfl,SqL.of (w2 _ _ eR1),SqL.of ag,by omega,by simp,dY λk=>(bm k).mono (by omega),λy hy=>by rw[aP.mp hy];exact bc.mono (by decide),λR2 H6 s6 nR2 eR2=>?_⟩;have s46:=s45.trans (w2.trans s6);refine (hPv _ _ _).mpr ⟨_,R2,_,rfl,eR2,s2.free (s4.free (s45.free (w2.free nR2))),DY _ _,?_,dY bn,λn=>?_,s4.trans s46⟩
  ·have:=DZ (dI a [-ps[pl],1]) [c];simp at this;omega
  ·rw[DX,DW,va,show ps.length-(t+1)=pl by omega,st n];have e1:val n [-ps[pl],1]=n-ps[pl]:=by simp[val];omega
   have e2:val n [c]=c:=by simp[val]
   rw[e1,e2];generalize dd f (ps.take (pl+1)++[n])=d;grind
 intro σ H4 hp;obtain⟨r4,R,a,rfl,eR,nR,na,la,ba,va,s4⟩:=(hPv _ _ _).mp hp;have e:a=f:=dZ na nf λn=>by
  rw[va,fT,List.take_zero,gO,qz]
 rw[e]at eR
 k_units
 exact q R H4 (s2.trans s4) nR eR
theorem qD {X:Cx}{K:W.Frag}(hK:X.K=K):fD X (.type "list") (λxs H Q=>∃p ys,xs=[.ref p]∧(SqL K H p ys∨SqT K H p ys)∧∀l,H l=none->Q (.ref l) (upd H l (.lst ys))):=by subst hK;exact iy
theorem LQ {X:Cx}{K:W.Frag}(hK:X.K=K):fD X (.builtin "len") (λxs H Q=>∃p ys,xs=[.ref p]∧(SqL K H p ys∨SqT K H p ys)∧Q (.int (ys.length:Nat)) H):=by subst hK;exact aU
theorem jY {X:Cx}{K:W.Frag}(hK:X.K=K):IxR X (mS K):=by subst hK;exact a_
theorem D5 {X:Cx}{K:W.Frag}(hK:X.K=K):IxR X (vE K):=by subst hK;exact dS
structure LL (K:W.Frag)(H:Hp)(as:List Addr)(ps:List (List Int)):Prop where
 len:as.length=ps.length
 get:∀(i:Nat) (a:Addr) (p:List Int),as[i]?=some a->ps[i]?=some p->SqL K H a (p.map V.int)
theorem LL.same {K:W.Frag}{H H':Hp}{as:List Addr}{ps:List (List Int)}(h:LL K H as ps)(s:Same H H'):LL K H' as ps:=⟨h.len,λi a p h1 h2=>s.seq (h.get i a p h1 h2)⟩
theorem LL.nth {K:W.Frag}{H:Hp}{as:List Addr}{ps:List (List Int)}(h:LL K H as ps){i:Nat}{v:V}(hv:(as.map V.ref)[i]?=some v):∃a p,v=.ref a∧as[i]?=some a∧ps[i]?=some p∧SqL K H a (p.map V.int):=by
 rw[az]at hv;obtain⟨a,ha,rfl⟩:=b6.mp hv;have hi:=(aV.mp ha).1;have hp:i<ps.length:=by rw[←h.len];exact hi
 exact⟨a,ps[i],rfl,ha,ak hp,h.get i a _ ha (ak hp)⟩
def dL (p:List Int):PyData:=.list (p.map PyData.int)
theorem D6 {K:W.Frag}{H:Hp}:∀(as:List Addr) (ps:List (List Int)),LL K H as ps->DVs K H (as.map V.ref) (ps.map dL)
 | [],[],_=>.nil
 | a :: as,p :: ps,h=>.cons (DV.ints (h.get 0 a p rfl rfl)) (D6 as ps ⟨by have:=h.len;simpa using this,λi b r h1 h2=>h.get (i+1) b r (by simpa using h1) (by simpa using h2)⟩)
 | [],_ :: _,h=>by have:=h.len;simp at this
 | _ :: _,[],h=>by have:=h.len;simp at this
theorem qE {K:W.Frag}{H:Hp}{R:Addr}{as:List Addr}{ps:List (List Int)}(hR:SqL K H R (as.map V.ref))(h:LL K H as ps):DV K H (.ref R) (.list (ps.map dL)):=.lst hR (D6 as ps h)
theorem D7 (ps:List (List Int)):PyData.eqv (.list (ps.map dL)) (.list (ps.map dL))=true:=by
 have h:∀ps:List (List Int),PyData.eqvAll (ps.map dL) (ps.map dL)=true:=λps=>by
  induction ps with
  | nil=>rfl
  | cons p ps ih=>simp[PyData.eqvAll,PyData.eqv,vU,dL,ih]
 simp[PyData.eqv,h]
theorem qF (ps:List (List Int)):PyData.canLay0 (.list (ps.map dL))=true:=by
 have h:∀ps:List (List Int),PyData.canLayAll0 (ps.map dL)=true:=λps=>by
  induction ps with
  | nil=>rfl
  | cons p ps ih=>simp[PyData.canLayAll0,PyData.canLay0,vV,dL,ih]
 simp[PyData.canLay0,h]
theorem D8 (ps:List (List Int)):PyData.depth (.list (ps.map dL))<=64:=by
 have h:∀ps:List (List Int),PyData.depthAll (ps.map dL)<=1:=λps=>by
  induction ps with
  | nil=>exact aI _
  | cons p ps ih=>simp[PyData.depthAll,PyData.depth,vX,dL];omega
 have:=h ps;simp[PyData.depth];omega
def cu (row:List Int)(tb:List (List Int))(cs:List Nat):Nat->Int×List Int
 | 0=>(1,row)
 | i+1=>(co (tb.getD i []) (cs.getD i 0),i_ (λx y=>(co (tb.getD i []) (cs.getD i 0)*x-co (cu row tb cs i).2 (cs.getD i 0)*y).fdiv (cu row tb cs i).1) (cu row tb cs i).2 (tb.getD i []))
structure LowOk (row:List Int)(tb:List (List Int))(cs:List Nat):Prop where
 len:tb.length<=cs.length
 few:row.length<=60
 wid:∀b∈tb,b.length=row.length
 col:∀c∈cs,c<row.length
 bb:∀b∈tb,∀y∈b,Bd 4000 y
 ne:∀i,i<tb.length->(cu row tb cs i).1≠0∧Bd 4000 (cu row tb cs i).1
 br:∀i,i<tb.length->∀x∈(cu row tb cs i).2,Bd 4000 x
theorem kY {row:List Int}{tb:List (List Int)}{cs:List Nat}(h:LowOk row tb cs):∀i,i<=tb.length->(cu row tb cs i).2.length=row.length
 | 0,_=>rfl
 | i+1,hi=>by
  have ih:=kY h i (by omega);have hb:(tb.getD i []).length=row.length:=by
   rw[av,ak (by omega)];exact h.wid _ (aW _)
  show (i_ _ _ _).length=_;rw[mv,ih,hb,Nat.min_self]
theorem jZ {xs:List Int}{i:Nat}(h:i<xs.length):atI (xs.map V.int) (i:Int)=some (V.int (co xs i)):=by rw[fg h,ax h]
def LR (K:W.Frag):Sp:=λvs H Q _=>∃(R Tb Cl:Addr) (row:List Int) (ts:List Addr) (tb:List (List Int)) (cs:List Nat),vs=[.ref R,.ref Tb,.ref Cl]∧SqL K H R (row.map V.int)∧SqL K H Tb (ts.map V.ref)∧LL K H ts tb∧SqL K H Cl ((cs.map λc:Nat=>(c:Int)).map V.int)∧LowOk row tb cs∧
 ∀(R':Addr) (H':Hp),Same H H'->(R'=R∧tb=[]∨H R'=none∧H' R'=some (.lst ((cu row tb cs tb.length).2.map V.int)))->SqL K H' R' ((cu row tb cs tb.length).2.map V.int)->Q (.ref R') H'
theorem D9 {P:Program}{w:World}{K:W.Frag}{mg:Str->Option Value}{base:Heap}(T:Tx K mg):FnOk P w K mg base CX0 1 T.Qd T.Qe ["row","table","columns"] (LR K):=by
 refine T.Qf.ok sc_lowered (λvs H Q E h=>?_) (λcdv A outer s H vs Q E hr h=>?_)
 ·obtain⟨R,Tb,Cl,row,ts,tb,cs,rfl,_⟩:=h;rfl
 obtain⟨R,Tb,Cl,row,ts,tb,cs,rfl,hR,hT,hL,hC,ok,q⟩:=h;refine⟨_,((ai (au (i:=3) sc_lowered.nd rfl (Or.inr rfl) ah)
  (ai (bY PassesOwn.never rfl (jT rfl T.OM (aa (pv 1) (aa (pv 2) ac))) (gX rfl (dQ (a7 (i:=4) sc_lowered.nd rfl (Or.inl rfl)) (dQ (a7 (i:=5) sc_lowered.nd rfl (Or.inl rfl)) gW))) (ai (au (i:=6) sc_lowered.nd rfl (Or.inr rfl) (aH a_ (pv 4) (pv 5) (λ_ _=>rfl)))
  (ai (au (i:=7) sc_lowered.nd rfl (Or.inr rfl) (aH a_ (pv 0) (pv 5) (λ_ _=>rfl)))
  (ai (Dh (i:=0) rfl (C3 rfl (du rfl (du rfl (du rfl ck))) (wc 6 "pivot" rfl (Or.inl rfl) (Or.inl rfl) ⟨_,rfl⟩ (wc 7 "factor" rfl (Or.inl rfl) (Or.inl rfl) ⟨_,rfl⟩ (wc 3 "before" rfl (Or.inl rfl) (Or.inl rfl) ⟨_,rfl⟩ C2)))) (jT rfl T.OM (aa (pv 0) (aa (pv 4) ac))) (λ_ _ _ _=>(ao jm (ao cX (ao dw (pv 2) (pv 0)) (ao dw (pv 3) (pv 1))) (pv 4))) sc_lowered.nd rfl rfl)
  (aq (au (i:=3) sc_lowered.nd rfl (Or.inr rfl) (pv 6)))))))
  (aq (aF (pv 0)))))),?_⟩
 have lts:=hL.len
 k_units
 obtain⟨Pv,hPv⟩:∃Pv:Nat->L2.St->Hp->Prop,∀i σ H',Pv i σ H'↔∃(R':Addr) (r4 r5 r6 r7:Option V),σ=[some (V.ref R'),some (V.ref Tb),some (V.ref Cl),some (V.int (cu row tb cs i).1),r4,r5,r6,r7]∧(R'=R∧i=0∨H R'=none∧H' R'=some (.lst ((cu row tb cs i).2.map V.int)))∧SqL K H' R' ((cu row tb cs i).2.map V.int)∧Same H H':=⟨_,λ_ _ _=>Iff.rfl⟩
 refine⟨_,hT,_,hC,pK (xs:=ts.map V.ref) (ys:=(cs.map λc:Nat=>(c:Int)).map V.int) Pv ((hPv _ _ _).mpr ⟨R,none,none,none,none,rfl,.inl ⟨rfl,rfl⟩,hR,Same.refl _⟩) (λi σ H' _ _ z=>by obtain⟨_,_,_,_,_,_,_,_,z⟩:=(hPv i σ H').mp z;exact⟨z.seq hT,z.seq hC⟩) ?_ ?_⟩
 ·intro i v1 v2 p σ H1 e1 e2 hp np;obtain⟨R',r4,r5,r6,r7,rfl,dR,hR',s1⟩:=(hPv _ _ _).mp hp;rw[az]at e1;obtain⟨t,ht,rfl⟩:=b6.mp e1;have hi:i<tb.length:=by have:=(aV.mp ht).1;omega
  have hic:i<cs.length:=by have:=ok.len;omega
  rw[az,az,ak hic]at e2;obtain rfl:V.int (cs[i]:Int)=v2:=Option.some.inj e2;have hb:=hL.get i t _ ht (ak hi);have ll:=kY ok i (by omega);have lb:=ok.wid _ (aW hi);have lc:=ok.col _ (aW hic);have eb:tb.getD i []=tb[i]:=by rw[av,ak hi];rfl
  have ec:cs.getD i 0=cs[i]:=by rw[av,ak hic];rfl
  have st:cu row tb cs (i+1)=(co tb[i] cs[i],i_ (λx y=>(co tb[i] cs[i]*x-co (cu row tb cs i).2 cs[i]*y).fdiv (cu row tb cs i).1) (cu row tb cs i).2 tb[i]):=by rw[cu,eb,ec]
  obtain⟨n0,nb⟩:=ok.ne i hi;have br:=ok.br i hi;have bb:=ok.bb _ (aW hi);have u1:=ar np (.tup [V.ref t,V.int (cs[i]:Int)]);generalize cu row tb cs i=L at hR' ll st n0 nb br ⊢;obtain⟨bf,rw'⟩:=L;dsimp only at hR' ll st n0 nb br ⊢;generalize tb[i]=b at hb lb st bb;generalize cs[i]=c at e2 lc st u1 ⊢;have few:=ok.few;have s2:=s1.trans u1
  k_units
  refine⟨_,SqT.of ag,rfl,_,_,rfl,_,_,rfl,rfl,_,rfl,_,_,rfl,s2.seq hb,_,jZ (by omega),_,_,rfl,u1.seq hR',_,jZ (by omega),_,rfl,_,u1.seq hR',_,s2.seq hb,λD nD=>?_⟩;have hbx:=s2.seq hb;have hRx:=u1.seq hR';generalize L2.upd H1 p (.tup [V.ref t,V.int (c:Int)])=H2 at s2 u1 hbx hRx nD ⊢;have bpv:Bd 4000 (co b c):=dX (P:=λv=>Bd 4000 v) bb (Bd.zero _) c;have bfa:Bd 4000 (co rw' c):=dX (P:=λv=>Bd 4000 v) br (Bd.zero _) c;obtain⟨Pc,hPc⟩:∃Pc:Nat->Hp->Prop,∀j Hx,Pc j Hx↔Hx D=some (.lst (((i_ (λx y=>(co b c*x-co rw' c*y).fdiv bf) rw' b).take j).map V.int))∧Same H2 Hx:=⟨_,λ_ _=>Iff.rfl⟩
  refine C5 (xs:=rw'.map V.int) (ys:=b.map V.int) Pc ((hPc _ _).mpr ⟨ag,ar nD _⟩) (λi Hx _ _ y=>by obtain⟨_,y⟩:=(hPc i Hx).mp y;exact⟨y.seq hRx,y.seq hbx⟩) ?_ ?_
  ·intro j w1 w2 r Hx f1 f2 hc nr;obtain⟨k1,k2⟩:=(hPc _ _).mp hc;rw[az]at f1 f2;obtain⟨x,hx,rfl⟩:=b6.mp f1;obtain⟨y,hy,rfl⟩:=b6.mp f2;have u2:=ar nr (.tup [V.int x,V.int y]);have bx:=br x (bH hx);have by':=bb y (bH hy)
   (iterate 3 (k_units;(try simp only[ej,fB]));k_units)
   have hj:j<rw'.length:=(aV.mp hx).1;refine⟨bpv.fits bx (by decide),bfa.fits by' (by decide),n0,bV nb (fo (by decide) (by decide)),_,u2 _ _ k1,?_,(hPc _ _).mpr ⟨?_,(k2.trans u2).more nD⟩⟩
   ·rw[ae,bT];exact aX (by omega)
   ·have hz:(i_ (λx y=>(co b c*x-co rw' c*y).fdiv bf) rw' b)[j]?=some ((co b c*x-co rw' c*y).fdiv bf):=by
     rw[Og,hx,hy]
    rw[ag,cM,hz,aQ];rfl
  intro Hx hc;obtain⟨k1,k2⟩:=(hPc _ _).mp hc;rw[d_ (by rw[mv,ae,ae];exact am _)]at k1;refine (hPv _ _ _).mpr ?_;rw[st];exact⟨D,_,_,_,_,rfl,.inr ⟨s2.free nD,k1⟩,SqL.of k1,s2.trans k2⟩
 intro σ H1 hp;obtain⟨R',r4,r5,r6,r7,rfl,dR,hR',s1⟩:=(hPv _ _ _).mp hp;have hn:min (ts.map V.ref).length ((cs.map λc:Nat=>(c:Int)).map V.int).length=tb.length:=by
  have:=ok.len;simp;omega
 rw[hn]at hR' dR
 k_units
 refine q R' H1 s1 ?_ hR';rcases dR with ⟨z1,z2⟩|z
 ·exact .inl ⟨z1,bE z2⟩
 ·exact .inr z
def D_ (K:W.Frag):Sp:=λvs H Q _=>∃(a:Addr) (xs:List Int) (n:Int) (k l:Nat),vs=[.ref a,.int n]∧SqL K H a (xs.map V.int)∧xs.length<=64∧(∀x∈xs,Bd k x)∧Bd l n∧k+l*100<=60000000∧Q (.int (val n xs)) H
theorem qG (n:Int)(xs:List Int)(i:Nat)(h:i<xs.length):val n (xs.drop (xs.length-1-i))=val n (xs.drop (xs.length-i))*n+xs[xs.length-1-i]:=by
 rw[Gy (by omega),show xs.length-1-i+1=xs.length-i by omega];simp only[val];rw[cL];omega
theorem wR {P:Program}{w:World}{K:W.Frag}{mg:Str->Option Value}{base:Heap}(T:Tx K mg):FnOk P w K mg base CX0 1 T.Pq T.Pr ["poly","n"] (D_ K):=by
 refine T.OR.ok sc_poly_value (λvs H Q E h=>?_) (λcdv A outer s H vs Q E hr h=>?_)
 ·obtain⟨a,xs,n,k,l,rfl,_⟩:=h;rfl
 obtain⟨a,xs,n,k,l,rfl,hS,hl,hk,hb,hf,q⟩:=h;refine⟨_,((ai (au (i:=2) sc_poly_value.nd rfl (Or.inl rfl) ah)
  (ai (bY PassesOwn.never rfl (CP rfl T.R4 (aa (pv 0) ac)) (a7 (i:=3) sc_poly_value.nd rfl (Or.inl rfl)) (aq (au (i:=2) sc_poly_value.nd rfl (Or.inl rfl) (ao cG (ao dw (pv 2) (pv 1)) (pv 3)))))
  (aq (aF (pv 2)))))),?_⟩
 k_units
 refine⟨_,hS,?_⟩;obtain⟨Pv,hPv⟩:∃Pv:Nat->L2.St->Hp->Prop,∀i σ H',Pv i σ H'↔(∃r,σ=[some (V.ref a),some (V.int n),some (V.int (val n (xs.drop (xs.length-i)))),r])∧Bd (k+(l+1)*i) (val n (xs.drop (xs.length-i)))∧H'=H:=⟨_,λ_ _ _=>Iff.rfl⟩
 refine CQ Pv ((hPv _ _ _).mpr ⟨⟨none,by simp[val]⟩,by simp[val,Bd.zero],rfl⟩) (λi σ H' _ z=>by rw[((hPv i σ H').mp z).2.2];exact hS) ?_ ?_
 ·intro i v σ H' hi hv hp;obtain⟨⟨r,rfl⟩,hbd,rfl⟩:=(hPv _ _ _).mp hp;rw[ae]at hi hv;rw[az,ak (by omega)]at hv;obtain rfl:V.int xs[xs.length-1-i]=v:=Option.some.inj hv
  k_units
  have hx:Bd k xs[xs.length-1-i]:=hk _ (aW _);have e:xs.length-(i+1)=xs.length-1-i:=by omega
  have i64:(l+1)*i<=l*64+64:=by have:=dC (l+1) (by omega:i<=64);omega
  refine⟨hbd.fits hb (by omega),(hPv _ _ _).mpr ⟨⟨_,by rw[e,qG n xs i hi]⟩,?_,rfl⟩⟩;rw[e,qG n xs i hi];refine ((hbd.mul hb).add (hx.mono (by omega:k<=k+(l+1)*i+l))).mono ?_;rw[rE];omega
 ·intro σ H' hp;obtain⟨⟨r,rfl⟩,_,rfl⟩:=(hPv _ _ _).mp hp
  k_units
  rw[ae,fT,kr];exact q
def KB (a:Addr)(H H':Hp):Prop:=∀y o,y≠a->H y=some o->H' y=some o
theorem KB.on {a:Addr}{H H1 H2:Hp}(k:KB a H H1)(s:Same H1 H2):KB a H H2:=λy o n e=>s _ _ (k y o n e)
theorem KB.set {a:Addr}{H H1:Hp}{o:HO}(k:KB a H H1):KB a H (L2.upd H1 a o):=λy o n e=>by rw[aj n];exact k y o n e
theorem KB.of {a:Addr}{H H1:Hp}(s:Same H H1):KB a H H1:=λy o _ e=>s y o e
theorem KB.free {a p:Addr}{H H1:Hp}{o:HO}(k:KB a H H1)(h:H1 a=some o)(n:H1 p=none):H p=none∧p≠a:=by
 have d:p≠a:=λz=>by rw[z,h]at n;cases n
 refine⟨?_,d⟩
 cases e:H p with
 | none=>rfl
 | some u=>rw[k p u d e]at n;cases n
def iE (w:Int)(Kp Cl:Addr)(pl:Int)(Tb:Addr):List (Str×V):=[(Str.ofString "width",.int w),(Str.ofString "kept",.ref Kp),(Str.ofString "columns",.ref Cl),(Str.ofString "place",.int pl),(Str.ofString "tables",.ref Tb)]
def Ea (C:Addr):Sp:=λvs H Q _=>∃(x dx:Addr) (w:Int),vs=[.ref x,.int w]∧H x=some (.ins C dx [])∧
 ∀(Kp Cl Tb:Addr) (H':Hp),(∀y o,y≠x->H y=some o->H' y=some o)->H Kp=none->H Cl=none->H Tb=none->Kp≠Cl->Kp≠Tb->Cl≠Tb->H' x=some (.ins C dx (iE w Kp Cl 97 Tb))->H' Kp=some (.lst [])->H' Cl=some (.lst [])->H' Tb=some (.dK [])->Q .non H'
theorem Eb {P:Program}{w:World}{K:W.Frag}{mg:Str->Option Value}{base:Heap}(T:Tx K mg):FnOk P w K mg base CX0 1 T.QV T.QW ["self","width"] (Ea T.OD):=by
 refine T.SE.ok LC (λvs H Q E h=>?_) (λcdv A outer s H vs Q E hr h=>?_)
 ·obtain⟨x,dx,w,rfl,_⟩:=h;rfl
 obtain⟨x,dx,w,rfl,hx,q⟩:=h;refine⟨_,((ai (kI (pv 0) (pv 1) rfl)
  (ai (kI (pv 0) (bN ac) rfl)
  (ai (kI (pv 0) (bN ac) rfl)
  (ai (kI (pv 0) (mH (v:=.int 97) rfl T.Tf.2 ⟨_,rfl⟩) rfl)
  (aq (kI (pv 0) J4 rfl))))))),?_⟩
 have k0:KB x H H:=KB.of (Same.refl H);dsimp only[aB]
 k_typeOf
 refine⟨_,_,_,hx,T.OC,T.OJ,by decide,?_⟩;have k1:=k0.set (o:=.ins T.OD dx (aG (Str.ofString "width") (V.int w) []));have x1:=ag (H:=H) (a:=x) (o:=.ins T.OD dx (aG (Str.ofString "width") (V.int w) []));generalize L2.upd H x (.ins T.OD dx (aG (Str.ofString "width") (V.int w) []))=G1 at k1 x1 ⊢;dsimp only[aB]
 k_typeOf
 refine⟨by decide,λp1 n1=>?_⟩;have u1:=ar n1 (.lst []);obtain⟨m1,d1⟩:=k1.free x1 n1;refine⟨_,_,_,u1 _ _ x1,T.OC,T.OG,by show 1<1000;decide,?_⟩;have k2:=(k1.on u1).set (o:=.ins T.OD dx (aG (Str.ofString "kept") (V.ref p1) (aG (Str.ofString "width") (V.int w) [])));have x2:=ag (H:=L2.upd G1 p1 (.lst [])) (a:=x) (o:=.ins T.OD dx (aG (Str.ofString "kept") (V.ref p1) (aG (Str.ofString "width") (V.int w) [])));have e2:L2.upd (L2.upd G1 p1 (.lst [])) x (.ins T.OD dx (aG (Str.ofString "kept") (V.ref p1) (aG (Str.ofString "width") (V.int w) []))) p1=some (.lst []):=by rw[aj d1];exact ag
 generalize L2.upd (L2.upd G1 p1 (.lst [])) x (.ins T.OD dx (aG (Str.ofString "kept") (V.ref p1) (aG (Str.ofString "width") (V.int w) [])))=G2 at k2 x2 e2 ⊢;clear k1 x1 n1 u1;dsimp only[aB]
 k_typeOf
 refine⟨by decide,λp2 n2=>?_⟩;have u2:=ar n2 (.lst []);obtain⟨m2,d2⟩:=k2.free x2 n2;have n12:p1≠p2:=λz=>by rw[←z,e2]at n2;cases n2
 refine⟨_,_,_,u2 _ _ x2,T.OC,T.OI,by show 2<1000;decide,?_⟩;have k3:=(k2.on u2).set (o:=.ins T.OD dx (aG (Str.ofString "columns") (V.ref p2) (aG (Str.ofString "kept") (V.ref p1) (aG (Str.ofString "width") (V.int w) []))));have x3:=ag (H:=L2.upd G2 p2 (.lst [])) (a:=x) (o:=.ins T.OD dx (aG (Str.ofString "columns") (V.ref p2) (aG (Str.ofString "kept") (V.ref p1) (aG (Str.ofString "width") (V.int w) []))));have e3:L2.upd (L2.upd G2 p2 (.lst [])) x (.ins T.OD dx (aG (Str.ofString "columns") (V.ref p2) (aG (Str.ofString "kept") (V.ref p1) (aG (Str.ofString "width") (V.int w) [])))) p1=some (.lst []):=by rw[aj d1];exact u2 _ _ e2
 have f3:L2.upd (L2.upd G2 p2 (.lst [])) x (.ins T.OD dx (aG (Str.ofString "columns") (V.ref p2) (aG (Str.ofString "kept") (V.ref p1) (aG (Str.ofString "width") (V.int w) [])))) p2=some (.lst []):=by rw[aj d2];exact ag
 generalize L2.upd (L2.upd G2 p2 (.lst [])) x (.ins T.OD dx (aG (Str.ofString "columns") (V.ref p2) (aG (Str.ofString "kept") (V.ref p1) (aG (Str.ofString "width") (V.int w) []))))=G3 at k3 x3 e3 f3 ⊢;clear k2 x2 n2 u2 e2;dsimp only[aB]
 k_typeOf
 refine⟨_,_,_,x3,T.OC,T.OP,by show 3<1000;decide,?_⟩;have k4:=k3.set (o:=.ins T.OD dx (aG (Str.ofString "place") (V.int 97) (aG (Str.ofString "columns") (V.ref p2) (aG (Str.ofString "kept") (V.ref p1) (aG (Str.ofString "width") (V.int w) [])))));have x4:=ag (H:=G3) (a:=x) (o:=.ins T.OD dx (aG (Str.ofString "place") (V.int 97) (aG (Str.ofString "columns") (V.ref p2) (aG (Str.ofString "kept") (V.ref p1) (aG (Str.ofString "width") (V.int w) [])))));have e4:=(aj (H:=G3) (o:=.ins T.OD dx (aG (Str.ofString "place") (V.int 97) (aG (Str.ofString "columns") (V.ref p2) (aG (Str.ofString "kept") (V.ref p1) (aG (Str.ofString "width") (V.int w) []))))) d1).trans e3;have f4:=(aj (H:=G3) (o:=.ins T.OD dx (aG (Str.ofString "place") (V.int 97) (aG (Str.ofString "columns") (V.ref p2) (aG (Str.ofString "kept") (V.ref p1) (aG (Str.ofString "width") (V.int w) []))))) d2).trans f3;generalize L2.upd G3 x (.ins T.OD dx (aG (Str.ofString "place") (V.int 97) (aG (Str.ofString "columns") (V.ref p2) (aG (Str.ofString "kept") (V.ref p1) (aG (Str.ofString "width") (V.int w) [])))))=G4 at k4 x4 e4 f4 ⊢
 k_units
 intro p5 n5;have u5:=ar n5 (.dK []);obtain⟨m5,d5⟩:=k4.free x4 n5;have n15:p1≠p5:=λz=>by rw[←z,e4]at n5;cases n5
 have n25:p2≠p5:=λz=>by rw[←z,f4]at n5;cases n5
 refine⟨_,_,_,u5 _ _ x4,T.OC,T.R3,by show 4<1000;decide,?_⟩;refine q p1 p2 p5 _ (k4.on u5).set m1 m2 m5 n12 n15 n25 ?_ (by rw[aj d1];exact u5 _ _ e4) (by rw[aj d2];exact u5 _ _ f4) (by rw[aj d5];exact ag);rw[ag];rfl
def bD (w:Nat)(vec:List (List Int))(num:Nat)(pl:Int):List Int:=vec.map (val pl)++(a8 (w+1)).map λo=>if o=num then 1 else 0
def LS (K:W.Frag)(C:Addr):Sp:=λvs H Q _=>∃(x dx Kp Cl Tb Vc:Addr) (pc:Int) (w num:Nat) (pl:Int) (as:List Addr) (vec:List (List Int)),vs=[.ref x,.ref Vc,.int (num:Int),.int pl]∧H x=some (.ins C dx (iE w Kp Cl pc Tb))∧SqL K H Vc (as.map V.ref)∧LL K H as vec∧w<=20∧vec.length<=20∧Bd 40 pl∧(∀p∈vec,p.length<=60∧∀c∈p,Bd 1000 c)∧dH H Q ((bD w vec num pl).map V.int)
theorem Ec {P:Program}{w:World}{K:W.Frag}{mg:Str->Option Value}{base:Heap}(T:Tx K mg):FnOk P w K mg base CX0 2 T.QX T.QY ["self","vector","number","place"] (LS K T.OD):=by
 refine T.SF.ok sc_Span_row_at (λvs H Q E h=>?_) (λcdv A outer s H vs Q E hr h=>?_)
 ·obtain⟨x,dx,Kp,Cl,Tb,Vc,pc,w,num,pl,as,vec,rfl,_⟩:=h;rfl
 obtain⟨x,dx,Kp,Cl,Tb,Vc,pc,w,num,pl,as,vec,rfl,hx,hV,hL,w20,l20,bpl,bv,q⟩:=h;refine⟨_,((ai (jL (i:=4) rfl (dg rfl (du rfl ck) (d9 2 "number" (by decide) rfl (Or.inl rfl) (Or.inl rfl) ⟨_,rfl⟩ cJ)) (fW rfl T.OE (aa (ao cG (cH (pv 0) rfl) ah) ac)) (λ_ _ _ _=>(BA (aM fE (pv 0) (pv 1) (aL _)) ah ah)) sc_Span_row_at.nd rfl rfl)
  (aq (aF (ao iQ (ff rfl (dg rfl (du rfl ck) (d9 3 "place" (by decide) rfl (Or.inl rfl) (Or.inl rfl) ⟨_,rfl⟩ cJ)) (cc (pv 1)) (λ_ _ _ _=>(aN (FnOk.mono (wR T) (by decide)) hr rfl T.Ps T.OR.kp T.Pt .nil aD (aa (pv 0) (aa (pv 1) ac))))) (pv 4)))))),?_⟩
 have lv:=hL.len;dsimp only[aB]
 k_typeOf
 refine⟨_,_,_,hx,T.OC,T.OJ,_,rfl,_,rfl,by omega,by omega,λD nD=>?_⟩;rw[show ((w:Int)+1).toNat=w+1 by omega];obtain⟨Pc,hPc⟩:∃Pc:Nat->Hp->Prop,∀j Hx,Pc j Hx↔Hx D=some (.lst (((a8 j).map λo:Nat=>if o=num then (1:Int) else 0).map V.int))∧Same H Hx:=⟨_,λ_ _=>Iff.rfl⟩
 refine CM Pc ((hPc _ _).mpr ⟨ag,ar nD _⟩) ?_ ?_
 ·intro j Hx hj hc;obtain⟨k1,k2⟩:=(hPc _ _).mp hc;have e0:(0:Int)+(j:Int)=(j:Int):=fq _;have nx:∀v:Int,v=(if j=num then (1:Int) else 0)->∃ys,Hx D=some (.lst ys)∧ys.length<sizeLine∧Pc (j+1) (L2.upd Hx D (.lst (ys++[V.int v]))):=λv hv=>by
   refine⟨_,k1,by rw[ae,ae,ik];exact aX (by omega),(hPc _ _).mpr ⟨?_,k2.more nD⟩⟩;rw[ag,kz,aQ,aQ,hv];rfl
  (iterate 3 (k_units;(try simp only[bst,e0,fB]));k_units)
  refine bJ (λz=>nx 1 (by rw[if_pos (by omega)])) (λz=>nx 0 (by rw[if_neg (by omega)]))
 intro H1 hc;obtain⟨eD,s1⟩:=(hPc _ _).mp hc;clear hc hPc Pc;refine⟨⟨_,s1.seq hV⟩,λD2 nD2=>?_⟩;obtain⟨Pc,hPc⟩:∃Pc:Nat->Hp->Prop,∀j Hx,Pc j Hx↔Hx D2=some (.lst (((vec.map (val pl)).take j).map V.int))∧Same H1 Hx:=⟨_,λ_ _=>Iff.rfl⟩
 refine eJ (xs:=as.map V.ref) Pc ((hPc _ _).mpr ⟨ag,ar nD2 _⟩) (λi Hx _ y=>by obtain⟨_,y⟩:=(hPc i Hx).mp y;exact (s1.trans y).seq hV) ?_ ?_
 ·intro j v Hx hv hc;obtain⟨k1,k2⟩:=(hPc _ _).mp hc;obtain⟨a,p,rfl,ha,hp,sq⟩:=hL.nth hv;have hj:j<vec.length:=(aV.mp hp).1;obtain⟨b1,b2⟩:=bv p (bH hp)
  (iterate 3 (k_units;(try simp only[bst,fB]));k_units)
  refine⟨a,p,pl,1000,40,rfl,(s1.trans k2).seq sq,by omega,b2,bpl,by decide,_,k1,?_,(hPc _ _).mpr ⟨?_,k2.more nD2⟩⟩
  ·rw[ae,bT];exact aX (by omega)
  ·rw[ag,cM,az,hp,aQ];rfl
 intro H2 hc;obtain⟨eD2,s2⟩:=(hPc _ _).mp hc;rw[ae,lv,d_ (by rw[ae];exact am _)]at eD2;refine⟨D2,rfl,D,rfl,_,eD2,_,s2 _ _ eD,?_,λr nr=>?_⟩
 ·rw[ae,ae,ae,ae,ik];exact bW (aX (by omega))
 ·refine q r _ ((s1.trans s2).trans (ar nr _)) ((s1.trans s2).free nr) ?_;rw[ag];unfold bD;rw[aQ]
def dgL (p:List Int):Int:=((p.length-1:Nat):Int)
def h8 (ps:List (List Int))(M:Int):Prop:=(ps.map dgL=[]∧M=0)∨(M∈ps.map dgL∧∀a∈ps.map dgL,a<=M)
def LU (K:W.Frag):Sp:=λvs H Q _=>∃(A:Addr) (as:List Addr) (ps:List (List Int)),vs=[.ref A]∧SqL K H A (as.map V.ref)∧LL K H as ps∧ps.length<=60∧∀M H',Same H H'->h8 ps M->Q (.int M) H'
theorem Ed {P:Program}{w:World}{K:W.Frag}{mg:Str->Option Value}{base:Heap}(T:Tx K mg):FnOk P w K mg base CX0 1 T.Qi T.Qj ["polys"] (LU K):=by
 refine T.Qk.ok LA (λvs H Q E h=>?_) (λcdv A outer s H vs Q E hr h=>?_)
 ·obtain⟨A,as,ps,rfl,_⟩:=h;rfl
 obtain⟨A,as,ps,rfl,hA,hL,l60,q⟩:=h;refine⟨_,((aq (aF (Kr rfl rfl T.OH (aa (ff rfl (dg rfl ck cJ) (cc (pv 0)) (λ_ _ _ _=>(aA (jh rfl) rfl T.OH iz (aa (ao cX (aA (LQ (K:=K) rfl) rfl T.OB aS (aa (pv 0) ac)) ah) (aa ah ac))))) ac) (Jg ah Jf))))),?_⟩;have lv:=hL.len
 k_units
 refine⟨⟨_,hA⟩,λD nD=>?_⟩;obtain⟨Pc,hPc⟩:∃Pc:Nat->Hp->Prop,∀j Hx,Pc j Hx↔Hx D=some (.lst (((ps.map dgL).take j).map V.int))∧Same H Hx:=⟨_,λ_ _=>Iff.rfl⟩
 refine eJ (xs:=as.map V.ref) Pc ((hPc _ _).mpr ⟨ag,ar nD _⟩) (λi Hx _ y=>by obtain⟨_,y⟩:=(hPc i Hx).mp y;exact y.seq hA) ?_ ?_
 ·intro j v Hx hv hc;obtain⟨k1,k2⟩:=(hPc _ _).mp hc;obtain⟨a,p,rfl,ha,hp,sq⟩:=hL.nth hv;have hj:j<ps.length:=(aV.mp hp).1
  (iterate 3 (k_units;(try simp only[bst,fB]));k_units)
  refine⟨_,.inl (k2.seq sq),?_⟩;have e:(if 0 > ((p.map V.int).length:Int)-1 then 0 else ((p.map V.int).length:Int)-1)=dgL p:=by unfold dgL;rw[ae];split <;> omega
  try rw[e]
  refine⟨_,k1,?_,(hPc _ _).mpr ⟨?_,k2.more nD⟩⟩
  ·rw[ae,bT];exact aX (by omega)
  ·rw[ag,cM,az,hp,aQ];rfl
 intro H1 hc;obtain⟨eD,s1⟩:=(hPc _ _).mp hc;rw[ae,lv,d_ (by rw[ae];exact am _)]at eD;exact⟨D,rfl,_,SqL.of eD,λM hM=>q M H1 s1 hM⟩
theorem qH {X:Cx}{K:W.Frag}{tg l:Expr}{tl:TE}(hK:X.K=K)(hl:PE X l tl):PI X tg l (vi K tl):=by subst hK;exact cc hl
structure VL (K:W.Frag)(H:Hp)(vs:List Addr)(qs:List (List (List Int))):Prop where
 len:vs.length=qs.length
 get:∀(i:Nat) (v:Addr) (q:List (List Int)),vs[i]?=some v->qs[i]?=some q->∃as,SqL K H v (as.map V.ref)∧LL K H as q
theorem VL.same {K:W.Frag}{H H':Hp}{vs:List Addr}{qs:List (List (List Int))}(h:VL K H vs qs)(s:Same H H'):VL K H' vs qs:=⟨h.len,λi v q e1 e2=>by
 obtain⟨as,h1,h2⟩:=h.get i v q e1 e2;exact⟨as,s.seq h1,h2.same s⟩⟩
def h_ (q:List (List Int))(cs:List Nat):List (List Int):=cs.map λc=>q.getD c []
def ia (qs:List (List (List Int)))(c:Nat):List (List Int):=qs.map λq=>q.getD c []
theorem jt {α β:Type}{Φ:α->β->Prop}{rs:List α}{L:List β}{r:α}(h:∀(t:Nat) (r:α) (p:β),rs[t]?=some r->L[t]?=some p->Φ r p)(hr:∀p,L[rs.length]?=some p->Φ r p):∀(t:Nat) (r':α) (p:β),(rs++[r])[t]?=some r'->L[t]?=some p->Φ r' p:=λt r' p e1 e2=>by
 by_cases hi:t<rs.length
 ·rw[b_ hi]at e1;exact h t r' p e1 e2
 ·rw[di (by omega)]at e1;have:t-rs.length=0:=by have:=(aV.mp e1).1;simp at this;omega
  rw[this]at e1;have ht:t=rs.length:=by omega
  cases Option.some.inj e1
  rw[ht]at e2;exact hr p e2
theorem qI {α:Type}{xs:List α}{i:Nat}{d:α}(h:i<xs.length):xs[i]?=some (xs.getD i d):=by
 rw[av,ak h];rfl
def LV (K:W.Frag):Sp:=λvs H Q _=>∃(A B:Addr) (us:List Addr) (qs:List (List (List Int))) (cs:List Nat),vs=[.ref A,.ref B]∧SqL K H A (us.map V.ref)∧VL K H us qs∧SqL K H B ((cs.map λc:Nat=>(c:Int)).map V.int)∧qs≠[]∧qs.length<=20∧cs.length<=20∧(∀q∈qs,∀c∈cs,c<q.length)∧
 ∀(bv bc:List Int) (m N:Int) (H':Hp),Same H H'->bv.length=qs.length->bc.length=cs.length->(∀(i:Nat) (b:Int) (q:List (List Int)),bv[i]?=some b->qs[i]?=some q->h8 (h_ q cs) b)->(∀(i:Nat) (b:Int) (c:Nat),bc[i]?=some b->cs[i]?=some c->h8 (ia qs c) b)->m∈bv->(∀b∈bv,m<=b)->N=(if bc.sum<bv.sum-m then bc.sum else bv.sum-m)->Q (.int N) H'
theorem LW {P:Program}{w:World}{K:W.Frag}{mg:Str->Option Value}{base:Heap}(T:Tx K mg):FnOk P w K mg base CX0 2 T.Ql T.Qm ["vectors","columns"] (LV K):=by
 refine T.RA.ok sc_degree_bound (λvs H Q E h=>?_) (λcdv A outer s H vs Q E hr h=>?_)
 ·obtain⟨A,B,us,qs,cs,rfl,_⟩:=h;rfl
 obtain⟨A,B,us,qs,cs,rfl,hA,hV,hB,q0,l20,c20,hw,q⟩:=h;refine⟨_,((ai (Df (i:=2) rfl (qf rfl (du rfl ck) (d9 1 "columns" (by decide) rfl (Or.inl rfl) (Or.inl rfl) ⟨_,rfl⟩ cJ)) (cc (pv 0)) (λ_ _ _ _=>(aN (FnOk.mono (Ed T) (by decide)) hr rfl T.Ry T.Qk.kp T.Rz .nil aD (aa (ff rfl (dg rfl (du rfl ck) (d9 0 "vector" (by decide) rfl (Or.inl rfl) (Or.inl rfl) ⟨_,rfl⟩ cJ)) (qH (K:=K) rfl (pv 1)) (λ_ _ _ _=>(aH (jY (K:=K) rfl) (pv 1) (pv 0) (λ_ _=>rfl)))) ac))) sc_degree_bound.nd rfl rfl)
  (ai (Df (i:=3) rfl (qf rfl (du rfl ck) (d9 0 "vectors" (by decide) rfl (Or.inl rfl) (Or.inl rfl) ⟨_,rfl⟩ cJ)) (cc (pv 1)) (λ_ _ _ _=>(aN (FnOk.mono (Ed T) (by decide)) hr rfl T.Ry T.Qk.kp T.Rz .nil aD (aa (ff rfl (dg rfl (du rfl ck) (d9 0 "column" (by decide) rfl (Or.inl rfl) (Or.inl rfl) ⟨_,rfl⟩ cJ)) (qH (K:=K) rfl (pv 1)) (λ_ _ _ _=>(aH (jY (K:=K) rfl) (pv 0) (pv 1) (λ_ _=>rfl)))) ac))) sc_degree_bound.nd rfl rfl)
  (aq (aF (aA (B2 rfl) rfl T.Re vQ (aa (ao cX (aA (C6 rfl) rfl T.R6 boot_sum (aa (pv 2) ac)) (aA (Ke rfl) rfl T.Re vQ (aa (pv 2) ac))) (aa (aA (C6 rfl) rfl T.R6 boot_sum (aa (pv 3) ac)) ac)))))))),?_⟩
 have lu:=hV.len;dsimp only[aB]
 k_typeOf
 refine⟨⟨_,hA⟩,λD nD=>?_⟩;obtain⟨Pc,hPc⟩:∃Pc:Nat->Hp->Prop,∀j Hx,Pc j Hx↔∃bv:List Int,Hx D=some (.lst (bv.map V.int))∧bv.length=j∧(∀(i:Nat) (b:Int) (q:List (List Int)),bv[i]?=some b->qs[i]?=some q->h8 (h_ q cs) b)∧Same H Hx:=⟨_,λ_ _=>Iff.rfl⟩
 refine eJ (xs:=us.map V.ref) Pc ((hPc _ _).mpr ⟨[],ag,rfl,λi b q e=>by simp at e,ar nD _⟩) (λi Hx _ y=>by obtain⟨_,_,_,_,y⟩:=(hPc i Hx).mp y;exact y.seq hA) ?_ ?_
 ·intro j v Hx hv hc;obtain⟨bv,k1,k2,k3,k4⟩:=(hPc _ _).mp hc;rw[az]at hv;obtain⟨u,hu,rfl⟩:=b6.mp hv;have hj:j<qs.length:=by have:=(aV.mp hu).1;omega
  have hqj:qs[j]?=some qs[j]:=ak hj;obtain⟨as,sA,lA⟩:=hV.get j u _ hu hqj;have hwq:=hw _ (aW hj)
  (iterate 3 (k_units;(try simp only[bst,fB]));k_units)
  generalize qs[j]=qv at lA hwq hqj;refine⟨⟨_,k4.seq hB⟩,λD1 nD1=>?_⟩;obtain⟨Pi,hPi⟩:∃Pi:Nat->Hp->Prop,∀i Hy,Pi i Hy↔∃rs:List Addr,Hy D1=some (.lst (rs.map V.ref))∧rs.length=i∧(∀(t:Nat) (r:Addr) (p:List Int),rs[t]?=some r->(h_ qv cs)[t]?=some p->SqL K H r (p.map V.int))∧Same Hx Hy:=⟨_,λ_ _=>Iff.rfl⟩
  refine eJ (xs:=(cs.map λc:Nat=>(c:Int)).map V.int) Pi ((hPi _ _).mpr ⟨[],ag,rfl,λt r p e=>by simp at e,ar nD1 _⟩) (λi Hy _ y=>by obtain⟨_,_,_,_,y⟩:=(hPi i Hy).mp y;exact (k4.trans y).seq hB) ?_ ?_
  ·intro i v Hy hv2 hi;obtain⟨rs,m1,m2,m3,m4⟩:=(hPi _ _).mp hi;rw[az,az]at hv2;obtain⟨z,hz,rfl⟩:=b6.mp hv2;obtain⟨c,hc',rfl⟩:=b6.mp hz;have hcl:=hwq c (bH hc');have hca:c<as.length:=by have:=lA.len;omega
   have hic:i<cs.length:=(aV.mp hc').1
   (iterate 3 (k_units;(try simp only[bst,fB]));k_units)
   refine⟨_,(k4.trans m4).seq sA,V.ref as[c],eI (by rw[az,ak hca];rfl),_,m1,by rw[ae];exact aX (by omega),(hPi _ _).mpr ⟨rs++[as[c]],by rw[ag,aQ];rfl,by simp[m2],jt m3 λp hp=>?_,m4.more nD1⟩⟩;rw[m2]at hp;unfold h_ at hp;rw[az,hc']at hp;obtain rfl:=Option.some.inj hp;exact lA.get c _ _ (ak hca) (qI hcl)
  intro Hy hi;obtain⟨rs,m1,m2,m3,m4⟩:=(hPi _ _).mp hi;rw[ae,ae]at m2;have hR:LL K Hy rs (h_ qv cs):=⟨by unfold h_;rw[ae];exact m2,λt r p e1 e2=>(k4.trans m4).seq (m3 t r p e1 e2)⟩
  refine⟨D1,rs,_,rfl,SqL.of m1,hR,by unfold h_;rw[ae];omega,λM H2 s2 hM=>⟨_,s2 _ _ (m4 _ _ k1),by rw[ae];exact aX (by omega),(hPc _ _).mpr ⟨bv++[M],by rw[ag,aQ];rfl,by simp[k2],?_,(k4.trans (m4.trans s2)).more nD⟩⟩⟩;refine jt (Φ:=λb q=>h8 (h_ q cs) b) k3 λq hq=>?_;rw[k2,hqj]at hq;obtain rfl:=Option.some.inj hq;exact hM
 intro H1 hc;obtain⟨bv,k1,k2,k3,k4⟩:=(hPc _ _).mp hc;rw[ae,lu]at k2;clear hc hPc Pc;dsimp only[aB]
 k_typeOf
 refine⟨⟨_,k4.seq hB⟩,λD2 nD2=>?_⟩;obtain⟨Pc,hPc⟩:∃Pc:Nat->Hp->Prop,∀j Hx,Pc j Hx↔∃bc:List Int,Hx D2=some (.lst (bc.map V.int))∧bc.length=j∧(∀(i:Nat) (b:Int) (c:Nat),bc[i]?=some b->cs[i]?=some c->h8 (ia qs c) b)∧Same H1 Hx:=⟨_,λ_ _=>Iff.rfl⟩
 refine eJ (xs:=(cs.map λc:Nat=>(c:Int)).map V.int) Pc ((hPc _ _).mpr ⟨[],ag,rfl,λi b q e=>by simp at e,ar nD2 _⟩) (λi Hx _ y=>by obtain⟨_,_,_,_,y⟩:=(hPc i Hx).mp y;exact (k4.trans y).seq hB) ?_ ?_
 ·intro j v Hx hv hc;obtain⟨bc,c1,c2,c3,c4⟩:=(hPc _ _).mp hc;rw[az,az]at hv;obtain⟨z,hz,rfl⟩:=b6.mp hv;obtain⟨c,hc',rfl⟩:=b6.mp hz;have hj:j<cs.length:=(aV.mp hc').1;have s1x:=k4.trans c4
  (iterate 3 (k_units;(try simp only[bst,fB]));k_units)
  refine⟨⟨_,s1x.seq hA⟩,λD1 nD1=>?_⟩;obtain⟨Pi,hPi⟩:∃Pi:Nat->Hp->Prop,∀i Hy,Pi i Hy↔∃rs:List Addr,Hy D1=some (.lst (rs.map V.ref))∧rs.length=i∧(∀(t:Nat) (r:Addr) (p:List Int),rs[t]?=some r->(ia qs c)[t]?=some p->SqL K H r (p.map V.int))∧Same Hx Hy:=⟨_,λ_ _=>Iff.rfl⟩
  refine eJ (xs:=us.map V.ref) Pi ((hPi _ _).mpr ⟨[],ag,rfl,λt r p e=>by simp at e,ar nD1 _⟩) (λi Hy _ y=>by obtain⟨_,_,_,_,y⟩:=(hPi i Hy).mp y;exact (s1x.trans y).seq hA) ?_ ?_
  ·intro i v Hy hv2 hi;obtain⟨rs,m1,m2,m3,m4⟩:=(hPi _ _).mp hi;rw[az]at hv2;obtain⟨u,hu,rfl⟩:=b6.mp hv2;have hiq:i<qs.length:=by have:=(aV.mp hu).1;omega
   have hqi:qs[i]?=some qs[i]:=ak hiq;obtain⟨as,sA,lA⟩:=hV.get i u _ hu hqi;have hcl:=hw _ (aW hiq) c (bH hc');generalize qs[i]=qv at lA hcl hqi;have hca:c<as.length:=by have:=lA.len;omega
   (iterate 3 (k_units;(try simp only[bst,fB]));k_units)
   refine⟨_,(s1x.trans m4).seq sA,V.ref as[c],eI (by rw[az,ak hca];rfl),_,m1,by rw[ae];exact aX (by omega),(hPi _ _).mpr ⟨rs++[as[c]],by rw[ag,aQ];rfl,by simp[m2],jt m3 λp hp=>?_,m4.more nD1⟩⟩;rw[m2]at hp;unfold ia at hp;rw[az,hqi]at hp;obtain rfl:=Option.some.inj hp;exact lA.get c _ _ (ak hca) (qI hcl)
  intro Hy hi;obtain⟨rs,m1,m2,m3,m4⟩:=(hPi _ _).mp hi;rw[ae,lu]at m2;have hR:LL K Hy rs (ia qs c):=⟨by unfold ia;rw[ae];exact m2,λt r p e1 e2=>(s1x.trans m4).seq (m3 t r p e1 e2)⟩
  refine⟨D1,rs,_,rfl,SqL.of m1,hR,by unfold ia;rw[ae];omega,λM H2 s2 hM=>⟨_,s2 _ _ (m4 _ _ c1),by rw[ae];exact aX (by omega),(hPc _ _).mpr ⟨bc++[M],by rw[ag,aQ];rfl,by simp[c2],?_,(c4.trans (m4.trans s2)).more nD2⟩⟩⟩;refine jt (Φ:=λb c=>h8 (ia qs c) b) c3 λc'' hq=>?_;rw[c2,hc']at hq;obtain rfl:=Option.some.inj hq;exact hM
 intro H2 hc;obtain⟨bc,c1,c2,c3,c4⟩:=(hPc _ _).mp hc;rw[ae,ae]at c2;have bv0:bv≠[]:=λz=>by rw[z]at k2;exact q0 (bE k2.symm)
 k_units
 exact⟨bv,SqL.of (c4 _ _ k1),bv,SqL.of (c4 _ _ k1),bv0,λm hm hle=>⟨bc,SqL.of c1,q bv bc m _ H2 (k4.trans c4) k2 c2 k3 c3 hm hle rfl⟩⟩
structure LH (H:Hp)(as:List Addr)(ps:List (List Int)):Prop where
 len:as.length=ps.length
 get:∀(i:Nat) (a:Addr) (p:List Int),as[i]?=some a->ps[i]?=some p->H a=some (.lst (p.map V.int))
theorem LH.ll {K:W.Frag}{H:Hp}{as:List Addr}{ps:List (List Int)}(h:LH H as ps):LL K H as ps:=⟨h.len,λi a p h1 h2=>SqL.of (h.get i a p h1 h2)⟩
theorem LH.same {H H':Hp}{as:List Addr}{ps:List (List Int)}(h:LH H as ps)(s:Same H H'):LH H' as ps:=⟨h.len,λi a p h1 h2=>s _ _ (h.get i a p h1 h2)⟩
theorem LH.nil (H:Hp):LH H [] []:=⟨rfl,λi a p h1 _=>by simp at h1⟩
theorem LH.snoc {H:Hp}{as:List Addr}{ps:List (List Int)}{a:Addr}{p:List Int}(h:LH H as ps)(e:H a=some (.lst (p.map V.int))):LH H (as++[a]) (ps++[p]):=by
 refine⟨by simp[h.len],λi b r h1 h2=>?_⟩;by_cases z:i<as.length
 ·rw[b_ z]at h1;rw[b_ (by rw[←h.len];exact z)]at h2;exact h.get i b r h1 h2
 ·rw[di (by omega)]at h1;rw[di (by rw[←h.len];omega),←h.len]at h2;have z2:i-as.length=0:=by
   rcases Nat.eq_zero_or_pos (i-as.length) with y|y
   ·exact y
   ·rw[rh (by simp;omega)]at h1;cases h1
  rw[z2]at h1 h2;simp at h1 h2;rw[←h1,←h2];exact e
theorem LH.set {H:Hp}{as:List Addr}{ps:List (List Int)}{a:Addr}{p:List Int}(h:LH H as ps)(e:H a=some (.lst (p.map V.int)))(i:Nat):LH H (as.set i a) (ps.set i p):=by
 refine⟨by simp[h.len],λj b r h1 h2=>?_⟩;by_cases z:i=j
 ·subst z;have l1:i<as.length:=by have:=(aV.mp h1).1;simpa using this
  rw[qZ l1]at h1;rw[qZ (by rw[←h.len];exact l1)]at h2;rw[←Option.some.inj h1,←Option.some.inj h2];exact e
 ·rw[lK z]at h1 h2;exact h.get j b r h1 h2
theorem LH.upd {H:Hp}{as:List Addr}{ps:List (List Int)}{b:Addr}{o:HO}(h:LH H as ps)(n:b∉as):LH (L2.upd H b o) as ps:=⟨h.len,λi a p h1 h2=>by
 rw[aj (λz=>n (by rw[←z];exact bH h1))];exact h.get i a p h1 h2⟩
theorem LH.mem {H:Hp}{as:List Addr}{ps:List (List Int)}(h:LH H as ps){a:Addr}(ha:a∈as):∃p:List Int,H a=some (.lst (p.map V.int)):=by
 obtain⟨i,hi,e⟩:=cU.mp ha;have hp:i<ps.length:=by rw[←h.len];exact hi
 exact⟨ps[i],h.get i a ps[i] (by rw[←e];exact ak hi) (ak hp)⟩
theorem LH.notin {H:Hp}{as:List Addr}{ps:List (List Int)}(h:LH H as ps){a:Addr}(ha:H a=none):a∉as:=λz=>by
 obtain⟨p,e⟩:=h.mem z;rw[ha]at e;cases e
def cO (w:Nat)(Ti:List (List (List Int)))(cs:List Nat)(p:Int):Nat->List (List Int)
 | 0=>[]
 | n+1=>cO w Ti cs p n++[(cu (bD w (Ti.getD n []) n p) (cO w Ti cs p n) cs n).2]
def eQ (w:Nat)(Ti:List (List (List Int)))(cs:List Nat)(p:Int)(n:Nat):List Int:=(cu (bD w (Ti.getD n []) n p) (cO w Ti cs p n) cs n).2
theorem dJ (w:Nat)(Ti:List (List (List Int)))(cs:List Nat)(p:Int):∀n,(cO w Ti cs p n).length=n
 | 0=>rfl
 | n+1=>by rw[cO,bU,dJ w Ti cs p n];rfl
def Piv (w:Nat)(Ti:List (List (List Int)))(cs:List Nat)(p:Int)(n:Nat):Prop:=∀i,i<n->co (eQ w Ti cs p i) (cs.getD i 0)≠0
def VecAt (H:Hp)(M:List Addr)(u:Addr)(q:List (List Int)):Prop:=∃as:List Addr,H u=some (.lst (as.map V.ref))∧LH H as q∧u∉M∧∀a∈as,a∉M
def TabAt (H:Hp)(M:List Addr)(w:Nat)(Ti:List (List (List Int)))(cs:List Nat)(e:Key×V):Prop:=∃(p:Int) (ta:Addr) (n:Nat) (rs:List Addr),e=(.inl p,.ref ta)∧ta∈M∧H ta=some (.lst (rs.map V.ref))∧LH H rs (cO w Ti cs p n)∧n<=Ti.length∧Piv w Ti cs p n∧∀r∈rs,r∉M
structure Spn {K:W.Frag}{mg:Str->Option Value}(T:Tx K mg)(H:Hp)(x dx Kp Cl Tb:Addr)(us:List Addr)(kvs:List (Key×V))(M:List Addr)(w:Nat)(Ti:List (List (List Int)))(cs:List Nat)(pl:Int):Prop where
 hx:H x=some (.ins T.OD dx (iE w Kp Cl pl Tb))
 hK:H Kp=some (.lst (us.map V.ref))
 hC:H Cl=some (.lst ((cs.map λc:Nat=>(c:Int)).map V.int))
 hT:H Tb=some (.dK kvs)
 lk:us.length=Ti.length
 lc:cs.length=Ti.length
 vec:∀(i:Nat) (u:Addr) (q:List (List Int)),us[i]?=some u->Ti[i]?=some q->VecAt H M u q
 tab:∀e∈kvs,TabAt H M w Ti cs e
 inj:∀e∈kvs,∀e'∈kvs,e.2=e'.2->e.1=e'.1
 mem:x∈M∧Kp∈M∧Cl∈M∧Tb∈M
 out:∀e∈kvs,e.2≠.ref Kp∧e.2≠.ref Cl
 ne:Kp≠Cl
 al:∀a∈M,∃o,H a=some o
def KX (M:List Addr)(H H':Hp):Prop:=∀y o,y∉M->H y=some o->H' y=some o
theorem LH.kx {H H':Hp}{as:List Addr}{ps:List (List Int)}{M:List Addr}(h:LH H as ps)(k:KX M H H')(n:∀a∈as,a∉M):LH H' as ps:=⟨h.len,λi a p e1 e2=>k _ _ (n a (bH e1)) (h.get i a p e1 e2)⟩
theorem VecAt.same {H H':Hp}{M:List Addr}{u:Addr}{q:List (List Int)}(h:VecAt H M u q)(s:Same H H'):VecAt H' M u q:=by
 obtain⟨as,h1,h2,h3,h4⟩:=h;exact⟨as,s _ _ h1,h2.same s,h3,h4⟩
theorem TabAt.same {H H':Hp}{M:List Addr}{w:Nat}{Ti:List (List (List Int))}{cs:List Nat}{e:Key×V}(h:TabAt H M w Ti cs e)(s:Same H H'):TabAt H' M w Ti cs e:=by
 obtain⟨p,ta,n,rs,h1,h2,h3,h4,h5⟩:=h;exact⟨p,ta,n,rs,h1,h2,s _ _ h3,h4.same s,h5⟩
section
variable {K:W.Frag}{mg:Str->Option Value}{T:Tx K mg}{H H':Hp}{x dx Kp Cl Tb:Addr}{us:List Addr}{kvs:List (Key×V)}{M:List Addr}{w:Nat}{Ti:List (List (List Int))}{cs:List Nat}{pl:Int}
theorem Spn.same (S:Spn T H x dx Kp Cl Tb us kvs M w Ti cs pl)(s:Same H H'):Spn T H' x dx Kp Cl Tb us kvs M w Ti cs pl:=
 ⟨s _ _ S.hx,s _ _ S.hK,s _ _ S.hC,s _ _ S.hT,S.lk,S.lc,λi u q e1 e2=>(S.vec i u q e1 e2).same s,λe he=>(S.tab e he).same s,S.inj,S.mem,S.out,S.ne,λa ha=>by obtain⟨o,e⟩:=S.al a ha;exact⟨o,s _ _ e⟩⟩
theorem Spn.put {p:Int}{D:Addr}(S:Spn T H x dx Kp Cl Tb us kvs M w Ti cs pl)(nD:H D=none)(hn:∀e∈kvs,e.1≠.inl p):
  Spn T (L2.upd (L2.upd H D (.lst [])) Tb (.dK (kvs++[(.inl p,.ref D)]))) x dx Kp Cl Tb us (kvs++[(.inl p,.ref D)]) (D :: M) w Ti cs pl:=by
 obtain⟨m1,m2,m3,m4⟩:=S.mem;have u:=ar nD (.lst []);have nT:∀{y:Addr}{o:HO},H y=some o->(∀z,o≠.dK z)->L2.upd (L2.upd H D (.lst [])) Tb (.dK (kvs++[(.inl p,.ref D)])) y=some o:=λ{y o} e hz=>by
  have:y≠Tb:=λz=>by rw[z,S.hT]at e;cases e;exact hz _ rfl
  rw[aj this];exact u _ _ e
 have hD:∀{y:Addr}{o:HO},H y=some o->y≠D:=λ{y o} e z=>by rw[z,nD]at e;cases e
 have dT:D≠Tb:=λz=>by rw[z,S.hT]at nD;cases nD
 have lh:∀{as:List Addr}{ps:List (List Int)},LH H as ps->LH (L2.upd (L2.upd H D (.lst [])) Tb (.dK (kvs++[(.inl p,.ref D)]))) as ps:=λh=>⟨h.len,λi a p' e1 e2=>nT (h.get i a p' e1 e2) (λz y=>nomatch y)⟩
 have nin:∀{as:List Addr}{ps:List (List Int)},LH H as ps->(∀a∈as,a∉M)->∀a∈as,a∉D :: M:=λ{as ps} h n a ha z=>by
  rcases aO.mp z with z|z
  ·obtain⟨i,hi,rfl⟩:=cU.mp ha;have:=h.get i _ _ (ak hi) (ak (by rw[←h.len];exact hi));exact hD this z
  ·exact n a ha z
 refine⟨nT S.hx (λz y=>nomatch y),nT S.hK (λz y=>nomatch y),nT S.hC (λz y=>nomatch y),ag,S.lk,S.lc,λi v q e1 e2=>?_,λe he=>?_,λe he e' he' z=>?_,⟨.tail _ m1,.tail _ m2,.tail _ m3,.tail _ m4⟩,λe he=>?_,S.ne,λa ha=>?_⟩
 ·obtain⟨as,h1,h2,h3,h4⟩:=S.vec i v q e1 e2;refine⟨as,nT h1 (λz y=>nomatch y),lh h2,λz=>?_,nin h2 h4⟩;rcases aO.mp z with z|z
  ·exact hD h1 z
  ·exact h3 z
 ·rcases aK.mp he with he|he
  ·obtain⟨p',ta,n,rs,h1,h2,h3,h4,h5,h6,h7⟩:=S.tab e he;exact⟨p',ta,n,rs,h1,.tail _ h2,nT h3 (λz y=>nomatch y),lh h4,h5,h6,nin h4 h7⟩
  ·rw[aP.mp he];exact⟨p,D,0,[],rfl,.head _,by rw[aj dT];exact ag,LH.nil _,aI _,λi hi=>by omega,λr hr=>by simp at hr⟩
 ·have old:∀e∈kvs,e.2≠.ref D:=λe he z=>by
   obtain⟨p',ta,n,rs,h1,h2,h3,_⟩:=S.tab e he;rw[h1]at z;have:ta=D:=by injection z
   exact hD h3 this
  rcases aK.mp he with he|he <;> rcases aK.mp he' with he'|he'
  ·exact S.inj e he e' he' z
  ·rw[aP.mp he']at z ⊢;exact absurd z (old e he)
  ·rw[aP.mp he]at z ⊢;exact absurd z.symm (old e' he')
  ·rw[aP.mp he,aP.mp he']
 ·rcases aK.mp he with he|he
  ·exact S.out e he
  ·rw[aP.mp he];refine⟨λz=>?_,λz=>?_⟩
   ·injection z with z;rw[z,S.hK]at nD;cases nD
   ·injection z with z;rw[z,S.hC]at nD;cases nD
 ·by_cases z:a=Tb
  ·rw[z];exact⟨_,ag⟩
  ·rw[aj z];rcases aO.mp ha with y|y
   ·rw[y];exact⟨_,ag⟩
   ·obtain⟨o,e⟩:=S.al a y;exact⟨o,u _ _ e⟩
theorem Spn.row {p:Int}{ta R:Addr}{n:Nat}{rs:List Addr}(S:Spn T H x dx Kp Cl Tb us kvs M w Ti cs pl)(he:(Sum.inl p,V.ref ta)∈kvs)(hta:H ta=some (.lst (rs.map V.ref)))(hrs:LH H rs (cO w Ti cs p n))(nrs:∀r∈rs,r∉M)(hn:n<Ti.length)(hp:Piv w Ti cs p (n+1))(eR:H R=some (.lst ((eQ w Ti cs p n).map V.int)))(nR:R∉M):
  Spn T (L2.upd H ta (.lst ((rs++[R]).map V.ref))) x dx Kp Cl Tb us kvs M w Ti cs pl:=by
 obtain⟨p0,ta0,n0,rs0,g1,g2,g3,_⟩:=S.tab _ he;have tM:ta∈M:=by injection g1 with _ z;injection z with z;rw[z];exact g2
 have kx:KX M H (L2.upd H ta (.lst ((rs++[R]).map V.ref))):=λy o ny e=>by
  have d:y≠ta:=λz=>ny (by rw[z];exact tM);rw[aj d];exact e
 have o:=S.out _ he;have nl:∀{y:Addr}{u:HO},H y=some u->(∀z,u≠.lst z)->L2.upd H ta (.lst ((rs++[R]).map V.ref)) y=some u:=λ{y u} e hz=>by
  rw[aj (λz=>by rw[z,hta]at e;cases e;exact hz _ rfl)];exact e
 refine⟨nl S.hx (λz y=>nomatch y),?_,?_,nl S.hT (λz y=>nomatch y),S.lk,S.lc,λi v q e1 e2=>?_,λe he'=>?_,S.inj,S.mem,S.out,S.ne,λa ha=>?_⟩
 ·rw[aj (λz=>o.1 (by rw[z]))];exact S.hK
 ·rw[aj (λz=>o.2 (by rw[z]))];exact S.hC
 ·obtain⟨as,h1,h2,h3,h4⟩:=S.vec i v q e1 e2;exact⟨as,kx _ _ h3 h1,h2.kx kx h4,h3,h4⟩
 ·by_cases z:e.2=.ref ta
  ·have ek:=S.inj _ he' _ he z;have ee:e=(.inl p,.ref ta):=Prod.ext ek z;rw[ee];refine⟨p,ta,n+1,rs++[R],rfl,tM,ag,?_,hn,hp,λr hr=>?_⟩
   ·exact (hrs.kx kx nrs).snoc (kx _ _ nR eR)
   ·rcases aK.mp hr with h|h
    ·exact nrs r h
    ·rw[aP.mp h];exact nR
  ·obtain⟨p',ta',n',rs',h1,h2,h3,h4,h5,h6,h7⟩:=S.tab e he';have d:ta'≠ta:=λy=>z (by rw[h1,y]);exact⟨p',ta',n',rs',h1,h2,by rw[aj d];exact h3,h4.kx kx h7,h5,h6,h7⟩
 ·by_cases z:a=ta
  ·rw[z];exact⟨_,ag⟩
  ·rw[aj z];exact S.al a ha
end
def KW (x Kp Cl Tb:Addr)(kvs:List (Key×V))(H H':Hp):Prop:=∀y o,y≠x->y≠Kp->y≠Cl->y≠Tb->(∀e∈kvs,e.2≠V.ref y)->H y=some o->H' y=some o
theorem Spn.kx {K:W.Frag}{mg:Str->Option Value}{T:Tx K mg}{H H':Hp}{x dx Kp Cl Tb:Addr}{us:List Addr}{kvs:List (Key×V)}{M:List Addr}{w:Nat}{Ti:List (List (List Int))}{cs:List Nat}{pl:Int}(S:Spn T H x dx Kp Cl Tb us kvs M w Ti cs pl)(k:KW x Kp Cl Tb kvs H H'):KX M H H':=λy o ny e=>by
 obtain⟨m1,m2,m3,m4⟩:=S.mem;have d:∀{z:Addr},z∈M->y≠z:=λ{z} hz h=>ny (by rw[h];exact hz);refine k y o (d m1) (d m2) (d m3) (d m4) (λe' he z=>?_) e;obtain⟨p,ta,n,rs,h1,h2,_⟩:=S.tab e' he;rw[h1]at z;injection z with z;exact ny (by rw[←z];exact h2)
structure TBd (w:Nat)(Ti:List (List (List Int)))(cs:List Nat)(p:Int):Prop where
 w20:w<=20
 bp:Bd 40 p
 low:∀n,n<Ti.length->Piv w Ti cs p n->LowOk (bD w (Ti.getD n []) n p) (cO w Ti cs p n) cs
 vec:∀q∈Ti,q.length<=20∧∀f∈q,f.length<=60∧∀c∈f,Bd 1000 c
theorem LX {K:W.Frag}{H:Hp}{a:Addr}{kvs:List (Key×V)}(h:H a=some (.dK kvs)):tyV K "dict" (.ref a) H:=.inr (.inr (.inl ⟨rfl,.inl ⟨_,h⟩⟩))
def LY {K:W.Frag}{mg:Str->Option Value}(T:Tx K mg):Sp:=λvs H Q _=>∃(x dx Kp Cl Tb:Addr) (us:List Addr) (kvs:List (Key×V)) (M:List Addr) (w:Nat) (Ti:List (List (List Int))) (cs:List Nat) (pl p:Int),vs=[.ref x,.int p]∧Spn T H x dx Kp Cl Tb us kvs M w Ti cs pl∧TBd w Ti cs p∧kvs.length<=900∧Ti.length<=20∧
 ∀(H':Hp) (kvs':List (Key×V)) (M':List Addr),Spn T H' x dx Kp Cl Tb us kvs' M' w Ti cs pl->KW x Kp Cl Tb kvs H H'->(∀a∈M,a∈M')->(∀a∈M',a∈M∨H a=none)->kvs'.length<=kvs.length+1->(∀e∈kvs',e∈kvs∨∀a,e.2=V.ref a->H a=none)->
  (∀(ta:Addr) (rs:List Addr),ta∈M'->H' ta=some (.lst (rs.map V.ref))->LH H' rs (cO w Ti cs p Ti.length)->Piv w Ti cs p Ti.length->Q (.ref ta) H')∧(¬Piv w Ti cs p Ti.length->Q .non H')
theorem LZ {kvs:List (Key×V)}{k:Key}(h:dU kvs k=none):(∀e∈kvs,e.1≠k)∧∀v,gh kvs k v=kvs++[(k,v)]:=by
 have a:∀e∈kvs,e.1≠k:=λe he z=>by
  unfold dU at h;rw[Option.map_eq_none_iff,List.find?_eq_none]at h;exact h e he (by simp[z])
 refine⟨a,λv=>?_⟩;unfold gh;rw[if_neg];rw[List.any_eq_true]
 rintro ⟨e,he,z⟩
 exact a e he (by simpa using z)
theorem L3 {kvs:List (Key×V)}{k:Key}{u:V}(h:dU kvs k=some u):(k,u)∈kvs:=by
 unfold dU at h;obtain⟨e,h1,rfl⟩:=b6.mp h;have h2:=List.find?_some h1;have h3:=List.mem_of_find?_eq_some h1;have:e.1=k:=by simpa using h2
 rw[←this];exact h3
theorem Ee {P:Program}{w:World}{K:W.Frag}{mg:Str->Option Value}{base:Heap}(T:Tx K mg):FnOk P w K mg base CX0 3 T.QZ T.Q0 ["self","place"] (LY T):=by
 refine T.SG.ok sc_Span_table_at (λvs H Q E h=>?_) (λcdv A outer s H vs Q E hr h=>?_)
 ·obtain⟨x,dx,Kp,Cl,Tb,us,kvs,M,w,Ti,cs,pl,p,rfl,_⟩:=h;rfl
 obtain⟨x,dx,Kp,Cl,Tb,us,kvs,M,w,Ti,cs,pl,p,rfl,S,B,l9,l20,q⟩:=h;refine⟨_,((gZ (au (i:=2) sc_Span_table_at.nd rfl (Or.inl rfl) (fY PySem.F.plainAttrs_dict PySem.F.slot_dict_setdefault PySem.F.type_dict_setdefault KL (cH (pv 0) rfl) (aa (pv 1) (aa (bN ac) ac))))
  (ai (gy PassesOwn.never (aM iN (aA aU rfl T.OB aS (aa (pv 2) ac)) (aA aU rfl T.OB aS (aa (cH (pv 0) rfl) ac)) (aL _)) (ai (au (i:=3) sc_Span_table_at.nd rfl (Or.inl rfl) (aA aU rfl T.OB aS (aa (pv 2) ac)))
  (ai (au (i:=4) sc_Span_table_at.nd rfl (Or.inl rfl) (aN (FnOk.mono (D9 T) (by decide)) hr rfl T.Ru T.Qf.kp T.Rv .nil aD (aa (fF (pv 0) T.OC T.RW (FnOk.mono (Ec T) (by decide)) hr T.RO .nil aD (aa (aH a_ (cH (pv 0) rfl) (pv 3) (λ_ _=>rfl)) (aa (pv 3) (aa (pv 1) ac)))) (aa (pv 2) (aa (cH (pv 0) rfl) ac)))))
  (ai (bC (aM fE (aH a_ (pv 4) (aH a_ (cH (pv 0) rfl) (pv 3) (λ_ _=>rfl)) (λ_ _=>rfl)) ah (aL _)) (aq (aF eh)) bI)
  (aq (e9 (fY PySem.F.plainAttrs_list PySem.F.slot_list_append PySem.F.type_list_append e_ (pv 2) (aa (pv 4) ac))))))))
  (aq (aF (pv 2)))))),?_⟩
 obtain⟨J,hJ⟩:∃J:Nat->L2.St->Hp->Prop,∀m σ H',J m σ H'↔∃(ta:Addr) (n:Nat) (rs:List Addr) (kvs':List (Key×V)) (M':List Addr) (r3 r4:Option V),σ=[some (V.ref x),some (V.int p),some (V.ref ta),r3,r4]∧Spn T H' x dx Kp Cl Tb us kvs' M' w Ti cs pl∧(Sum.inl p,V.ref ta)∈kvs'∧H' ta=some (.lst (rs.map V.ref))∧LH H' rs (cO w Ti cs p n)∧n<=Ti.length∧Piv w Ti cs p n∧(∀r∈rs,r∉M')∧KW x Kp Cl Tb kvs H H'∧(∀a∈M,a∈M')∧(∀a∈M',a∈M∨H a=none)∧kvs'.length<=kvs.length+1∧(∀e∈kvs',e∈kvs∨∀a,e.2=V.ref a->H a=none)∧m=Ti.length-n:=⟨_,λ_ _ _=>Iff.rfl⟩
 refine gE (λσ H'=>∃m,J m σ H') ?_ ?_
 ·k_units
  refine⟨_,_,_,S.hx,T.OC,T.R3,_,rfl,LX S.hT,aI _,λD nD=>⟨Tb,rfl,kvs,.inl p,rfl,ar nD _ _ _ S.hT,l9,λu hu=>?_,λhn=>?_⟩⟩
  ·have u1:=ar nD (.lst []);have he:=L3 hu;obtain⟨p',ta,n,rs,h1,h2,h3,h4,h5,h6,h7⟩:=S.tab _ he;injection h1 with z1 z2;injection z1 with z1;subst z1 z2;exact⟨_,(hJ _ _ _).mpr ⟨ta,n,rs,kvs,M,none,none,rfl,S.same u1,he,u1 _ _ h3,h4.same u1,h5,h6,h7,λy o _ _ _ _ _ e=>u1 _ _ e,λ_ h=>h,λ_ h=>.inl h,by omega,λ_ h=>.inl h,rfl⟩⟩
  ·obtain⟨hn1,hn2⟩:=LZ hn;rw[hn2];have S2:=S.put nD hn1;have dT:D≠Tb:=λz=>by rw[z,S.hT]at nD;cases nD
   refine⟨_,(hJ _ _ _).mpr ⟨D,0,[],_,D :: M,none,none,rfl,S2,by simp,by rw[aj dT];exact ag,LH.nil _,aI _,λi hi=>by omega,λr hr=>by simp at hr,λy o _ _ _ d _ e=>?_,λa h=>.tail _ h,λa h=>?_,by simp,λe h=>?_,rfl⟩⟩
   ·rw[aj d];exact ar nD _ _ _ e
   ·rcases aO.mp h with z|z
    ·exact .inr (by rw[z];exact nD)
    ·exact .inl z
   ·rcases aK.mp h with z|z
    ·exact .inl z
    ·rw[aP.mp z];exact .inr λa y=>by injection y with y;rw[←y];exact nD
 rintro σ H1 ⟨m,hm⟩
 dsimp only[aB]
 k_typeOf
 refine gD J m hm ?_;clear hm;intro m σ H2 hm;obtain⟨ta,n,rs,kvs',M',r3,r4,rfl,S2,he,eta,hrs,nk,pv,nrs,kx,ms,mf,lk',tk,rfl⟩:=(hJ _ _ _).mp hm;have lrs:(rs.map V.ref).length=n:=by rw[ae,hrs.len,dJ]
 have lus:(us.map V.ref).length=Ti.length:=by rw[ae];exact S2.lk
 obtain⟨q1,q2⟩:=q H2 kvs' M' S2 kx ms mf lk' tk;obtain⟨_,ta0,_,_,g1,g2,_⟩:=S2.tab _ he;have tM:ta∈M':=by injection g1 with _ z;injection z with z;rw[z];exact g2
 k_units
 refine⟨_,.inl (SqL.of eta),_,_,_,S2.hx,T.OC,T.OG,_,rfl,Kp,rfl,_,.inl (SqL.of S2.hK),?_⟩;rw[lrs,lus];refine bJ (λz=>?_) (λz=>?_)
 ·have hn:n<Ti.length:=by omega
  have hu:n<us.length:=by have:=S2.lk;omega
  have hkn:Ti[n]?=some Ti[n]:=ak hn;obtain⟨as,v1,v2,v3,v4⟩:=S2.vec n _ _ (ak hu) hkn;have ek:Ti.getD n []=Ti[n]:=by rw[av,hkn];rfl
  obtain⟨b1,b2⟩:=B.vec _ (aW hn);have lo:=B.low n hn pv;have hcn:n<cs.length:=by have:=S2.lc;omega
  refine⟨J (Ti.length-(n+1)),λσ' H' z=>⟨_,by omega,z⟩,_,.inl (SqL.of eta),_,_,S2.hx,rfl,_,_,_,S2.hx,T.OC,T.OG,_,rfl,Kp,rfl,?_⟩;rw[lrs];refine⟨_,SqL.of S2.hK,V.ref us[n],eI (by rw[az,ak hu];rfl),x,dx,Kp,Cl,Tb,us[n],pl,w,n,p,as,Ti[n],rfl,S2.hx,SqL.of v1,v2.ll,B.w20,b1,B.bp,b2,λR H3 s3 nR eR=>?_⟩;have S3:=S2.same s3;rw[←ek]at eR;refine⟨_,_,_,S3.hx,T.OC,T.OI,_,rfl,R,ta,Cl,_,rs,_,cs,rfl,SqL.of eR,SqL.of (s3 _ _ eta),(hrs.same s3).ll,SqL.of S3.hC,lo,λR' H4 s4 dR sqR=>?_⟩;have S4:=S3.same s4;have s24:=s3.trans s4;rw[dJ]at dR sqR;have eR':H4 R'=some (.lst ((eQ w Ti cs p n).map V.int))∧H2 R'=none:=by
   rcases dR with ⟨z1,z2⟩|⟨z1,z2⟩
   ·have n0:n=0:=by have:=dJ w Ti cs p n;rw[z2]at this;exact this.symm
    subst n0;rw[z1];exact⟨s4 _ _ eR,nR⟩
   ·exact⟨z2,s3.free z1⟩
  obtain⟨eR1,nR1⟩:=eR';have ll:=kY lo n (by rw[dJ];exact am _);have lcol:=lo.col _ (aW hcn);refine⟨_,_,_,S4.hx,T.OC,T.OI,_,rfl,Cl,rfl,_,SqL.of S4.hC,V.int (cs[n]:Int),eI (by rw[az,az,ak hcn];rfl),R',rfl,_,_,rfl,SqL.of eR1,_,jZ (show cs[n]<(eQ w Ti cs p n).length by unfold eQ;rw[ll];exact lcol),?_⟩;have ec:cs.getD n 0=cs[n]:=by rw[av,ak hcn];rfl
  have kx4:KW x Kp Cl Tb kvs H H4:=λy o a1 a2 a3 a4 a5 e=>s24 _ _ (kx y o a1 a2 a3 a4 a5 e);have nRM:R'∉M':=λz=>by obtain⟨o,e⟩:=S2.al _ z;rw[nR1]at e;cases e
  k_units
  refine bJ (λz0=>?_) (λz0=>?_)
  ·exact (q H4 kvs' M' S4 kx4 ms mf lk' tk).2 λhp=>hp n hn (by rw[ec];exact z0)
  have hp1:Piv w Ti cs p (n+1):=λi hi=>by
   by_cases z:i<n
   ·exact pv i z
   ·rw[show i=n by omega,ec];exact z0
  have S5:=S4.row he (s24 _ _ eta) (hrs.same s24) nrs hn hp1 eR1 nRM;have dta:∀r∈rs++[R'],r∉M':=λr hr=>by
   rcases aK.mp hr with h|h
   ·exact nrs r h
   ·rw[aP.mp h];exact nRM
  have kt:KX M' H4 (L2.upd H4 ta (.lst ((rs++[R']).map V.ref))):=λy o ny e=>by
   have d:y≠ta:=λz=>ny (by rw[z];exact tM);rw[aj d];exact e
  have et:(rs++[R']).map V.ref=rs.map V.ref++[V.ref R']:=by rw[aQ];rfl
  rw[et]at S5 kt;refine⟨fZ (SqL.of (s24 _ _ eta)),_,s24 _ _ eta,by rw[lrs];exact aX (by omega),(hJ _ _ _).mpr ⟨ta,n+1,rs++[R'],kvs',M',_,_,rfl,S5,he,by rw[ag,et],?_,by omega,hp1,dta,λy o a1 a2 a3 a4 a5 e=>?_,ms,mf,lk',tk,rfl⟩⟩
  ·exact ((hrs.same s24).kx kt nrs).snoc (kt _ _ nRM eR1)
  ·have e4:=kx4 y o a1 a2 a3 a4 a5 e;have d:y≠ta:=λz=>by
    rcases tk _ he with h|h
    ·exact a5 _ h (by rw[z])
    ·rw[z,h ta rfl]at e;cases e
   rw[aj d];exact e4
 ·have e:n=Ti.length:=by omega
  rw[e]at hrs pv;exact q1 ta rs tM eta hrs pv
def cV (w:Nat)(Ti:List (List (List Int)))(cs:List Nat)(q:List (List Int))(p:Int):List Int:=(cu (bD w q Ti.length p) (cO w Ti cs p Ti.length) cs Ti.length).2
theorem VecAt.kx {H H':Hp}{M:List Addr}{u:Addr}{q:List (List Int)}(h:VecAt H M u q)(k:KX M H H'):VecAt H' M u q:=by
 obtain⟨as,h1,h2,h3,h4⟩:=h;exact⟨as,k _ _ h3 h1,h2.kx k h4,h3,h4⟩
theorem VecAt.more {H:Hp}{M M':List Addr}{u:Addr}{q:List (List Int)}(h:VecAt H M u q)(mf:∀a∈M',a∈M∨H a=none):VecAt H M' u q:=by
 obtain⟨as,h1,h2,h3,h4⟩:=h;have ne:∀{y:Addr}{o:HO},H y=some o->y∉M->y∉M':=λ{y o} e n z=>by
  rcases mf y z with h|h
  ·exact n h
  ·rw[h]at e;cases e
 refine⟨as,h1,h2,ne h1 h3,λa ha=>?_⟩;obtain⟨i,hi,rfl⟩:=cU.mp ha;exact ne (h2.get i _ _ (ak hi) (ak (by rw[←h2.len];exact hi))) (h4 _ (aW hi))
def L4 {K:W.Frag}{mg:Str->Option Value}(T:Tx K mg):Sp:=λvs H Q _=>∃(x dx Kp Cl Tb Vc:Addr) (us:List Addr) (kvs:List (Key×V)) (M:List Addr) (w:Nat) (Ti:List (List (List Int))) (cs:List Nat) (pl p:Int) (q:List (List Int)),vs=[.ref x,.ref Vc,.int p]∧Spn T H x dx Kp Cl Tb us kvs M w Ti cs pl∧TBd w Ti cs p∧kvs.length<=900∧Ti.length<=20∧VecAt H M Vc q∧q.length<=20∧(∀f∈q,f.length<=60∧∀c∈f,Bd 1000 c)∧(Piv w Ti cs p Ti.length->LowOk (bD w q Ti.length p) (cO w Ti cs p Ti.length) cs)∧
 ∀(H':Hp) (kvs':List (Key×V)) (M':List Addr),Spn T H' x dx Kp Cl Tb us kvs' M' w Ti cs pl->KW x Kp Cl Tb kvs H H'->(∀a∈M,a∈M')->(∀a∈M',a∈M∨H a=none)->kvs'.length<=kvs.length+1->(∀e∈kvs',e∈kvs∨∀a,e.2=V.ref a->H a=none)->
  (∀R:Addr,R∉M'->H' R=some (.lst ((cV w Ti cs q p).map V.int))->Piv w Ti cs p Ti.length->Q (.ref R) H')∧(¬Piv w Ti cs p Ti.length->Q .non H')
theorem Ef {P:Program}{w:World}{K:W.Frag}{mg:Str->Option Value}{base:Heap}(T:Tx K mg):FnOk P w K mg base CX0 4 T.Q1 T.Q2 ["self","vector","place"] (L4 T):=by
 refine T.SH.ok sc_Span_lowered_at (λvs H Q E h=>?_) (λcdv A outer s H vs Q E hr h=>?_)
 ·obtain⟨x,dx,Kp,Cl,Tb,Vc,us,kvs,M,w,Ti,cs,pl,p,q,rfl,_⟩:=h;rfl
 obtain⟨x,dx,Kp,Cl,Tb,Vc,us,kvs,M,w,Ti,cs,pl,p,q,rfl,S,B,l9,l20,hV,q20,bq,lo,fin⟩:=h;refine⟨_,((ai (au (i:=3) sc_Span_lowered_at.nd rfl (Or.inl rfl) (fF (pv 0) T.OC T.RX (FnOk.mono (Ee T) (by decide)) hr T.RP .nil aD (aa (pv 2) ac)))
  (ai (bC (aM kG (pv 3) eh (aL _)) (aq (aF eh)) bI)
  (aq (aF (aN (FnOk.mono (D9 T) (by decide)) hr rfl T.Ru T.Qf.kp T.Rv .nil aD (aa (fF (pv 0) T.OC T.RW (FnOk.mono (Ec T) (by decide)) hr T.RO .nil aD (aa (pv 1) (aa (aA aU rfl T.OB aS (aa (cH (pv 0) rfl) ac)) (aa (pv 2) ac)))) (aa (pv 3) (aa (cH (pv 0) rfl) ac))))))))),?_⟩
 dsimp only[aB]
 k_typeOf
 refine⟨dx,_,S.hx,rfl,x,dx,Kp,Cl,Tb,us,kvs,M,w,Ti,cs,pl,p,rfl,S,B,l9,l20,λH1 kvs' M' S1 kx ms mf lk tk=>⟨λta rs tM eta hrs pv=>?_,λnp=>?_⟩⟩
 ·obtain⟨as,v1,v2,v3,v4⟩:=hV.kx (S.kx kx)
  k_units
  rw[if_neg (λz=>nomatch z)];have lus:(us.map V.ref).length=Ti.length:=by rw[ae];exact S1.lk
  refine⟨_,_,S1.hx,rfl,_,_,_,S1.hx,T.OC,T.OG,_,rfl,Kp,rfl,_,.inl (SqL.of S1.hK),?_⟩;rw[lus];refine⟨x,dx,Kp,Cl,Tb,Vc,pl,w,Ti.length,p,as,q,rfl,S1.hx,SqL.of v1,v2.ll,B.w20,q20,B.bp,bq,λR H3 s3 nR eR=>?_⟩;have S3:=S1.same s3;refine⟨_,_,_,S3.hx,T.OC,T.OI,_,rfl,R,ta,Cl,_,rs,_,cs,rfl,SqL.of eR,SqL.of (s3 _ _ eta),(hrs.same s3).ll,SqL.of S3.hC,lo pv,λR' H4 s4 dR sqR=>?_⟩;have S4:=S3.same s4;rw[dJ]at dR sqR;have eR':H4 R'=some (.lst ((cV w Ti cs q p).map V.int))∧H1 R'=none:=by
   rcases dR with ⟨z1,z2⟩|⟨z1,z2⟩
   ·have n0:Ti.length=0:=by have:=dJ w Ti cs p Ti.length;rw[z2]at this;exact this.symm
    unfold cV;rw[n0]at eR ⊢;rw[z1];exact⟨s4 _ _ eR,nR⟩
   ·exact⟨z2,s3.free z1⟩
  have nRM:R'∉M':=λz=>by obtain⟨o,e⟩:=S1.al _ z;rw[eR'.2]at e;cases e
  exact (fin H4 kvs' M' S4 (λy o a1 a2 a3 a4 a5 e=>s4 _ _ (s3 _ _ (kx y o a1 a2 a3 a4 a5 e))) ms mf lk tk).1 R' nRM eR'.1 pv
 ·k_units
  exact (fin H1 kvs' M' S1 kx ms mf lk tk).2 np
def dz (qs:List (List (List Int)))(ws:List (List Int))(c:Nat):Nat->List Int
 | 0=>[]
 | n+1=>gI (dz qs ws c n) (dI ((qs.getD n []).getD c []) (ws.getD n []))
theorem mem_getD {α:Type}{xs:List α}{i:Nat}{d:α}(h:i<xs.length):xs.getD i d∈xs:=by rw[av,ak h];exact aW _
structure FcOk (w:Nat)(qs:List (List (List Int)))(ws:List (List Int)):Prop where
 len:ws.length=qs.length
 few:qs.length<=20
 w20:w<=20
 wid:∀q∈qs,q.length=w
 bq:∀q∈qs,∀f∈q,f.length<=40∧∀c∈f,Bd 1000 c
 bw:∀f∈ws,f.length<=40∧∀c∈f,Bd 20000 c
theorem wS {w:Nat}{qs:List (List (List Int))}{ws:List (List Int)}{c:Nat}(o:FcOk w qs ws)(hc:c<w):∀n,n<=qs.length->(dz qs ws c n).length<=80∧∀x∈dz qs ws c n,Bd (21010+n) x
 | 0,_=>⟨aI _,λx hx=>by simp[dz]at hx⟩
 | n+1,hn=>by
  obtain⟨i1,i2⟩:=wS o hc n (by omega);have hq:(qs.getD n [])∈qs:=mem_getD (by omega);have hw:(ws.getD n [])∈ws:=mem_getD (by have:=o.len;omega);have hl:=o.wid _ hq;have hf:((qs.getD n []).getD c [])∈qs.getD n []:=mem_getD (by omega);obtain⟨f1,f2⟩:=o.bq _ hq _ hf;obtain⟨w1,w2⟩:=o.bw _ hw;have lm:(dI ((qs.getD n []).getD c []) (ws.getD n [])).length<=80:=by
   by_cases z:ws.getD n []=[]
   ·rw[z,wK];exact aI _
   ·have:=wP ((qs.getD n []).getD c []) (ws.getD n []) z;omega
  have bm:∀k,Bd 21006 (co (dI ((qs.getD n []).getD c []) (ws.getD n [])) k):=λk=>by
   rw[kX];exact wM (c:=6) f2 w2 (aE f1 (by decide)) k
  refine⟨aE (DZ _ _) (by omega),dY λk=>?_⟩;show Bd _ (co (gI _ _) k);rw[wO];exact (dX (P:=λv=>Bd (21010+n) v) i2 (Bd.zero _) k).add ((bm k).mono (by omega))
def L5 {K:W.Frag}{mg:Str->Option Value}(T:Tx K mg):Sp:=λvs H Q _=>∃(x dx Kp Cl Tb Vc Wt:Addr) (us:List Addr) (kvs:List (Key×V)) (M:List Addr) (w:Nat) (Ti:List (List (List Int))) (cs:List Nat) (pl:Int) (q:List (List Int)) (ad:List Addr) (ws:List (List Int)),vs=[.ref x,.ref Vc,.ref Wt]∧Spn T H x dx Kp Cl Tb us kvs M w Ti cs pl∧VecAt H M Vc q∧SqL K H Wt (ad.map V.ref)∧LL K H ad ws∧FcOk w (Ti++[q]) ws∧
 ∀H',Same H H'->(∀c:Nat,c<w->c∉cs->dz (Ti++[q]) ws c (Ti.length+1)≠[]->(∀c',c'<c->c'∉cs->dz (Ti++[q]) ws c' (Ti.length+1)=[])->Q (.int (c:Int)) H')∧((∀c,c<w->c∉cs->dz (Ti++[q]) ws c (Ti.length+1)=[])->Q .non H')
theorem L6 {P:Program}{w:World}{K:W.Frag}{mg:Str->Option Value}{base:Heap}(T:Tx K mg):FnOk P w K mg base CX0 4 T.Q5 T.Q6 ["self","vector","weights"] (L5 T):=by
 refine T.SK.ok sc_Span_failing_column (λvs H Q E h=>?_) (λcdv A outer s H vs Q E hr h=>?_)
 ·obtain⟨x,dx,Kp,Cl,Tb,Vc,Wt,us,kvs,M,w,Ti,cs,pl,q,ad,ws,rfl,_⟩:=h;rfl
 obtain⟨x,dx,Kp,Cl,Tb,Vc,Wt,us,kvs,M,w,Ti,cs,pl,q,ad,ws,rfl,S,hV,hW,lW,o,fin⟩:=h;refine⟨_,((ai (bY PassesOwn.never rfl (fW rfl T.OE (aa (cH (pv 0) rfl) ac)) (a7 (i:=3) sc_Span_failing_column.nd rfl (Or.inl rfl)) (ai (bC (aM Jq (pv 3) (cH (pv 0) rfl) (by with_unfolding_all rfl)) (aq ID) bI)
  (ai (au (i:=4) sc_Span_failing_column.nd rfl (Or.inl rfl) (bN ac))
  (ai (bY PassesOwn.never rfl (jT rfl T.OM (aa (ao iQ (cH (pv 0) rfl) (bN (aa (pv 1) ac))) (aa (pv 2) ac))) (gX rfl (dQ (a7 (i:=5) sc_Span_failing_column.nd rfl (Or.inl rfl)) (dQ (a7 (i:=6) sc_Span_failing_column.nd rfl (Or.inl rfl)) gW))) (aq (au (i:=4) sc_Span_failing_column.nd rfl (Or.inl rfl) (aN (FnOk.mono (DS T) (by decide)) hr rfl T.Rf T.Pk.kp T.Rg .nil aD (aa (pv 4) (aa (aN (FnOk.mono (DT T) (by decide)) hr rfl T.Rh T.Pp.kp T.Ri .nil aD (aa (aH a_ (pv 5) (pv 3) (λ_ _=>rfl)) (aa (pv 6) ac))) ac))))))
  (aq (bC (aM gz (aA aU rfl T.OB aS (aa (pv 4) ac)) ah (aL _)) (aq (aF (pv 3))) bI))))))
  (aq (aF eh)))),?_⟩
 k_units
 refine⟨_,_,_,S.hx,T.OC,T.OJ,_,rfl,_,rfl,by have:=o.w20;omega,by have:=o.w20;omega,?_⟩;rw[eE];have w20:=o.w20;obtain⟨Pv,hPv⟩:∃Pv:Nat->L2.St->Hp->Prop,∀i σ H',Pv i σ H'↔∃r3 r4 r5 r6:Option V,σ=[some (V.ref x),some (V.ref Vc),some (V.ref Wt),r3,r4,r5,r6]∧Same H H'∧∀c,c<i->c∉cs->dz (Ti++[q]) ws c (Ti.length+1)=[]:=⟨_,λ_ _ _=>Iff.rfl⟩
 refine gF Pv ((hPv _ _ _).mpr ⟨none,none,none,none,rfl,Same.refl _,λc hc=>by omega⟩) ?_ ?_
 ·intro i σ H1 hi hp;obtain⟨r3,r4,r5,r6,rfl,s1,hz⟩:=(hPv _ _ _).mp hp;have e0:(0:Int)+(i:Int)=(i:Int):=fq _;have S1:=S.same s1;have fl:((cs.map λc:Nat=>(c:Int)).map V.int).all gg=true:=by simp[gg]
  dsimp only[aB]
  k_typeOf
  rw[e0];refine⟨_,_,_,S1.hx,T.OC,T.OI,_,rfl,Cl,rfl,_,.inl (SqL.of S1.hC),rfl,fl,?_⟩;rw[Ks];have hmem:((i:Int)∈cs.map λc:Nat=>(c:Int))↔i∈cs:=by
   rw[aT];constructor
   ·rintro ⟨c,hc,e⟩
    rw[show i=c by omega];exact hc
   ·intro h;exact⟨i,h,rfl⟩
  refine bJ (λz=>?_) (λz=>?_)
  ·have hin:=hmem.mp (by simpa using z);refine (hPv _ _ _).mpr ⟨_,_,_,_,rfl,s1,λc hc hn=>?_⟩;by_cases y:c=i
   ·rw[y]at hn;exact absurd hin hn
   ·exact hz c (by omega) hn
  have hout:i∉cs:=λh=>z (by simpa using hmem.mpr h);dsimp only[aB]
  k_typeOf
  refine⟨aI _,λA0 nA0=>?_⟩;have u0:=ar nA0 (.lst []);have eA0:=ag (H:=H1) (a:=A0) (o:=.lst []);generalize L2.upd H1 A0 (.lst [])=H2 at u0 eA0 ⊢;have S2:=S1.same u0;dsimp only[aB]
  k_typeOf
  refine⟨_,_,_,S2.hx,T.OC,T.OG,_,rfl,by decide,λq1 m1=>?_⟩;have u1:=ar m1 (.lst [V.ref Vc]);refine⟨Kp,rfl,_,u1 _ _ S2.hK,_,ag,?_,λq2 m2=>?_⟩
  ·rw[ae];have:=S.lk;have:=o.few;simp at this;exact bW (aX (by simp;omega))
  have u2:=ar m2 (.lst (us.map V.ref++[V.ref Vc]));have e2:=ag (H:=L2.upd H2 q1 (.lst [V.ref Vc])) (a:=q2) (o:=.lst (us.map V.ref++[V.ref Vc]));have s2:=s1.trans (u0.trans (u1.trans u2));have eA:=(u1.trans u2) _ _ eA0;generalize L2.upd (L2.upd H2 q1 (.lst [V.ref Vc])) q2 (.lst (us.map V.ref++[V.ref Vc]))=H3 at e2 s2 eA ⊢;have lk:=S.lk;have few:=o.few;rw[bU]at few;simp only[bX,xH]at few;have lq:(Ti++[q]).length=Ti.length+1:=by simp
  have vecs:=jt (Φ:=λu qv=>VecAt H M u qv) (L:=Ti++[q]) (rs:=us) (r:=Vc) (λt u qv e1 e2=>by
   have ht:t<Ti.length:=by have:=(aV.mp e1).1;omega
   rw[b_ ht]at e2;exact S.vec t u qv e1 e2) (λqv e2=>by
   rw[di (by omega),show us.length-Ti.length=0 by omega]at e2
   cases Option.some.inj e2
   exact hV)
  have e2':H3 q2=some (.lst ((us++[Vc]).map V.ref)):=by rw[e2,aQ];rfl
  obtain⟨Pz,hPz⟩:∃Pz:Nat->L2.St->Hp->Prop,∀n σ H',Pz n σ H'↔∃(An:Addr) (r5 r6:Option V),σ=[some (V.ref x),some (V.ref Vc),some (V.ref Wt),some (V.int (i:Int)),some (V.ref An),r5,r6]∧H' An=some (.lst ((dz (Ti++[q]) ws i n).map V.int))∧Same H3 H':=⟨_,λ_ _ _=>Iff.rfl⟩
  refine⟨_,SqL.of e2',_,s2.seq hW,pK (xs:=(us++[Vc]).map V.ref) (ys:=ad.map V.ref) Pz ((hPz _ _ _).mpr ⟨A0,r5,r6,rfl,eA,Same.refl _⟩) (λn σ H' _ _ y=>by obtain⟨_,_,_,_,_,y⟩:=(hPz n σ H').mp y;exact⟨SqL.of (y _ _ e2'),(s2.trans y).seq hW⟩) ?_ ?_⟩
  ·intro n v1 v2 pr σ H4 e1 e3 hp' npr;obtain⟨An,t5,t6,rfl,eAn,s4⟩:=(hPz _ _ _).mp hp';rw[az]at e1;obtain⟨u,hu,rfl⟩:=b6.mp e1;have hn:n<(Ti++[q]).length:=by have:=(aV.mp hu).1;simp at this ⊢;omega
   obtain⟨a,f,rfl,ha,hf,sqf⟩:=lW.nth e3;have hqn:(Ti++[q])[n]?=some ((Ti++[q]).getD n []):=qI hn;obtain⟨as,v1,v2,v3,v4⟩:=vecs n u _ hu hqn;have hqm:=mem_getD (d:=([]:List (List Int))) hn;have hwid:=o.wid _ hqm;have hic:i<as.length:=by rw[v2.len,hwid];exact hi
   obtain⟨b1,b2⟩:=wS o hi n (by omega);have hfm:=bH hf;obtain⟨c1,c2⟩:=o.bw _ hfm;have hpm:=mem_getD (d:=([]:List Int)) (show i<((Ti++[q]).getD n []).length by rw[hwid];exact hi);obtain⟨d1,d2⟩:=o.bq _ hqm _ hpm;have efw:ws.getD n []=f:=by rw[av,hf];rfl
   have epoly:=v2.get i _ _ (ak hic) (qI (d:=[]) (show i<((Ti++[q]).getD n []).length by rw[hwid];exact hi));have st:dz (Ti++[q]) ws i (n+1)=gI (dz (Ti++[q]) ws i n) (dI (((Ti++[q]).getD n []).getD i []) f):=by rw[dz,efw]
   obtain⟨g1,g2⟩:=wS o hi (n+1) (by omega);have w1:=ar npr (.tup [V.ref u,V.ref a]);have s24:=s2.trans (s4.trans w1);generalize ((Ti++[q]).getD n []).getD i []=pq at d1 d2 epoly st;have bm:∀k,Bd 21006 (co (dI pq f) k):=λk=>by
    rw[kX];exact wM (c:=6) d2 c2 (aE d1 (by decide)) k
   have lm:(dI pq f).length<=80:=by
    by_cases z:f=[]
    ·rw[z,wK];exact aI _
    ·have:=wP pq f z;omega
   k_units
   refine⟨_,SqT.of ag,rfl,_,_,rfl,_,_,rfl,rfl,?_⟩;refine⟨u,rfl,_,SqL.of (s24 _ _ v1),V.ref as[i],eI (by rw[az,ak hic];rfl),as[i],a,pq,f,rfl,SqL.of (s24 _ _ epoly),s24.seq sqf,by omega,by omega,λc hc=>(d2 c hc).mono (by decide),λc hc=>(c2 c hc).mono (by decide),λR1 H5 s5 nR1 eR1=>?_⟩;refine⟨An,R1,_,_,rfl,SqL.of (s5 _ _ (w1 _ _ eAn)),SqL.of eR1,by omega,by omega,λc hc=>(b2 c hc).mono (by omega),dY λk=>(bm k).mono (by decide),λR2 H6 s6 nR2 eR2=>?_⟩;exact (hPz _ _ _).mpr ⟨R2,_,_,rfl,by rw[eR2,st],s4.trans (w1.trans (s5.trans s6))⟩
  intro σ H4 hp';obtain⟨An,t5,t6,rfl,eAn,s4⟩:=(hPz _ _ _).mp hp';have hmin:min ((us++[Vc]).map V.ref).length (ad.map V.ref).length=Ti.length+1:=by
   have h1:=lW.len;have h2:=o.len;rw[lq]at h2;simp;omega
  rw[hmin]at eAn
  k_units
  refine⟨_,.inl (SqL.of eAn),?_⟩;rw[ae];refine bJ (λz=>?_) (λz=>?_)
  ·exact (fin H4 (s2.trans s4)).1 i hi hout (λy=>by rw[y]at z;simp at z) hz
  ·refine (hPv _ _ _).mpr ⟨_,_,_,_,rfl,s2.trans s4,λc hc hn=>?_⟩;by_cases y:c=i
   ·rw[y];exact bE (by omega)
   ·exact hz c (by omega) hn
 intro σ H1 hp;obtain⟨r3,r4,r5,r6,rfl,s1,hz⟩:=(hPv _ _ _).mp hp
 k_units
 exact (fin H1 s1).2 hz
theorem qJ {row:List Int}{tb:List (List Int)}{cs:List Nat}{c:Nat}:∀i,i<=cs.length->cu row tb (cs++[c]) i=cu row tb cs i
 | 0,_=>rfl
 | i+1,h=>by
  have e:(cs++[c]).getD i 0=cs.getD i 0:=by rw[av,av,b_ (by omega)]
  rw[cu,cu,qJ i (by omega),e]
theorem qK {w:Nat}{Ti:List (List (List Int))}{cs:List Nat}{q:List (List Int)}{c:Nat}{p:Int}(hl:cs.length=Ti.length):∀n,n<=Ti.length->cO w (Ti++[q]) (cs++[c]) p n=cO w Ti cs p n
 | 0,_=>rfl
 | n+1,h=>by
  have e:(Ti++[q]).getD n []=Ti.getD n []:=by rw[av,av,b_ (by omega)]
  rw[cO,cO,qK hl n (by omega),e,qJ n (by omega)]
theorem Eg {w:Nat}{Ti:List (List (List Int))}{cs:List Nat}{q:List (List Int)}{c:Nat}{p:Int}{n:Nat}(hl:cs.length=Ti.length)(h:n<=Ti.length)(hp:Piv w Ti cs p n):Piv w (Ti++[q]) (cs++[c]) p n:=λi hi=>by
 have e:(Ti++[q]).getD i []=Ti.getD i []:=by rw[av,av,b_ (by omega)]
 have e2:(cs++[c]).getD i 0=cs.getD i 0:=by rw[av,av,b_ (by omega)]
 have h1:=hp i hi;unfold eQ at h1 ⊢;rw[qK hl i (by omega),e,qJ i (by omega),e2];exact h1
section
variable {K:W.Frag}{mg:Str->Option Value}{T:Tx K mg}{H:Hp}{x dx Kp Cl Tb:Addr}{us:List Addr}{kvs:List (Key×V)}{M:List Addr}{w:Nat}{Ti:List (List (List Int))}{cs:List Nat}{pl:Int}
theorem Spn.keep {Vc:Addr}{q:List (List Int)}{c:Nat}(S:Spn T H x dx Kp Cl Tb us kvs M w Ti cs pl)(hV:VecAt H M Vc q):
  Spn T (L2.upd (L2.upd H Kp (.lst ((us++[Vc]).map V.ref))) Cl (.lst (((cs++[c]).map λc:Nat=>(c:Int)).map V.int))) x dx Kp Cl Tb (us++[Vc]) kvs M w (Ti++[q]) (cs++[c]) pl:=by
 obtain⟨m1,m2,m3,m4⟩:=S.mem;have kx:KX M H (L2.upd (L2.upd H Kp (.lst ((us++[Vc]).map V.ref))) Cl (.lst (((cs++[c]).map λc:Nat=>(c:Int)).map V.int))):=λy o ny e=>by
  have d1:y≠Cl:=λz=>ny (by rw[z];exact m3);have d2:y≠Kp:=λz=>ny (by rw[z];exact m2);rw[aj d1,aj d2];exact e
 have nl:∀{y:Addr}{u:HO},H y=some u->(∀z,u≠.lst z)->L2.upd (L2.upd H Kp (.lst ((us++[Vc]).map V.ref))) Cl (.lst (((cs++[c]).map λc:Nat=>(c:Int)).map V.int)) y=some u:=λ{y u} e hz=>by
  have d1:y≠Cl:=λz=>by rw[z,S.hC]at e;cases e;exact hz _ rfl
  have d2:y≠Kp:=λz=>by rw[z,S.hK]at e;cases e;exact hz _ rfl
  rw[aj d1,aj d2];exact e
 refine⟨nl S.hx (λz y=>nomatch y),by rw[aj S.ne];exact ag,ag,nl S.hT (λz y=>nomatch y),by simp[S.lk],by simp[S.lc],?_,λe he=>?_,S.inj,S.mem,S.out,S.ne,λa ha=>?_⟩
 ·refine jt (Φ:=λu qv=>VecAt _ M u qv) (λt u qv e1 e2=>?_) λqv e2=>?_
  ·have ht:t<Ti.length:=by have:=(aV.mp e1).1;have:=S.lk;omega
   rw[b_ ht]at e2;exact (S.vec t u qv e1 e2).kx kx
  ·rw[di (by have:=S.lk;omega),show us.length-Ti.length=0 by have:=S.lk;omega]at e2
   cases Option.some.inj e2
   exact hV.kx kx
 ·obtain⟨p,ta,n,rs,h1,h2,h3,h4,h5,h6,h7⟩:=S.tab e he;have o:=S.out e he;have d1:ta≠Cl:=λz=>o.2 (by rw[h1,z]);have d2:ta≠Kp:=λz=>o.1 (by rw[h1,z]);refine⟨p,ta,n,rs,h1,h2,by rw[aj d1,aj d2];exact h3,?_,by simp;omega,Eg S.lc h5 h6,h7⟩;rw[qK S.lc n h5];exact h4.kx kx h7
 ·by_cases z1:a=Cl
  ·rw[z1];exact⟨_,ag⟩
  ·rw[aj z1];by_cases z2:a=Kp
   ·rw[z2];exact⟨_,ag⟩
   ·rw[aj z2];exact S.al a ha
theorem Spn.go {pl':Int}(S:Spn T H x dx Kp Cl Tb us kvs M w Ti cs pl):Spn T (L2.upd H x (.ins T.OD dx (iE w Kp Cl pl' Tb))) x dx Kp Cl Tb us kvs M w Ti cs pl':=by
 have kx:KX M H (L2.upd H x (.ins T.OD dx (iE w Kp Cl pl' Tb))):=λy o ny e=>by
  have d:y≠x:=λz=>ny (by rw[z];exact S.mem.1);rw[aj d];exact e
 have nl:∀{y:Addr}{u:HO},H y=some u->(∀C d f,u≠.ins C d f)->L2.upd H x (.ins T.OD dx (iE w Kp Cl pl' Tb)) y=some u:=λ{y u} e hz=>by
  have d:y≠x:=λz=>by rw[z,S.hx]at e;cases e;exact hz _ _ _ rfl
  rw[aj d];exact e
 refine⟨ag,nl S.hK (λ_ _ _ y=>nomatch y),nl S.hC (λ_ _ _ y=>nomatch y),nl S.hT (λ_ _ _ y=>nomatch y),S.lk,S.lc,λi u q e1 e2=>(S.vec i u q e1 e2).kx kx,λe he=>?_,S.inj,S.mem,S.out,S.ne,λa ha=>?_⟩
 ·obtain⟨p,ta,n,rs,h1,h2,h3,h4,h5,h6,h7⟩:=S.tab e he;exact⟨p,ta,n,rs,h1,h2,nl h3 (λ_ _ _ y=>nomatch y),h4.kx kx h7,h5,h6,h7⟩
 ·by_cases z:a=x
  ·rw[z];exact⟨_,ag⟩
  ·rw[aj z];exact S.al a ha
theorem Spn.more {D:Addr}{o:HO}(S:Spn T H x dx Kp Cl Tb us kvs M w Ti cs pl)(nD:H D=none):Spn T (L2.upd H D o) x dx Kp Cl Tb us kvs (D :: M) w Ti cs pl:=by
 obtain⟨m1,m2,m3,m4⟩:=S.mem;have u:=ar nD o;have hD:∀{y:Addr}{o:HO},H y=some o->y≠D:=λ{y o} e z=>by rw[z,nD]at e;cases e
 have out:∀{y:Addr}{o:HO},H y=some o->y∉M->y∉D :: M:=λ{y o} e n z=>by
  rcases aO.mp z with z|z
  ·exact hD e z
  ·exact n z
 have nin:∀{as:List Addr}{ps:List (List Int)},LH H as ps->(∀a∈as,a∉M)->∀a∈as,a∉D :: M:=λ{as ps} h n a ha=>by
  obtain⟨i,hi,rfl⟩:=cU.mp ha;exact out (h.get i _ _ (ak hi) (ak (by rw[←h.len];exact hi))) (n _ ha)
 refine⟨u _ _ S.hx,u _ _ S.hK,u _ _ S.hC,u _ _ S.hT,S.lk,S.lc,λi v q e1 e2=>?_,λe he=>?_,S.inj,⟨.tail _ m1,.tail _ m2,.tail _ m3,.tail _ m4⟩,S.out,S.ne,λa ha=>?_⟩
 ·obtain⟨as,h1,h2,h3,h4⟩:=S.vec i v q e1 e2;exact⟨as,u _ _ h1,h2.same u,out h1 h3,nin h2 h4⟩
 ·obtain⟨p,ta,n,rs,h1,h2,h3,h4,h5,h6,h7⟩:=S.tab e he;exact⟨p,ta,n,rs,h1,.tail _ h2,u _ _ h3,h4.same u,h5,h6,nin h4 h7⟩
 ·rcases aO.mp ha with z|z
  ·rw[z];exact⟨_,ag⟩
  ·obtain⟨o',e⟩:=S.al a z;exact⟨o',u _ _ e⟩
theorem Spn.other {D:Addr}{o:HO}(S:Spn T H x dx Kp Cl Tb us kvs M w Ti cs pl)(mD:D∈M)(n1:D≠x)(n2:D≠Kp)(n3:D≠Cl)(n4:D≠Tb)(nt:∀e∈kvs,e.2≠.ref D):Spn T (L2.upd H D o) x dx Kp Cl Tb us kvs M w Ti cs pl:=by
 have kx:KX M H (L2.upd H D o):=λy u ny e=>by
  have d:y≠D:=λz=>ny (by rw[z];exact mD);rw[aj d];exact e
 refine⟨by rw[aj (Ne.symm n1)];exact S.hx,by rw[aj (Ne.symm n2)];exact S.hK,by rw[aj (Ne.symm n3)];exact S.hC,by rw[aj (Ne.symm n4)];exact S.hT,S.lk,S.lc,λi v q e1 e2=>(S.vec i v q e1 e2).kx kx,λe he=>?_,S.inj,S.mem,S.out,S.ne,λa ha=>?_⟩
 ·obtain⟨p,ta,n,rs,h1,h2,h3,h4,h5,h6,h7⟩:=S.tab e he;have d:ta≠D:=λz=>nt e he (by rw[h1,z]);exact⟨p,ta,n,rs,h1,h2,by rw[aj d];exact h3,h4.kx kx h7,h5,h6,h7⟩
 ·by_cases z:a=D
  ·rw[z];exact⟨_,ag⟩
  ·rw[aj z];exact S.al a ha
end
theorem KX.trans {M M':List Addr}{H H1 H2:Hp}(k:KX M H H1)(k2:KX M' H1 H2)(mf:∀a∈M',a∈M∨H a=none):KX M H H2:=λy o ny e=>by
 refine k2 y o (λz=>?_) (k y o ny e);rcases mf y z with h|h
 ·exact ny h
 ·rw[h]at e;cases e
theorem ju {M M' M2:List Addr}{H H1:Hp}(k:KX M H H1)(mf:∀a∈M',a∈M∨H a=none)(mf2:∀a∈M2,a∈M'∨H1 a=none):∀a∈M2,a∈M∨H a=none:=λa ha=>by
 rcases mf2 a ha with h|h
 ·exact mf a h
 ·by_cases z:a∈M
  ·exact .inl z
  ·refine .inr ?_
   cases e:H a with
   | none=>rfl
   | some o=>rw[k a o z e]at h;cases h
def L7 {K:W.Frag}{mg:Str->Option Value}(T:Tx K mg):Sp:=λvs H Q _=>∃(x dx Kp Cl Tb Vc:Addr) (us:List Addr) (kvs:List (Key×V)) (M:List Addr) (w:Nat) (Ti:List (List (List Int))) (cs:List Nat) (pl:Int) (q:List (List Int)) (c N:Nat),vs=[.ref x,.ref Vc,.int (c:Int)]∧Spn T H x dx Kp Cl Tb us kvs M w Ti cs pl∧VecAt H M Vc q∧Ti.length<20∧kvs.length+N+1<=900∧(∀t:Nat,t<=N->TBd w (Ti++[q]) (cs++[c]) (pl+(t:Int)))∧Piv w (Ti++[q]) (cs++[c]) (pl+(N:Int)) (Ti.length+1)∧
 ∀(H':Hp) (kvs':List (Key×V)) (M':List Addr) (t:Nat),t<=N->Spn T H' x dx Kp Cl Tb (us++[Vc]) kvs' M' w (Ti++[q]) (cs++[c]) (pl+(t:Int))->Piv w (Ti++[q]) (cs++[c]) (pl+(t:Int)) (Ti.length+1)->KX M H H'->(∀a∈M,a∈M')->(∀a∈M',a∈M∨H a=none)->kvs'.length<=kvs.length+t+1->Q .non H'
theorem Eh {P:Program}{w:World}{K:W.Frag}{mg:Str->Option Value}{base:Heap}(T:Tx K mg):FnOk P w K mg base CX0 4 T.Q7 T.Q8 ["self","vector","column"] (L7 T):=by
 refine T.SN.ok LD (λvs H Q E h=>?_) (λcdv A outer s H vs Q E hr h=>?_)
 ·obtain⟨x,dx,Kp,Cl,Tb,Vc,us,kvs,M,w,Ti,cs,pl,q,c,N,rfl,_⟩:=h;rfl
 obtain⟨x,dx,Kp,Cl,Tb,Vc,us,kvs,M,w,Ti,cs,pl,q,c,N,rfl,S,hV,k20,l9,B,pN,fin⟩:=h;refine⟨_,((ai (e9 (fY PySem.F.plainAttrs_list PySem.F.slot_list_append PySem.F.type_list_append e_ (cH (pv 0) rfl) (aa (pv 1) ac)))
  (ai (e9 (fY PySem.F.plainAttrs_list PySem.F.slot_list_append PySem.F.type_list_append e_ (cH (pv 0) rfl) (aa (pv 2) ac)))
  (aq (gy PassesOwn.never (aM kG (fF (pv 0) T.OC T.RX (FnOk.mono (Ee T) (by decide)) hr T.RP .nil aD (aa (cH (pv 0) rfl) ac)) eh (aL _)) (aq (I0 (pv 0) ah I_))))))),?_⟩
 have lk:=S.lk;have lc:=S.lc;dsimp only[aB]
 k_typeOf
 refine⟨_,_,_,S.hx,T.OC,T.OG,_,rfl,fZ (SqL.of S.hK),Kp,rfl,_,S.hK,by rw[ae];exact aX (by omega),?_⟩;have hx1:L2.upd H Kp (.lst (us.map V.ref++[V.ref Vc])) x=some (.ins T.OD dx (iE w Kp Cl pl Tb)):=by
  rw[aj (iM S.hx S.hK (λz=>nomatch z))];exact S.hx
 have hC1:L2.upd H Kp (.lst (us.map V.ref++[V.ref Vc])) Cl=some (.lst ((cs.map λc:Nat=>(c:Int)).map V.int)):=by
  rw[aj (Ne.symm S.ne)];exact S.hC
 dsimp only[aB]
 k_typeOf
 refine⟨_,_,_,hx1,T.OC,T.OI,_,rfl,fZ (SqL.of hC1),Cl,rfl,_,hC1,by rw[ae,ae];exact aX (by omega),?_⟩;have S1:=S.keep (c:=c) hV;have eu:(us++[Vc]).map V.ref=us.map V.ref++[V.ref Vc]:=by rw[aQ];rfl
 have ec:((cs++[c]).map λc:Nat=>(c:Int)).map V.int=(cs.map λc:Nat=>(c:Int)).map V.int++[V.int (c:Int)]:=by rw[aQ,aQ];rfl
 rw[eu,ec]at S1;have kx1:KX M H (L2.upd (L2.upd H Kp (.lst (us.map V.ref++[V.ref Vc]))) Cl (.lst ((cs.map λc:Nat=>(c:Int)).map V.int++[V.int (c:Int)]))):=λy o ny e=>by
  have d1:y≠Cl:=λz=>ny (by rw[z];exact S.mem.2.2.1);have d2:y≠Kp:=λz=>ny (by rw[z];exact S.mem.2.1);rw[aj d1,aj d2];exact e
 generalize L2.upd (L2.upd H Kp (.lst (us.map V.ref++[V.ref Vc]))) Cl (.lst ((cs.map λc:Nat=>(c:Int)).map V.int++[V.int (c:Int)]))=H1 at S1 kx1 ⊢;clear hx1 hC1;have lk1:(Ti++[q]).length=Ti.length+1:=by simp
 k_units
 obtain⟨J,hJ⟩:∃J:Nat->L2.St->Hp->Prop,∀m σ H',J m σ H'↔∃(t:Nat) (kvs':List (Key×V)) (M':List Addr),σ=[some (V.ref x),some (V.ref Vc),some (V.int (c:Int))]∧t<=N∧m=N-t∧Spn T H' x dx Kp Cl Tb (us++[Vc]) kvs' M' w (Ti++[q]) (cs++[c]) (pl+(t:Int))∧KX M H H'∧(∀a∈M,a∈M')∧(∀a∈M',a∈M∨H a=none)∧kvs'.length<=kvs.length+t:=⟨_,λ_ _ _=>Iff.rfl⟩
 refine gD J N ((hJ _ _ _).mpr ⟨0,kvs,M,rfl,aI _,by omega,by rw[show pl+((0:Nat):Int)=pl by omega];exact S1,kx1,λ_ h=>h,λ_ h=>.inl h,by omega⟩) ?_;intro m σ H2 hm;obtain⟨t,kvs',M',rfl,tN,rfl,S2,kx2,ms,mf,l2⟩:=(hJ _ _ _).mp hm
 k_units
 refine⟨dx,_,S2.hx,rfl,_,_,_,S2.hx,T.OC,T.OP,_,rfl,x,dx,Kp,Cl,Tb,us++[Vc],kvs',M',w,Ti++[q],cs++[c],_,pl+(t:Int),rfl,S2,B t tN,by omega,by rw[lk1];omega,λH3 kvs3 M3 S3 kw3 ms3 mf3 l3 tk3=>⟨λta rs tM eta hrs pv=>?_,λnp=>?_⟩⟩
 ·show if V.ref ta=V.non then _ else Q V.non H3
  rw[if_neg (λz=>nomatch z)];rw[lk1]at pv;exact fin H3 kvs3 M3 t tN S3 pv (kx2.trans (S2.kx kw3) mf) (λa h=>ms3 a (ms a h)) (ju kx2 mf mf3) (by omega)
 ·show if V.non=V.non then _ else Q V.non H3
  rw[if_pos rfl];rw[lk1]at np;have tl:t<N:=by
   rcases GC t N with h|h
   ·exact h
   ·rw[show t=N by omega]at np;exact absurd pN np
  refine⟨J (N-(t+1)),λσ' H' z=>⟨_,by omega,z⟩,_,_,_,S3.hx,T.OC,T.OP,_,rfl,_,rfl,_,_,S3.hx,by show 5<1000;decide,(hJ _ _ _).mpr ⟨t+1,kvs3,M3,rfl,tl,rfl,?_,?_,λa h=>ms3 a (ms a h),ju kx2 mf mf3,by omega⟩⟩
  ·have S4:=S3.go (pl':=pl+((t+1:Nat):Int));have e:aG (Str.ofString "place") (V.int (pl+(t:Int)+1)) (iE w Kp Cl (pl+(t:Int)) Tb)=iE w Kp Cl (pl+((t+1:Nat):Int)) Tb:=by
    rw[show pl+((t+1:Nat):Int)=pl+(t:Int)+1 by omega];rfl
   rw[e];exact S4
  ·refine (kx2.trans (S2.kx kw3) mf).trans (M':=M3) (λy o ny e=>?_) (ju kx2 mf mf3);have d:y≠x:=λz=>ny (by rw[z];exact S3.mem.1);rw[aj d];exact e
theorem j1 (a:Int):(if a<0 then -a else a)=((a.natAbs:Nat):Int):=by split <;> omega
theorem L_ {a b u0 u1 l0 l1 s:Int}(hs:s=1∨s=-1)(hd:u0*l1-u1*l0=s):bh (u0*a+u1*b).natAbs (l0*a+l1*b).natAbs=bh a.natAbs b.natAbs:=by
 have key:∀{x y p q r t:Int},((bh x.natAbs y.natAbs:Nat):Int)∣p*x+q*y:=λ{x y p q r t}=>by
  have h1:((bh x.natAbs y.natAbs:Nat):Int)∣x:=mw.mpr (md _ _);have h2:((bh x.natAbs y.natAbs:Nat):Int)∣y:=mw.mpr (me _ _);exact Gu (fS h1 (rn _ _)) (fS h2 (rn _ _))
 have ss:s*s=1:=by rcases hs with rfl|rfl <;> rfl
 refine GD (rF ?_ ?_) (rF ?_ ?_)
 ·refine mw.mp ?_;have e:a=(s*l1)*(u0*a+u1*b)+(-(s*u1))*(l0*a+l1*b):=by
   have:(s*l1)*(u0*a+u1*b)+(-(s*u1))*(l0*a+l1*b)=s*(u0*l1-u1*l0)*a:=by grind
   rw[this,hd,ss,fu]
  conv=>rhs;rw[e]
  exact key (r:=0) (t:=0)
 ·refine mw.mp ?_;have e:b=(-(s*l0))*(u0*a+u1*b)+(s*u0)*(l0*a+l1*b):=by
   have:(-(s*l0))*(u0*a+u1*b)+(s*u0)*(l0*a+l1*b)=s*(u0*l1-u1*l0)*b:=by grind
   rw[this,hd,ss,fu]
  conv=>rhs;rw[e]
  exact key (r:=0) (t:=0)
 ·exact mw.mp (key (r:=0) (t:=0))
 ·exact mw.mp (key (r:=0) (t:=0))
structure Lh (a0 b0 x y P Q R S:Nat)(s:Int):Prop where
 hs:s=1∨s=-1
 det:(P:Int)*S-Q*R=s
 hx:s*(P*a0-Q*b0)=(x:Int)
 hy:s*(S*b0-R*a0)=(y:Int)
 xh:2 ^ 150<=x
 yx:y<=x
 hP:P<=a0+b0+1
 hQ:Q<=a0+b0+1
theorem Lh.sizes {a0 b0 x y P Q R S:Nat}{s:Int}(h:Lh a0 b0 x y P Q R S s):S*x+Q*y=a0∧R*x+P*y=b0:=by
 have ss:s*s=1:=by rcases h.hs with z|z <;> rw[z] <;> rfl
 have e1:(S:Int)*x+Q*y=a0:=by
  rw[←h.hx,←h.hy];have:(S:Int)*(s*(P*a0-Q*b0))+Q*(s*(S*b0-R*a0))=s*(P*S-Q*R)*a0:=by grind
  rw[this,h.det,ss,fu]
 have e2:(R:Int)*x+P*y=b0:=by
  rw[←h.hx,←h.hy];have:(R:Int)*(s*(P*a0-Q*b0))+P*(s*(S*b0-R*a0))=s*(P*S-Q*R)*b0:=by grind
  rw[this,h.det,ss,fu]
 exact⟨by exact_mod_cast e1,by exact_mod_cast e2⟩
theorem Lh.few {a0 b0 x y P Q R S:Nat}{s:Int}(h:Lh a0 b0 x y P Q R S s):R<=a0+b0+1∧S<=a0+b0+1∧x<=a0+b0:=by
 obtain⟨h1,h2⟩:=h.sizes;have x1:1<=x:=aE (dj 150) h.xh;have hR:R<=R*x:=ig _ x1;have hS:S<=S*x:=ig _ x1;refine⟨by omega,by omega,?_⟩;by_cases z:S=0
 ·by_cases z2:R=0
  ·have:=h.det;rw[z,z2]at this;rcases h.hs with y|y <;> rw[y]at this <;> simp at this
  ·have:x<=R*x:=gv _ (by omega);omega
 ·have:x<=S*x:=gv _ (by omega);omega
theorem Lh.step {a0 b0 x y P Q R S:Nat}{s:Int}(h:Lh a0 b0 x y P Q R S s)(hy:2 ^ 150<=y):Lh a0 b0 y (x % y) R S (P+x / y*R) (Q+x / y*S) (-s):=by
 obtain⟨f1,f2,_⟩:=h.few;have ex:(x:Int)=(x / y:Nat)*(y:Int)+(x % y:Nat):=by exact_mod_cast (xU x y).symm
 refine⟨by rcases h.hs with z|z <;> simp[z],?_,?_,?_,hy,bW (kC _ (by have:=dj 150;omega)),f1,f2⟩
 ·have:=h.det
  push_cast
  generalize ((x / y:Nat):Int)=t;grind
 ·rw[←h.hy];grind
 ·have h1:=h.hx;have h2:=h.hy;have e:((x % y:Nat):Int)=x-(x / y:Nat)*y:=by omega
  rw[e,←h1,←h2]
  push_cast
  generalize ((x / y:Nat):Int)=t;grind
theorem Lh.less {a b x y P Q R S c:Nat}{s:Int}(h:Lh (a / 2 ^ c) (b / 2 ^ c) x y P Q R S s)(ha:2 ^ (c+299)<=a)(ha2:a<2 ^ (c+300))(hba:b<=a)(hy:y<2 ^ 150):((-s*R)*(a:Int)+(s*S)*b).natAbs<a:=by
 obtain⟨h1,h2⟩:=h.sizes;have c0:=dj c;have a3:a / 2 ^ c<2 ^ 300:=by rw[Oh c0,←de,lQ 300 c];exact ha2
 have b3:b / 2 ^ c<=a / 2 ^ c:=Oi hba;have p3:(2:Nat) ^ 300=2 ^ 150*2 ^ 150:=by rw[←de]
 have hS:S<2 ^ 150:=by
  refine ko λz=>?_;have:=d8 z h.xh;omega
 have hR:R<2 ^ 150:=by
  refine ko λz=>?_;have:=d8 z h.xh;omega
 have ea:(a:Int)=(a / 2 ^ c:Nat)*(2 ^ c:Nat)+(a % 2 ^ c:Nat):=by exact_mod_cast (xU a (2 ^ c)).symm
 have eb:(b:Int)=(b / 2 ^ c:Nat)*(2 ^ c:Nat)+(b % 2 ^ c:Nat):=by exact_mod_cast (xU b (2 ^ c)).symm
 have ra:a % 2 ^ c<2 ^ c:=kC _ c0;have rb:b % 2 ^ c<2 ^ c:=kC _ c0;have e:(-s*R)*(a:Int)+(s*S)*b=(y:Int)*(2 ^ c:Nat)+(s*(S*(b % 2 ^ c:Nat))-s*(R*(a % 2 ^ c:Nat))):=by
  rw[←h.hy];generalize a % 2 ^ c=ra at ea ra ⊢;generalize b % 2 ^ c=rb at eb rb ⊢;generalize ((a / 2 ^ c:Nat):Int)=A at ea ⊢;generalize ((b / 2 ^ c:Nat):Int)=Bb at eb ⊢;generalize ((2 ^ c:Nat):Int)=C at ea eb ⊢;rw[ea,eb];grind
 rw[e];have t1:((y:Int)*(2 ^ c:Nat)).natAbs<=2 ^ 150*2 ^ c:=by
  rw[b4,df,df];exact dE _ (bW hy)
 have sz:∀t r:Nat,t<2 ^ 150->r<2 ^ c->(s*((t:Int)*(r:Int))).natAbs<=2 ^ 150*2 ^ c:=λt r h1 h2=>by
  rw[b4,b4,df,df];have:s.natAbs=1:=by rcases h.hs with z|z <;> rw[z] <;> rfl
  rw[this,fR];exact d8 (bW h1) (bW h2)
 have t2:=sz S (b % 2 ^ c) hS rb;have t3:=sz R (a % 2 ^ c) hR ra;have big:4*(2 ^ 150*2 ^ c)<=2 ^ (c+299):=by
  have:(4:Nat)*(2 ^ 150*2 ^ c)=2 ^ (c+152):=by
   rw[show c+152=2+(150+c) by omega,de,de]
  rw[this];exact fo (by decide) (by omega)
 have pos:0<2 ^ 150*2 ^ c:=gS (dj _) c0;generalize 2 ^ 150*2 ^ c=Z at t1 t2 t3 big pos;have:=i8 ((y:Int)*(2 ^ c:Nat)) (s*(S*(b % 2 ^ c:Nat))-s*(R*(a % 2 ^ c:Nat)));have:=km (s*(S*(b % 2 ^ c:Nat))) (s*(R*(a % 2 ^ c:Nat)));omega
def Mc:Sp:=λvs H Q _=>∃(a b:Nat),vs=[.int (a:Int),.int (b:Int)]∧b<=a∧4000<Builtin.Int.intBits (a:Int)∧Bd 1000000 (a:Int)∧∀(c d:Nat) (r:Addr) (H':Hp),Same H H'->H' r=some (.tup [.int (c:Int),.int (d:Int)])->bh c d=bh a b->d<a->Q (.ref r) H'
theorem Md {P:Program}{w:World}{K:W.Frag}{mg:Str->Option Value}{base:Heap}(T:Tx K mg):FnOk P w K mg base CX0 1 T.PD T.PF ["big","small"] Mc:=by
 refine T.Rj.ok sc_shortened (λvs H Q E h=>?_) (λcdv A outer s H vs Q E hr h=>?_)
 ·obtain⟨a,b,rfl,_⟩:=h;rfl
 obtain⟨a,b,rfl,hba,ha,ha2,q⟩:=h;refine⟨_,((ai (au (i:=2) sc_shortened.nd rfl (Or.inl rfl) (ao cX (vJ PySem.F.plainAttrs_int PySem.F.slot_int_bit_length PySem.F.type_int_bit_length CK (pv 0)) (mH (v:=.int 300) rfl T.R7.2 ⟨_,rfl⟩)))
  (ai (au (i:=3) sc_shortened.nd rfl (Or.inl rfl) (ao BS (pv 0) (pv 2)))
  (ai (au (i:=4) sc_shortened.nd rfl (Or.inl rfl) (ao BS (pv 1) (pv 2)))
  (ai (au (i:=5) sc_shortened.nd rfl (Or.inl rfl) (ao IQ ah (ao kF (mH (v:=.int 300) rfl T.R7.2 ⟨_,rfl⟩) ah)))
  (ai (au (i:=6) sc_shortened.nd rfl (Or.inl rfl) (ji (aa ah (aa ah ac))))
  (ai (au (i:=7) sc_shortened.nd rfl (Or.inl rfl) (ji (aa ah (aa ah ac))))
  (ai (gy PassesOwn.never (aM BX (pv 4) (pv 5) (aL _)) (ai (au (i:=8) sc_shortened.nd rfl (Or.inl rfl) (ao jm (pv 3) (pv 4)))
  (ai (au (i:=9) sc_shortened.nd rfl (Or.inl rfl) (ao cX (pv 3) (ao dw (pv 8) (pv 4))))
  (ai (au (i:=3) sc_shortened.nd rfl (Or.inl rfl) (pv 4))
  (ai (au (i:=4) sc_shortened.nd rfl (Or.inl rfl) (pv 9))
  (ai (au (i:=10) sc_shortened.nd rfl (Or.inl rfl) (ji (aa (ao cX (aH dS (pv 6) ah (λ_ _=>rfl)) (ao dw (pv 8) (aH dS (pv 7) ah (λ_ _=>rfl)))) (aa (ao cX (aH dS (pv 6) ah (λ_ _=>rfl)) (ao dw (pv 8) (aH dS (pv 7) ah (λ_ _=>rfl)))) ac))))
  (ai (au (i:=6) sc_shortened.nd rfl (Or.inl rfl) (pv 7))
  (aq (au (i:=7) sc_shortened.nd rfl (Or.inl rfl) (pv 10))))))))))
  (aq (aF (ji (aa (aA jg rfl T.OK jn (aa (ao cG (ao dw (aH dS (pv 6) ah (λ_ _=>rfl)) (pv 0)) (ao dw (aH dS (pv 6) ah (λ_ _=>rfl)) (pv 1))) ac)) (aa (aA jg rfl T.OK jn (aa (ao cG (ao dw (aH dS (pv 7) ah (λ_ _=>rfl)) (pv 0)) (ao dw (aH dS (pv 7) ah (λ_ _=>rfl)) (pv 1))) ac)) ac))))))))))))),?_⟩
 obtain⟨bl,hbl,hb1,hb2⟩:∃bl:Nat,Builtin.Int.intBits (a:Int)=bl∧2 ^ (bl-1)<=a∧a<2 ^ bl:=by
  refine⟨_,rfl,?_,?_⟩
  ·refine lU λz=>?_;have:=vP (i:=(a:Int)) (k:=Builtin.Int.intBits (a:Int)-1) (by rw[df];exact z);omega
  ·have:=(intBits_le_iff (m:=Builtin.Int.intBits (a:Int)) (x:=(a:Int))).mp (am _);rw[df]at this;exact this
 rw[hbl]at ha;have hb3:4000<=bl:=by omega
 obtain⟨c,hc⟩:∃c,bl=c+300:=⟨bl-300,by omega⟩
 have ea:(a:Int) / 2 ^ c=((a / 2 ^ c:Nat):Int):=by push_cast;rfl
 have eb:(b:Int) / 2 ^ c=((b / 2 ^ c:Nat):Int):=by push_cast;rfl
 have c0:=dj c;have a299:2 ^ 299<=a / 2 ^ c:=by
  rw[Nat.le_div_iff_mul_le c0,←de];rw[hc,show c+300-1=299+c by omega]at hb1;exact hb1
 have a300:a / 2 ^ c<2 ^ 300:=by
  rw[Oh c0,←de,lQ 300 c,←hc];exact hb2
 have b0a:b / 2 ^ c<=a / 2 ^ c:=Oi hba;have p1:(2:Nat) ^ 150<=2 ^ 299:=fo (by decide) (by decide);dsimp only[aB]
 k_typeOf
 rw[hbl,show ((bl:Nat):Int)-300=(c:Int) by omega];dsimp only[aB]
 k_typeOf
 refine⟨by omega,?_⟩;rw[eE,ea];dsimp only[aB]
 k_typeOf
 refine⟨by omega,?_⟩;rw[eE,eb];dsimp only[aB]
 k_typeOf
 refine⟨⟨by decide,by decide⟩,⟨by decide,by decide,by decide⟩,?_⟩;obtain⟨hf,ehf,hhf⟩:∃hf:Nat,(1:Int)*2 ^ ((300:Int) / 2).toNat=(hf:Int)∧hf=2 ^ 150:=⟨2 ^ 150,by decide,rfl⟩
 rw[ehf];clear ehf;dsimp only[aB]
 k_typeOf
 refine⟨by decide,λU0 n0=>?_⟩;have u0:=ar n0 (.tup [V.int 1,V.int 0]);have e0:=ag (H:=H) (a:=U0) (o:=.tup [V.int 1,V.int 0]);generalize L2.upd H U0 (.tup [V.int 1,V.int 0])=H0 at u0 e0 ⊢;dsimp only[aB]
 k_typeOf
 refine⟨by decide,λL0 n1=>?_⟩;have u1:=ar n1 (.tup [V.int 0,V.int 1]);have e1:=ag (H:=H0) (a:=L0) (o:=.tup [V.int 0,V.int 1]);have f1:=u1 _ _ e0;have s1:=u0.trans u1;generalize L2.upd H0 L0 (.tup [V.int 0,V.int 1])=H1 at s1 e1 f1 ⊢;clear u0 u1 e0 n0 n1;generalize ha0:a / 2 ^ c=a0 at a299 a300 b0a ⊢;generalize hb0:b / 2 ^ c=b0 at b0a ⊢;have p302:(2:Nat) ^ 302=4*2 ^ 300:=by rw[show (302:Nat)=2+300 by rfl,de]
 have bk:∀{k:Nat},k<=a0+b0+1->Bd 302 (k:Int):=λ{k} hk=>by
  show k<2 ^ 302;omega
 have bs:∀{k:Nat}{t:Int},k<=a0+b0+1->(t=1∨t=-1)->Bd 302 (t*(k:Int)):=λ{k t} hk ht=>by
  rcases ht with rfl|rfl
  ·rw[fu];exact bk hk
  ·rw[show (-1:Int)*k=-k by omega];exact (bk hk).neg
 clear p302;dsimp only[aB]
 k_typeOf
 obtain⟨J,hJ⟩:∃J:Nat->L2.St->Hp->Prop,∀m σ H',J m σ H'↔∃(x y P Q R S:Nat) (s:Int) (U L:Addr) (r8 r9 r10:Option V),σ=[some (V.int (a:Int)),some (V.int (b:Int)),some (V.int (c:Int)),some (V.int (x:Int)),some (V.int (y:Int)),some (V.int (hf:Int)),some (V.ref U),some (V.ref L),r8,r9,r10]∧m=y∧Lh a0 b0 x y P Q R S s∧H' U=some (.tup [V.int (s*P),V.int (-s*Q)])∧H' L=some (.tup [V.int (-s*R),V.int (s*S)])∧Same H H':=⟨_,λ_ _ _=>Iff.rfl⟩
 refine gD J b0 ((hJ _ _ _).mpr ⟨a0,b0,1,0,0,1,1,U0,L0,none,none,none,rfl,rfl,⟨.inl rfl,by simp,by simp,by simp,aE p1 a299,b0a,by omega,by omega⟩,by rw[f1];rfl,by rw[e1];rfl,s1⟩) ?_;intro m σ H2 hm;obtain⟨x,y,P',Q',R',S',s',U,L,r8,r9,r10,rfl,rfl,lh,eU,eL,s2⟩:=(hJ _ _ _).mp hm;obtain⟨g1,g2,g3⟩:=lh.few;have hs':-s'=1∨-s'=-1:=by rcases lh.hs with z|z <;> simp[z]
 k_units
 refine bJ (λz=>?_) (λz=>?_)
 ·have zy:2 ^ 150<=m:=by rw[←hhf];exact_mod_cast z
  have m0:m≠0:=by have:=dj 150;omega
  have ef:(x:Int).fdiv (m:Int)=((x / m:Nat):Int):=by rw[xB _ (by omega)];exact_mod_cast rfl
  have er:(x:Int)-((x / m:Nat):Int)*(m:Int)=((x % m:Nat):Int):=by
   have:(x:Int)=(x / m:Nat)*(m:Int)+(x % m:Nat):=by exact_mod_cast (xU x m).symm
   omega
  have st:=lh.step zy;have yx:=lh.yx;have bx:Bd 302 (((x / m:Nat)):Int):=bk (aE (Nat.div_le_self _ _) (by omega));have bm:Bd 302 (m:Int):=bk (by omega);rw[ef];refine⟨J (x % m),λσ' H' h=>⟨_,kC _ (by omega),h⟩,by omega,bV (show ((m:Nat):Int).natAbs<2 ^ 302 from bm) (fo (by decide) (by decide)),bx.fits bm (by decide),_,SqT.of eU,_,rfl,_,SqT.of eL,_,rfl,_,rfl,bx.fits (bs g1 hs') (by decide),_,rfl,_,SqT.of eU,_,rfl,_,SqT.of eL,_,rfl,_,rfl,bx.fits (bs g2 lh.hs) (by decide),_,rfl,by decide,λp np=>?_⟩;have w1:=ar np (.tup [V.int (s'*P'-((x / m:Nat):Int)*(-s'*R')),V.int (-s'*Q'-((x / m:Nat):Int)*(s'*S'))]);rw[er];refine (hJ _ _ _).mpr ⟨m,x % m,R',S',_,_,_,L,p,_,_,_,rfl,rfl,st,?_,?_,s2.trans w1⟩
  ·rw[w1 _ _ eL];simp
  ·rw[ag];congr 4
   ·push_cast
    generalize ((x / m:Nat):Int)=t;grind
   ·push_cast
    generalize ((x / m:Nat):Int)=t;congr 2;grind
 ·have zy:m<2 ^ 150:=by rw[←hhf];exact ko λy=>z (by exact_mod_cast y)
  have bb:Bd 1000000 (b:Int):=cE (show (b:Int).natAbs<=(a:Int).natAbs by omega) ha2;have ls:((-s'*R')*(a:Int)+(s'*S')*b).natAbs<a:=by
   rw[←ha0,←hb0]at lh;refine lh.less ?_ ?_ hba zy
   ·rw[show c+299=bl-1 by omega];exact hb1
   ·rw[←hc];exact hb2
  have bP:=bs lh.hP lh.hs;have bQ:=bs lh.hQ hs';refine⟨_,SqT.of eU,_,rfl,_,rfl,bP.fits ha2 (by decide),_,SqT.of eU,_,rfl,_,rfl,bQ.fits bb (by decide),_,SqT.of eL,_,rfl,_,rfl,(bs g1 hs').fits ha2 (by decide),_,SqT.of eL,_,rfl,_,rfl,(bs g2 lh.hs).fits bb (by decide),by decide,λp np=>?_⟩;rw[j1,j1];refine q _ _ p _ (s2.trans (ar np _)) ag ?_ ls
  ·have:=L_ (a:=(a:Int)) (b:=(b:Int)) (u0:=s'*P') (u1:=-s'*Q') (l0:=-s'*R') (l1:=s'*S') (s:=s') lh.hs (by
    have h1:=lh.det;have h2:s'*s'=1:=by rcases lh.hs with z|z <;> rw[z] <;> rfl
    grind)
   rw[this,df,df]
def Me:Sp:=λvs H Q _=>∃a b:Int,vs=[.int a,.int b]∧Bd 1000000 b∧∀H',Same H H'->Q (.int (bh a.natAbs b.natAbs:Nat)) H'
theorem wT {P:Program}{w:World}{K:W.Frag}{mg:Str->Option Value}{base:Heap}(T:Tx K mg):FnOk P w K mg base CX0 2 T.PH T.PJ ["one","other"] Me:=by
 refine T.OT.ok sc_divisor (λvs H Q E h=>?_) (λcdv A outer s H vs Q E hr h=>?_)
 ·obtain⟨a,b,rfl,_⟩:=h;rfl
 obtain⟨a,b,rfl,hb,q⟩:=h;refine⟨_,((ai (au (i:=2) sc_divisor.nd rfl (Or.inl rfl) (aA jg rfl T.OK jn (aa (pv 0) ac)))
  (ai (au (i:=3) sc_divisor.nd rfl (Or.inl rfl) (aA jg rfl T.OK jn (aa (pv 1) ac)))
  (ai (gy PassesOwn.never (aM gz (vJ PySem.F.plainAttrs_int PySem.F.slot_int_bit_length PySem.F.type_int_bit_length CK (pv 3)) (mH (v:=.int 4000) rfl T.Te.2 ⟨_,rfl⟩) (aL _)) (ai (au (i:=4) sc_divisor.nd rfl (Or.inl rfl) (aN (FnOk.mono (Md T) (by decide)) hr rfl T.R8 T.Rj.kp T.R9 .nil aD (aa (pv 3) (aa (ao fN (pv 2) (pv 3)) ac))))
  (ai (au (i:=2) sc_divisor.nd rfl (Or.inl rfl) (aH dS (pv 4) ah (λ_ _=>rfl)))
  (aq (au (i:=3) sc_divisor.nd rfl (Or.inl rfl) (aH dS (pv 4) ah (λ_ _=>rfl)))))))
  (ai (gy PassesOwn.never (aM gf (pv 3) ah (aL _)) (ai (au (i:=5) sc_divisor.nd rfl (Or.inl rfl) (ao fN (pv 2) (pv 3)))
  (ai (au (i:=2) sc_divisor.nd rfl (Or.inl rfl) (pv 3))
  (aq (au (i:=3) sc_divisor.nd rfl (Or.inl rfl) (pv 5))))))
  (aq (aF (pv 2)))))))),?_⟩
 (iterate 3 (k_units;(try simp only[j1]));k_units)
 obtain⟨J,hJ⟩:∃J:Nat->L2.St->Hp->Prop,∀m σ H',J m σ H'↔∃(x y:Nat) (r4:Option V),σ=[some (V.int a),some (V.int b),some (V.int (x:Int)),some (V.int (y:Int)),r4,none]∧m=y∧bh x y=bh a.natAbs b.natAbs∧Bd 1000000 (y:Int)∧Same H H':=⟨_,λ_ _ _=>Iff.rfl⟩
 refine gD J b.natAbs ((hJ _ _ _).mpr ⟨a.natAbs,b.natAbs,none,rfl,rfl,rfl,by show ((b.natAbs:Nat):Int).natAbs<_;rw[df];exact hb,Same.refl _⟩) ?_;intro m σ H1 hm;obtain⟨x,y,r4,rfl,rfl,hg,by',s1⟩:=(hJ _ _ _).mp hm
 k_units
 refine bJ (λz=>?_) (λz=>?_)
 ·have m0:m≠0:=λy=>by rw[y]at z;revert z;decide
  have em:(x:Int) % (m:Int)=((x % m:Nat):Int):=by exact_mod_cast rfl
  rw[em];refine⟨λσ' H'=>∃m',m'<m∧J m' σ' H',λσ' H' h=>h,by omega,m,x % m,rfl,bW (kC _ (by omega)),by exact_mod_cast z,by',λc d r H2 s2 er hg2 hd=>⟨r,rfl,_,SqT.of er,_,rfl,r,rfl,_,SqT.of er,_,rfl,d,hd,(hJ _ _ _).mpr ⟨c,d,_,rfl,rfl,?_,?_,s1.trans s2⟩⟩⟩
  ·rw[hg2,←hg,rG m,←GE,rG]
  ·exact cE (show (d:Int).natAbs<=(m:Int).natAbs by omega) by'
 ·clear hm hJ J;refine gD (λk σ H2=>∃(x y:Nat) (r:Option V),σ=[some (V.int a),some (V.int b),some (.int x),some (.int y),r4,r]∧H2=H1∧k=y∧bh x y=bh a.natAbs b.natAbs) m ⟨x,m,none,rfl,rfl,rfl,hg⟩ ?_
  rintro k σ H2 ⟨x,y,r,rfl,rfl,rfl,hg⟩
  k_units
  refine bJ (λh=>?_) (λh=>?_)
  ·refine⟨λσ' H3=>σ'=[some (V.int a),some (V.int b),some (V.int k),some (V.int ((x:Int) % (k:Int))),r4,some (V.int ((x:Int) % (k:Int)))]∧H3=H2,?_,by omega,rfl,rfl⟩
   rintro σ' H3 ⟨rfl,rfl⟩
   refine⟨x % k,kC _ (by omega),k,x % k,_,by rw[←Int.natCast_emod],rfl,rfl,?_⟩;rw[rG k,←GE,rG];exact hg
  ·have h0:k=0:=by omega
   subst h0;rw[Nat.gcd_zero_right]at hg;rw[hg];exact q H2 s1
def Ei (K:W.Frag)(c:Addr):Sp:=λvs H Q E=>∃(a b:Addr) (one Tk:List Int) (k l:Nat),vs=[.ref a,.ref b]∧SqL K H a (one.map V.int)∧SqL K H b (Tk.map V.int)∧one.length<=64∧Tk.length<=64∧Nml one∧Nml Tk∧
 (∀x∈one,Bd k x)∧(∀y∈Tk,Bd l y)∧k<=100000∧l<=8995∧
 ((Tk=[]∧E (.ref c) none H)∨(Tk≠[]∧((∃q,Nml q∧Div one Tk q∧dH H Q (q.map V.int))∨((∀q,¬Div one Tk q)∧∀H',Same H H'->Q .non H'))))
theorem Ej {k:Nat}{x d:Int}(h:Bd k x)(hd:d≠0):Bd (k+1) (x.fdiv d):=by
 unfold Bd at *;have e:=Int.fmod_add_mul_fdiv x d;have r:(x.fmod d).natAbs<d.natAbs:=by
  rcases Int.lt_or_gt_of_ne hd with g|g
  ·have h1:=Oj (-x) (show 0 < -d by omega);have h2:=Int.fmod_lt_of_pos (-x) (show 0 < -d by omega);rw[Int.neg_fmod_neg]at h1 h2;omega
  ·have h1:=Oj x g;have h2:=Int.fmod_lt_of_pos x g;omega
 have a:(d*x.fdiv d).natAbs=d.natAbs*(x.fdiv d).natAbs:=b4 _ _;have s:d.natAbs*(x.fdiv d).natAbs<2 ^ k+d.natAbs:=by
  rw[←a,show d*x.fdiv d=x-x.fmod d by clear a r h hd;omega];exact cE (km _ _) (Nat.add_lt_add h r)
 have d1:1<=d.natAbs:=iK.mpr hd;clear e a r h;generalize d.natAbs=dn at *;generalize (x.fdiv d).natAbs=qn at *;rw[i7];by_cases z:qn<=1
 ·have:=dj k;omega
 ·have m:dn*2<=dn*qn:=dC _ (by omega);have m2:qn<=dn*qn:=gv _ d1;omega
theorem wU {P:Program}{w:World}{K:W.Frag}{mg:Str->Option Value}{base:Heap}(T:Tx K mg):FnOk P w K mg base (CXE P w) 3 T.Pu T.Px ["one","other"] (Ei K T.Rc):=by
 refine T.OS.okE sc_quotient (λvs H Q E h=>?_) (λcdv A outer s H vs Q E hr h=>?_)
 ·obtain⟨a,b,one,Tk,k,l,rfl,_⟩:=h;rfl
 obtain⟨a,b,one,Tk,k,l,rfl,hA,hB,la,lb,no,nt,bk,bl,hk,hl,q⟩:=h;refine⟨_,((ai (bC (PT.nox (aM fE (aA aU rfl T.OB aS (aa (pv 1) ac)) ah (aL _))) (aq (J_ rfl J9 rfl T.SU T.SV (aa Iv ac))) bI)
  (ai (PS.nox (au (i:=2) sc_quotient.nd rfl (Or.inl rfl) (fX iy rfl T.OF fG (aa (pv 0) ac))))
  (ai (PS.nox (au (i:=3) sc_quotient.nd rfl (Or.inl rfl) (aA (jh rfl) rfl T.OH iz (aa ah (aa (ao cG (ao cX (aA aU rfl T.OB aS (aa (pv 0) ac)) (aA aU rfl T.OB aS (aa (pv 1) ac))) ah) ac)))))
  (ai (PS.nox (au (i:=4) sc_quotient.nd rfl (Or.inl rfl) (ao iR (bN (aa ah ac)) (pv 3))))
  (ai (PS.nox (bY PassesOwn.never rfl (vN rfl T.OE (aa (ao cX (pv 3) ah) (aa (dF dG ah) (aa (dF dG ah) ac)))) (a7 (i:=5) sc_quotient.nd rfl (Or.inl rfl)) (ai (au (i:=6) sc_quotient.nd rfl (Or.inl rfl) (aH a_ (pv 2) (ao cX (ao cG (pv 5) (aA aU rfl T.OB aS (aa (pv 1) ac))) ah) (λ_ _=>rfl)))
  (ai (au (i:=7) sc_quotient.nd rfl (Or.inl rfl) (ao jm (pv 6) (aH a_ (pv 1) (dF dG ah) (λ_ _=>rfl))))
  (ai (bC (aM gf (ao dw (pv 7) (aH a_ (pv 1) (dF dG ah) (λ_ _=>rfl))) (pv 6) (aL _)) (aq (aF eh)) bI)
  (ai (jK (pv 7) (jJ (pv 4) (pv 5) iw))
  (aq (bY PassesOwn.never rfl (o4 rfl T.Pa (aa (pv 1) ac)) (gX rfl (dQ (a7 (i:=8) sc_quotient.nd rfl (Or.inl rfl)) (dQ (a7 (i:=9) sc_quotient.nd rfl (Or.inl rfl)) gW))) (aq (ve (pv 2) (ao cG (pv 5) (pv 8)) vR (ao dw (pv 7) (pv 9)) vh iw))))))))))
  (ai (PS.nox (bC (aM gz (aA aU rfl T.OB aS (aa (aN (FnOk.mono (wI T) (by decide)) hr rfl T.Pf T.OQ.kp T.Pg .nil aD (aa (pv 2) ac)) ac)) ah (aL _)) (aq (aF eh)) bI))
  (aq (PS.nox (aF (pv 4))))))))))),?_⟩
 k_units
 refine⟨_,.inl hB,?_⟩;rw[ae];refine bJ (λh0=>?_) (λh0=>?_)
 ·rcases q with ⟨_,q⟩|⟨hn,_⟩
  ·exact⟨by decide,q⟩
  ·exact absurd (bE (by omega)) hn
 have hne:Tk≠[]:=by intro z;rw[z]at h0;simp at h0
 have q:=(q.resolve_left λz=>hne z.1).2;have lo:=dO.mpr hne;refine⟨_,.inl hA,λR nR=>?_⟩;have s1:=ar nR (.lst (one.map V.int));refine⟨_,.inl (s1.seq hA),_,.inl (s1.seq hB),by decide,λp np=>⟨_,ag,?_⟩⟩;have s2:=ar np (.lst [V.int 0]);rw[ae,ae,js];obtain⟨n,hn⟩:∃n:Nat,(if (one.length:Int)-(Tk.length:Int)+1 > 0 then (one.length:Int)-(Tk.length:Int)+1 else 0)=(n:Int):=⟨one.length+1-Tk.length,by split <;> omega⟩
 have hn':n=one.length+1-Tk.length:=by split at hn <;> omega
 rw[hn,eE];refine⟨by omega,by omega,bW (aX (by simp;omega)),λA0 nA=>?_⟩;have s3:=ar nA (.lst ((aC n (0:Int)).map V.int));have sG:=s1.trans (s2.trans s3);have gR:=s3 _ _ (s2 _ _ (ag (H:=H) (a:=R) (o:=.lst (one.map V.int))));have gA:upd (upd (upd H R (.lst (one.map V.int))) p (.lst [V.int 0])) A0 (.lst ((aC n (0:Int)).map V.int)) A0=_:=ag;have hRA:R≠A0:=dq (s2 _ _ (ag (H:=H) (a:=R) (o:=.lst (one.map V.int)))) nA;have fA:=(s1.trans s2).free nA;generalize upd (upd (upd H R (.lst (one.map V.int))) p (.lst [V.int 0])) A0 (.lst ((aC n (0:Int)).map V.int))=G at sG gR gA ⊢;clear s1 s2 s3 nA np;refine⟨by decide,by decide,vY (by omega) (by omega) (by omega) (by omega),n,vZ (by omega),?_⟩;have fin:∀(rest ans:List Int) (r1 r2 r3 r4 r5:Option V) (H':Hp),(∀q,Div one Tk q->∀k,co rest k=0)->((∀k,co rest k=0)->Div one Tk ans∧Nml ans)->H' R=some (.lst (rest.map V.int))->H' A0=some (.lst (ans.map V.int))->Same H H'->rest.length<=64->
   wH K [V.ref R] H' (λx H1=>∃p,x=V.ref p∧∃x,(SqL K H1 p x∨SqT K H1 p x)∧if 0<(x.length:Int) then Q V.non H1 else Q (V.ref A0) H1) E0:=by
  intro rest ans r1 r2 r3 r4 r5 H' e1 e2 hR hA' sH lr;refine⟨R,rest,rfl,SqL.of hR,by omega,λf H2 s2 nf ef=>⟨f,rfl,_,.inl (SqL.of ef),?_⟩⟩;rw[ae];refine bJ (λh=>?_) (λh=>?_)
  ·rcases q with ⟨q0,_,hd,_⟩|⟨_,q⟩
   ·have:=qo.mpr (e1 q0 hd);rw[this]at h;simp at h
   ·exact q _ (sH.trans s2)
  ·have tz:aJ rest=[]:=bE (by omega);obtain⟨d1,d2⟩:=e2 (qo.mp tz);rcases q with ⟨q0,n0,hd,q⟩|⟨q,_⟩
   ·rw[K1 nt hne n0 d2 hd d1]at q;exact q A0 _ (sH.trans s2) fA (s2 _ _ hA')
   ·exact absurd d1 (q ans)
 by_cases hc:one.length+1<Tk.length
 ·have n0:n=0:=by omega
  subst n0;refine o3 (λi σ H'=>σ=[some (V.ref a),some (V.ref b),some (V.ref R),some (V.int ((0:Nat):Int)),some (V.ref A0),none,none,none,none,none]∧H'=G) ⟨rfl,rfl⟩ (λi σ H' hi=>by omega) ?_
  rintro σ H' ⟨rfl,rfl⟩
  k_units
  refine fin one [] none none none none none H' (λq hq k=>?_) (λhz=>?_) gR gA sG la
  ·by_cases ho:one=[]
   ·rw[ho];rfl
   ·by_cases hq':Nml q
    ·obtain⟨y1,y2⟩:=wn nt hne no hq' hq ho;have:=dO.mpr y1;omega
    ·obtain⟨y1,y2⟩:=wn (q:=aJ q) nt hne no (cI q) (λk=>by rw[hq k];unfold pm;exact cY λj _=>by rw[cN]) ho;have:=dO.mpr y1;omega
  ·have ho:=kT no hz;rw[ho];exact⟨K9,b8⟩
 have hla:n+Tk.length=one.length+1:=by omega
 have elast:co Tk (Tk.length-1)=Tk.getLast hne:=by
  rw[ax (by omega),Ol]
 have l0:Tk.getLast hne≠0:=by rw[←elast];exact cZ nt hne
 have bl0:Bd l (Tk.getLast hne):=bl _ (List.getLast_mem hne);obtain⟨Pv,hPv⟩:∃Pv:Nat->L2.St->Hp->Prop,∀i σ H',Pv i σ H'↔∃(ans rest:List Int) (r1 r2 r3 r4 r5:Option V),σ=[some (V.ref a),some (V.ref b),some (V.ref R),some (V.int (n:Int)),some (V.ref A0),r1,r2,r3,r4,r5]∧H' R=some (.lst (rest.map V.int))∧H' A0=some (.lst (ans.map V.int))∧
  DivAt one Tk ans rest (n-i)∧(∀x∈rest,Bd (k+(l+2)*i) x)∧Same H H':=⟨_,λ_ _ _=>Iff.rfl⟩
 refine o3 Pv ((hPv _ _ _).mpr ⟨_,one,none,none,none,none,none,rfl,gR,gA,K3 hne hla,λx hx=>(bk x hx).mono (by omega),sG⟩) ?_ ?_
 ·intro i σ H' hi hp;obtain⟨ans,rest,r1,r2,r3,r4,r5,rfl,hR,hA',D,hb,sH⟩:=(hPv _ _ _).mp hp;obtain⟨low,hlow⟩:∃low,n-i=low+1:=⟨n-i-1,by omega⟩
  rw[hlow]at D;have ei:(n:Int)-1+(i:Int) * -1=(low:Int):=by omega
  have ix:(low:Int)+(Tk.length:Int)-1=((low+(Tk.length-1):Nat):Int):=by omega
  have hlr:=D.lr;have hla':=D.la;have hin:low+(Tk.length-1)<rest.length:=by omega
  have i64:(l+2)*i<=(l+2)*64:=dC _ (by omega)
  (iterate 3 (k_units;(try simp only[ei]));k_units)
  refine⟨_,.inl (sH.seq hB),?_⟩;rw[ae];simp only[ix];refine⟨_,SqL.of hR,_,fg hin,?_⟩;have ct:co rest (low+(Tk.length-1))=rest[low+(Tk.length-1)]:=ax hin;have bt:=hb _ (aW hin);generalize rest[low+(Tk.length-1)]=tp at ct bt ⊢;have bf:=Ej bt l0;refine⟨_,sH.seq hB,_,jP hne,tp,rfl,_,rfl,l0,bV bl0 (fo (by decide) (by omega)),_,sH.seq hB,_,jP hne,_,rfl,bf.fits bl0 (by omega),?_⟩
  k_units
  refine bJ (λh=>?_) (λh=>?_)
  ·rcases q with ⟨q0,_,hd,_⟩|⟨_,q⟩
   ·have z:=K7 nt hne D hd;rw[ct,elast]at z;exact absurd z h
   ·exact q _ sH
  have hf:tp.fdiv (Tk.getLast hne)*Tk.getLast hne=tp:=by simpa using h
  generalize tp.fdiv (Tk.getLast hne)=f at hf bf ⊢;refine⟨_,hA',low,iA (by rw[ae];omega),?_⟩;rw[map_set];have s5:=sH.more fA (o:=.lst ((ans.set low f).map V.int));have R5:=(aj hRA:upd H' A0 (.lst ((ans.set low f).map V.int)) R=H' R).trans hR;have A5:upd H' A0 (.lst ((ans.set low f).map V.int)) A0=_:=ag;generalize upd H' A0 (.lst ((ans.set low f).map V.int))=H5 at s5 R5 A5 ⊢;refine⟨_,s5.seq hB,?_⟩;obtain⟨Pw,hPw⟩:∃Pw:Nat->L2.St->Hp->Prop,∀j σ Hx,Pw j σ Hx↔∃(rs:List Int) (r4 r5:Option V),σ=[some (V.ref a),some (V.ref b),some (V.ref R),some (V.int (n:Int)),some (V.ref A0),some (V.int (low:Int)),some (V.int tp),some (V.int f),r4,r5]∧Hx R=some (.lst (rs.map V.int))∧Hx A0=some (.lst ((ans.set low f).map V.int))∧rs.length=rest.length∧
   (∀u,co rs u=co rest u-if low<=u∧u<low+j then f*co Tk (u-low) else 0)∧Same H Hx:=⟨_,λ_ _ _=>Iff.rfl⟩
  refine pD Pw ((hPw _ _ _).mpr ⟨rest,_,_,rfl,R5,A5,rfl,λu=>by rw[if_neg (by omega)];omega,s5⟩) (λj σ Hx _ z=>by obtain⟨_,_,_,_,_,_,_,_,z5⟩:=(hPw j σ Hx).mp z;exact z5.seq hB) ?_ ?_
  ·intro j v pt σ Hx hv hp' hpt;obtain⟨rs,r4,r5,rfl,xR,xA,xl,xc,xs⟩:=(hPw _ _ _).mp hp';have hj:j<Tk.length:=by have:=(aV.mp hv).1;rw[ae]at this;exact this
   rw[az,ak hj]at hv;obtain rfl:V.int Tk[j]=v:=Option.some.inj hv;have st:=ar hpt (.tup [V.int j,V.int Tk[j]]);have eij:(low:Int)+(j:Int)=((low+j:Nat):Int):=rfl
   k_units
   refine⟨_,SqT.of ag,rfl,?_⟩
   (iterate 3 (k_units;(try simp only[eij]));k_units)
   have hiz:low+j<rs.length:=by omega
   have yR:=st _ _ xR;have yA:=st _ _ xA;refine⟨_,SqL.of yR,_,fg hiz,bf.fits (bl _ (aW hj)) (by omega),_,rfl,_,yR,low+j,iA (by rw[ae];exact hiz),(hPw _ _ _).mpr ⟨rs.set (low+j) (rs[low+j]-f*Tk[j]),_,_,rfl,by rw[ag,map_set],by rw[aj (Ne.symm hRA)];exact yA,by rw[i6];exact xl,λu=>?_,(xs.trans st).more nR⟩⟩;rw[iU _ _ _ _ hiz];by_cases e:u=low+j
   ·subst e;have z:=xc (low+j);rw[if_neg (show ¬(low<=low+j∧low+j<low+j) by omega),ax hiz]at z;rw[if_pos (show low+j=low+j from rfl),if_pos (show low<=low+j∧low+j<low+(j+1) by omega),show low+j-low=j by omega,ax hj];omega
   ·rw[if_neg e,xc u];by_cases h3:low<=u∧u<low+j
    ·rw[if_pos h3,if_pos (show low<=u∧u<low+(j+1) by omega)]
    ·rw[if_neg h3,if_neg (show ¬(low<=u∧u<low+(j+1)) by omega)]
  ·intro σ Hx hp';obtain⟨rs,r4,r5,rfl,xR,xA,xl,xc,xs⟩:=(hPw _ _ _).mp hp';rw[ae]at xc;have D':DivAt one Tk (ans.set low f) rs low:=K5 hne D (by omega) (by rw[elast,ct];exact hf) xl λu=>by
    rw[xc u];by_cases h3:low<=u
    ·rw[if_pos h3];by_cases h4:u<low+Tk.length
     ·rw[if_pos ⟨h3,h4⟩]
     ·rw[if_neg (by omega),aw (xs:=Tk) (by omega),cT]
    ·rw[if_neg (by omega),if_neg h3]
   refine (hPv _ _ _).mpr ⟨_,rs,_,_,_,_,_,rfl,xR,xA,by rw[show n-(i+1)=low by omega];exact D',λx hx=>?_,xs⟩;obtain⟨u,hu,rfl⟩:=cU.mp hx;have eu:=xc u;rw[ax hu,ax (show u<rest.length by omega)]at eu;have b1:=hb _ (aW (show u<rest.length by omega));have b2:Bd (k+(l+2)*i+1+l) (if low<=u∧u<low+Tk.length then f*co Tk (u-low) else 0):=by
    split
    ·rcases GC (u-low) Tk.length with z|z
     ·rw[ax z];exact bf.mul (bl _ (aW z))
     ·rw[aw z,cT];exact Bd.zero _
    ·exact Bd.zero _
   rw[eu];have e2:(l+2)*(i+1)=(l+2)*i+(l+2):=rE _ _;exact ((b1.mono (by omega)).sub b2).mono (by omega)
 ·intro σ H' hp;obtain⟨ans,rest,r1,r2,r3,r4,r5,rfl,hR,hA',D,hb,sH⟩:=(hPv _ _ _).mp hp;rw[fT]at D
  k_units
  refine fin rest ans r1 r2 r3 r4 r5 H' (λq hq=>K6 nt hne D q hq) (λhz=>⟨Dt D hz,?_⟩) hR hA' sH (by have:=D.lr;omega);by_cases ho:one=[]
  ·have:ans.length=0:=by have:=D.la;rw[ho]at this;simp at this;omega
   rw[bE this];exact b8
  ·exact K8 hne no ho D.la (Dt D hz)
theorem Ek {n:Nat}(h:n<=5000):n<sizeLine:=cE h (by decide)
def af (xs:List Int):Nat:=xs.foldl (λg x=>bh x.natAbs g) 0
theorem kZ (xs:List Int)(x:Int):af (xs++[x])=bh x.natAbs (af xs):=by unfold af;rw[List.foldl_append];rfl
theorem wV {b:Nat}(hb:0<b):∀xs:List Int,(∀x∈xs,x.natAbs<b)->af xs<b:=λxs=>by
 refine kO (P:=λxs=>(∀x∈xs,x.natAbs<b)->af xs<b) (λ_=>hb) (λxs x ih h=>?_) xs;rw[kZ];by_cases z:x.natAbs=0
 ·rw[z,Nat.gcd_zero_left];exact ih λy hy=>h y (by simp[hy])
 ·exact cE (Nat.gcd_le_left _ (by omega)) (h x (by simp))
theorem fK (xs:List Int):∀x∈xs,((af xs:Nat):Int)∣x:=by
 refine kO (P:=λxs=>∀x∈xs,((af xs:Nat):Int)∣x) (by simp) (λxs y ih x hx=>?_) xs;rw[kZ];rcases aK.mp hx with z|z
 ·exact fS (ii.mpr (me _ _)) (ih x z)
 ·rw[aP.mp z];exact xV.mp (ii.mpr (md _ _))
theorem iF (d:Nat)(xs:List Int):(∀x∈xs,(d:Int)∣x)->d∣af xs:=by
 refine kO (P:=λxs=>(∀x∈xs,(d:Int)∣x)->d∣af xs) (λ_=>Nat.dvd_zero d) (λxs y ih h=>?_) xs;rw[kZ];refine rF ?_ (ih λx hx=>h x (by simp[hx]));exact ii.mp (xV.mpr (h y (by simp)))
def Mf (K:W.Frag):Sp:=λvs H Q _=>∃(a:Addr) (xs:List Int),vs=[.ref a]∧SqL K H a (xs.map V.int)∧(∀x∈xs,Bd 900000 x)∧∀H',Same H H'->Q (.int (af xs:Nat)) H'
theorem wW {P:Program}{w:World}{K:W.Frag}{mg:Str->Option Value}{base:Heap}(T:Tx K mg):FnOk P w K mg base CX0 3 T.PN T.PP ["poly"] (Mf K):=by
 refine T.OU.ok sc_content (λvs H Q E h=>?_) (λcdv A outer s H vs Q E hr h=>?_)
 ·obtain⟨a,xs,rfl,_⟩:=h;rfl
 obtain⟨a,xs,rfl,hS,hb,q⟩:=h;refine⟨_,((ai (au (i:=1) sc_content.nd rfl (Or.inl rfl) ah)
  (ai (bY PassesOwn.never rfl (cc (pv 0)) (a7 (i:=2) sc_content.nd rfl (Or.inl rfl)) (aq (au (i:=1) sc_content.nd rfl (Or.inl rfl) (aN (FnOk.mono (wT T) (by decide)) hr rfl T.PL T.OT.kp T.PM .nil aD (aa (pv 2) (aa (pv 1) ac))))))
  (aq (aF (pv 1)))))),?_⟩
 k_units
 refine⟨⟨_,hS⟩,?_⟩;obtain⟨Pv,hPv⟩:∃Pv:Nat->L2.St->Hp->Prop,∀i σ H',Pv i σ H'↔∃r:Option V,σ=[some (V.ref a),some (V.int (af (xs.take i):Nat)),r]∧Same H H':=⟨_,λ_ _ _=>Iff.rfl⟩
 refine iT (xs:=xs.map V.int) Pv ((hPv _ _ _).mpr ⟨_,rfl,Same.refl _⟩) (λi σ H' _ z=>by obtain⟨_,_,z⟩:=(hPv i σ H').mp z;exact z.seq hS) ?_ ?_
 ·intro i v σ H' hv hp;obtain⟨r,rfl,sP⟩:=(hPv _ _ _).mp hp;have hi:i<xs.length:=by have:=(aV.mp hv).1;rw[ae]at this;exact this
  rw[az,ak hi]at hv;obtain rfl:V.int xs[i]=v:=Option.some.inj hv;have et:xs.take (i+1)=xs.take i++[xs[i]]:=by rw[cM,ak hi];rfl
  k_units
  refine⟨_,_,rfl,?_,λH2 s2=>(hPv _ _ _).mpr ⟨some (V.int xs[i]),?_,sP.trans s2⟩⟩
  ·have:Bd 900000 ((af (xs.take i):Nat):Int):=by
    show ((af (xs.take i):Nat):Int).natAbs<2 ^ 900000;rw[df];exact wV (dj _) _ λx hx=>hb x (fU hx)
   exact this.mono (by decide)
  ·rw[et,kZ,df]
 ·intro σ H' hp;obtain⟨r,rfl,sP⟩:=(hPv _ _ _).mp hp;rw[ae,eV]
  k_units
  exact q _ sP
def Mg (K:W.Frag):Sp:=λvs H Q _=>∃(a:Addr) (xs:List Int) (c:Int),vs=[.ref a,.int c]∧SqL K H a (xs.map V.int)∧xs.length<=5000∧c≠0∧c.natAbs<2 ^ 9000∧dH H Q ((xs.map λx=>x.fdiv c).map V.int)
theorem wX {P:Program}{w:World}{K:W.Frag}{mg:Str->Option Value}{base:Heap}(T:Tx K mg):FnOk P w K mg base CX0 1 T.PU T.PV ["poly","number"] (Mg K):=by
 refine T.OV.ok Lx (λvs H Q E h=>?_) (λcdv A outer s H vs Q E hr h=>?_)
 ·obtain⟨a,xs,c,rfl,_⟩:=h;rfl
 obtain⟨a,xs,c,rfl,hS,hl,c0,cb,q⟩:=h;refine⟨_,((aq (aF (ff rfl (dg rfl (du rfl ck) (d9 1 "number" (by decide) rfl (Or.inl rfl) (Or.inl rfl) ⟨_,rfl⟩ cJ)) (cc (pv 0)) (λ_ _ _ _=>(ao jm (pv 0) (pv 1))))))),?_⟩
 k_units
 refine⟨⟨_,hS⟩,λC hC=>?_⟩;obtain⟨Pc,hPc⟩:∃Pc:Nat->Hp->Prop,∀i H',Pc i H'↔H' C=some (.lst (((xs.take i).map λx=>x.fdiv c).map V.int))∧Same H H':=⟨_,λ_ _=>Iff.rfl⟩
 refine eJ (xs:=xs.map V.int) Pc ((hPc _ _).mpr ⟨by rw[ag];rfl,ar hC _⟩) (λi Hx _ z=>((hPc i Hx).mp z).2.seq hS) ?_ ?_
 ·intro i v Hx hv hc;obtain⟨k1,k2⟩:=(hPc _ _).mp hc;have hi:i<xs.length:=by have:=(aV.mp hv).1;rw[ae]at this;exact this
  rw[az,ak hi]at hv;obtain rfl:V.int xs[i]=v:=Option.some.inj hv
  (iterate 3 (k_units;(try simp only[bst,fB]));k_units)
  have et:xs.take (i+1)=xs.take i++[xs[i]]:=by rw[cM,ak hi];rfl
  refine⟨c0,cb,_,k1,Ek (by simp;omega),(hPc _ _).mpr ⟨?_,k2.more hC⟩⟩;rw[ag,et,aQ,aQ];rfl
 intro H1 hc;obtain⟨k1,k2⟩:=(hPc _ _).mp hc;rw[ae,eV]at k1;exact q C _ k2 hC k1
def cx (xs:List Int):List Int:=if xs≠[]∧co xs (xs.length-1)<0 then xs.map λx=>-x else xs
def Mh (K:W.Frag):Sp:=λvs H Q _=>∃(a:Addr) (xs:List Int),vs=[.ref a]∧SqL K H a (xs.map V.int)∧xs.length<=1000∧dH H Q ((cx xs).map V.int)
theorem El {P:Program}{w:World}{K:W.Frag}{mg:Str->Option Value}{base:Heap}(T:Tx K mg):FnOk P w K mg base CX0 1 T.PZ T.P0 ["poly"] (Mh K):=by
 refine T.P1.ok Ly (λvs H Q E h=>?_) (λcdv A outer s H vs Q E hr h=>?_)
 ·obtain⟨a,xs,rfl,_⟩:=h;rfl
 obtain⟨a,xs,rfl,hS,hl,q⟩:=h;refine⟨_,((ai (bC (PW.pt (jI (aM gz (aA aU rfl T.OB aS (aa (pv 0) ac)) ah (aL _)) (jH (aM iN (aH a_ (pv 0) (dF dG ah) (λ_ _=>rfl)) ah (aL _))))) (aq (aF (ff rfl (dg rfl ck cJ) (cc (pv 0)) (λ_ _ _ _=>(dF dG (pv 0)))))) bI)
  (aq (aF (fX iy rfl T.OF fG (aa (pv 0) ac)))))),?_⟩
 k_units
 refine⟨_,.inl hS,?_⟩;rw[ae];unfold cx at q;have lst:¬(xs≠[]∧co xs (xs.length-1)<0)->∃x,(SqL K H a x∨SqT K H a x)∧∀l,H l=none->Q (V.ref l) (upd H l (HO.lst x)):=λh=>by
  rw[if_neg h]at q;exact⟨_,.inl hS,λl hl=>q l _ (ar hl _) hl ag⟩
 refine bJ (λh=>?_) (λh=>lst λz=>?_)
 ·have hne:xs≠[]:=by intro z;rw[z]at h;simp at h
  refine⟨_,hS,_,jP hne,?_⟩
  k_units
  have ec:co xs (xs.length-1)=xs.getLast hne:=by rw[ax (by omega),Ol]
  refine bJ (λh0=>?_) (λh0=>lst λz=>h0 (by rw[←ec];exact z.2));rw[if_pos ⟨hne,by rw[ec];exact h0⟩]at q;refine⟨⟨_,hS⟩,λC hC=>?_⟩;obtain⟨Pc,hPc⟩:∃Pc:Nat->Hp->Prop,∀i H',Pc i H'↔H' C=some (.lst (((xs.take i).map λx=>-x).map V.int))∧Same H H':=⟨_,λ_ _=>Iff.rfl⟩
  refine eJ (xs:=xs.map V.int) Pc ((hPc _ _).mpr ⟨by rw[ag];rfl,ar hC _⟩) (λi Hx _ z=>((hPc i Hx).mp z).2.seq hS) ?_ ?_
  ·intro i v Hx hv hc;obtain⟨k1,k2⟩:=(hPc _ _).mp hc;have hi:i<xs.length:=by have:=(aV.mp hv).1;rw[ae]at this;exact this
   rw[az,ak hi]at hv;obtain rfl:V.int xs[i]=v:=Option.some.inj hv
   (iterate 3 (k_units;(try simp only[bst,fB]));k_units)
   have et:xs.take (i+1)=xs.take i++[xs[i]]:=by rw[cM,ak hi];rfl
   refine⟨_,k1,aX (by simp;omega),(hPc _ _).mpr ⟨?_,k2.more hC⟩⟩;rw[ag,et,aQ,aQ];rfl
  intro H1 hc;obtain⟨k1,k2⟩:=(hPc _ _).mp hc;rw[ae,eV]at k1;exact q C _ k2 hC k1
 ·have:0<xs.length:=dO.mpr z.1;omega
def Mi (K:W.Frag):Sp:=λvs H Q _=>∃(a:Addr) (xs:List Int),vs=[.ref a]∧SqL K H a (xs.map V.int)∧xs≠[]∧xs.length<=1000∧∀(M:Nat) H',Same H H'->(∀x∈xs,x.natAbs<=M)->(∃x∈xs,x.natAbs=M)->Q (.int (M:Int)) H'
theorem Em {P:Program}{w:World}{K:W.Frag}{mg:Str->Option Value}{base:Heap}(T:Tx K mg):FnOk P w K mg base CX0 1 T.P4 T.P5 ["poly"] (Mi K):=by
 refine T.P6.ok Lz (λvs H Q E h=>?_) (λcdv A outer s H vs Q E hr h=>?_)
 ·obtain⟨a,xs,rfl,_⟩:=h;rfl
 obtain⟨a,xs,rfl,hS,hne,hl,q⟩:=h;refine⟨_,((aq (aF (aA (Kf rfl) rfl T.OH iz (aa (ff rfl (dg rfl ck cJ) (cc (pv 0)) (λ_ _ _ _=>(aA jg rfl T.OK jn (aa (pv 0) ac)))) ac))))),?_⟩
 (iterate 3 (k_units;(try simp only[j1]));k_units)
 refine⟨⟨_,hS⟩,λC hC=>?_⟩;obtain⟨Pc,hPc⟩:∃Pc:Nat->Hp->Prop,∀i H',Pc i H'↔H' C=some (.lst (((xs.take i).map λx=>((x.natAbs:Nat):Int)).map V.int))∧Same H H':=⟨_,λ_ _=>Iff.rfl⟩
 refine eJ (xs:=xs.map V.int) Pc ((hPc _ _).mpr ⟨by rw[ag];rfl,ar hC _⟩) (λi Hx _ z=>((hPc i Hx).mp z).2.seq hS) ?_ ?_
 ·intro i v Hx hv hc;obtain⟨k1,k2⟩:=(hPc _ _).mp hc;have hi:i<xs.length:=by have:=(aV.mp hv).1;rw[ae]at this;exact this
  rw[az,ak hi]at hv;obtain rfl:V.int xs[i]=v:=Option.some.inj hv
  (iterate 3 (k_units;(try simp only[bst,fB,j1]));k_units)
  have et:xs.take (i+1)=xs.take i++[xs[i]]:=by rw[cM,ak hi];rfl
  refine⟨_,k1,aX (by simp;omega),(hPc _ _).mpr ⟨?_,k2.more hC⟩⟩;rw[ag,et,aQ,aQ];rfl
 intro H1 hc;obtain⟨k1,k2⟩:=(hPc _ _).mp hc;rw[ae,eV]at k1;refine⟨C,rfl,_,SqL.of k1,by simpa using hne,λM hM1 hM2=>?_⟩;obtain⟨x,hx,rfl⟩:=aT.mp hM1;exact q _ _ k2 (λy hy=>by have:=hM2 _ (aT.mpr ⟨y,hy,rfl⟩);omega) ⟨x,hx,rfl⟩
def Mj (K:W.Frag):Sp:=λvs H Q _=>∃(n b:Int) (k:Nat),vs=[.int n,.int b]∧0<n∧2 ^ k*n<b ^ k∧k<=900∧29<=b∧b.natAbs<2 ^ 9000∧
 ∀f:List Int,val b f=n->(∀x∈f,2*x.natAbs<=b.natAbs)->f≠[]->0<co f (f.length-1)->f.length<=900->dH H Q (f.map V.int)
theorem Ml {P:Program}{w:World}{K:W.Frag}{mg:Str->Option Value}{base:Heap}(T:Tx K mg):FnOk P w K mg base CX0 1 T.P2 T.P3 ["number","base"] (Mj K):=by
 refine T.Rn.ok sc_spread (λvs H Q E h=>?_) (λcdv A outer s H vs Q E hr h=>?_)
 ·obtain⟨n,b,k,rfl,_⟩:=h;rfl
 obtain⟨n,b,k0,rfl,n0,nb,k9,b29,bb,q⟩:=h;refine⟨_,((ai (au (i:=2) sc_spread.nd rfl (Or.inl rfl) (bN ac))
  (ai (gy PassesOwn.never (aM gf (pv 0) ah (aL _)) (ai (au (i:=3) sc_spread.nd rfl (Or.inl rfl) (ao fN (pv 0) (pv 1)))
  (gZ (bC (aM gz (ao jf ah (pv 3)) (pv 1) (aL _)) (aq (u_ (i:=3) sc_spread.nd rfl (Or.inl rfl) (pv 1) vh)) bI)
  (ai (e9 (fY PySem.F.plainAttrs_list PySem.F.slot_list_append PySem.F.type_list_append e_ (pv 2) (aa (pv 3) ac)))
  (aq (au (i:=0) sc_spread.nd rfl (Or.inl rfl) (ao jm (ao cX (pv 0) (pv 3)) (pv 1))))))))
  (aq (aF (pv 2)))))),?_⟩
 k_units
 refine⟨aI _,λA0 hA=>?_⟩;refine gD (λm σ H'=>∃(n':Int) (ds:List Int) (k:Nat) (r:Option V),m=n'.natAbs∧σ=[some (V.int n'),some (V.int b),some (V.ref A0),r]∧H' A0=some (.lst (ds.map V.int))∧Same H H'∧0<=n'∧2 ^ k*n'<b ^ k∧ds.length+k<=k0∧(∀x∈ds,2*x.natAbs<=b.natAbs)∧(0<n'∨ds≠[]∧0<co ds (ds.length-1))∧∀rest,val b rest=n'->val b (ds++rest)=n) n.natAbs ?_ ?_
 ·exact⟨n,[],k0,none,rfl,rfl,ag,ar hA _,by omega,nb,by simp,by simp,.inl n0,λrest h=>h⟩
 rintro m σ H' ⟨n',ds,k,r,rfl,rfl,hz,sz,h0,hk,hl,hb,hp,hv⟩
 k_units
 refine bJ (λh=>?_) (λh=>?_)
 ·have hn:n'≠0:=by simpa using h
  refine⟨λσ' H1=>∃low t:Int,σ'=[some (V.int t),some (V.int b),some (V.ref A0),some (V.int low)]∧H1=upd H' A0 (.lst ((ds++[low]).map V.int))∧n'=low+b*t∧2*low.natAbs<=b.natAbs∧0<=t,?_,by omega,?_⟩
  ·rintro σ' H1 ⟨low,t,rfl,rfl,hnt,hlow,ht⟩
   have tb:b*t<=2*n':=by
    by_cases z:t=0
    ·rw[z];omega
    ·have z1:b*1<=b*t:=jC (by omega) (by omega);generalize b*t=X at z1 hnt ⊢;omega
   have tn:t<n':=by
    by_cases z:t=0
    ·omega
    ·have z2:29*t<=b*t:=xQ b29 ht;omega
   obtain⟨k',rfl⟩:∃k',k=k'+1:=⟨k-1,by
    by_cases z:k=0
    ·rw[z]at hk;simp at hk;omega
    ·omega⟩
   refine⟨t.natAbs,by omega,t,rfl,ds++[low],k',_,rfl,ag,sz.more hA,ht,?_,by simp;omega,λx hx=>?_,?_,λrest hr'=>?_⟩
   ·rw[jD,jD]at hk;have e1:2 ^ k'*(b*t)<=2 ^ k'*(2*n'):=jC tb (Int.pow_nonneg (by decide));have e2:(2:Int) ^ k'*(2*n')=2 ^ k'*2*n':=by grind
    have e3:(2 ^ k'*t)*b<b ^ k'*b:=by
     have:(2:Int) ^ k'*(b*t)=(2 ^ k'*t)*b:=by grind
     omega
    exact Int.lt_of_mul_lt_mul_right e3 (by omega)
   ·rcases aK.mp hx with z|z
    ·exact hb x z
    ·rw[aP.mp z];exact hlow
   ·by_cases z:t=0
    ·refine .inr ⟨by simp,?_⟩;rw[show (ds++[low]).length-1=ds.length by simp,jU,if_pos rfl];rw[z,cT]at hnt;omega
    ·exact .inl (by omega)
   ·rw[Gp];refine hv ([low]++rest) ?_;show low+b*val b rest=n';rw[hr',hnt]
  ·obtain⟨M,hM⟩:∃M:L2.St->Hp->Prop,∀σ H1,M σ H1↔∃low t:Int,σ=[some (V.int n'),some (V.int b),some (V.ref A0),some (V.int low)]∧H1=H'∧n'=low+b*t∧2*low.natAbs<=b.natAbs∧0<=t:=⟨_,λ_ _=>Iff.rfl⟩
   have m1:=Int.emod_nonneg n' (show b≠0 by omega);have m2:=Int.emod_lt_of_pos n' (show 0<b by omega);have m3:=Int.emod_add_mul_ediv n' b;have m4:=Int.ediv_nonneg h0 (show 0<=b by omega);have bb':=bb;clear hk bb nb;refine gE M ?_ ?_
   ·k_units
    refine⟨.inl ⟨by decide,by decide⟩,bJ (λh2=>(hM _ _).mpr ⟨_,n' / b+1,rfl,rfl,?_,by omega,by omega⟩) (λh2=>(hM _ _).mpr ⟨_,n' / b,rfl,rfl,by omega,by omega,m4⟩)⟩;rw[ja,xz];omega
   ·intro σ H1 hm;obtain⟨low,t,rfl,rfl,hnt,hlow,ht⟩:=(hM _ _).mp hm
    k_units
    have et:(n'-low).fdiv b=t:=by
     rw[show n'-low=b*t by omega];exact l6 _ (by omega)
    rw[et];refine⟨fZ (SqL.of hz),_,hz,aX (by simp;omega),by omega,bb',by rw[aQ];rfl,hnt,hlow,ht⟩
 ·have e0:n'=0:=by simpa using h
  subst e0;rcases hp with z|⟨z1,z2⟩
  ·omega
  have v:=hv [] rfl;rw[q8]at v;exact q ds v hb z1 z2 (by omega) A0 _ sz hA hz
structure Two (a b g:List Int)(G:Nat):Prop where
 na:Nml a
 nb:Nml b
 a0:a≠[]
 b0:b≠[]
 la:a.length<=40
 lb:b.length<=40
 ba:∀z∈a,Bd 5000 z
 bb:∀z∈b,Bd 5000 z
 pg:gJ (co g)
 ng:Nml g
 lg:g.length<=40
 up:0<co g (g.length-1)
 bG:Bd 4480 (G:Int)
 da:∃x,Div a g x
 db:∃y,Div b g y
 bz:∃(U V:List Int) (m:Int),m≠0∧(∀z∈g,m.natAbs*z.natAbs<=G)∧∀n,val n U*val n a+val n V*val n b=m*val n g
theorem En {p:Int}(hp:1<=p){a:List Int}(na:Nml a)(a0:a≠[])(h:∀z∈a,2*z.natAbs<=p.natAbs):val p a≠0:=by
 have l0:=cZ na a0;rcases Int.lt_or_gt_of_ne l0 with g|g
 ·have e:∀j,co (a.map λz=>-1*z) j=-1*co a j:=λj=>by
   by_cases h:j<a.length
   ·rw[ax (xs:=a.map _) (by simpa using h),ax h,b5]
   ·rw[aw (xs:=a.map _) (by simp;omega),aw (by omega),cT]
  have:=(qy hp (a.map λz=>-1*z) (by simpa using a0) (λx hx=>by
   obtain⟨z,hz,rfl⟩:=aT.mp hx;have:=h z hz;omega) (by rw[ae,e];omega)).2
  rw[bL]at this;omega
 ·have:=(qy hp a a0 h g).2;omega
theorem Eo {p:Int}(hp:1<=p):∀a:List Int,(∀z∈a,2*z.natAbs<=p.natAbs)->(val p a).natAbs<p.natAbs ^ a.length
 | [],_=>by simp[val]
 | x :: a,h=>by
  have i:=Eo hp a λz hz=>h z (by simp[hz]);have hx:=h x (by simp);have e:val p (x :: a)=x+p*val p a:=rfl;rw[e,bX,i7];have m:p.natAbs*((val p a).natAbs+1)<=p.natAbs*p.natAbs ^ a.length:=dC _ i;rw[Nat.mul_add,my,gP _ (p.natAbs ^ a.length)]at m;have n:(p*val p a).natAbs=p.natAbs*(val p a).natAbs:=b4 _ _;have p1:1<=p.natAbs:=iK.mpr (by omega);refine bV (cE (i8 _ _) ?_) m;rw[n];clear n m i e h hp;generalize p.natAbs=pn at *;generalize x.natAbs=xn at *;omega
theorem few {p L:Nat}(hp:29<=p)(h:p ^ L<2 ^ L*p ^ 40):L<=52:=by
 refine lU λhl=>?_;obtain⟨r,rfl⟩:∃r,L=52+r:=⟨L-52,by omega⟩
 have e1:p ^ (52+r)=p ^ 40*(p ^ 12*p ^ r):=by rw[←de,←de];congr 1;omega
 have e2:(2:Nat) ^ (52+r)=2 ^ 52*2 ^ r:=de 2 52 r;have m1:29 ^ 12<=p ^ 12:=mB hp 12;have m2:2 ^ r<=p ^ r:=mB (by omega) r;have m3:2 ^ 52*2 ^ r<=p ^ 12*p ^ r:=d8 (by omega) m2;rw[e1,e2,gP (2 ^ 52*2 ^ r)]at h;exact absurd h (Nat.not_lt.mpr (dC (p ^ 40) m3))
theorem Mm {p:Nat}(hp:29<=p){n:Nat}(h:n<p ^ 40):2 ^ 60*n<p ^ 60:=by
 have e1:p ^ 60=p ^ 20*p ^ 40:=by rw[←de]
 have m1:29 ^ 20<=p ^ 20:=mB hp 20;have m2:2 ^ 60*n<29 ^ 20*p ^ 40:=by
  refine cE (dE n (show 2 ^ 60<=29 ^ 20 by decide)) (GB h (by decide))
 rw[e1];exact bV m2 (dE _ m1)
theorem Ep (f:Nat->Int)(c:Int)(j:Nat):pm f (λi=>if i=0 then c else 0) j=c*f j:=by
 unfold pm;rw[qm (i:=j) (by omega) λi hi hne=>?_]
 ·show f j*(if j-j=0 then c else 0)=_;rw[if_pos (fT j),cL]
 ·show f i*(if j-i=0 then c else 0)=0;rw[if_neg (by omega),cT]
theorem Mn {a b g:List Int}{G:Nat}(tw:Two a b g G){p:Int}{M:Nat}(hp:2*(M:Int)+29<=p)(hM:(∀z∈a,z.natAbs<=M)∨(∀z∈b,z.natAbs<=M)):
  (0<bh (val p a).natAbs (val p b).natAbs∧bh (val p a).natAbs (val p b).natAbs<p.natAbs ^ 40)∧∀f:List Int,val p f=(bh (val p a).natAbs (val p b).natAbs:Nat)->(∀x∈f,2*x.natAbs<=p.natAbs)->f≠[]->0<co f (f.length-1)->
   f.length<=60∧0<af f∧Nml (f.map λx=>x.fdiv (af f))∧(∀qa qb,Div a (f.map λx=>x.fdiv (af f)) qa->Div b (f.map λx=>x.fdiv (af f)) qb->f.map (λx=>x.fdiv (af f))=g)∧(2*(G:Int)+1<=p->f.map (λx=>x.fdiv (af f))=g):=by
 obtain⟨U,V,m,m0,hG,bz⟩:=tw.bz;obtain⟨x,hx⟩:=tw.da;obtain⟨y,hy⟩:=tw.db;have vx:=g_.mp hx;have vy:=g_.mp hy;have small:∃d:List Int,(val p d≠0∧(val p d).natAbs<p.natAbs ^ 40)∧(bh (val p a).natAbs (val p b).natAbs)∣(val p d).natAbs:=by
  have pw:∀d:List Int,d.length<=40->(∀z∈d,z.natAbs<=M)->(val p d).natAbs<p.natAbs ^ 40:=λd hd hz=>
   bV (Eo (by omega) d λz hz'=>by have:=hz z hz';omega) (fo (by omega) hd)
  rcases hM with h|h
  ·exact⟨a,⟨En (by omega) tw.na tw.a0 λz hz=>by have:=h z hz;omega,pw a tw.la h⟩,md _ _⟩
  ·exact⟨b,⟨En (by omega) tw.nb tw.b0 λz hz=>by have:=h z hz;omega,pw b tw.lb h⟩,me _ _⟩
 obtain⟨d,⟨d0,dl⟩,dd⟩:=small;have gpos:0<bh (val p a).natAbs (val p b).natAbs:=kq λz=>by
  rw[z]at dd;exact d0 (Int.natAbs_eq_zero.mp (xN dd))
 have gle:=lZ (iK.mpr d0) dd;refine⟨⟨gpos,cE gle dl⟩,λf fv fs f0 ft=>?_⟩;have fl:f.length<=60:=by
  have t:=(qy (by omega) f f0 fs ft).1;rw[fv]at t;have e:(p.natAbs:Int)=p:=by omega
  have t':p.natAbs ^ (f.length-1)<=2 ^ (f.length-1)*bh (val p a).natAbs (val p b).natAbs:=by
   have:((p.natAbs ^ (f.length-1):Nat):Int)<=((2 ^ (f.length-1)*bh (val p a).natAbs (val p b).natAbs:Nat):Int):=by
    rw[xW,ga,xW,e];exact t
   exact Int.ofNat_le.mp this
  have:=few (p:=p.natAbs) (L:=f.length-1) (by omega) (cE t' (GB (by omega) (dj _)));omega
 have hl:f.length-1<f.length:=by have:=dO.mpr f0;omega
 have cpos:0<af f:=kq λz=>by
  have:=fK f _ (aW hl);rw[z]at this;have:=xO.mp (by simpa using this);rw[ax hl,this]at ft;omega
 have c0:((af f:Nat):Int)≠0:=by omega
 have fz:∀z∈f,((af f:Nat):Int)*z.fdiv (af f:Nat)=z:=λz hz=>by
  obtain⟨t,ht⟩:=fK f z hz;rw[ht,l6 _ c0]
 have fc:∀j,co f j=((af f:Nat):Int)*co (f.map λx=>x.fdiv (af f:Nat)) j:=λj=>by
  by_cases hj:j<f.length
  ·rw[ax hj,ax (xs:=f.map _) (by simpa using hj),b5];exact (fz _ (aW hj)).symm
  ·rw[aw (by omega),aw (xs:=f.map _) (by simp;omega),cT]
 have vf:val p f=((af f:Nat):Int)*val p (f.map λx=>x.fdiv (af f:Nat)):=by
  rw[←bL];refine f9 (λj=>?_) p;rw[fc j];by_cases hj:j<f.length
  ·rw[ax (xs:=(f.map _).map _) (by simpa using hj),b5,ax (xs:=f.map _) (by simpa using hj)]
  ·rw[aw (xs:=f.map _) (by simp;omega),aw (xs:=(f.map _).map _) (by simp;omega),cT]
 have fs':∀z∈f.map (λx=>x.fdiv (af f:Nat)),2*(((af f:Nat):Int)*z).natAbs<=p.natAbs:=λz hz=>by
  obtain⟨x,hx,rfl⟩:=aT.mp hz;rw[fz x hx];exact fs x hx
 have fl':(f.map λx=>x.fdiv (af f:Nat)).length=f.length:=ae _;have ft':0<co (f.map λx=>x.fdiv (af f:Nat)) (f.length-1):=by
  rw[fc]at ft;exact Om ft (by omega)
 have fp:gJ (co (f.map λx=>x.fdiv (af f:Nat))):=λe he=>by
  have:e*af f∣af f:=iF _ f λz hz=>by
   obtain⟨j,hj,rfl⟩:=cU.mp hz;rw[←ax hj,fc j,ga,cL];exact Gv _ (he j)
  obtain⟨t,ht⟩:=this;have:af f*1=af f*(e*t):=by rw[my,←ij,gP _ e];exact ht
  have:=On cpos this;exact (Oo this.symm)
 generalize hf':(f.map λx=>x.fdiv (af f:Nat))=f' at *;generalize af f=c at *;have f0':f'≠[]:=dO.mp (by omega);have fn':Nml f':=en.mpr λz hz=>by
  rw[rg,fl',ak (by omega)]at hz;rw[ax (by omega)]at ft';rw[←Option.some.inj hz];omega
 obtain⟨h,hh⟩:((val p g).natAbs)∣bh (val p a).natAbs (val p b).natAbs:=rF (by rw[vx p,b4];exact Nat.dvd_mul_right _ _) (by rw[vy p,b4];exact Nat.dvd_mul_right _ _);have h1:1<=h:=kq λz=>by rw[z,Nat.mul_zero]at hh;omega
 have fpos:0<val p f':=by
  have:0<(c:Int)*val p f':=by rw[←vf,fv];omega
  exact Om this (by omega)
 have hv:(c:Int)*val p f'=(h:Int)*((val p g).natAbs:Int):=by rw[←vf,fv,hh,ga,cL]
 refine⟨fl,cpos,fn',λqa qb da db=>?_,λhpG=>?_⟩
 ·rcases Lf (c:=c) (h:=h) hp fp fn' f0' (by omega) fs' tw.pg tw.ng hx hy (hM.imp (λz=>⟨tw.a0,tw.na,z⟩) λz=>⟨tw.b0,tw.nb,z⟩) da db m0 bz (by omega) fpos hv with e|e
  ·exact e
  ·exfalso;have lg:f'.length=g.length:=by rw[e,ae]
   rw[←fl',e]at ft';rw[ae]at ft';have hg:g.length-1<g.length:=by have:=dO.mpr f0';omega
   rw[ax (xs:=g.map _) (by simpa using hg),b5]at ft';have:=tw.up;rw[ax hg]at this;omega
 ·have hm:h∣m.natAbs:=by
   have dv:(bh (val p a).natAbs (val p b).natAbs:Int)∣m*val p g:=by
    rw[←bz p];exact Gu (fS (xV.mp (ii.mpr (md _ _))) (rn _ _)) (fS (xV.mp (ii.mpr (me _ _))) (rn _ _))
   have dn:=lY.mpr dv;rw[df,b4,hh,gP m.natAbs]at dn;have gp:0<(val p g).natAbs:=kq λz=>by rw[z,Nat.zero_mul]at hh;omega
   exact Nat.dvd_of_mul_dvd_mul_left gp dn
  have hle:=lZ (iK.mpr m0) hm;have m1:=iK.mpr m0;have g0:g≠[]:=λz=>by have:=tw.up;rw[z]at this;simp[co]at this
  have gs:∀z∈g,2*z.natAbs<=p.natAbs:=λz hz=>by
   have:=hG z hz;have:z.natAbs<=m.natAbs*z.natAbs:=gv _ m1;omega
  have gpos':=(qy (by omega) g g0 gs tw.up).2;have hc:∀k,co f k=co (g.map λz=>(h:Int)*z) k:=Lg (by omega) f _ fs (λz hz=>by
   obtain⟨y,hy,rfl⟩:=aT.mp hz;have h2:=hG y hy;have h3:h*y.natAbs<=m.natAbs*y.natAbs:=dE _ hle;rw[b4,df];omega) (by rw[bL,vf,hv];congr 1;omega)
  have hc':∀k,(c:Int)*co f' k=(h:Int)*co g k:=λk=>by
   rw[←fc k,hc k];by_cases hj:k<g.length
   ·rw[ax (xs:=g.map _) (by simpa using hj),ax hj,b5]
   ·rw[aw (xs:=g.map _) (by simp;omega),aw (by omega),cT]
  have hc1:h∣c:=by
   refine ii.mp (Classical.byContradiction λhno=>?_);have z:=qt fp h h1 (λj=>if j=0 then (c:Int) else 0) (λj=>by
    rw[Ep,hc' j];exact jA _ _) 0
   exact hno (by simpa using z)
  have hc2:c∣h:=by
   refine ii.mp (Classical.byContradiction λhno=>?_);have z:=qt tw.pg c cpos (λj=>if j=0 then (h:Int) else 0) (λj=>by
    rw[Ep,←hc' j];exact jA _ _) 0
   exact hno (by simpa using z)
  have ch:c=h:=GD hc2 hc1;refine gH fn' tw.ng λk=>?_;have:=hc' k;rw[ch]at this;exact rB (by omega) this
def Mo (K:W.Frag):Sp:=λvs H Q _=>∃(p q:Addr) (a b g:List Int) (G:Nat),vs=[.ref p,.ref q]∧SqL K H p (a.map V.int)∧SqL K H q (b.map V.int)∧Two a b g G∧dH H Q (g.map V.int)
theorem Er {one Tk q:List Int}(h:Div one Tk q):Div one Tk (aJ q):=λk=>by
 rw[h k];unfold pm;exact cY λj _=>by rw[cN]
theorem Es {K:W.Frag}{c:Addr}{H:Hp}{h1 h2:Addr}{one Tk:List Int}{k l:Nat}{R:VK}(a1:SqL K H h1 (one.map V.int)) (a2:SqL K H h2 (Tk.map V.int)) (l1:one.length<=64) (l2:Tk.length<=64) (n1:Nml one) (n2:Nml Tk) (hne:Tk≠[])
  (b1:∀x∈one,Bd k x) (b2:∀y∈Tk,Bd l y) (hk:k<=100000) (hl:l<=8995)
  (hR:∀x H',Same H H'->((x=.non∧∀q,¬Div one Tk q)∨∃(F:Addr) (q:List Int),x=.ref F∧H F=none∧H' F=some (.lst (q.map V.int))∧Nml q∧Div one Tk q)->R x H'):
  Ei K c [.ref h1,.ref h2] H R E0:=by
 refine⟨h1,h2,one,Tk,k,l,rfl,a1,a2,l1,l2,n1,n2,b1,b2,hk,by omega,.inr ⟨hne,?_⟩⟩;by_cases hq:∃q,Div one Tk q
 ·obtain⟨q,hq⟩:=hq;exact .inl ⟨aJ q,cI q,Er hq,λF H' s f e=>hR _ _ s (.inr ⟨F,aJ q,rfl,f,e,cI q,Er hq⟩)⟩
 ·exact .inr ⟨λq h=>hq ⟨q,h⟩,λH' s=>hR _ _ s (.inl ⟨rfl,λq h=>hq ⟨q,h⟩⟩)⟩
theorem jv {k l:Nat}{n:Int}(hn:Bd l n):∀xs:List Int,(∀x∈xs,Bd k x)->Bd (k+(l+1)*xs.length) (val n xs)
 | [],_=>Bd.zero _
 | x :: xs,h=>by
  have i:=jv hn xs λy hy=>h y (by simp[hy]);have e:val n (x :: xs)=x+n*val n xs:=rfl;rw[e,bX,rE];exact (((h x (by simp)).mono (l:=l+(k+(l+1)*xs.length)) (by omega)).add (hn.mul i)).mono (by omega)
theorem Mp {P:Program}{w:World}{K:W.Frag}{mg:Str->Option Value}{base:Heap}(T:Tx K mg):FnOk P w K mg base CX0 4 T.P8 T.P9 ["one","other"] (Mo K):=by
 refine T.Rr.ok sc_bare_common (λvs H Q E h=>?_) (λcdv A outer s H vs Q E hr h=>?_)
 ·obtain⟨p,q,a,b,g,G,rfl,_⟩:=h;rfl
 obtain⟨pa,pb,a,b,g,G,rfl,hA,hB,tw,q⟩:=h;refine⟨_,((ai (au (i:=2) sc_bare_common.nd rfl (Or.inl rfl) (ao cG (ao jf ah (aA (B2 rfl) rfl T.Re vQ (aa (aN (FnOk.mono (Em T) (by decide)) hr rfl T.Ro T.P6.kp T.Rq .nil aD (aa (pv 0) ac)) (aa (aN (FnOk.mono (Em T) (by decide)) hr rfl T.Ro T.P6.kp T.Rq .nil aD (aa (pv 1) ac)) ac)))) ah))
  (aq (gy PassesOwn.never (gU fM) (ai (au (i:=3) sc_bare_common.nd rfl (Or.inl rfl) (aN (FnOk.mono (Ml T) (by decide)) hr rfl T.R_ T.Rn.kp T.Sb .nil aD (aa (aN (FnOk.mono (wT T) (by decide)) hr rfl T.PL T.OT.kp T.PM .nil aD (aa (aN (FnOk.mono (wR T) (by decide)) hr rfl T.Ps T.OR.kp T.Pt .nil aD (aa (pv 0) (aa (pv 2) ac))) (aa (aN (FnOk.mono (wR T) (by decide)) hr rfl T.Ps T.OR.kp T.Pt .nil aD (aa (pv 1) (aa (pv 2) ac))) ac))) (aa (pv 2) ac))))
  (ai (au (i:=3) sc_bare_common.nd rfl (Or.inl rfl) (aN (FnOk.mono (wX T) (by decide)) hr rfl T.PX T.OV.kp T.PY .nil aD (aa (pv 3) (aa (aN (FnOk.mono (wW T) (by decide)) hr rfl T.PQ T.OU.kp T.PR .nil aD (aa (pv 3) ac)) ac))))
  (ai (bC (PW.pt (jI (aM mO (aN (FnOk.mono (wU T) (by decide)) hr rfl T.Py T.OS.kp T.PB .nil v7 (aa (pv 0) (aa (pv 3) ac))) eh (aL _)) (jH (aM mO (aN (FnOk.mono (wU T) (by decide)) hr rfl T.Py T.OS.kp T.PB .nil v7 (aa (pv 1) (aa (pv 3) ac))) eh (aL _))))) (aq (aF (pv 3))) bI)
  (aq (au (i:=2) sc_bare_common.nd rfl (Or.inl rfl) (ao cG (ao dw (pv 2) (pv 2)) ah)))))))))),?_⟩
 k_units
 refine⟨pa,a,rfl,hA,tw.a0,by have:=tw.la;omega,λMa H1 s1 ma1 ma2=>⟨pb,b,rfl,s1.seq hB,tw.b0,by have:=tw.lb;omega,λMb H2 s2 mb1 mb2=>⟨_,rfl,_,rfl,.inl ⟨by decide,by decide⟩,?_⟩⟩⟩;have big:∀(M:Nat) (xs:List Int),(∀z∈xs,Bd 5000 z)->(∃z∈xs,z.natAbs=M)->Bd 5000 (M:Int):=λM xs hb ⟨z,hz,e⟩=>by rw[←e];exact hb z hz
 obtain⟨M,hMe,hM,hMb⟩:∃M:Nat,(2*if (Mb:Int)<(Ma:Int) then (Mb:Int) else (Ma:Int))+29=2*(M:Int)+29∧((∀z∈a,z.natAbs<=M)∨(∀z∈b,z.natAbs<=M))∧Bd 5000 (M:Int):=by
  by_cases h:(Mb:Int)<(Ma:Int)
  ·exact⟨Mb,by rw[if_pos h],.inr mb1,big _ _ tw.bb mb2⟩
  ·exact⟨Ma,by rw[if_neg h],.inl ma1,big _ _ tw.ba ma2⟩
 rw[hMe];have s3:=s1.trans s2;have bp0:Bd 8990 (2*(M:Int)+29):=(((Bd.of_lt (k:=2) (m:=3) (by decide) (by decide):Bd 2 (2:Int)).mul hMb).add ((Bd.of_lt (m:=30) (by decide) (by decide):Bd 5 (29:Int)).mono (by decide))).mono (by decide);refine gD (λk σ H'=>∃(p:Int) (r:Option V),k=(2*(G:Int)+1-p).toNat∧σ=[some (V.ref pa),some (V.ref pb),some (V.int p),r]∧Same H H'∧2*(M:Int)+29<=p∧Bd 8990 p) (2*(G:Int)+1-(2*(M:Int)+29)).toNat ⟨_,none,rfl,rfl,s3,by omega,bp0⟩ ?_
 rintro k σ H' ⟨p,r,rfl,rfl,sP,hp,bp⟩
 k_units
 obtain⟨⟨gpos,glt⟩,fi⟩:=Mn tw hp hM;obtain⟨xg,hxg⟩:=tw.da;obtain⟨yg,hyg⟩:=tw.db;have la:=tw.la;have lb:=tw.lb;have bG:=tw.bG;have bva:=jv bp a tw.ba;have bvb:=jv bp b tw.bb;have bva':Bd 400000 (val p a):=bva.mono (by omega);have bvb':Bd 400000 (val p b):=bvb.mono (by omega);refine⟨λσ' H1=>∃r:Option V,σ'=[some (V.ref pa),some (V.ref pb),some (V.int (p*p+1)),r]∧Same H H1∧p<2*(G:Int)+1,?_,?_⟩
 ·rintro σ' H1 ⟨r,rfl,sN,hG⟩
  have pp:29*p<=p*p:=xQ (by omega) (by omega);have b2G:Bd 4482 (2*(G:Int)):=((Bd.of_lt (k:=2) (m:=3) (by decide) (by decide):Bd 2 (2:Int)).mul bG).mono (by decide);have bq:Bd 4482 p:=cE (show p.natAbs<=(2*(G:Int)).natAbs by omega) b2G;have bpp:=((bq.mul bq).add (Bd.one (by decide))).mono (l:=8990) (by decide);refine⟨_,?_,p*p+1,rfl,r,rfl,sN,by omega,bpp⟩;generalize p*p=X at pp;omega
 have pe:((p.natAbs:Nat):Int)=p:=by omega
 have sp60:(2:Int) ^ 60*((bh (val p a).natAbs (val p b).natAbs:Nat):Int)<p ^ 60:=by
  have h:=Mm (p:=p.natAbs) (by omega) glt;have h2:((2 ^ 60*bh (val p a).natAbs (val p b).natAbs:Nat):Int)<((p.natAbs ^ 60:Nat):Int):=Int.ofNat_lt.mpr h;rw[ga,xW,xW,pe]at h2;exact h2
 have b9:p.natAbs<2 ^ 9000:=bV bp (fo (by decide) (by decide));refine⟨pa,a,p,5000,8990,rfl,sP.seq hA,by omega,tw.ba,bp,by decide,pb,b,p,5000,8990,rfl,sP.seq hB,by omega,tw.bb,bp,by decide,_,_,rfl,bvb'.mono (by decide),λH9 s9=>?_⟩;have sP:=sP.trans s9;refine⟨_,p,60,rfl,by omega,sp60,by decide,by omega,b9,λf fv fs f0 ft fl F G1 s1 nF eF=>?_⟩;obtain⟨f16,c0,fn,fg1,fg2⟩:=fi f fv fs f0 ft;have bf:∀x∈f,Bd 8990 x:=λx hx=>cE (show x.natAbs<=p.natAbs by have:=fs x hx;omega) bp;have bf9:∀x∈f,Bd 900000 x:=λx hx=>(bf x hx).mono (by decide);have bc4:((af f:Nat):Int).natAbs<2 ^ 9000:=by
  rw[df];exact bV (wV (dj _) f bf) (fo (by decide) (by decide))
 clear sp60 b9 glt fl;refine⟨F,f,rfl,SqL.of eF,bf9,λG1' s1'=>⟨F,f,_,rfl,SqL.of (s1' _ _ eF),by omega,by omega,bc4,λF2 G2 s2 nF2 eF2=>?_⟩⟩;have hne:(f.map λx=>x.fdiv (af f:Nat))≠[]:=by simpa using f0
 have bf2:∀y∈f.map (λx=>x.fdiv (af f:Nat)),Bd 8991 y:=λy hy=>by
  obtain⟨x,hx,rfl⟩:=aT.mp hy;exact Ej (bf x hx) (by omega)
 have lf2:(f.map λx=>x.fdiv (af f:Nat)).length<=64:=by rw[ae];omega
 have sQ:=sP.trans (s1.trans (s1'.trans s2));have nF0:H F2=none:=(sP.trans (s1.trans s1')).free nF2;have pfit:IntMulOk p p:=bp.fits bp (by decide);generalize (f.map λx=>x.fdiv (af f:Nat))=f2 at fn fg1 fg2 eF2 hne bf2 lf2;refine Es (one:=a) (Tk:=f2) (k:=5000) (l:=8991) (sQ.seq hA) (SqL.of eF2) (by omega) lf2 tw.na fn hne tw.ba bf2 (by decide) (by decide) λx3 G3 s3' hx3=>?_;rcases hx3 with ⟨rfl,hno⟩|⟨Fq,qa,rfl,_,_,_,da⟩
 ·rw[if_neg (by simp)];refine⟨pfit,_,rfl,sQ.trans s3',xX λz=>?_⟩;rw[fg2 z]at hno;exact hno xg hxg
 rw[if_pos (by simp)];refine Es (one:=b) (Tk:=f2) (k:=5000) (l:=8991) ((sQ.trans s3').seq hB) (SqL.of (s3' _ _ eF2)) (by omega) lf2 tw.nb fn hne tw.bb bf2 (by decide) (by decide) λx4 G4 s4 hx4=>?_;rcases hx4 with ⟨rfl,hno⟩|⟨Fq2,qb,rfl,_,_,_,db⟩
 ·rw[if_neg (by simp)];refine⟨pfit,_,rfl,sQ.trans (s3'.trans s4),xX λz=>?_⟩;rw[fg2 z]at hno;exact hno yg hyg
 rw[if_pos (by simp)];have e:=s4 _ _ (s3' _ _ eF2);rw[fg1 qa qb da db]at e;exact q F2 _ (sQ.trans (s3'.trans s4)) nF0 e
def Et (K:W.Frag):Sp:=λvs H Q _=>∃(pa pb:Addr) (a b:List Int),vs=[.ref pa,.ref pb]∧SqL K H pa (a.map V.int)∧SqL K H pb (b.map V.int)∧a.length<=1000∧b.length<=1000∧
 ((a=[]∧dH H Q ((cx b).map V.int))∨(a≠[]∧b=[]∧dH H Q ((cx a).map V.int))∨
  (a≠[]∧b≠[]∧0<af a∧0<af b∧(∀z∈a,Bd 5000 z)∧(∀z∈b,Bd 5000 z)∧∃(g:List Int) (G:Nat),Two (a.map λx=>x.fdiv (af a:Nat)) (b.map λx=>x.fdiv (af b:Nat)) g G∧dH H Q ((g.map λz=>((bh (af a) (af b):Nat):Int)*z).map V.int)))
theorem Mq {P:Program}{w:World}{K:W.Frag}{mg:Str->Option Value}{base:Heap}(T:Tx K mg):FnOk P w K mg base CX0 5 T.P_ T.Qa ["one","other"] (Et K):=by
 refine T.Rs.ok sc_common (λvs H Q E h=>?_) (λcdv A outer s H vs Q E hr h=>?_)
 ·obtain⟨p,q,a,b,rfl,_⟩:=h;rfl
 obtain⟨pa,pb,a,b,rfl,hA,hB,la,lb,q⟩:=h;refine⟨_,((ai (bC (aM fE (aA aU rfl T.OB aS (aa (pv 0) ac)) ah (aL _)) (aq (aF (aN (FnOk.mono (El T) (by decide)) hr rfl T.Rk T.P1.kp T.Rm .nil aD (aa (pv 1) ac)))) bI)
  (ai (bC (aM fE (aA aU rfl T.OB aS (aa (pv 1) ac)) ah (aL _)) (aq (aF (aN (FnOk.mono (El T) (by decide)) hr rfl T.Rk T.P1.kp T.Rm .nil aD (aa (pv 0) ac)))) bI)
  (ai (au (i:=2) sc_common.nd rfl (Or.inl rfl) (aN (FnOk.mono (wW T) (by decide)) hr rfl T.PQ T.OU.kp T.PR .nil aD (aa (pv 0) ac)))
  (ai (au (i:=3) sc_common.nd rfl (Or.inl rfl) (aN (FnOk.mono (wW T) (by decide)) hr rfl T.PQ T.OU.kp T.PR .nil aD (aa (pv 1) ac)))
  (ai (au (i:=4) sc_common.nd rfl (Or.inr rfl) (aN (FnOk.mono (wT T) (by decide)) hr rfl T.PL T.OT.kp T.PM .nil aD (aa (pv 2) (aa (pv 3) ac))))
  (aq (aF (ff rfl (dg rfl (du rfl ck) (d9 4 "shared" (by decide) rfl (Or.inl rfl) (Or.inl rfl) ⟨_,rfl⟩ cJ)) (cc (aN (FnOk.mono (Mp T) (by decide)) hr rfl T.Sc T.Rr.kp T.Sd .nil aD (aa (aN (FnOk.mono (wX T) (by decide)) hr rfl T.PX T.OV.kp T.PY .nil aD (aa (pv 0) (aa (pv 2) ac))) (aa (aN (FnOk.mono (wX T) (by decide)) hr rfl T.PX T.OV.kp T.PY .nil aD (aa (pv 1) (aa (pv 3) ac))) ac)))) (λ_ _ _ _=>(ao dw (pv 1) (pv 0)))))))))))),?_⟩
 k_units
 refine⟨_,.inl hA,?_⟩;rw[ae];refine bJ (λh=>?_) (λh=>⟨_,.inl hB,?_⟩)
 ·have a0:a=[]:=bE (by omega);rcases q with ⟨_,q⟩|⟨z,_⟩|⟨z,_⟩
  ·exact⟨pb,b,rfl,hB,lb,q⟩
  ·exact absurd a0 z
  ·exact absurd a0 z
 have a0:a≠[]:=by intro z;rw[z]at h;simp at h
 rw[ae];refine bJ (λh=>?_) (λh=>?_)
 ·have b0:b=[]:=bE (by omega);rcases q with ⟨z,_⟩|⟨_,_,q⟩|⟨_,z,_⟩
  ·exact absurd z a0
  ·exact⟨pa,a,rfl,hA,la,q⟩
  ·exact absurd b0 z
 have b0:b≠[]:=by intro z;rw[z]at h;simp at h
 rcases q with ⟨z,_⟩|⟨_,z,_⟩|⟨_,_,ca,cb,ba,bb,g,G,tw,q⟩
 ·exact absurd z a0
 ·exact absurd z b0
 have c9:∀{xs:List Int},(∀z∈xs,Bd 5000 z)->Bd 5000 ((af xs:Nat):Int):=λ{xs} hx=>by
  show ((af xs:Nat):Int).natAbs<2 ^ 5000;rw[df];exact wV (dj _) xs hx
 have l9:∀{x:Int},Bd 5000 x->x.natAbs<2 ^ 9000:=λ{x} hx=>bV hx (fo (by decide) (by decide));refine⟨pa,a,rfl,hA,λx hx=>(ba x hx).mono (by decide),λH7 s7=>⟨pb,b,rfl,s7.seq hB,λx hx=>(bb x hx).mono (by decide),λH8 s8=>⟨_,_,rfl,(c9 bb).mono (by decide),λH9 s9=>?_⟩⟩⟩;have s0:=s7.trans (s8.trans s9);rw[df,df];refine⟨pa,a,_,rfl,s0.seq hA,by omega,by omega,l9 (c9 ba),λA1 H1 s1 n1 e1=>⟨pb,b,_,rfl,(s0.trans s1).seq hB,by omega,by omega,l9 (c9 bb),λB1 H2 s2 n2 e2=>⟨A1,B1,_,_,g,G,rfl,SqL.of (s2 _ _ e1),SqL.of e2,tw,λF H3 s3 n3 e3=>?_⟩⟩⟩;have sg:∀z∈g,Bd 4480 z:=λz hz=>by
  obtain⟨_,_,m,m0,hG,_⟩:=tw.bz;have h1:=hG z hz;have h2:z.natAbs<=m.natAbs*z.natAbs:=gv _ (iK.mpr m0);exact cE (show z.natAbs<=(G:Int).natAbs by omega) tw.bG
 have gc:Bd 5000 ((bh (af a) (af b):Nat):Int):=cE (show ((bh (af a) (af b):Nat):Int).natAbs<=((af a:Nat):Int).natAbs by have:=Nat.gcd_le_left (af b) ca;omega) (c9 ba);have lg:=tw.lg;refine⟨F,rfl,⟨_,SqL.of e3⟩,λC hC=>?_⟩;obtain⟨Pc,hPc⟩:∃Pc:Nat->Hp->Prop,∀i H',Pc i H'↔H' C=some (.lst (((g.take i).map λz=>((bh (af a) (af b):Nat):Int)*z).map V.int))∧Same H3 H':=⟨_,λ_ _=>Iff.rfl⟩
 refine eJ (xs:=g.map V.int) Pc ((hPc _ _).mpr ⟨by rw[ag];rfl,ar hC _⟩) (λi Hx _ z=>SqL.of (((hPc i Hx).mp z).2 _ _ e3)) ?_ ?_
 ·intro i v Hx hv hc;obtain⟨k1,k2⟩:=(hPc _ _).mp hc;have hi:i<g.length:=by have:=(aV.mp hv).1;rw[ae]at this;exact this
  rw[az,ak hi]at hv;obtain rfl:V.int g[i]=v:=Option.some.inj hv
  (iterate 3 (k_units;(try simp only[bst,fB]));k_units)
  have et:g.take (i+1)=g.take i++[g[i]]:=by rw[cM,ak hi];rfl
  refine⟨gc.fits (sg _ (aW hi)) (by decide),_,k1,Ek (by simp;omega),(hPc _ _).mpr ⟨?_,k2.more hC⟩⟩;rw[ag,et,aQ,aQ];rfl
 intro H4 hc;obtain⟨k1,k2⟩:=(hPc _ _).mp hc;rw[ae,eV]at k1;have sA:=s0.trans (s1.trans (s2.trans s3));exact q C _ (sA.trans k2) (sA.free hC) k1
def dvL (xs:List Int)(c:Nat):List Int:=xs.map λx=>x.fdiv (c:Int)
theorem Mr {c:Nat}(hc:0<c){x:Int}(h:(c:Int)∣x):(c:Int)*x.fdiv (c:Int)=x:=by
 rw[xB _ (by omega)];exact rp h
theorem Ms (xs:List Int)(c:Nat)(j:Nat):co (dvL xs c) j=(co xs j).fdiv (c:Int):=by
 unfold dvL;by_cases h:j<xs.length
 ·rw[ax (by rw[ae];exact h),ax h,b5]
 ·rw[aw (by rw[ae];omega),aw (by omega)];simp
theorem iW {xs:List Int}(hc:0<af xs)(j:Nat):((af xs:Nat):Int)*co (dvL xs (af xs)) j=co xs j:=by
 rw[Ms];exact Mr hc (dX (fK xs) (mh _) j)
theorem j2 {xs:List Int}(hc:0<af xs)(n:Int):((af xs:Nat):Int)*val n (dvL xs (af xs))=val n xs:=by
 rw[←bL];refine f9 (λj=>?_) n;rw[←iW hc j];by_cases h:j<(dvL xs (af xs)).length
 ·rw[ax (by rw[ae];exact h),ax h,b5]
 ·rw[aw (by rw[ae];omega),aw (by omega)];simp
theorem iX (xs:List Int)(c:Nat):(dvL xs c).length=xs.length:=ae ..
theorem gL {xs:List Int}(h:Nml xs)(hne:xs≠[]):0<af xs:=by
 refine kq λz=>?_;have:=cZ h hne;have h2:=dX (P:=λx=>((af xs:Nat):Int)∣x) (fK xs) (mh _) (xs.length-1);rw[z]at h2;exact this (xO.mp h2)
theorem qL {xs:List Int}(h:Nml xs)(hne:xs≠[]):Nml (dvL xs (af xs)):=by
 refine qC (.inr λz=>?_);rw[iX]at z;have:=iW (gL h hne) (xs.length-1);rw[z,cT]at this;exact cZ h hne this.symm
theorem qM {xs:List Int}(hc:0<af xs):gJ (co (dvL xs (af xs))):=λd hd=>by
 have h:d*af xs∣af xs:=iF _ _ (dY λj=>by
  rw[←iW hc j,ga,cL (d:Int)];exact Gv _ (hd j))
 obtain⟨e,he⟩:=h;have h1:af xs*(d*e)=af xs*1:=by rw[my,←ij,gP (af xs) d];exact he.symm
 have h2:=On hc h1;exact Oo h2
theorem Eu {p g A:List Int}(hp:0<af p)(hg:0<af g)(h:∀j,co A j=pm (co p) (co g) j):af A=af p*af g:=by
 have e:∀j,co A j=((af p*af g:Nat):Int)*pm (co (dvL p (af p))) (co (dvL g (af g))) j:=λj=>by
  rw[h j,ga,dm,←kR,←K0];congr 1
  ·funext i;exact (iW hp i).symm
  ·funext i;exact (iW hg i).symm
 have d1:af p*af g∣af A:=iF _ _ (dY λj=>by rw[e j];exact jA _ _);obtain⟨f,hf⟩:=d1;have hpg:0<af p*af g:=gS hp hg;have hf1:f=1:=Le (qM hp) (qM hg) f λj=>by
  have h2:=dX (P:=λx=>((af A:Nat):Int)∣x) (fK A) (mh _) j;rw[e j,hf,ga _ f]at h2;exact N_ (by omega) h2
 rw[hf,hf1,my]
theorem qN (xs:List Int):∃e:Int,(e=1∨e=-1)∧∀j,co (cx xs) j=e*co xs j:=by
 unfold cx
 split
 ·exact⟨-1,.inr rfl,λj=>by rw[Dp];omega⟩
 ·exact⟨1,.inl rfl,λj=>by omega⟩
theorem j3 (xs:List Int):(cx xs).length=xs.length:=by unfold cx;split <;> simp
theorem j4 {xs:List Int}(h:Nml xs)(hne:xs≠[]):0<co (cx xs) ((cx xs).length-1):=by
 have:=cZ h hne;rw[j3];unfold cx
 split
 ·rename_i z;rw[Dp];omega
 ·rename_i z;have:¬co xs (xs.length-1)<0:=λy=>z ⟨hne,y⟩;omega
theorem Mt {xs ys:List Int}(hn:Nml xs)(hy:Nml ys){e:Int}(he:e=1∨e=-1)(h:∀j,co ys j=e*co xs j)(hp:ys≠[]->0<co ys (ys.length-1)):ys=cx xs:=by
 by_cases hx:xs=[]
 ·have:ys=[]:=kT hy λk=>by rw[h k,hx,gG];simp
  rw[this,hx];rfl
 obtain⟨f,hf,hc⟩:=qN xs;have hl:ys.length=xs.length:=Nat.le_antisymm (g8 hy λk hk=>by rw[h k,aw hk];simp) (g8 hn λk hk=>by
  have:=h k;rw[aw hk]at this;rcases he with rfl|rfl <;> omega)
 have hy0:ys≠[]:=by intro z;rw[z]at hl;exact hx (bE hl.symm)
 have h1:=hp hy0;have h2:=j4 hn hx;rw[j3,hc]at h2;rw[hl,h]at h1;have:e=f:=by rcases he with rfl|rfl <;> rcases hf with rfl|rfl <;> first|rfl|omega
 exact wj (by rw[hl,j3]) λk _=>by rw[h k,hc k,this]
theorem wY {xs:List Int}(h:Nml xs):Nml (cx xs):=by
 by_cases hx:xs=[]
 ·rw[hx];exact b8
 ·have:=j4 h hx;exact qC (.inr (by omega))
theorem Mu {p q g A B U W:List Int}{m:Int}(np:Nml p) (nq:Nml q) (ng:Nml g) (nA:Nml A) (nB:Nml B) (p0:p≠[]) (q0:q≠[]) (g0:g≠[]) (lA:A.length<=40) (lB:B.length<=40) (lg:g.length<=40)
  (bA:∀z∈A,Bd 5000 z) (bB:∀z∈B,Bd 5000 z){G:Nat}(bg:∀z∈g,m.natAbs*z.natAbs<=G) (hm:m≠0) (bG:Bd 4480 (G:Int)) (hb:∀n,val n U*val n p+val n W*val n q=m)
  (hA:∀n,val n A=val n p*val n g) (hB:∀n,val n B=val n q*val n g):
  0<af A∧0<af B∧A≠[]∧B≠[]∧Two (dvL A (af A)) (dvL B (af B)) (cx (dvL g (af g))) G∧
   (cx (dvL g (af g))).map (λz=>((bh (af A) (af B):Nat):Int)*z)=cx (g.map λz=>((af (p++q):Nat):Int)*z):=by
 have cp:=gL np p0;have cq:=gL nq q0;have cg:=gL ng g0;have hA':∀j,co A j=pm (co p) (co g) j:=λj=>by rw[←gj];exact f8 (λn=>by rw[hA,dy]) j
 have hB':∀j,co B j=pm (co q) (co g) j:=λj=>by rw[←gj];exact f8 (λn=>by rw[hB,dy]) j
 have eA:=Eu cp cg hA';have eB:=Eu cq cg hB';have cA:0<af A:=by rw[eA];exact gS cp cg
 have cB:0<af B:=by rw[eB];exact gS cq cg
 have A0:A≠[]:=by intro z;rw[z]at cA;simp[af]at cA
 have B0:B≠[]:=by intro z;rw[z]at cB;simp[af]at cB
 obtain⟨e,he,hc⟩:=qN (dvL g (af g));have ee:e*e=1:=by rcases he with rfl|rfl <;> rfl
 have ng1:=qL ng g0;have g10:dvL g (af g)≠[]:=by intro z;have:=iX g (af g);rw[z]at this;exact g0 (bE this.symm)
 have vu:∀n,val n (cx (dvL g (af g)))=e*val n (dvL g (af g)):=λn=>by
  rw[←bL];refine f9 (λj=>?_) n;rw[hc j];by_cases h:j<(dvL g (af g)).length
  ·rw[ax (xs:=mj _ _) (by rw[ae];exact h),ax h,b5]
  ·rw[aw (xs:=mj _ _) (by rw[ae];omega),aw (xs:=dvL _ _) (by omega)];simp
 have key:∀{r C:List Int},0<af r->af C=af r*af g->0<af C->(∀n,val n C=val n r*val n g)->∀n,val n (dvL C (af C))=val n (dvL r (af r))*val n (dvL g (af g)):=λ{r C} h1 h2 h3 h4 n=>by
  have a1:=j2 h3 n;rw[h4 n,←j2 h1 n,←j2 cg n]at a1;have a2:((af C:Nat):Int)*val n (dvL C (af C))=((af C:Nat):Int)*(val n (dvL r (af r))*val n (dvL g (af g))):=by
   rw[a1]
   conv=>rhs;rw[h2,ga]
   simp only[dm,jb]
  exact rB (by omega) a2
 have kA:=key cp eA cA hA;have kB:=key cq eB cB hB;have small:∀{C:List Int},0<af C->(∀z∈C,Bd 5000 z)->∀z∈dvL C (af C),Bd 5000 z:=λ{C} h1 h2=>dY λj=>by
  have a1:=iW h1 j;have a2:Bd 5000 (co C j):=dX h2 (Bd.zero _) j;have a3:(co C j).natAbs=af C*(co (dvL C (af C)) j).natAbs:=by rw[←a1,b4,df]
  have a4:(co (dvL C (af C)) j).natAbs<=af C*(co (dvL C (af C)) j).natAbs:=gv _ h1;exact cE (show (co (dvL C (af C)) j).natAbs<=(co C j).natAbs by omega) a2
 refine⟨cA,cB,A0,B0,⟨qL nA A0,qL nB B0,by intro z;have:=iX A (af A);rw[z]at this;exact A0 (bE this.symm),by intro z;have:=iX B (af B);rw[z]at this;exact B0 (bE this.symm),
  by rw[iX];exact lA,by rw[iX];exact lB,small cA bA,small cB bB,?_,wY ng1,by rw[j3,iX];exact lg,j4 ng1 g10,bG,?_,?_,?_⟩,?_⟩
 ·intro d hd;refine qM cg d λj=>?_;have:=hd j;rw[hc j]at this;rcases he with rfl|rfl
  ·rwa [fu]at this
  ·rw[Int.neg_mul,fu]at this;exact Int.dvd_neg.mp this
 ·refine⟨(dvL p (af p)).map λx=>e*x,g_.mpr λn=>?_⟩;rw[kA n,vu n,bL];generalize val n (dvL p (af p))=u;generalize val n (dvL g (af g))=v
  calc u*v=(e*e)*(u*v):=by rw[ee,fu]
   _=e*v*(e*u):=by simp only[dm,cL,jb]
 ·refine⟨(dvL q (af q)).map λx=>e*x,g_.mpr λn=>?_⟩;rw[kB n,vu n,bL];generalize val n (dvL q (af q))=u;generalize val n (dvL g (af g))=v
  calc u*v=(e*e)*(u*v):=by rw[ee,fu]
   _=e*v*(e*u):=by simp only[dm,cL,jb]
 ·refine⟨U.map λx=>((af p:Nat):Int)*x,W.map λx=>((af q:Nat):Int)*x,m*e,?_,?_,λn=>?_⟩
  ·rcases he with rfl|rfl <;> omega
  ·refine dY λj=>?_;have a1:(m*e).natAbs=m.natAbs:=by rcases he with rfl|rfl <;> omega
   have a2:(co (cx (dvL g (af g))) j).natAbs=(co (dvL g (af g)) j).natAbs:=by rw[hc j];rcases he with rfl|rfl <;> omega
   have a3:=iW cg j;have a4:m.natAbs*(co g j).natAbs<=G:=dX (P:=λz=>m.natAbs*z.natAbs<=G) bg (by simp) j;have a5:(co g j).natAbs=af g*(co (dvL g (af g)) j).natAbs:=by rw[←a3,b4,df]
   have a6:(co (dvL g (af g)) j).natAbs<=af g*(co (dvL g (af g)) j).natAbs:=gv _ cg;rw[a1,a2];exact aE (dC _ (by omega)) a4
  ·have a1:=hb n;rw[←j2 cp n,←j2 cq n]at a1;rw[bL,bL,kA n,kB n,vu n,←a1];generalize val n (dvL p (af p))=u;generalize val n (dvL q (af q))=u';generalize val n (dvL g (af g))=v;generalize ((af p:Nat):Int)=c1;generalize ((af q:Nat):Int)=c2
   calc c1*val n U*(u*v)+c2*val n W*(u'*v)=(val n U*(c1*u)+val n W*(c2*u'))*v:=by rw[Gw];simp only[dm,cL,jb]
    _=(val n U*(c1*u)+val n W*(c2*u'))*((e*e)*v):=by rw[ee,fu]
    _=_:=by simp only[dm]
 ·have ec:bh (af A) (af B)=af (p++q)*af g:=by
   rw[eA,eB,Nat.gcd_mul_right];congr 1;refine GD (iF _ _ λx hx=>?_) (rF (iF _ _ λx hx=>fK _ x (by simp[hx])) (iF _ _ λx hx=>fK _ x (by simp[hx])));rcases aK.mp hx with z|z
   ·exact fS (ii.mpr (md _ _)) (fK p x z)
   ·exact fS (ii.mpr (me _ _)) (fK q x z)
  have cpq:0<af (p++q):=kq λz=>by
   rw[z]at ec;have:0<bh (af A) (af B):=Op _ cA;omega
  have cm:∀(c:Int) (xs:List Int) j,co (xs.map λz=>c*z) j=c*co xs j:=λc xs j=>by
   by_cases h:j<xs.length
   ·rw[ax (by rw[ae];exact h),ax h,b5]
   ·rw[aw (by rw[ae];omega),aw (xs:=xs) (by omega)];simp
  have ut:=j4 ng1 g10;have cgcd:0<bh (af A) (af B):=Op _ cA;have tp:0<co ((cx (dvL g (af g))).map λz=>((bh (af A) (af B):Nat):Int)*z) (((cx (dvL g (af g))).map λz=>((bh (af A) (af B):Nat):Int)*z).length-1):=by
   rw[ae,cm];exact Int.mul_pos (by omega) ut
  refine Mt ?_ (qC (.inr (by omega))) he (λj=>?_) (λ_=>tp)
  ·refine qC (.inr ?_);rw[ae,cm];exact rH (by omega) (cZ ng g0)
  ·rw[cm,cm,hc,ec,←iW cg j,ga];simp only[dm,cL,jb]
def gM (A B R:List Int):Prop:=
 (A=[]∧R=cx B)∨(A≠[]∧B=[]∧R=cx A)∨
 (A≠[]∧B≠[]∧0<af A∧0<af B∧(∀z∈A,Bd 5000 z)∧(∀z∈B,Bd 5000 z)∧∃(g:List Int) (G:Nat),Two (dvL A (af A)) (dvL B (af B)) g G∧R=g.map λz=>((bh (af A) (af B):Nat):Int)*z)
theorem fh (c:Int)(xs:List Int)(j:Nat):co (xs.map λz=>c*z) j=c*co xs j:=by
 by_cases h:j<xs.length
 ·rw[ax (by rw[ae];exact h),ax h,b5]
 ·rw[aw (by rw[ae];omega),aw (xs:=xs) (by omega)];simp
theorem f_ (n:Int)(xs:List Int):val n (aJ xs)=val n xs:=f9 (λk=>cN xs k) n
def pdL (g h:List Int):List Int:=aJ (aY g h)
theorem cK (g h:List Int):Nml (pdL g h):=cI _
theorem be (n:Int)(g h:List Int):val n (pdL g h)=val n g*val n h:=by unfold pdL;rw[f_,dy]
theorem Mv (g:List Int):pdL g []=[]:=dZ (cK _ _) b8 λn=>by rw[be];simp[val]
theorem jw (g h:List Int)(j:Nat):co (pdL g h) j=pm (co g) (co h) j:=by unfold pdL;rw[cN,gj]
theorem iY {g h:List Int}(ng:Nml g)(nh:Nml h)(g0:g≠[])(h0:h≠[]):pdL g h≠[]:=λz=>by
 have:=jw g h (h.length-1+(g.length-1));rw[z,gG,jo (λj hj=>gi j hj) (λj hj=>gi j hj)]at this;exact rH (cZ ng g0) (cZ nh h0) this.symm
theorem j5 {g h:List Int}(ng:Nml g)(nh:Nml h):(pdL g h).length<=g.length+h.length-1:=LK ng nh (cK _ _) (jw g h)
theorem Mw {g h:List Int}{M N:Nat}(hg:∀z∈g,z.natAbs<=M)(hh:∀z∈h,z.natAbs<=N):∀z∈pdL g h,z.natAbs<=g.length*(M*N):=dY λj=>by
 unfold pdL;rw[cN];exact wL hh g hg j
theorem Ev (xs:List Int):∃e:Int,(e=1∨e=-1)∧∀n,val n (cx xs)=e*val n xs:=by
 obtain⟨e,he,hc⟩:=qN xs;exact⟨e,he,λn=>by rw[←bL];exact f9 (λj=>by rw[hc j,fh]) n⟩
theorem Ew {xs:List Int}(h:xs≠[]):cx xs≠[]:=λz=>h (bE (by rw[←j3,z];rfl))
theorem Mz {K:W.Frag}{H:Hp}{pa pb:Addr}{A B R:List Int}{Q:VK}{E:XK}(hA:SqL K H pa (A.map V.int))(hB:SqL K H pb (B.map V.int))(la:A.length<=1000)(lb:B.length<=1000)(h:gM A B R)(q:dH H Q (R.map V.int)):Et K [.ref pa,.ref pb] H Q E:=by
 refine⟨pa,pb,A,B,rfl,hA,hB,la,lb,?_⟩;rcases h with ⟨z,rfl⟩|⟨z1,z2,rfl⟩|⟨A0,B0,c1,c2,b1,b2,g,G,tw,rfl⟩
 ·exact .inl ⟨z,q⟩
 ·exact .inr (.inl ⟨z1,z2,q⟩)
 ·exact .inr (.inr ⟨A0,B0,c1,c2,b1,b2,g,G,tw,q⟩)
def MA (K:W.Frag):Sp:=λvs H Q _=>∃(R:Addr) (as:List Addr) (rows:List (List Int)) (f:Nat->List Int),vs=[.ref R]∧SqL K H R (as.map V.ref)∧LL K H as rows∧rows.length<=1000∧(∀r∈rows,r.length<=1000)∧(∀i,(f i).length<=1000)∧
 f 0=[]∧(∀i r,rows[i]?=some r->gM (f i) r (f (i+1)))∧dH H Q ((f rows.length).map V.int)
theorem MB {P:Program}{w:World}{K:W.Frag}{mg:Str->Option Value}{base:Heap}(T:Tx K mg):FnOk P w K mg base CX0 6 T.Qb T.Qc ["polys"] (MA K):=by
 refine T.Rt.ok sc_common_of (λvs H Q E h=>?_) (λcdv A outer s H vs Q E hr h=>?_)
 ·obtain⟨R,as,rows,f,rfl,_⟩:=h;rfl
 obtain⟨R,as,rows,f,rfl,hR,hL,lr,br,bf,f0,fs,q⟩:=h;refine⟨_,((ai (au (i:=1) sc_common_of.nd rfl (Or.inl rfl) (bN ac))
  (ai (bY PassesOwn.never rfl (cc (pv 0)) (a7 (i:=2) sc_common_of.nd rfl (Or.inl rfl)) (aq (au (i:=1) sc_common_of.nd rfl (Or.inl rfl) (aN (FnOk.mono (Mq T) (by decide)) hr rfl T.Se T.Rs.kp T.Sg .nil aD (aa (pv 1) (aa (pv 2) ac))))))
  (aq (aF (pv 1)))))),?_⟩
 k_units
 refine⟨aI _,λX0 hX=>?_⟩;have s1:=ar hX (.lst []);refine⟨⟨_,s1.seq hR⟩,?_⟩;obtain⟨Pv,hPv⟩:∃Pv:Nat->L2.St->Hp->Prop,∀i σ H',Pv i σ H'↔∃(X:Addr) (r2:Option V),σ=[some (V.ref R),some (V.ref X),r2]∧H' X=some (.lst ((f i).map V.int))∧H X=none∧Same H H':=⟨_,λ_ _ _=>Iff.rfl⟩
 refine iT (xs:=as.map V.ref) Pv ((hPv _ _ _).mpr ⟨X0,_,rfl,by rw[ag,f0];rfl,hX,s1⟩) (λi σ H' _ z=>by obtain⟨_,_,_,_,_,z⟩:=(hPv i σ H').mp z;exact z.seq hR) ?_ ?_
 ·intro i v σ H' hv hp;obtain⟨X,r2,rfl,eX,nX,sP⟩:=(hPv _ _ _).mp hp;obtain⟨a,r,rfl,ha,hr',hA⟩:=hL.nth hv
  k_units
  exact Mz (SqL.of eX) (sP.seq hA) (bf i) (br r (bH hr')) (fs i r hr') λY H2 s2 nY eY=>(hPv _ _ _).mpr ⟨Y,_,rfl,eY,sP.free nY,sP.trans s2⟩
 ·intro σ H' hp;obtain⟨X,r2,rfl,eX,nX,sP⟩:=(hPv _ _ _).mp hp
  k_units
  rw[ae,hL.len]at eX;exact q X _ sP nX eX
def fL (b:Bool)(R:List Int):List Int:=if b then R.map (λz=>-z) else R
def MC (K:W.Frag):Sp:=λvs H Q _=>∃(A:Addr) (as:List Addr) (ps:List (List Int)) (f:Nat->List Int) (qs:List (List Int)) (p0:List Int) (t:Int),vs=[.ref A]∧SqL K H A (as.map V.ref)∧LL K H as ps∧ps.length<=60∧(∀p∈ps,p.length<=64∧Nml p∧∀c∈p,Bd 5000 c)∧(∀i,(f i).length<=64)∧f 0=[]∧(∀i r,ps[i]?=some r->gM (f i) r (f (i+1)))∧
 ps.getLast?=some (p0++[t])∧f ps.length≠[]∧Nml (f ps.length)∧(∀c∈f ps.length,Bd 8000 c)∧qs.length=ps.length∧(∀(i:Nat) (p q:List Int),ps[i]?=some p->qs[i]?=some q->Nml q∧Div p (fL (decide (t<0)) (f ps.length)) q)∧
 ∀(D:Addr) (bs:List Addr) (H':Hp),Same H H'->H D=none->H' D=some (.lst (bs.map V.ref))->LH H' bs qs->(∀b∈bs,H b=none)->D∉bs->Q (.ref D) H'
theorem MD {R:List Int}(h:Nml R):Nml (R.map λz=>-z):=en.mpr λx hx=>by
 rw[xY]at hx;obtain⟨y,hy,rfl⟩:=b6.mp hx;have:=en.mp h y hy;omega
theorem ME {P:Program}{w:World}{K:W.Frag}{mg:Str->Option Value}{base:Heap}(T:Tx K mg):FnOk P w K mg base CX0 7 T.Qn T.Qo ["polys"] (MC K):=by
 refine T.RB.ok sc_cleared (λvs H Q E h=>?_) (λcdv A outer s H vs Q E hr h=>?_)
 ·obtain⟨A,as,ps,f,qs,p0,t,rfl,_⟩:=h;rfl
 obtain⟨A,as,ps,f,qs,p0,t,rfl,hA,hL,l60,bp,bf,f0,fs,hl,fn,nf,bfn,lq,hq,fin⟩:=h;refine⟨_,((ai (au (i:=1) sc_cleared.nd rfl (Or.inr rfl) (aN (FnOk.mono (MB T) (by decide)) hr rfl T.Sh T.Rt.kp T.Si .nil aD (aa (pv 0) ac)))
  (gZ (bC (aM iN (aH a_ (aH a_ (pv 0) (dF dG ah) (λ_ _=>rfl)) (dF dG ah) (λ_ _=>rfl)) ah (aL _)) (aq (au (i:=1) sc_cleared.nd rfl (Or.inr rfl) (ff rfl (dg rfl ck cJ) (cc (pv 1)) (λ_ _ _ _=>(dF dG (pv 0)))))) bI)
  (aq (aF (ff rfl (dg rfl (du rfl ck) (d9 1 "shared" (by decide) rfl (Or.inl rfl) (Or.inl rfl) ⟨_,rfl⟩ cJ)) (cc (pv 0)) (λ_ _ _ _=>(aN (FnOk.mono (wU T) (by decide)) hr rfl T.Py T.OS.kp T.PB .nil v7 (aa (pv 0) (aa (pv 1) ac)))))))))),?_⟩
 have la:=hL.len;dsimp only[aB]
 k_typeOf
 refine⟨A,as,ps,f,rfl,hA,hL,by omega,λr hr=>by have:=(bp r hr).1;omega,λi=>by have:=bf i;omega,f0,fs,λS H1 s1 nS eS=>?_⟩;generalize hR:f ps.length=R at fn nf bfn hq eS;have lR:R.length<=64:=by rw[←hR];exact bf _
 obtain⟨M,hM⟩:∃M:L2.St->Hp->Prop,∀σ H',M σ H'↔∃S':Addr,σ=[some (V.ref A),some (V.ref S')]∧H' S'=some (.lst ((fL (decide (t<0)) R).map V.int))∧Same H H':=⟨_,λ_ _=>Iff.rfl⟩
 refine gE M ?_ ?_
 ·k_units
  obtain⟨ps1,rfl⟩:=mn.mp hl;obtain⟨as1,a,rfl⟩:∃as1 a,as=as1++[a]:=by
   cases z:as.getLast? with
   | none=>rw[rD]at z;rw[z]at la;simp at la
   | some a=>exact⟨_,a,(mn.mp z).choose_spec⟩
  have l1:as1.length=ps1.length:=by simpa using la
  have hlast:SqL K H a ((p0++[t]).map V.int):=hL.get as1.length a _ (by simp) (by rw[l1];simp);have e1:(as1++[a]).map V.ref=as1.map V.ref++[V.ref a]:=by rw[aQ];rfl
  have e2:(p0++[t]).map V.int=p0.map V.int++[V.int t]:=by rw[aQ];rfl
  rw[e1]at hA;rw[e2]at hlast;refine⟨_,s1.seq hA,_,Cq _ _,a,rfl,_,s1.seq hlast,_,Cq _ _,t,rfl,bJ (λz=>⟨⟨_,SqL.of eS⟩,λD nD=>?_⟩) (λz=>(hM _ _).mpr ⟨S,rfl,?_,s1⟩)⟩
  ·obtain⟨Pc,hPc⟩:∃Pc:Nat->Hp->Prop,∀j Hx,Pc j Hx↔Hx D=some (.lst (((R.map λz=>-z).take j).map V.int))∧Same H1 Hx:=⟨_,λ_ _=>Iff.rfl⟩
   refine eJ (xs:=R.map V.int) Pc ((hPc _ _).mpr ⟨ag,ar nD _⟩) (λi Hx _ y=>by obtain⟨_,y⟩:=(hPc i Hx).mp y;exact SqL.of (y _ _ eS)) ?_ ?_
   ·intro j v Hx hv hc;obtain⟨k1,k2⟩:=(hPc _ _).mp hc;rw[az]at hv;obtain⟨c,hc',rfl⟩:=b6.mp hv;have hj:=(aV.mp hc').1
    (iterate 3 (k_units;(try simp only[bst,fB]));k_units)
    refine⟨_,k1,?_,(hPc _ _).mpr ⟨?_,k2.more nD⟩⟩
    ·rw[ae,bT];exact aX (by omega)
    ·rw[ag,cM,az,hc',aQ];rfl
   intro Hx hc;obtain⟨k1,k2⟩:=(hPc _ _).mp hc;rw[ae,d_ (by rw[ae];exact am _)]at k1;refine (hM _ _).mpr ⟨D,rfl,?_,s1.trans k2⟩;rw[k1];unfold fL;rw[if_pos (by simpa using z)]
  ·rw[eS];unfold fL;rw[if_neg (by simpa using z)]
 intro σ H2 hm;obtain⟨S',rfl,eS',s2⟩:=(hM _ _).mp hm
 k_units
 have nR:Nml (fL (decide (t<0)) R)∧fL (decide (t<0)) R≠[]∧(fL (decide (t<0)) R).length<=64∧∀c∈fL (decide (t<0)) R,Bd 8000 c:=by
  unfold fL
  split
  ·refine⟨MD nf,λz=>fn (xI.mp z),by rw[ae];exact lR,λc hc=>?_⟩;obtain⟨d,hd,rfl⟩:=aT.mp hc;exact (bfn d hd).neg
  ·exact⟨nf,fn,lR,bfn⟩
 generalize fL (decide (t<0)) R=R' at nR hq eS';obtain⟨n1,n2,n3,n4⟩:=nR;refine⟨⟨_,s2.seq hA⟩,λD nD=>?_⟩;obtain⟨Pc,hPc⟩:∃Pc:Nat->Hp->Prop,∀j Hx,Pc j Hx↔∃bs:List Addr,Hx D=some (.lst (bs.map V.ref))∧LH Hx bs (qs.take j)∧D∉bs∧Same H2 Hx∧∀b∈bs,H2 b=none:=⟨_,λ_ _=>Iff.rfl⟩
 refine eJ (xs:=as.map V.ref) Pc ((hPc _ _).mpr ⟨[],ag,LH.nil _,by simp,ar nD _,by simp⟩) (λi Hx _ y=>by obtain⟨_,_,_,_,y,_⟩:=(hPc i Hx).mp y;exact (s2.trans y).seq hA) ?_ ?_
 ·intro j v Hx hv hc;obtain⟨bs,k1,k2,k3,k4,k5⟩:=(hPc _ _).mp hc;obtain⟨a,p,rfl,ha,hp,sq⟩:=hL.nth hv;have hj:j<ps.length:=(aV.mp hp).1;obtain⟨b1,b2,b3⟩:=bp p (bH hp);have hqj:qs[j]?=some qs[j]:=ak (by omega);obtain⟨d1,d2⟩:=hq j p _ hp hqj
  (iterate 3 (k_units;(try simp only[bst,fB]));k_units)
  refine⟨a,S',p,R',5000,8000,rfl,(s2.trans k4).seq sq,SqL.of (k4 _ _ eS'),b1,n3,b2,n1,b3,n4,by decide,by decide,.inr ⟨n2,.inl ⟨qs[j],d1,d2,λr Hy s3 nr er=>?_⟩⟩⟩;have lb:=k2.len;rw[bT]at lb;have ne:r≠D:=λz=>by rw[z,k1]at nr;cases nr
  refine⟨_,s3 _ _ k1,by rw[ae];exact aX (by omega),(hPc _ _).mpr ⟨bs++[r],by rw[ag,aQ];rfl,?_,by simp[k3];exact λz=>ne z.symm,(k4.trans s3).more nD,λb hb=>?_⟩⟩
  rotate_left
  ·rcases aK.mp hb with h|h
   ·exact k5 b h
   ·rw[aP.mp h];exact k4.free nr
  rw[cM,hqj];refine LH.snoc ⟨k2.len,λi b q e1 e2=>?_⟩ (by rw[aj ne];exact er);have hb:b≠D:=λz=>k3 (by rw[←z];exact bH e1);rw[aj hb];exact s3 _ _ (k2.get i b q e1 e2)
 intro Hx hc;obtain⟨bs,k1,k2,k3,k4,k5⟩:=(hPc _ _).mp hc;rw[ae,la,d_ (by omega)]at k2;exact fin D bs Hx (s2.trans k4) (s2.free nD) k1 k2 (λb hb=>s2.free (k5 b hb)) k3
def iG (w:Nat)(Ti:List (List (List Int)))(cs:List Nat)(p:Int)(n:Nat):Bool:=(a8 n).all λi=>co (eQ w Ti cs p i) (cs.getD i 0) != 0
theorem qO {w:Nat}{Ti:List (List (List Int))}{cs:List Nat}{p:Int}{n:Nat}:iG w Ti cs p n=true↔Piv w Ti cs p n:=by
 unfold iG Piv;rw[List.all_eq_true];constructor
 ·intro h i hi;have:=h i (dh.mpr hi)
  simpa using this
 ·intro h i hi
  simpa using h i (dh.mp hi)
def plc (w:Nat)(Ti:List (List (List Int)))(cs:List Nat)(t:Nat):List Int:=((a8 t).filter λp:Nat=>iG w Ti cs (p:Int) Ti.length).map λp:Nat=>(p:Int)
theorem k7 {w:Nat}{Ti:List (List (List Int))}{cs:List Nat}{t:Nat}(h:Piv w Ti cs (t:Int) Ti.length):plc w Ti cs (t+1)=plc w Ti cs t++[(t:Int)]:=by
 unfold plc;rw[kz,GF,aQ];simp[qO.mpr h]
theorem k8 {w:Nat}{Ti:List (List (List Int))}{cs:List Nat}{t:Nat}(h:¬Piv w Ti cs (t:Int) Ti.length):plc w Ti cs (t+1)=plc w Ti cs t:=by
 have hf:iG w Ti cs (t:Int) Ti.length=false:=by
  cases e:iG w Ti cs (t:Int) Ti.length with
  | false=>rfl
  | true=>exact absurd (qO.mp e) h
 unfold plc;rw[kz,GF,aQ];simp[hf]
theorem Ex {w:Nat}{Ti:List (List (List Int))}{cs:List Nat}{t:Nat}{p:Int}(h:p∈plc w Ti cs t):∃n:Nat,p=(n:Int)∧n<t∧Piv w Ti cs p Ti.length:=by
 unfold plc at h;obtain⟨n,hn,rfl⟩:=aT.mp h;obtain⟨h1,h2⟩:=jy.mp hn;exact⟨n,rfl,dh.mp h1,qO.mp h2⟩
theorem Ey {w:Nat}{Ti:List (List (List Int))}{cs:List Nat}:∀t,(plc w Ti cs t).length<=t
 | 0=>am _
 | t+1=>by
  have ih:=Ey (w:=w) (Ti:=Ti) (cs:=cs) t;by_cases hp:Piv w Ti cs (t:Int) Ti.length
  ·rw[k7 hp,bU];simp;omega
  ·rw[k8 hp];omega
theorem MF {w:Nat}{Ti:List (List (List Int))}{cs:List Nat}{t:Nat}:(plc w Ti cs (t+1)).length<=(plc w Ti cs t).length+1:=by
 by_cases hp:Piv w Ti cs (t:Int) Ti.length
 ·rw[k7 hp,bU];exact am _
 ·rw[k8 hp];omega
theorem Ez (w:Nat)(Ti:List (List (List Int)))(cs:List Nat):∀t,(plc w Ti cs t).Nodup
 | 0=>mo
 | t+1=>by
  have ih:=Ez w Ti cs t;by_cases hp:Piv w Ti cs (t:Int) Ti.length
  ·rw[k7 hp,ku];refine⟨ih,by simp,λa ha b hb=>?_⟩;rw[aP.mp hb];obtain⟨n,rfl,hn,_⟩:=Ex ha;omega
  ·rw[k8 hp];exact ih
structure OcOk (w:Nat)(Ti:List (List (List Int)))(cs:List Nat)(q:List (List Int))(gs:List (List Int))(Pn:Nat):Prop where
 k19:Ti.length<=19
 kw:Ti.length<=w
 wid:∀v∈Ti++[q],v.length=w
 col:∀c∈cs,c<w
 cl:cs.length<=19
 len:gs.length=Ti.length+1
 P7:Pn<=700
 tb:∀p:Nat,p<Pn->TBd w Ti cs (p:Int)
 lo:∀p:Nat,p<Pn->Piv w Ti cs (p:Int) Ti.length->LowOk (bD w q Ti.length (p:Int)) (cO w Ti cs (p:Int) Ti.length) cs
 vq:q.length<=20∧∀f∈q,f.length<=60∧∀c∈f,Bd 1000 c
 mrk:∀p:Nat,p<Pn->Piv w Ti cs (p:Int) Ti.length->∀(i:Nat) (g:List Int),gs[i]?=some g->co (cV w Ti cs q (p:Int)) (w+i)=val (p:Int) g
 ng:∀g∈gs,Nml g∧∀p:Nat,p<Pn->Bd 10000 (val (p:Int) g)
def qP (qs:List (List (List Int)))(cs:List Nat)(N:Int):Prop:=∃(bv bc:List Int) (m:Int),bv.length=qs.length∧bc.length=cs.length∧(∀(i:Nat) (b:Int) (q:List (List Int)),bv[i]?=some b->qs[i]?=some q->h8 (h_ q cs) b)∧(∀(i:Nat) (b:Int) (c:Nat),bc[i]?=some b->cs[i]?=some c->h8 (ia qs c) b)∧m∈bv∧(∀b∈bv,m<=b)∧N=(if bc.sum<bv.sum-m then bc.sum else bv.sum-m)
def MG {K:W.Frag}{mg:Str->Option Value}(T:Tx K mg):Sp:=λvs H Q _=>∃(x dx Kp Cl Tb Vc:Addr) (us:List Addr) (kvs:List (Key×V)) (M:List Addr) (w:Nat) (Ti:List (List (List Int))) (cs:List Nat) (pl:Int) (q gs:List (List Int)) (Pn:Nat) (f:Nat->List Int) (qs:List (List Int)) (p0:List Int) (t0:Int),vs=[.ref x,.ref Vc]∧Spn T H x dx Kp Cl Tb us kvs M w Ti cs pl∧VecAt H M Vc q∧OcOk w Ti cs q gs Pn∧kvs.length+Pn<=900∧(∀N,qP (Ti++[q]) cs N->0<=N∧N<60∧(∀g∈gs,(g.length:Int)<=N+1)∧N<((plc w Ti cs Pn).length:Int))∧
 ((∀p∈gs,p.length<=64∧Nml p∧∀c∈p,Bd 5000 c)∧(∀i,(f i).length<=64)∧f 0=[]∧(∀i r,gs[i]?=some r->gM (f i) r (f (i+1)))∧gs.getLast?=some (p0++[t0])∧f gs.length≠[]∧Nml (f gs.length)∧(∀c∈f gs.length,Bd 8000 c)∧qs.length=gs.length∧(∀(i:Nat) (p q:List Int),gs[i]?=some p->qs[i]?=some q->Nml q∧Div p (fL (decide (t0<0)) (f gs.length)) q))∧
 ∀(H':Hp) (kvs':List (Key×V)) (M':List Addr) (D:Addr) (bs:List Addr),Spn T H' x dx Kp Cl Tb us kvs' M' w Ti cs pl->KX M H H'->(∀a∈M,a∈M')->(∀a∈M',a∈M∨H a=none)->kvs'.length<=kvs.length+Pn->D∉M'->H D=none->H' D=some (.lst (bs.map V.ref))->LH H' bs qs->(∀b∈bs,b∉M'∧H b=none)->D∉bs->Q (.ref D) H'
theorem MH (bs:List Int)(k:Nat):dr (bs.map V.int) (some (k:Int)) none=(bs.drop k).map V.int:=by
 unfold dr;rw[HT.sIx_nat,HT.sIx_none,ae,←rf,d_ (by rw[ae,kh];omega)];congr 1;by_cases z:k<=bs.length
 ·rw[xS z]
 ·rw[GG (by omega),xZ (am _),xZ (by omega)]
theorem KW.trans {x Kp Cl Tb:Addr}{kvs kvs1:List (Key×V)}{H H1 H2:Hp}(k:KW x Kp Cl Tb kvs H H1)(tk:∀e∈kvs1,e∈kvs∨∀a,e.2=V.ref a->H a=none)(k2:KW x Kp Cl Tb kvs1 H1 H2):KW x Kp Cl Tb kvs H H2:=λy o a1 a2 a3 a4 a5 e=>by
 refine k2 y o a1 a2 a3 a4 (λe' he z=>?_) (k y o a1 a2 a3 a4 a5 e);rcases tk e' he with h|h
 ·exact a5 e' h z
 ·rw[h y z]at e;cases e
theorem MI {M M1:List Addr}{kvs kvs1 kvs2:List (Key×V)}{H H1:Hp}(kx:KX M H H1)(ms:∀a∈M,a∈M1)(al:∀a∈M1,∃o,H1 a=some o)(tk:∀e∈kvs1,e∈kvs∨∀a,e.2=V.ref a->H a=none)(tk2:∀e∈kvs2,e∈kvs1∨∀a,e.2=V.ref a->H1 a=none):∀e∈kvs2,e∈kvs∨∀a,e.2=V.ref a->H a=none:=λe he=>by
 rcases tk2 e he with h|h
 ·exact tk e h
 ·refine .inr λa ea=>?_;have h1:=h a ea
  cases z:H a with
  | none=>rfl
  | some o=>
   by_cases m:a∈M
   ·obtain⟨o',e'⟩:=al a (ms a m);rw[h1]at e';cases e'
   ·rw[kx a o m z]at h1;cases h1
theorem MJ {P:Program}{w:World}{K:W.Frag}{mg:Str->Option Value}{base:Heap}(T:Tx K mg):FnOk P w K mg base CX0 8 T.Q3 T.Q4 ["self","vector"] (MG T):=by
 refine T.SI.ok sc_Span_only_choice (λvs H Q E h=>?_) (λcdv A outer s H vs Q E hr h=>?_)
 ·obtain⟨x,dx,Kp,Cl,Tb,Vc,us,kvs,M,w,Ti,cs,pl,q,gs,Pn,f,qs,p0,t0,rfl,_⟩:=h;rfl
 obtain⟨x,dx,Kp,Cl,Tb,Vc,us,kvs,M,w,Ti,cs,pl,q,gs,Pn,f,qs,p0,t0,rfl,S,hV,O,l9,hN,hC,fin⟩:=h;refine⟨_,((ai (au (i:=2) sc_Span_only_choice.nd rfl (Or.inl rfl) (ao cG ah (aN (FnOk.mono (LW T) (by decide)) hr rfl T.Sl T.RA.kp T.Sm .nil aD (aa (ao iQ (cH (pv 0) rfl) (bN (aa (pv 1) ac))) (aa (cH (pv 0) rfl) ac)))))
  (ai (au (i:=3) sc_Span_only_choice.nd rfl (Or.inr rfl) (bN ac))
  (ai (au (i:=4) sc_Span_only_choice.nd rfl (Or.inr rfl) (bN ac))
  (ai (au (i:=5) sc_Span_only_choice.nd rfl (Or.inl rfl) ah)
  (ai (gy PassesOwn.never (aM iN (aA aU rfl T.OB aS (aa (pv 3) ac)) (pv 2) (aL _)) (ai (au (i:=6) sc_Span_only_choice.nd rfl (Or.inl rfl) (fF (pv 0) T.OC T.RY (FnOk.mono (Ef T) (by decide)) hr T.RQ .nil aD (aa (pv 1) (aa (pv 5) ac))))
  (gZ (bC (aM mO (pv 6) eh (aL _)) (ai (e9 (fY PySem.F.plainAttrs_list PySem.F.slot_list_append PySem.F.type_list_append e_ (pv 3) (aa (pv 5) ac)))
  (aq (e9 (fY PySem.F.plainAttrs_list PySem.F.slot_list_append PySem.F.type_list_append e_ (pv 4) (aa (iu iP (pv 6) (gC (cH (pv 0) rfl)) jj) ac))))) bI)
  (aq (u_ (i:=5) sc_Span_only_choice.nd rfl (Or.inl rfl) ah vg)))))
  (aq (aF (aN (FnOk.mono (ME T) (by decide)) hr rfl T.Sn T.RB.kp T.So .nil aD (aa (Dg rfl (qf rfl (du rfl (du rfl ck)) (d9 3 "places" (by decide) rfl (Or.inl rfl) (Or.inl rfl) ⟨_,rfl⟩ (d9 4 "marks" (by decide) rfl (Or.inl rfl) (Or.inl rfl) ⟨_,rfl⟩ cJ))) (fW rfl T.OE (aa (ao cG (aA aU rfl T.OB aS (aa (cH (pv 0) rfl) ac)) ah) ac)) (λ_ _ _ _=>(aN (FnOk.mono (LP T) (by decide)) hr rfl T.Sj T.Rx.kp T.Sk .nil aD (aa (pv 1) (aa (ff rfl (dg rfl (du rfl ck) (d9 0 "number" (by decide) rfl (Or.inl rfl) (Or.inl rfl) ⟨_,rfl⟩ cJ)) (qH (K:=K) rfl (pv 2)) (λ_ _ _ _=>(aH (jY (K:=K) rfl) (pv 0) (pv 1) (λ_ _=>rfl)))) ac))))) ac)))))))))),?_⟩
 have lk:=S.lk;have k19:=O.k19;have lq:(Ti++[q]).length=Ti.length+1:=by simp
 have vecs:=jt (Φ:=λu qv=>VecAt H M u qv) (L:=Ti++[q]) (rs:=us) (r:=Vc) (λt u qv e1 e2=>by
  have ht:t<Ti.length:=by have:=(aV.mp e1).1;omega
  rw[b_ ht]at e2;exact S.vec t u qv e1 e2) (λqv e2=>by
  rw[di (by omega),show us.length-Ti.length=0 by omega]at e2
  cases Option.some.inj e2
  exact hV)
 dsimp only[aB]
 k_typeOf
 refine⟨_,_,_,S.hx,T.OC,T.OG,_,rfl,by decide,λq1 m1=>?_⟩;have u1:=ar m1 (.lst [V.ref Vc]);refine⟨Kp,rfl,_,u1 _ _ S.hK,_,ag,?_,λq2 m2=>?_⟩
 ·rw[ae];exact bW (aX (by simp;omega))
 have u2:=ar m2 (.lst (us.map V.ref++[V.ref Vc]));have e2:=ag (H:=L2.upd H q1 (.lst [V.ref Vc])) (a:=q2) (o:=.lst (us.map V.ref++[V.ref Vc]));have s2:=u1.trans u2;generalize L2.upd (L2.upd H q1 (.lst [V.ref Vc])) q2 (.lst (us.map V.ref++[V.ref Vc]))=H3 at e2 s2 ⊢;clear u1 u2 m1 m2;have e2':H3 q2=some (.lst ((us++[Vc]).map V.ref)):=by rw[e2,aQ];rfl
 have S3:=S.same s2;have vl:VL K H3 (us++[Vc]) (Ti++[q]):=⟨by simp[lk],λi v qv e1 e3=>by
  obtain⟨as,v1,v2,_⟩:=vecs i v qv e1 e3;exact⟨as,SqL.of (s2 _ _ v1),(v2.same s2).ll⟩⟩
 refine⟨_,_,_,S3.hx,T.OC,T.OI,_,rfl,q2,Cl,us++[Vc],Ti++[q],cs,rfl,SqL.of e2',vl,SqL.of S3.hC,by simp,by rw[lq];omega,by have:=O.cl;omega,λv hv c hc=>by rw[O.wid v hv];exact O.col c hc,λbv bc m N H4 s4 d1 d2 d3 d4 d5 d6 d7=>?_⟩;obtain⟨N0,N6,gN,pN⟩:=hN N ⟨bv,bc,m,d1,d2,d3,d4,d5,d6,d7⟩;obtain⟨Nn,rfl⟩:∃Nn:Nat,N=(Nn:Int):=⟨N.toNat,by omega⟩
 clear d1 d2 d3 d4 d5 d6 d7 bv bc m;have s04:=s2.trans s4;have S4:=S.same s04;clear S3 vl e2' e2 s2 s4;refine⟨_,rfl,?_⟩;dsimp only[aB]
 k_typeOf
 refine⟨aI _,λPl nPl=>?_⟩;have S5:=S4.more (o:=.lst []) nPl;have u5:=ar nPl (.lst []);have e5:=ag (H:=H4) (a:=Pl) (o:=.lst []);generalize L2.upd H4 Pl (.lst [])=H5 at S5 u5 e5 ⊢;dsimp only[aB]
 k_typeOf
 refine⟨aI _,λMk nMk=>?_⟩;have S6:=S5.more (o:=.lst []) nMk;have u6:=ar nMk (.lst []);have e6:=ag (H:=H5) (a:=Mk) (o:=.lst []);have f6:=u6 _ _ e5;have dPM:Pl≠Mk:=λz=>by rw[←z,e5]at nMk;cases nMk
 generalize L2.upd H5 Mk (.lst [])=H6 at S6 u6 e6 f6 ⊢;have s06:=s04.trans (u5.trans u6);have n0P:=s04.free nPl;have n0M:=s04.free (u5.free nMk);have mf6:∀a∈Mk :: Pl :: M,a∈M∨H a=none:=λa ha=>by
  rcases aO.mp ha with z|ha
  ·exact .inr (by rw[z];exact n0M)
  ·rcases aO.mp ha with z|z
   ·exact .inr (by rw[z];exact n0P)
   ·exact .inl z
 have V6:=(hV.more mf6).same s06;have nk:∀e∈kvs,e.2≠V.ref Pl∧e.2≠V.ref Mk:=λe he=>by
  obtain⟨p,ta,n,rs,h1,h2,h3,_⟩:=S.tab e he;refine⟨λz=>?_,λz=>?_⟩
  ·rw[h1]at z;injection z with z;rw[z,n0P]at h3;cases h3
  ·rw[h1]at z;injection z with z;rw[z,n0M]at h3;cases h3
 have dP:Pl≠x∧Pl≠Kp∧Pl≠Cl∧Pl≠Tb:=⟨(λz=>by rw[z,S.hx]at n0P;cases n0P),(λz=>by rw[z,S.hK]at n0P;cases n0P),(λz=>by rw[z,S.hC]at n0P;cases n0P),(λz=>by rw[z,S.hT]at n0P;cases n0P)⟩
 have dM:Mk≠x∧Mk≠Kp∧Mk≠Cl∧Mk≠Tb:=⟨(λz=>by rw[z,S.hx]at n0M;cases n0M),(λz=>by rw[z,S.hK]at n0M;cases n0M),(λz=>by rw[z,S.hC]at n0M;cases n0M),(λz=>by rw[z,S.hT]at n0M;cases n0M)⟩
 clear S4 S5 u5 u6 e5 nPl nMk;dsimp only[aB]
 k_typeOf
 dsimp only[aB]
 k_typeOf
 obtain⟨J,hJ⟩:∃J:Nat->L2.St->Hp->Prop,∀m σ H',J m σ H'↔∃(t:Nat) (kvs':List (Key×V)) (M':List Addr) (r6:Option V) (mks:List Addr),σ=[some (V.ref x),some (V.ref Vc),some (V.int (1+(Nn:Int))),some (V.ref Pl),some (V.ref Mk),some (V.int (t:Int)),r6]∧Spn T H' x dx Kp Cl Tb us kvs' M' w Ti cs pl∧VecAt H' M' Vc q∧H' Pl=some (.lst ((plc w Ti cs t).map V.int))∧H' Mk=some (.lst (mks.map V.ref))∧LH H' mks ((plc w Ti cs t).map λp=>(cV w Ti cs q p).drop w)∧(∀a∈mks,a∉M')∧Pl∈M'∧Mk∈M'∧KW x Kp Cl Tb kvs H H'∧(∀a∈M,a∈M')∧(∀a∈M',a∈M∨H a=none)∧(∀e∈kvs',e.2≠V.ref Pl∧e.2≠V.ref Mk)∧(∀e∈kvs',e∈kvs∨∀a,e.2=V.ref a->H a=none)∧kvs'.length<=kvs.length+t∧t<=Pn∧(plc w Ti cs t).length<=Nn+1∧m=Pn-t:=⟨_,λ_ _ _=>Iff.rfl⟩
 refine gD J Pn ((hJ _ _ _).mpr ⟨0,kvs,Mk :: Pl :: M,none,[],rfl,S6,V6,f6,e6,LH.nil _,λa ha=>by simp at ha,.tail _ (.head _),.head _,λy o _ _ _ _ _ e=>s06 _ _ e,λa h=>.tail _ (.tail _ h),mf6,nk,λ_ h=>.inl h,by omega,aI _,aI _,rfl⟩) ?_;intro m σ H7 hm;obtain⟨t,kvs',M',r6,mks,rfl,S7,V7,eP,eM,hMk,nMk,mP,mM,kw,ms,mf,nt,tk,lk7,tP,ln1,rfl⟩:=(hJ _ _ _).mp hm
 k_units
 refine⟨_,.inl (SqL.of eP),?_⟩;rw[ae];refine bJ (λz=>?_) (λz=>?_)
 ·have ht:t<Pn:=by
   rcases GC t Pn with h|h
   ·exact h
   ·rw[show t=Pn by omega]at z;omega
  refine⟨J (Pn-(t+1)),λσ' H' z=>⟨_,by omega,z⟩,dx,_,S7.hx,rfl,x,dx,Kp,Cl,Tb,Vc,us,kvs',M',w,Ti,cs,pl,(t:Int),q,rfl,S7,O.tb t ht,by omega,by omega,V7,O.vq.1,O.vq.2,O.lo t ht,λH8 kvs8 M8 S8 kw8 ms8 mf8 l8 tk8=>?_⟩;have kx8:=S7.kx kw8;have kx8':KX M8 H7 H8:=λy o ny e=>kx8 y o (λz=>ny (ms8 y z)) e;have V8:=(V7.more mf8).kx kx8';have nt7:=nt;have eP8:=kw8 Pl _ dP.1 dP.2.1 dP.2.2.1 dP.2.2.2 (λe he=>(nt e he).1) eP;have eM8:=kw8 Mk _ dM.1 dM.2.1 dM.2.2.1 dM.2.2.2 (λe he=>(nt e he).2) eM;have hMk8:=hMk.kx kx8 nMk;have nMk8:∀a∈mks,a∉M8:=λa ha z=>by
   rcases mf8 a z with h|h
   ·exact nMk a ha h
   ·obtain⟨i,hi,rfl⟩:=cU.mp ha;have:=hMk.get i _ _ (ak hi) (ak (by rw[←hMk.len];exact hi));rw[h]at this;cases this
  have nt8:∀e∈kvs8,e.2≠V.ref Pl∧e.2≠V.ref Mk:=λe he=>by
   rcases tk8 e he with h|h
   ·exact nt e h
   ·refine⟨λz=>?_,λz=>?_⟩
    ·have y:=h Pl z;rw[eP]at y;cases y
    ·have y:=h Mk z;rw[eM]at y;cases y
  have kwT:=kw.trans tk kw8;have tkT:=MI (S.kx kw) ms S7.al tk tk8;have mfT:=ju (S.kx kw) mf mf8;have msT:∀a∈M,a∈M8:=λa h=>ms8 a (ms a h);obtain⟨Mx,hMx⟩:∃Mx:L2.St->Hp->Prop,∀σ H',Mx σ H'↔∃(r6:Option V) (mks':List Addr),σ=[some (V.ref x),some (V.ref Vc),some (V.int (1+(Nn:Int))),some (V.ref Pl),some (V.ref Mk),some (V.int (t:Int)),r6]∧Spn T H' x dx Kp Cl Tb us kvs8 M8 w Ti cs pl∧VecAt H' M8 Vc q∧H' Pl=some (.lst ((plc w Ti cs (t+1)).map V.int))∧H' Mk=some (.lst (mks'.map V.ref))∧LH H' mks' ((plc w Ti cs (t+1)).map λp=>(cV w Ti cs q p).drop w)∧(∀a∈mks',a∉M8)∧KW x Kp Cl Tb kvs H H':=⟨_,λ_ _=>Iff.rfl⟩
  have tail:∀σ H',Mx σ H'->∃r6:Option V,σ=[some (V.ref x),some (V.ref Vc),some (V.int (1+(Nn:Int))),some (V.ref Pl),some (V.ref Mk),some (V.int (t:Int)),r6]∧J (Pn-(t+1)) [some (V.ref x),some (V.ref Vc),some (V.int (1+(Nn:Int))),some (V.ref Pl),some (V.ref Mk),some (V.int ((t:Int)+1)),r6] H':=λσ H' h=>by
   obtain⟨r6,mks',rfl,g1,g2,g3,g4,g5,g6,g7⟩:=(hMx _ _).mp h;exact⟨r6,rfl,(hJ _ _ _).mpr ⟨t+1,kvs8,M8,r6,mks',rfl,g1,g2,g3,g4,g5,g6,ms8 _ mP,ms8 _ mM,g7,msT,mfT,nt8,tkT,by omega,by omega,by have:=MF (w:=w) (Ti:=Ti) (cs:=cs) (t:=t);omega,rfl⟩⟩
  refine⟨λR nR eR pv=>?_,λnp=>?_⟩
  ·refine gE Mx ?_ ?_
   ·k_units
    rw[if_pos (λz=>nomatch z)];have mP8:=ms8 _ mP;have mM8:=ms8 _ mM;have dR:R≠Pl:=λz=>nR (by rw[z];exact mP8);have lpl:=Ey (w:=w) (Ti:=Ti) (cs:=cs) t;have P7:=O.P7;have S9:=S8.other (o:=.lst ((plc w Ti cs t).map V.int++[V.int (t:Int)])) mP8 dP.1 dP.2.1 dP.2.2.1 dP.2.2.2 λe he=>(nt8 e he).1;have k9:KX M8 H8 (L2.upd H8 Pl (.lst ((plc w Ti cs t).map V.int++[V.int (t:Int)]))):=λy o ny e=>by
     have d:y≠Pl:=λz=>ny (by rw[z];exact mP8);rw[aj d];exact e
    have eP9:=ag (H:=H8) (a:=Pl) (o:=.lst ((plc w Ti cs t).map V.int++[V.int (t:Int)]));have eM9:=(aj (H:=H8) (o:=.lst ((plc w Ti cs t).map V.int++[V.int (t:Int)])) (Ne.symm dPM)).trans eM8;have eR9:=(aj (H:=H8) (o:=.lst ((plc w Ti cs t).map V.int++[V.int (t:Int)])) dR).trans eR;have kw9:KW x Kp Cl Tb kvs H (L2.upd H8 Pl (.lst ((plc w Ti cs t).map V.int++[V.int (t:Int)]))):=λy o a1 a2 a3 a4 a5 e=>by
     have d:y≠Pl:=λz=>by rw[z,n0P]at e;cases e
     rw[aj d];exact kwT y o a1 a2 a3 a4 a5 e
    refine⟨fZ (SqL.of eP8),_,eP8,by rw[ae];exact aX (by omega),?_⟩;generalize L2.upd H8 Pl (.lst ((plc w Ti cs t).map V.int++[V.int (t:Int)]))=H9 at S9 k9 eP9 eM9 eR9 kw9 ⊢;refine⟨fZ (SqL.of eM9),_,_,_,S9.hx,T.OC,T.OJ,_,rfl,_,rfl,_,SqL.of eR9,λD nD=>?_⟩;rw[MH];have u:=ar nD (.lst (((cV w Ti cs q (t:Int)).drop w).map V.int));have SA:=S9.same u;have eD:=ag (H:=H9) (a:=D) (o:=.lst (((cV w Ti cs q (t:Int)).drop w).map V.int));have nDM:D∉M8:=λz=>by obtain⟨o,e⟩:=S9.al D z;rw[nD]at e;cases e
    have dDM:D≠Mk:=λz=>nDM (by rw[z];exact mM8);have eMA:=u _ _ eM9;have ePA:=u _ _ eP9;have hMA:=(hMk8.kx k9 nMk8).same u;have VA:=(V8.kx k9).same u;have kwA:KW x Kp Cl Tb kvs H (L2.upd H9 D (.lst (((cV w Ti cs q (t:Int)).drop w).map V.int))):=λy o a1 a2 a3 a4 a5 e=>u _ _ (kw9 y o a1 a2 a3 a4 a5 e);generalize L2.upd H9 D (.lst (((cV w Ti cs q (t:Int)).drop w).map V.int))=HA at SA eD eMA ePA hMA VA kwA ⊢;have lmk:mks.length<=t:=by have:=hMk.len;rw[ae]at this;omega
    have kB:KX M8 HA (L2.upd HA Mk (.lst (mks.map V.ref++[V.ref D]))):=λy o ny e=>by
     have d:y≠Mk:=λz=>ny (by rw[z];exact mM8);rw[aj d];exact e
    refine⟨_,eMA,by rw[ae];exact aX (by omega),(hMx _ _).mpr ⟨_,mks++[D],rfl,SA.other mM8 dM.1 dM.2.1 dM.2.2.1 dM.2.2.2 λe he=>(nt8 e he).2,VA.kx kB,?_,by rw[ag,aQ];rfl,?_,λa ha=>?_,λy o a1 a2 a3 a4 a5 e=>?_⟩⟩
    ·rw[aj dPM,k7 pv,aQ];exact ePA
    ·rw[k7 pv,aQ];exact (hMA.kx kB nMk8).snoc (by rw[aj dDM];exact eD)
    ·rcases aK.mp ha with h|h
     ·exact nMk8 a h
     ·rw[aP.mp h];exact nDM
    ·have d:y≠Mk:=λz=>by rw[z,n0M]at e;cases e
     rw[aj d];exact kwA y o a1 a2 a3 a4 a5 e
   ·intro σ H9 h9;obtain⟨r6',rfl,hj⟩:=tail σ H9 h9
    k_units
    exact hj
  ·refine gE Mx ?_ ?_
   ·k_units
    refine (hMx _ _).mpr ⟨_,mks,rfl,S8,V8,?_,eM8,?_,nMk8,kwT⟩
    ·rw[k8 np];exact eP8
    ·rw[k8 np];exact hMk8
   ·intro σ H9 h9;obtain⟨r6',rfl,hj⟩:=tail σ H9 h9
    k_units
    exact hj
 ·have gt:Nn+1<=(plc w Ti cs t).length:=by omega
  refine⟨_,_,_,S7.hx,T.OC,T.OG,_,rfl,Kp,rfl,_,.inl (SqL.of S7.hK),?_⟩;have lus:(us.map V.ref).length=Ti.length:=by rw[ae];exact lk
  rw[lus];refine⟨by omega,by omega,λD nD=>?_⟩;rw[show ((Ti.length:Int)+1).toNat=Ti.length+1 by omega];have P7:=O.P7;have lg:=O.len;have hps:∀p∈plc w Ti cs t,∃n:Nat,p=(n:Int)∧n<Pn∧Piv w Ti cs p Ti.length:=λp hp=>by
   obtain⟨n,h1,h2,h3⟩:=Ex hp;exact⟨n,h1,by omega,h3⟩
  have nd:=Ez w Ti cs t;obtain⟨psx,hpsx⟩:∃psx,plc w Ti cs t=psx:=⟨_,rfl⟩
  rw[hpsx]at hps nd gt ln1 eP hMk;have lmk:=hMk.len;rw[ae]at lmk;obtain⟨Pc,hPc⟩:∃Pc:Nat->Hp->Prop,∀j Hx,Pc j Hx↔∃bs:List Addr,Hx D=some (.lst (bs.map V.ref))∧LH Hx bs (gs.take j)∧D∉bs∧Same H7 Hx:=⟨_,λ_ _=>Iff.rfl⟩
  refine CM Pc ((hPc _ _).mpr ⟨[],ag,LH.nil _,by simp,ar nD _⟩) ?_ ?_
  ·intro j Hx hj hc;obtain⟨bs,k1,k2,k3,k4⟩:=(hPc _ _).mp hc;have hgj:gs[j]?=some gs[j]:=ak (by omega);obtain⟨n1,n2⟩:=O.ng _ (aW (show j<gs.length by omega));have n3:=gN _ (aW (show j<gs.length by omega));have e0:(0:Int)+(j:Int)=(j:Int):=fq _;have kj:=O.kw;generalize gs[j]=g at hgj n1 n2 n3
   (iterate 3 (k_units;(try simp only[bst,fB,e0]));k_units)
   refine⟨⟨_,SqL.of (k4 _ _ eM)⟩,λD1 nD1=>?_⟩;obtain⟨Pi,hPi⟩:∃Pi:Nat->Hp->Prop,∀i Hy,Pi i Hy↔Hy D1=some (.lst (((psx.map λp=>val p g).take i).map V.int))∧Same Hx Hy:=⟨_,λ_ _=>Iff.rfl⟩
   refine eJ (xs:=mks.map V.ref) Pi ((hPi _ _).mpr ⟨ag,ar nD1 _⟩) (λi Hy _ y=>by obtain⟨_,y⟩:=(hPi i Hy).mp y;exact SqL.of ((k4.trans y) _ _ eM)) ?_ ?_
   ·intro i v Hy hv hi;obtain⟨m1,m2⟩:=(hPi _ _).mp hi;rw[az]at hv;obtain⟨a,ha,rfl⟩:=b6.mp hv;have hip:i<psx.length:=by have:=(aV.mp ha).1;omega
    have hpi:psx[i]?=some psx[i]:=ak hip;obtain⟨n,hn1,hn2,hn3⟩:=hps _ (aW hip);generalize psx[i]=p at hpi hn1 hn3;subst hn1;have ea:=hMk.get i a _ ha (by rw[az,hpi];rfl);have hlow:=kY (O.lo n hn2 hn3) Ti.length (by rw[dJ];exact am _);have hwq:q.length=w:=O.wid q (by simp);have hll:(cV w Ti cs q (n:Int)).length=w+(w+1):=by
     unfold cV;rw[hlow];unfold bD;rw[bU,ae,ae,ik,hwq]
    have hjl:j<((cV w Ti cs q (n:Int)).drop w).length:=by rw[kh,hll];omega
    have hco:co ((cV w Ti cs q (n:Int)).drop w) j=val (n:Int) g:=by
     rw[←O.mrk n hn2 hn3 j g hgj];unfold co;rw[av,av,List.getElem?_drop]
    (iterate 3 (k_units;(try simp only[bst,fB]));k_units)
    refine⟨_,SqL.of ((k4.trans m2) _ _ ea),_,jZ hjl,_,m1,?_,(hPi _ _).mpr ⟨?_,m2.more nD1⟩⟩
    ·rw[ae,bT];exact aX (by omega)
    ·rw[ag,cM,az,hpi,aQ,hco];rfl
   intro Hy hi;obtain⟨m1,m2⟩:=(hPi _ _).mp hi;rw[ae,lmk,d_ (by rw[ae];exact am _)]at m1;refine⟨Pl,D1,psx,g,rfl,SqL.of ((k4.trans m2) _ _ eP),SqL.of m1,⟨by omega,n1,by omega,λa b ha hb hne h=>by
    rcases Nat.lt_or_gt_of_ne hne with y|y
    ·exact jz.mp nd a b ha hb y h
    ·exact jz.mp nd b a hb ha y h.symm,λp hp=>?_,λp hp=>?_⟩,λR Hz sz nR eR=>?_⟩
   ·obtain⟨n,rfl,h2,_⟩:=hps p hp;exact Bd.of_lt (m:=701) (by omega) (by decide)
   ·obtain⟨n,rfl,h2,_⟩:=hps p hp;exact n2 n h2
   have lb:=k2.len;rw[bT]at lb;have ne:R≠D:=λz=>by rw[z,m2 _ _ k1]at nR;cases nR
   refine⟨_,sz _ _ (m2 _ _ k1),by rw[ae];exact aX (by omega),(hPc _ _).mpr ⟨bs++[R],by rw[ag,aQ];rfl,?_,by simp[k3];exact λz=>ne z.symm,(k4.trans (m2.trans sz)).more nD⟩⟩;rw[cM,hgj];refine LH.snoc ⟨k2.len,λi b' p e1 e2=>?_⟩ (by rw[aj ne];exact eR);have hb:b'≠D:=λz=>k3 (by rw[←z];exact bH e1);rw[aj hb];exact sz _ _ (m2 _ _ (k2.get i b' p e1 e2))
  intro Hx hc;obtain⟨bs,k1,k2,k3,k4⟩:=(hPc _ _).mp hc;rw[d_ (by omega)]at k2;obtain⟨c1,c2,c3,c4,c5,c6,c7,c8,c9,c10⟩:=hC;refine⟨D,bs,gs,f,qs,p0,t0,rfl,SqL.of k1,k2.ll,by omega,c1,c2,c3,c4,c5,c6,c7,c8,c9,c10,λD2 bs2 Hz sz nD2 eD2 lD2 nb2 nDb=>?_⟩;have S8:=(S7.same k4).same sz;have fr:∀y,Hx y=none->y∉M'∧H y=none:=λy hy=>by
   have h1:y∉M':=λz=>by obtain⟨o,e⟩:=(S7.same k4).al y z;rw[hy]at e;cases e
   refine⟨h1,?_⟩
   cases e:H y with
   | none=>rfl
   | some o=>
    have:=k4 _ _ (S.kx kw y o (λz=>h1 (ms y z)) e);rw[hy]at this;cases this
  exact fin Hz kvs' M' D2 bs2 S8 (S.kx λy o a1 a2 a3 a4 a5 e=>sz _ _ (k4 _ _ (kw y o a1 a2 a3 a4 a5 e))) ms mf (by omega) (fr D2 nD2).1 (fr D2 nD2).2 eD2 lD2 (λb hb=>fr b (nb2 b hb)) nDb
def spw (n:Nat)(few:List Nat)(ws:List (List Int)):Nat->List (List Int)
 | 0=>aC n []++[ws.getD few.length []]
 | t+1=>(spw n few ws t).set (few.getD t 0) (ws.getD t [])
theorem iH (n:Nat)(few:List Nat)(ws:List (List Int)):∀t,(spw n few ws t).length=n+1
 | 0=>by simp[spw]
 | t+1=>by rw[spw,i6];exact iH n few ws t
theorem EA {w:Nat}{Ti:List (List (List Int))}{cs:List Nat}{q:List (List Int)}{c:Nat}{p:Int}(hl:cs.length=Ti.length)(hp:Piv w Ti cs p Ti.length)(h:co (cV w Ti cs q p) c≠0):Piv w (Ti++[q]) (cs++[c]) p (Ti.length+1):=λi hi=>by
 by_cases z:i<Ti.length
 ·exact Eg hl (am _) hp i z
 ·have e:i=Ti.length:=by omega
  subst e;unfold eQ;rw[qK hl _ (am _),qJ _ (by omega)];have e1:(Ti++[q]).getD Ti.length []=q:=by simp
  have e2:(cs++[c]).getD Ti.length 0=c:=by rw[←hl];simp
  rw[e1,e2];exact h
structure SpTh (w B KM:Nat)(St:List (List (List Int))->List Nat->Int->Prop)(Vq:List (List (List Int))->List (List Int)->Prop)(Rl:List (List (List Int))->List (List Int)->List (List Int)->Prop):Prop where
 b3:(KM+2)*(2*B+2)<=900
 k18:KM<=18
 st0:St [] [] 97
 stS:∀Ti cs pl q c (t:Nat),St Ti cs pl->Vq Ti q->c<w->c∉cs->t<=B->Piv w (Ti++[q]) (cs++[c]) (pl+(t:Int)) (Ti.length+1)->St (Ti++[q]) (cs++[c]) (pl+(t:Int))
 bd:∀Ti cs pl q,St Ti cs pl->Vq Ti q->Ti.length<=KM∧q.length=w∧∀f∈q,f.length<=40∧∀c∈f,Bd 1000 c
 tb:∀Ti cs pl q,St Ti cs pl->Vq Ti q->TBd w Ti cs pl∧Piv w Ti cs pl Ti.length∧LowOk (bD w q Ti.length pl) (cO w Ti cs pl Ti.length) cs
 hit:∀Ti cs pl q c,St Ti cs pl->Vq Ti q->c<w->co (cV w Ti cs q pl) c≠0->c∉cs∧TBd w (Ti++[q]) (cs++[c]) pl
 oc:∀Ti cs pl q,St Ti cs pl->Vq Ti q->(∀c,c<w->co (cV w Ti cs q pl) c=0)->∃(gs:List (List Int)) (Pn:Nat) (f:Nat->List Int) (qs:List (List Int)) (p0:List Int) (t0:Int),OcOk w Ti cs q gs Pn∧Pn<=B∧(∀N,qP (Ti++[q]) cs N->0<=N∧N<60∧(∀g∈gs,(g.length:Int)<=N+1)∧N<((plc w Ti cs Pn).length:Int))∧
  ((∀p∈gs,p.length<=64∧Nml p∧∀c∈p,Bd 5000 c)∧(∀i,(f i).length<=64)∧f 0=[]∧(∀i r,gs[i]?=some r->gM (f i) r (f (i+1)))∧gs.getLast?=some (p0++[t0])∧f gs.length≠[]∧Nml (f gs.length)∧(∀c∈f gs.length,Bd 8000 c)∧qs.length=gs.length∧(∀(i:Nat) (p q:List Int),gs[i]?=some p->qs[i]?=some q->Nml q∧Div p (fL (decide (t0<0)) (f gs.length)) q))∧
  FcOk w (Ti++[q]) qs∧((∀c,c<w->c∉cs->dz (Ti++[q]) qs c (Ti.length+1)=[])->Rl Ti q qs)∧
  ∀c,c<w->c∉cs->dz (Ti++[q]) qs c (Ti.length+1)≠[]->∃N,N<=B∧(∀t:Nat,t<=N->TBd w (Ti++[q]) (cs++[c]) (pl+(t:Int)))∧Piv w (Ti++[q]) (cs++[c]) (pl+(N:Int)) (Ti.length+1)
 sub:∀Ti cs pl q (few:List Nat),St Ti cs pl->Vq Ti q->few.Pairwise (· < ·)->(∀i∈few,i<Ti.length)->few.length<Ti.length->
  Vq (few.map λi=>Ti.getD i []) q∧(∀(i j:Nat),few[i]?=some j->Vq ((few.take i).map λi=>Ti.getD i []) (Ti.getD j [])∧∀ws,¬Rl ((few.take i).map λi=>Ti.getD i []) (Ti.getD j []) ws)
 len:∀Ti q ws,Rl Ti q ws->ws.length=Ti.length+1
 up:∀Ti cs pl q (few:List Nat) ws,St Ti cs pl->Vq Ti q->few.Pairwise (· < ·)->(∀i∈few,i<Ti.length)->few.length<Ti.length->Rl (few.map λi=>Ti.getD i []) q ws->Rl Ti q (spw Ti.length few ws few.length)
def EB {K:W.Frag}{mg:Str->Option Value}(T:Tx K mg)(w B:Nat)(St:List (List (List Int))->List Nat->Int->Prop)(Vq:List (List (List Int))->List (List Int)->Prop)(Rl:List (List (List Int))->List (List Int)->List (List Int)->Prop)(d:Nat):Sp:=λvs H Q _=>∃(x dx Kp Cl Tb Vc:Addr) (us:List Addr) (kvs:List (Key×V)) (M:List Addr) (Ti:List (List (List Int))) (cs:List Nat) (pl:Int) (as:List Addr) (q:List (List Int)),vs=[.ref x,.ref Vc]∧Spn T H x dx Kp Cl Tb us kvs M w Ti cs pl∧SqL K H Vc (as.map V.ref)∧LL K H as q∧St Ti cs pl∧Vq Ti q∧Ti.length<d∧kvs.length+(2*B+2)<=900∧
 (∀(H':Hp) (us':List Addr) (kvs':List (Key×V)) (M':List Addr) (c:Nat) (pl':Int),Spn T H' x dx Kp Cl Tb us' kvs' M' w (Ti++[q]) (cs++[c]) pl'->St (Ti++[q]) (cs++[c]) pl'->KX M H H'->(∀a∈M,a∈M')->(∀a∈M',a∈M∨H a=none)->kvs'.length<=kvs.length+(2*B+2)->(∃(O:Addr) (ob:List Addr),us'=us++[O]∧H O=none∧(∀b∈ob,H b=none)∧H' O=some (.lst (ob.map V.ref)))->Q .non H')∧
 (∀(H':Hp) (kvs':List (Key×V)) (M':List Addr) (D:Addr) (bs:List Addr) (ws:List (List Int)),Spn T H' x dx Kp Cl Tb us kvs' M' w Ti cs pl->Rl Ti q ws->KX M H H'->(∀a∈M,a∈M')->(∀a∈M',a∈M∨H a=none)->kvs'.length<=kvs.length+(2*B+2)->D∉M'->H D=none->H' D=some (.lst (bs.map V.ref))->LH H' bs ws->(∀b∈bs,b∉M'∧H b=none)->D∉bs->Q (.ref D) H')
def MK {K:W.Frag}{mg:Str->Option Value}(T:Tx K mg)(w B:Nat)(St:List (List (List Int))->List Nat->Int->Prop)(Vq:List (List (List Int))->List (List Int)->Prop)(Rl:List (List (List Int))->List (List Int)->List (List Int)->Prop)(d:Nat):Sp:=λvs H Q _=>∃(x dx Kp Cl Tb Vc Fw:Addr) (us:List Addr) (kvs:List (Key×V)) (M:List Addr) (Ti:List (List (List Int))) (cs:List Nat) (pl:Int) (q:List (List Int)) (few:List Nat),vs=[.ref x,.ref Vc,.ref Fw]∧Spn T H x dx Kp Cl Tb us kvs M w Ti cs pl∧VecAt H M Vc q∧H Fw=some (.lst ((few.map λc:Nat=>(c:Int)).map V.int))∧St Ti cs pl∧Vq Ti q∧Ti.length<=d∧few.Pairwise (· < ·)∧(∀i∈few,i<Ti.length)∧few.length<Ti.length∧
 (∀H':Hp,Same H H'->Q .non H')∧
 (∀(H':Hp) (D:Addr) (bs:List Addr) (ws:List (List Int)),Same H H'->Rl Ti q ws->H D=none->H' D=some (.lst (bs.map V.ref))->LH H' bs ws->(∀b∈bs,H b=none)->D∉bs->Q (.ref D) H')
theorem ML {H:Hp}{x dx:Addr}{o u:HO}(hx:H x=none)(hd:H dx=none):Same H (L2.upd (L2.upd H dx u) x o):=λb v e=>by rw[aj (dq e hx),aj (dq e hd)];exact e
theorem EC {K:W.Frag}{mg:Str->Option Value}{T:Tx K mg}{H:Hp}{Q:Addr->Hp->Prop}{E:XK}{w:Nat}(k:∀(x dx Kp Cl Tb:Addr) (M:List Addr) (H':Hp),Same H H'->(∀a∈M,H a=none)->Spn T H' x dx Kp Cl Tb [] [] M w [] [] 97->Q x H')(x dx:Addr)(hx:H x=none)(hd:H dx=none)(_:dx≠x):
  Ea T.OD [.ref x,.int (w:Int)] (L2.upd (L2.upd H dx (.own x)) x (.ins T.OD dx [])) (λv H2=>v=V.non∧Q x H2) E:=by
 have s1:Same H (L2.upd (L2.upd H dx (.own x)) x (.ins T.OD dx [])):=ML hx hd;refine⟨x,dx,(w:Int),rfl,ag,λKp Cl Tb H' s2 n1 n2 n3 d1 d2 d3 ex e1 e2 e3=>⟨rfl,?_⟩⟩;have s3:Same H H':=λy o e=>s2 y o (dq e hx) (s1 y o e);refine k x dx Kp Cl Tb [x,Kp,Cl,Tb] H' s3 (λa ha=>?_) ⟨ex,e1,e2,e3,rfl,rfl,λi u q e=>by simp at e,λe he=>by simp at he,λe he=>by simp at he,by simp,λe he=>by simp at he,d1,λa ha=>?_⟩
 ·simp only[aO,gQ,or_false]at ha;rcases ha with rfl|rfl|rfl|rfl
  ·exact hx
  ·exact s1.free n1
  ·exact s1.free n2
  ·exact s1.free n3
 ·simp only[aO,gQ,or_false]at ha;rcases ha with rfl|rfl|rfl|rfl
  ·exact⟨_,ex⟩
  ·exact⟨_,e1⟩
  ·exact⟨_,e2⟩
  ·exact⟨_,e3⟩
theorem MM (xs:List Addr)(a:Addr):dr ((xs++[a]).map V.ref) (some (-1)) none=[V.ref a]:=by
 unfold dr;have e:HT.sIx ((xs++[a]).map V.ref).length 0 (some (-1))=xs.length:=by
  unfold HT.sIx;dsimp only;rw[if_pos (by decide)];simp;omega
 rw[e,HT.sIx_none,←rf];simp
theorem MN {P:Program}{wd:World}{K:W.Frag}{mg:Str->Option Value}{base:Heap}(T:Tx K mg){w B KM:Nat}{St:List (List (List Int))->List Nat->Int->Prop}{Vq:List (List (List Int))->List (List Int)->Prop}{Rl:List (List (List Int))->List (List Int)->List (List Int)->Prop}(Z:SpTh w B KM St Vq Rl) (d:Nat) (F:FnOk P wd K mg base CX0 (2*d+9) T.O0 T.O8 ["self","vector"] (EB T w B St Vq Rl d)):FnOk P wd K mg base CX0 (2*d+10) T.Q9 T.Q_ ["self","vector","few"] (MK T w B St Vq Rl d):=by
 refine T.SO.ok sc_Span_by_few (λvs H Q E h=>?_) (λcdv A outer s H vs Q E hr h=>?_)
 ·obtain⟨x,dx,Kp,Cl,Tb,Vc,Fw,us,kvs,M,Ti,cs,pl,q,few,rfl,_⟩:=h;rfl
 obtain⟨x,dx,Kp,Cl,Tb,Vc,Fw,us,kvs,M,Ti,cs,pl,q,few,rfl,S,hV,hF,hSt,hVq,kd,fp,fk,fl,q1,q2⟩:=h;refine⟨_,((ai (au (i:=3) sc_Span_by_few.nd rfl (Or.inl rfl) (Ce T.RV (FnOk.mono (Eb T) (by omega)) hr rfl T.RU T.RN .nil aD (aa (cH (pv 0) rfl) ac)))
  (ai (bY PassesOwn.never rfl (cc (pv 2)) (a7 (i:=4) sc_Span_by_few.nd rfl (Or.inl rfl)) (aq (e9 (fF (pv 3) T.OC T.O_ (FnOk.mono F (by omega)) hr T.O9 .nil aD (aa (aH a_ (cH (pv 0) rfl) (pv 4) (λ_ _=>rfl)) ac)))))
  (ai (au (i:=5) sc_Span_by_few.nd rfl (Or.inl rfl) (fF (pv 3) T.OC T.O_ (FnOk.mono F (by omega)) hr T.O9 .nil aD (aa (pv 1) ac)))
  (ai (bC (aM kG (pv 5) eh (aL _)) (aq (aF eh)) bI)
  (ai (au (i:=6) sc_Span_by_few.nd rfl (Or.inl rfl) (ao iQ (ff rfl (dg rfl ck cJ) (cc (cH (pv 0) rfl)) (λ_ _ _ _=>(bN ac))) (iu iP (pv 5) (gC (dF dG ah)) jj)))
  (ai (bY PassesOwn.never rfl (jT rfl T.OM (aa (pv 2) (aa (pv 5) ac))) (gX rfl (dQ (a7 (i:=4) sc_Span_by_few.nd rfl (Or.inl rfl)) (dQ (a7 (i:=7) sc_Span_by_few.nd rfl (Or.inl rfl)) gW))) (aq (jK (pv 7) (jJ (pv 6) (pv 4) iw))))
  (aq (aF (pv 6)))))))))),?_⟩
 obtain⟨k18,qw,bq⟩:=Z.bd Ti cs pl q hSt hVq;have b3:=Z.b3;have kM:=Z.k18;dsimp only[aB]
 k_typeOf
 refine⟨_,_,_,S.hx,T.OC,T.OJ,_,rfl,EC λx2 dx2 Kp2 Cl2 Tb2 M2 H1 s1 m1 S1=>?_⟩;obtain⟨sub1,sub2⟩:=Z.sub Ti cs pl q few hSt hVq fp fk fl;dsimp only[aB]
 k_typeOf
 obtain⟨Pv,hPv⟩:∃Pv:Nat->L2.St->Hp->Prop,∀i σ H',Pv i σ H'↔∃(us2:List Addr) (kvs2:List (Key×V)) (M2:List Addr) (cs2:List Nat) (pl2:Int) (r4:Option V),σ=[some (V.ref x),some (V.ref Vc),some (V.ref Fw),some (V.ref x2),r4,none,none,none]∧Spn T H' x2 dx2 Kp2 Cl2 Tb2 us2 kvs2 M2 w ((few.take i).map λi=>Ti.getD i []) cs2 pl2∧St ((few.take i).map λi=>Ti.getD i []) cs2 pl2∧(∀a∈M2,H a=none)∧kvs2.length<=i*(2*B+2)∧Same H H':=⟨_,λ_ _ _=>Iff.rfl⟩
 have lf:(few.map λc:Nat=>(c:Int)).length=few.length:=ae ..;refine⟨⟨_,SqL.of (s1 _ _ hF)⟩,iT (xs:=(few.map λc:Nat=>(c:Int)).map V.int) Pv ((hPv _ _ _).mpr ⟨[],[],M2,[],97,none,rfl,S1,Z.st0,m1,aI _,s1⟩) (λi σ H' _ z=>by obtain⟨_,_,_,_,_,_,_,_,_,_,_,z⟩:=(hPv i σ H').mp z;exact SqL.of (z _ _ hF)) ?_ ?_⟩
 ·intro i v σ H2 hv hp;obtain⟨us2,kvs2,M2,cs2,pl2,r4,rfl,S2,t2,m2,l2,s2⟩:=(hPv _ _ _).mp hp;rw[az,az]at hv;obtain⟨j',hj',rfl⟩:=b6.mp hv;obtain⟨j,hj,rfl⟩:=b6.mp hj';have hi:i<few.length:=(aV.mp hj).1;have hjk:=fk j (bH hj);obtain⟨v1,v2⟩:=sub2 i j hj;have hu:j<us.length:=by have:=S.lk;omega
  have hkn:Ti[j]?=some Ti[j]:=ak hjk;obtain⟨as,w1,w2,w3,w4⟩:=S.vec j _ _ (ak hu) hkn;have ek:Ti.getD j []=Ti[j]:=by rw[av,hkn];rfl
  have et:few.take (i+1)=few.take i++[j]:=by rw[cM,hj];rfl
  have lt:((few.take i).map λi=>Ti.getD i []).length=i:=by rw[ae,bT];omega
  have S0:=S.same s2;have lb:i*(2*B+2)+(2*B+2)<=900:=by
   have:(i+1)*(2*B+2)<=(KM+2)*(2*B+2):=dE _ (by omega);rw[iL,fR]at this;omega
  k_units
  refine⟨dx2,_,S2.hx,rfl,_,_,_,S0.hx,T.OC,T.OG,_,rfl,Kp,rfl,_,SqL.of S0.hK,V.ref us[j],eI (by rw[az,ak hu];rfl),x2,dx2,Kp2,Cl2,Tb2,us[j],us2,kvs2,M2,_,cs2,pl2,as,Ti[j],rfl,S2,SqL.of (s2 _ _ w1),(w2.same s2).ll,t2,by rw[←ek];exact v1,by rw[lt];omega,by omega,λH3 us3 kvs3 M3 c pl3 S3 t3 kx ms mf l3 _=>?_,λH3 kvs3 M3 D bs ws _ hR _ _ _ _ _ _ _ _ _ _=>by rw[←ek]at hR;exact absurd hR (v2 ws)⟩;have s3:Same H H3:=λy o e=>kx y o (λz=>by rw[m2 y z]at e;cases e) (s2 y o e);have ea:((few.take (i+1)).map λi=>Ti.getD i [])=((few.take i).map λi=>Ti.getD i [])++[Ti[j]]:=by rw[et,aQ,c_,xD,ek]
  refine (hPv _ _ _).mpr ⟨us3,kvs3,M3,_,pl3,_,rfl,by rw[ea];exact S3,by rw[ea];exact t3,λa ha=>?_,by rw[iL,fR];omega,s3⟩;rcases mf a ha with h|h
  ·exact m2 a h
  ·exact s2.free h
 intro σ H2 hp;obtain⟨us2,kvs2,M2,cs2,pl2,r4,rfl,S2,t2,m2,l2,s2⟩:=(hPv _ _ _).mp hp;rw[ae,lf]at S2 t2 l2;rw[d_ (am _)]at S2 t2;clear hp hPv Pv;have lt:(few.map λi=>Ti.getD i []).length=few.length:=ae ..;have lb:few.length*(2*B+2)+(2*B+2)<=900:=by
  have:(few.length+1)*(2*B+2)<=(KM+2)*(2*B+2):=dE _ (by omega);rw[iL,fR]at this;omega
 obtain⟨asV,w1,w2,_,_⟩:=hV;dsimp only[aB]
 k_typeOf
 refine⟨dx2,_,S2.hx,rfl,x2,dx2,Kp2,Cl2,Tb2,Vc,us2,kvs2,M2,_,cs2,pl2,asV,q,rfl,S2,SqL.of (s2 _ _ w1),(w2.same s2).ll,t2,sub1,by rw[lt];omega,by omega,λH3 us3 kvs3 M3 c pl3 S3 t3 kx ms mf l3 _=>?_,λH3 kvs3 M3 D bs ws S3 hR kx ms mf l3 nDM nD eD lD nb Db=>?_⟩
 ·k_units
  exact q1 H3 λy o e=>kx y o (λz=>by rw[m2 y z]at e;cases e) (s2 y o e)
 have s3:Same H H3:=λy o e=>kx y o (λz=>by rw[m2 y z]at e;cases e) (s2 y o e);have S0:=S.same s3;have hR':=Z.up Ti cs pl q few ws hSt hVq fp fk fl hR;have lw:=Z.len _ _ _ hR;rw[lt]at lw;have lbs:=lD.len;dsimp only[aB]
 k_typeOf
 rw[if_neg (λz=>nomatch z)];dsimp only[aB]
 k_typeOf
 have lus:(us.map V.ref).length=Ti.length:=by rw[ae];exact S.lk
 refine⟨_,_,_,S0.hx,T.OC,T.OG,_,rfl,Kp,rfl,⟨_,SqL.of S0.hK⟩,λD1 nD1=>?_⟩;obtain⟨Pc,hPc⟩:∃Pc:Nat->Hp->Prop,∀j Hx,Pc j Hx↔∃rs:List Addr,Hx D1=some (.lst (rs.map V.ref))∧LH Hx rs (aC j [])∧D1∉rs∧Same H3 Hx∧∀b∈rs,H3 b=none:=⟨_,λ_ _=>Iff.rfl⟩
 refine eJ (xs:=us.map V.ref) Pc ((hPc _ _).mpr ⟨[],ag,LH.nil _,by simp,ar nD1 _,by simp⟩) (λi Hx _ y=>by obtain⟨_,_,_,_,y,_⟩:=(hPc i Hx).mp y;exact SqL.of (y _ _ S0.hK)) ?_ ?_
 ·intro j v Hx hv hc;obtain⟨rs,k1,k2,k3,k4,k5⟩:=(hPc _ _).mp hc;have hj:j<Ti.length:=by have:=(aV.mp hv).1;omega
  have lr:=k2.len;rw[lN]at lr
  k_units
  refine⟨aI _,λp np=>?_⟩;have ne:p≠D1:=λz=>by rw[z,k1]at np;cases np
  have u1:=ar np (.lst []);refine⟨_,u1 _ _ k1,by rw[ae];exact aX (by omega),(hPc _ _).mpr ⟨rs++[p],by rw[ag,aQ];rfl,?_,by simp[k3];exact λz=>ne z.symm,(k4.trans u1).more nD1,λb hb=>?_⟩⟩
  ·rw[List.replicate_succ'];refine LH.snoc ((k2.same u1).upd k3) (by rw[aj ne];exact ag)
  ·rcases aK.mp hb with h|h
   ·exact k5 b h
   ·rw[aP.mp h];exact k4.free np
 intro H4 hc;obtain⟨rs,k1,k2,k3,k4,k5⟩:=(hPc _ _).mp hc;rw[lus]at k2;clear hc hPc Pc;have lr:=k2.len;rw[lN]at lr;have eD4:=k4 _ _ eD;have lD4:=lD.same k4;obtain⟨bi,bl,rfl⟩:∃bi bl,bs=bi++[bl]:=by
  cases z:bs.getLast? with
  | none=>rw[rD]at z;rw[z]at lbs;simp at lbs;omega
  | some a=>exact⟨_,a,(mn.mp z).choose_spec⟩
 have lbi:bi.length=few.length:=by simp at lbs;omega
 refine⟨_,SqL.of eD4,λD2 nD2=>⟨D1,rfl,?_⟩⟩;rw[MM];have u2:=ar nD2 (.lst [V.ref bl]);refine⟨_,u2 _ _ k1,_,ag,by rw[ae];exact bW (aX (by simp;omega)),λWt nW=>?_⟩;have u3:=ar nW (.lst (rs.map V.ref++[V.ref bl]));have s4:=s3.trans (k4.trans (u2.trans u3));have eW:=ag (H:=L2.upd H4 D2 (.lst [V.ref bl])) (a:=Wt) (o:=.lst (rs.map V.ref++[V.ref bl]));have nW0:H Wt=none:=s3.free (k4.free (u2.free nW));have s34:=k4.trans (u2.trans u3);have lD5:=lD.same s34;have eD5:=s34 _ _ eD;have nWD:Wt≠D:=λz=>by rw[←z]at eD4;rw[u2 _ _ eD4]at nW;cases nW
 have nWb:Wt∉bi++[bl]:=(lD4.same u2).notin nW;have nWr:Wt∉rs:=(k2.same u2).notin nW;have k25:=(k2.same u2).same u3;have eWm:L2.upd (L2.upd H4 D2 (.lst [V.ref bl])) Wt (.lst (rs.map V.ref++[V.ref bl])) Wt=some (.lst ((rs++[bl]).map V.ref)):=by rw[eW,aQ];rfl
 have hF5:=s4 _ _ hF;have nWF:Wt≠Fw:=λz=>by rw[z,hF]at nW0;cases nW0
 generalize L2.upd (L2.upd H4 D2 (.lst [V.ref bl])) Wt (.lst (rs.map V.ref++[V.ref bl]))=H5 at s4 lD5 eD5 k25 eWm hF5 s34 ⊢;have hbl:H5 bl=some (.lst ((ws.getD few.length []).map V.int)):=by
  refine lD5.get few.length bl _ (by rw[←lbi];simp) ?_;rw[av,ak (by omega)];rfl
 have nbH:∀b∈bi++[bl],H b=none:=λb hb=>s2.free (nb b hb).2;have nrH:∀b∈rs,H b=none:=λb hb=>s3.free (k5 b hb);clear u2 u3 nD2 nW eW k1 k2 eD4 lD4 s34;dsimp only[aB]
 k_typeOf
 obtain⟨Pz,hPz⟩:∃Pz:Nat->L2.St->Hp->Prop,∀n σ H',Pz n σ H'↔∃(wb:List Addr) (r4 r7:Option V),σ=[some (V.ref x),some (V.ref Vc),some (V.ref Fw),some (V.ref x2),r4,some (V.ref D),some (V.ref Wt),r7]∧H' Wt=some (.lst (wb.map V.ref))∧LH H' wb (spw Ti.length few ws n)∧(∀b∈wb,H b=none∧b≠Wt)∧KB Wt H5 H':=⟨_,λ_ _ _=>Iff.rfl⟩
 have keepF:∀{H':Hp},KB Wt H5 H'->SqL K H' Fw ((few.map λc:Nat=>(c:Int)).map V.int)∧SqL K H' D ((bi++[bl]).map V.ref):=λ{H'} k=>⟨SqL.of (k _ _ (Ne.symm nWF) hF5),SqL.of (k _ _ (Ne.symm nWD) eD5)⟩
 obtain⟨kf1,kf2⟩:=keepF (KB.of (Same.refl H5));refine⟨_,kf1,_,kf2,pK (xs:=(few.map λc:Nat=>(c:Int)).map V.int) (ys:=(bi++[bl]).map V.ref) Pz ((hPz _ _ _).mpr ⟨rs++[bl],_,_,rfl,eWm,by rw[spw];exact k25.snoc hbl,λb hb=>?_,KB.of (Same.refl _)⟩) (λn σ H' _ _ y=>by obtain⟨_,_,_,_,_,_,_,y⟩:=(hPz n σ H').mp y;exact keepF y) ?_ ?_⟩
 ·rcases aK.mp hb with h|h
  ·exact⟨nrH b h,λz=>nWr (by rw[←z];exact h)⟩
  ·rw[aP.mp h];exact⟨nbH bl (by simp),λz=>nWb (by rw[←z];simp)⟩
 ·intro n v1 v2 pr σ H6 e1 e3 hp' npr;obtain⟨wb,t4,t7,rfl,eW,lW,nW',kb⟩:=(hPz _ _ _).mp hp';rw[az,az]at e1;obtain⟨j',hj',rfl⟩:=b6.mp e1;obtain⟨j,hj,rfl⟩:=b6.mp hj';rw[az]at e3;obtain⟨b,hb,rfl⟩:=b6.mp e3;have hn:n<few.length:=(aV.mp hj).1;have hjk:=fk j (bH hj);have w1:=ar npr (.tup [V.int (j:Int),V.ref b]);have nbW:b≠Wt:=λz=>nWb (by rw[←z];exact bH hb);have hws:ws[n]?=some (ws.getD n []):=by rw[av,ak (by omega)];rfl
  have hb5:=lD5.get n b _ hb hws;have lwb:=lW.len;rw[iH]at lwb;have ef:few.getD n 0=j:=by rw[av,hj];rfl
  k_units
  refine⟨_,SqT.of ag,rfl,_,_,rfl,_,_,rfl,rfl,_,(j:Int),rfl,w1 _ _ eW,j,iA (by rw[ae];omega),(hPz _ _ _).mpr ⟨wb.set j b,_,_,rfl,by rw[ag,List.map_set],?_,λc hc=>?_,(kb.on w1).set⟩⟩
  ·rw[spw,ef];exact ((lW.same w1).upd (λz=>(nW' _ z).2 rfl)).set (by rw[aj nbW];exact w1 _ _ (kb _ _ nbW hb5)) j
  ·rcases List.mem_or_eq_of_mem_set hc with h|h
   ·exact nW' c h
   ·rw[h];exact⟨nbH b (bH hb),nbW⟩
 intro σ H6 hp';obtain⟨wb,t4,t7,rfl,eW,lW,nW',kb⟩:=(hPz _ _ _).mp hp';have hmin:min ((few.map λc:Nat=>(c:Int)).map V.int).length ((bi++[bl]).map V.ref).length=few.length:=by simp;omega
 rw[hmin]at lW
 k_units
 refine q2 H6 Wt wb _ (λy o e=>kb y o (λz=>by rw[z,nW0]at e;cases e) (s4 y o e)) hR' nW0 eW lW (λb hb=>(nW' b hb).1) λz=>(nW' _ z).2 rfl
def qQ (H:Hp)(Q:VK)(ds:List (List Int)):Prop:=∀(D:Addr) (bs:List Addr) H',Same H H'->H D=none->H' D=some (.lst (bs.map V.ref))->LH H' bs ds->(∀b∈bs,H b=none)->D∉bs->bs.Nodup->Q (.ref D) H'
theorem j6 {K:W.Frag}{a:Addr}{as:List Addr}{ps ds:List (List Int)}{fv:List (Nat×Str)}{te:TE}{Q:VK}{σ:L2.St}{H1:Hp}{D:Addr}(nD:H1 D=none) (hA:SqL K H1 a (as.map V.ref)) (hL:LL K H1 as ps) (hd:ds.length=ps.length) (hl:ps.length<=900)
  (hs:∀(i:Nat) (b:Addr) (p d:List Int) (Hx:Hp) (R:VK),ps[i]?=some p->ds[i]?=some d->Same H1 Hx->SqL K Hx b (p.map V.int)->dH Hx R (d.map V.int)->te (bst fv σ (some (V.ref b))) Hx R) (he:qQ H1 Q ds):jN (Itl K a) fv te Q σ H1 D:=by
 obtain⟨Pc,hPc⟩:∃Pc:Nat->Hp->Prop,∀j Hx,Pc j Hx↔∃bs:List Addr,Hx D=some (.lst (bs.map V.ref))∧LH Hx bs (ds.take j)∧D∉bs∧bs.Nodup∧(∀b∈bs,H1 b=none)∧Same H1 Hx:=⟨_,λ_ _=>Iff.rfl⟩
 refine eJ (xs:=as.map V.ref) Pc ((hPc _ _).mpr ⟨[],ag,LH.nil _,by simp,mo,by simp,ar nD _⟩) (λi Hx _ z=>by obtain⟨_,_,_,_,_,_,z⟩:=(hPc i Hx).mp z;exact z.seq hA) ?_ ?_
 ·intro j v Hx hv hc;obtain⟨bs,k1,k2,k3,k4,k5,k6⟩:=(hPc _ _).mp hc;obtain⟨b,p,rfl,hb,hp,hB⟩:=hL.nth hv;have hj:j<ps.length:=(aV.mp hp).1;have hdj:ds[j]?=some ds[j]:=ak (by omega);refine hs j b p _ Hx _ hp hdj k6 (k6.seq hB) λF H2 s2 nF eF=>?_;have lk:=k2.len;rw[bT]at lk;have nFD:F≠D:=λz=>by rw[z,k1]at nF;cases nF
  have nFb:F∉bs:=k2.notin nF;have m1:D∉bs++[F]:=λz=>by
   rcases aK.mp z with z|z
   ·exact k3 z
   ·exact nFD (aP.mp z).symm
  refine⟨_,s2 _ _ k1,by rw[ae];exact aX (by omega),(hPc _ _).mpr ⟨bs++[F],by rw[ag];simp,?_,m1,?_,?_,(k6.trans s2).more nD⟩⟩
  ·have e:ds.take (j+1)=ds.take j++[ds[j]]:=by rw[cM,hdj];rfl
   rw[e];exact ((k2.same s2).snoc eF).upd m1
  ·exact ku.mpr ⟨k4,by simp,λx hx y hy z=>nFb (by rw[aP.mp hy]at z;rw[←z];exact hx)⟩
  ·intro x hx;rcases aK.mp hx with z|z
   ·exact k5 x z
   ·rw[aP.mp z];exact k6.free nF
 ·intro H' hc;obtain⟨bs,k1,k2,k3,k4,k5,k6⟩:=(hPc _ _).mp hc;rw[ae,hL.len,←hd,eV]at k2;exact he D bs H' k6 nD k1 k2 k5 k3 k4
theorem MO {lo:Int}{n:Nat}{σ:L2.St}{H1:Hp}{fv:List (Nat×Str)}{tt:TT}{te:TE}{Q:VK}{L:Addr}(Pv:Nat->Hp->Prop) (h0:Pv 0 (L2.upd H1 L (.lst [])))
  (hs:∀i H,i<n->Pv i H->tt (bst fv σ (some (.int (lo+i)))) H λb Hb=>if b=true then te (bst fv σ (some (.int (lo+i)))) Hb λy H2=>∃ys,H2 L=some (.lst ys)∧ys.length<sizeLine∧Pv (i+1) (L2.upd H2 L (.lst (ys++[y]))) else Pv (i+1) Hb) (hd:∀H,Pv n H->Q (.ref L) H):
  v8 (Itr lo n) fv tt te Q σ H1 L:=by
 refine⟨λi m H=>m=n-i∧i<=n∧Pv i H,⟨n,by simp,aI _,h0⟩,?_⟩
 rintro i m H ⟨rfl,hi,p⟩
 by_cases hlt:i<n
 ·refine .inr ⟨hlt,Pv (i+1),λH' p'=>⟨n-(i+1),by omega,rfl,hlt,p'⟩,λv H' y=>?_⟩;obtain⟨e,y⟩:=y;subst e y;exact hs i _ hlt p
 ·have e:i=n:=by omega
  subst e;exact .inl ⟨am _,hd H p⟩
theorem ED {P:Program}{wd:World}{K:W.Frag}{mg:Str->Option Value}{base:Heap}(T:Tx K mg){w B KM:Nat}{St:List (List (List Int))->List Nat->Int->Prop}{Vq:List (List (List Int))->List (List Int)->Prop}{Rl:List (List (List Int))->List (List Int)->List (List Int)->Prop}(Z:SpTh w B KM St Vq Rl):∀d:Nat,FnOk P wd K mg base CX0 (2*d+9) T.O0 T.O8 ["self","vector"] (EB T w B St Vq Rl d)
 | 0=>T.RT.ok sc_Span_take (λ_ _ _ _ h=>by obtain⟨_,_,_,_,_,_,_,_,_,_,_,_,_,_,_,_,_,_,_,_,z,_⟩:=h;exact absurd z (Nat.not_lt_zero _)) (λ_ _ _ _ _ _ _ _ _ h=>by obtain⟨_,_,_,_,_,_,_,_,_,_,_,_,_,_,_,_,_,_,_,_,z,_⟩:=h;exact absurd z (Nat.not_lt_zero _))
 | d+1=>by
  have F:=MN (P:=P) (wd:=wd) (base:=base) T Z d (ED T Z d);refine T.RT.ok sc_Span_take (λvs H Q E h=>?_) (λcdv A outer s H vs Q E hr h=>?_)
  ·obtain⟨x,dx,Kp,Cl,Tb,Vc,us,kvs,M,Ti,cs,pl,as,q,rfl,_⟩:=h;rfl
  obtain⟨x,dx,Kp,Cl,Tb,Vc,us,kvs,M,Ti,cs,pl,as,q,rfl,S,hV,hL,hSt,hVq,kd,l9,q1,q2⟩:=h;refine⟨_,((ai (jL (i:=2) rfl (dg rfl ck cJ) (cc (pv 1)) (λ_ _ _ _=>(fX (qD (K:=K) rfl) rfl T.OF fG (aa (pv 0) ac))) sc_Span_take.nd rfl rfl)
  (ai (au (i:=3) sc_Span_take.nd rfl (Or.inr rfl) (fF (pv 0) T.OC T.RY (FnOk.mono (Ef T) (by omega)) hr T.RQ .nil aD (aa (pv 2) (aa (cH (pv 0) rfl) ac))))
  (ai (bY PassesOwn.never rfl (fW rfl T.OE (aa (cH (pv 0) rfl) ac)) (a7 (i:=4) sc_Span_take.nd rfl (Or.inl rfl)) (aq (bC (aM gf (aH a_ (pv 3) (pv 4) (λ_ _=>rfl)) ah (aL _)) (ai (e9 (fF (pv 0) T.OC T.RZ (FnOk.mono (Eh T) (by omega)) hr T.RS .nil aD (aa (pv 2) (aa (pv 4) ac))))
  (aq (aF eh))) bI)))
  (ai (Km (i:=5) rfl (dg rfl (du rfl (du rfl ck)) (d9 3 "row" (by decide) rfl (Or.inl rfl) (Or.inl rfl) ⟨_,rfl⟩ (d9 0 "self" (by decide) rfl (Or.inl rfl) (Or.inl rfl) ⟨_,rfl⟩ cJ))) (fW rfl T.OE (aa (aA aU rfl T.OB aS (aa (cH (pv 0) rfl) ac)) ac)) (λ_ _ _ _=>(aM gf (aH (jY (K:=K) rfl) (pv 1) (ao cG (KJ (K:=K) rfl (pv 2) rfl) (pv 0)) (λ_ _=>rfl)) ah (aL _))) (λ_ _ _ _=>(pv 0)) sc_Span_take.nd rfl rfl)
  (gZ (au (i:=6) sc_Span_take.nd rfl (Or.inl rfl) (BA (aM iN (aA aU rfl T.OB aS (aa (pv 5) ac)) (aA aU rfl T.OB aS (aa (cH (pv 0) rfl) ac)) (aL _)) (fF (pv 0) T.OC T.SY (FnOk.mono F (by omega)) hr T.SQ .nil aD (aa (pv 2) (aa (pv 5) ac))) eh))
  (ai (bC (aM mO (pv 6) eh (aL _)) (aq (aF (pv 6))) bI)
  (ai (au (i:=6) sc_Span_take.nd rfl (Or.inl rfl) (fF (pv 0) T.OC T.SW (FnOk.mono (MJ T) (by omega)) hr T.SJ .nil aD (aa (pv 2) ac)))
  (ai (au (i:=4) sc_Span_take.nd rfl (Or.inl rfl) (fF (pv 0) T.OC T.SX (FnOk.mono (L6 T) (by omega)) hr T.SL .nil aD (aa (pv 2) (aa (pv 6) ac))))
  (ai (bC (aM kG (pv 4) eh (aL _)) (aq (aF (pv 6))) bI)
  (ai (e9 (fF (pv 0) T.OC T.RZ (FnOk.mono (Eh T) (by omega)) hr T.RS .nil aD (aa (pv 2) (aa (pv 4) ac))))
  (aq (aF eh))))))))))))),?_⟩
  obtain⟨k18,qw,bq⟩:=Z.bd Ti cs pl q hSt hVq;obtain⟨tb,pv,lo⟩:=Z.tb Ti cs pl q hSt hVq;have kM:=Z.k18;have b3:=Z.b3;have b1:2*(2*B+2)<=900:=aE (dE _ (by omega)) b3;have w20:=tb.w20;have lk:=S.lk;have lc:=S.lc;dsimp only[aB]
  k_typeOf
  refine⟨⟨_,hV⟩,λD nD=>j6 (ps:=q) (ds:=q) nD hV hL rfl (by omega) (λi b p d Hx R' hp hd sx hb hR'=>?_) (λO ob H1 s1 nO eO lO nOb Oob nd=>?_)⟩
  ·have e:d=p:=by rw[hp]at hd;exact (Option.some.inj hd).symm
   subst e
   (iterate 3 (k_units;(try simp only[bst]));k_units)
   exact⟨_,.inl hb,λl hl=>hR' l _ (ar hl _) hl ag⟩
  have S1:=S.same s1;have nM:∀a,H a=none->a∉M:=λa ha z=>by obtain⟨o,e⟩:=S.al a z;rw[ha]at e;cases e
  have V1:VecAt H1 M O q:=⟨ob,eO,lO,nM O nO,λa ha=>nM a (nOb a ha)⟩
  clear lO Oob nd;dsimp only[aB]
  k_typeOf
  refine⟨dx,_,S1.hx,rfl,_,_,_,S1.hx,T.OC,T.OP,_,rfl,x,dx,Kp,Cl,Tb,O,us,kvs,M,w,Ti,cs,pl,pl,q,rfl,S1,tb,by omega,by omega,V1,by omega,λf hf=>⟨by have:=(bq f hf).1;omega,(bq f hf).2⟩,λ_=>lo,λH2 kvs2 M2 S2 kw2 ms2 mf2 l2 tk2=>⟨λR nR eR _=>?_,λnp=>absurd pv np⟩⟩;have kx2:KX M H H2:=λy o ny e=>S1.kx kw2 y o ny (s1 y o e);have V2:=(V1.more mf2).kx (λy o ny e=>S1.kx kw2 y o (λz=>ny (ms2 y z)) e);have mf2':∀a∈M2,a∈M∨H a=none:=λa ha=>(mf2 a ha).imp (λh=>h) s1.free;have hO2:H2 O=some (.lst (ob.map V.ref)):=S1.kx kw2 O _ (nM O nO) eO;have nOM:O∉M2:=by obtain⟨_,_,_,z,_⟩:=V2;exact z
  clear mf2 tk2 kw2 V1 S1 eO;have hll:(cV w Ti cs q pl).length=w+(w+1):=by
   unfold cV;rw[kY lo Ti.length (by rw[dJ];exact am _)];unfold bD;rw[bU,ae,ae,ik,qw]
  dsimp only[aB]
  k_typeOf
  refine⟨_,_,_,S2.hx,T.OC,T.OJ,_,rfl,_,rfl,by omega,by omega,?_⟩;rw[eE];obtain⟨Pv,hPv⟩:∃Pv:Nat->L2.St->Hp->Prop,∀i σ H',Pv i σ H'↔∃r4:Option V,σ=[some (V.ref x),some (V.ref Vc),some (V.ref O),some (V.ref R),r4,none,none]∧H'=H2∧∀c,c<i->co (cV w Ti cs q pl) c=0:=⟨_,λ_ _ _=>Iff.rfl⟩
  refine gF Pv ((hPv _ _ _).mpr ⟨none,rfl,rfl,λc hc=>by omega⟩) ?_ ?_
  ·intro i σ H' hi hp;obtain⟨r4,rfl,rfl,hz⟩:=(hPv _ _ _).mp hp;have e0:(0:Int)+(i:Int)=(i:Int):=fq _
   (iterate 3 (k_units;(try simp only[e0]));k_units)
   refine⟨_,SqL.of eR,_,jZ (by omega),?_⟩
   k_units
   refine bJ (λz=>?_) (λz=>(hPv _ _ _).mpr ⟨_,rfl,rfl,λc hc=>?_⟩)
   ·obtain⟨ht1,ht2⟩:=Z.hit Ti cs pl q i hSt hVq hi (by simpa using z);have pv1:=EA lc pv (show co (cV w Ti cs q pl) i≠0 by simpa using z);have e00:pl+((0:Nat):Int)=pl:=by omega
    refine⟨dx,_,S2.hx,rfl,x,dx,Kp,Cl,Tb,O,us,kvs2,M2,w,Ti,cs,pl,q,i,0,rfl,S2,V2,by omega,by omega,λt ht=>?_,by rw[e00];exact pv1,λH3 kvs3 M3 t ht S3 pv3 kx3 ms3 mf3 l3=>?_⟩
    ·rw[show t=0 by omega,e00];exact ht2
    ·have et:t=0:=by omega
     subst et;have hs:=Z.stS Ti cs pl q i 0 hSt hVq hi ht1 (aI _) pv3;exact q1 H3 _ kvs3 M3 i _ S3 hs (kx2.trans kx3 mf2') (λa h=>ms3 a (ms2 a h)) (ju kx2 mf2' mf3) (by omega) ⟨O,ob,rfl,nO,nOb,kx3 O _ nOM hO2⟩
   ·by_cases y:c=i
    ·rw[y];simpa using z
    ·exact hz c (by omega)
  intro σ H' hp;obtain⟨r4,rfl,rfl,hz⟩:=(hPv _ _ _).mp hp;clear hp hPv Pv;obtain⟨gs,Pn,f,qs,p0,t0,O1,O2,O3,O4,O5,O6,O7⟩:=Z.oc Ti cs pl q hSt hVq hz;have lus:(us.map V.ref).length=Ti.length:=by rw[ae];exact S.lk
  dsimp only[aB]
  k_typeOf
  refine⟨_,_,_,S2.hx,T.OC,T.OG,_,rfl,Kp,rfl,_,.inl (SqL.of S2.hK),by rw[lus];omega,by rw[lus];omega,λFw nFw=>?_⟩;rw[lus,eE];obtain⟨fw,hfw⟩:∃fw:Nat->List Nat,∀j,fw j=(a8 j).filter λn=>decide (co (cV w Ti cs q pl) (w+n)≠0):=⟨_,λ_=>rfl⟩
  have fw0:fw 0=[]:=by rw[hfw];rfl
  have fwl:∀j,(fw j).length<=j:=λj=>by rw[hfw];exact aE (List.length_filter_le _ _) (by rw[ik];exact am _)
  have fws:∀j,fw (j+1)=if co (cV w Ti cs q pl) (w+j)≠0 then fw j++[j] else fw j:=λj=>by
   rw[hfw,hfw,kz,GF];by_cases z:co (cV w Ti cs q pl) (w+j)=0 <;> simp[z]
  have fp:(fw Ti.length).Pairwise (· < ·):=by rw[hfw];exact List.pairwise_lt_range.filter _
  have fk:∀i∈fw Ti.length,i<Ti.length:=λi hi=>by rw[hfw]at hi;exact dh.mp (jy.mp hi).1
  obtain⟨Pc,hPc⟩:∃Pc:Nat->Hp->Prop,∀j Hx,Pc j Hx↔Hx Fw=some (.lst (((fw j).map λc:Nat=>(c:Int)).map V.int))∧Same H' Hx:=⟨_,λ_ _=>Iff.rfl⟩
  have kw:=O1.kw;refine MO Pc ((hPc _ _).mpr ⟨by rw[ag,fw0];rfl,ar nFw _⟩) ?_ ?_
  ·intro j Hx hj hc;obtain⟨k1,k2⟩:=(hPc _ _).mp hc;have e0:(0:Int)+(j:Int)=(j:Int):=fq _;have e1:(w:Int)+(j:Int)=((w+j:Nat):Int):=by omega
   have S2x:=S2.same k2;have lj:=fwl j
   (iterate 3 (k_units;(try simp only[ej,bst,e0,fB]));k_units)
   refine⟨_,_,_,S2x.hx,T.OC,T.OJ,_,rfl,_,rfl,_,SqL.of (k2 _ _ eR),_,by rw[e1];exact jZ (by omega),?_⟩
   k_units
   refine bJ (λz=>⟨_,k1,by rw[ae,ae];exact aX (by omega),(hPc _ _).mpr ⟨?_,k2.more nFw⟩⟩) (λz=>(hPc _ _).mpr ⟨?_,k2⟩)
   ·rw[ag,fws,if_pos (by simpa using z),aQ,aQ];rfl
   ·rw[k1,fws,if_neg (by simpa using z)]
  intro H3 hc;obtain⟨eF,s3⟩:=(hPc _ _).mp hc;clear hc hPc Pc;generalize fw Ti.length=few at fp fk eF;clear hfw fw0 fwl fws;have S3:=S2.same s3;have V3:=V2.same s3;have kx3:KX M H H3:=λy o ny e=>s3 _ _ (kx2 y o ny e);have nM2:∀a,H' a=none->a∉M2:=λa ha z=>by obtain⟨o,e⟩:=S2.al a z;rw[ha]at e;cases e
  have nH2:∀a,H' a=none->H a=none:=λa ha=>by
   cases e:H a with
   | none=>rfl
   | some o=>
    by_cases m:a∈M
    ·exact absurd (ms2 a m) (nM2 a ha)
    ·rw[kx2 a o m e]at ha;cases ha
  obtain⟨Mx,hMx⟩:∃Mx:L2.St->Hp->Prop,∀σ H',Mx σ H'↔∃v6:V,σ=[some (V.ref x),some (V.ref Vc),some (V.ref O),some (V.ref R),r4,some (V.ref Fw),some v6]∧Same H3 H'∧(v6=.non∨∃(D:Addr) (bs:List Addr) (ws:List (List Int)),v6=.ref D∧Rl Ti q ws∧H3 D=none∧H' D=some (.lst (bs.map V.ref))∧LH H' bs ws∧(∀b∈bs,H3 b=none)∧D∉bs):=⟨_,λ_ _=>Iff.rfl⟩
  refine gE Mx ?_ ?_
  ·k_units
   refine⟨_,.inl (SqL.of eF),_,_,_,S3.hx,T.OC,T.OG,_,rfl,Kp,rfl,_,.inl (SqL.of S3.hK),?_⟩;rw[lus,ae,ae];refine bJ (λz=>?_) (λz=>(hMx _ _).mpr ⟨_,rfl,Same.refl _,.inl rfl⟩);refine⟨dx,_,S3.hx,rfl,x,dx,Kp,Cl,Tb,O,Fw,us,kvs2,M2,Ti,cs,pl,q,few,rfl,S3,V3,eF,hSt,hVq,by omega,fp,fk,by omega,λH4 s4=>(hMx _ _).mpr ⟨_,rfl,s4,.inl rfl⟩,λH4 D bs ws s4 hR nD eD lD nb Db=>(hMx _ _).mpr ⟨_,rfl,s4,.inr ⟨D,bs,ws,rfl,hR,nD,eD,lD,nb,Db⟩⟩⟩
  intro σ H4 hm;obtain⟨v6,rfl,s4,hv6⟩:=(hMx _ _).mp hm;clear hm hMx Mx;have S4:=S3.same s4;have V4:=V3.same s4;have kx4:KX M H H4:=λy o ny e=>s4 _ _ (kx3 y o ny e);dsimp only[aB]
  k_typeOf
  rcases hv6 with rfl|⟨D,bs,ws,rfl,hR,nD,eD,lD,nb,Db⟩
  ·rw[if_neg (λz=>z rfl)];dsimp only[aB]
   k_typeOf
   refine⟨dx,_,S4.hx,rfl,x,dx,Kp,Cl,Tb,O,us,kvs2,M2,w,Ti,cs,pl,q,gs,Pn,f,qs,p0,t0,rfl,S4,V4,O1,by omega,O3,O4,λH5 kvs5 M5 D bs S5 kx5 ms5 mf5 l5 nDM nD eD lD nb Db=>?_⟩;have kx05:=kx4.trans kx5 mf2';have mf05:=ju kx4 mf2' mf5;have V5:=(V4.more mf5).kx (λy o ny e=>kx5 y o (λz=>ny (ms5 y z)) e);have n5:∀a,H4 a=none->H a=none:=λa ha=>nH2 a (s3.free (s4.free ha));dsimp only[aB]
   k_typeOf
   refine⟨dx,_,S5.hx,rfl,x,dx,Kp,Cl,Tb,O,D,us,kvs5,M5,w,Ti,cs,pl,q,bs,qs,rfl,S5,V5,SqL.of eD,lD.ll,O5,λH6 s6=>⟨λc hcw hcn hs hb=>?_,λhall=>?_⟩⟩
   ·obtain⟨N,N1,N2,N3⟩:=O7 c hcw hcn hs;have S6:=S5.same s6
    k_units
    rw[if_neg (λz=>nomatch z)];refine⟨dx,_,S6.hx,rfl,x,dx,Kp,Cl,Tb,O,us,kvs5,M5,w,Ti,cs,pl,q,c,N,rfl,S6,V5.same s6,by omega,by omega,N2,N3,λH7 kvs7 M7 t ht S7 pv7 kx7 ms7 mf7 l7=>?_⟩;have hs:=Z.stS Ti cs pl q c t hSt hVq hcw hcn (by omega) pv7;have kx06:KX M H H6:=λy o ny e=>s6 _ _ (kx05 y o ny e);exact q1 H7 _ kvs7 M7 c _ S7 hs (kx06.trans kx7 mf05) (λa h=>ms7 a (ms5 a (ms2 a h))) (ju kx06 mf05 mf7) (by omega) ⟨O,ob,rfl,nO,nOb,kx7 O _ (by obtain⟨_,_,_,z,_⟩:=V5;exact z) (s6 _ _ (kx5 O _ nOM (s4 _ _ (s3 _ _ hO2))))⟩
   ·have S6:=S5.same s6
    k_units
    exact q2 H6 kvs5 M5 D bs qs S6 (O6 hall) (λy o ny e=>s6 _ _ (kx05 y o ny e)) (λa h=>ms5 a (ms2 a h)) mf05 (by omega) nDM (n5 D nD) (s6 _ _ eD) (lD.same s6) (λb hb=>⟨(nb b hb).1,n5 b (nb b hb).2⟩) Db
  ·rw[if_pos (λz=>nomatch z)];have n4:∀a,H3 a=none->a∉M2∧H a=none:=λa ha=>⟨nM2 a (s3.free ha),nH2 a (s3.free ha)⟩
   exact q2 H4 kvs2 M2 D bs ws S4 hR kx4 ms2 mf2' (by omega) (n4 D nD).1 (n4 D nD).2 eD lD (λb hb=>n4 b (nb b hb)) Db
theorem wZ {f:List Int}(nf:Nml f){ps:List Int}(nd:ps.Nodup)(hl:f.length<=ps.length)(hz:∀p∈ps,val p f=0):f=[]:=by
 have dis:∀i j (hi:i<ps.length) (hj:j<ps.length),i≠j->ps[i]≠ps[j]:=λa b ha hb hne h=>by
  rcases Nat.lt_or_gt_of_ne hne with y|y
  ·exact jz.mp nd a b ha hb y h
  ·exact jz.mp nd b a hb ha y h.symm
 have z:∀t,t<ps.length->dd f (ps.take (t+1))=0:=λt ht=>by
  have h:=qA f dis (B:=0) (λi h=>by rw[hz _ (aW h)];exact am _) t 0 (by omega);have e2:run ps 0 (t+1)=ps.take (t+1):=by unfold run;rw[kr]
  rw[e2]at h;omega
 have qq:∀k t,t+k=ps.length->∀n,dd f (ps.take t++[n])=0:=λk=>by
  induction k with
  | zero=>intro t ht n;exact DB (by rw[bU,bT];simp;omega)
  | succ k ih=>
   intro t ht n;have hl':t<ps.length:=by omega
   have e1:ps.take (t+1)=ps.take t++[ps[t]]:=by rw[cM,ak hl'];rfl
   rw[DE f (ps.take t) ps[t] n,←e1,z t hl',ih (t+1) (by omega) n];simp
 exact dZ nf b8 λn=>by
  have:=qq ps.length 0 (by omega) n;rw[List.take_zero,gO,qz]at this;rw[this];rfl
theorem EE {f:List Int}(nf:Nml f)(f0:f≠[])(pl:Int){N:Nat}(hl:f.length<=N+1):∃t:Nat,t<=N∧val (pl+(t:Int)) f≠0:=by
 by_cases h:∃t:Nat,t<=N∧val (pl+(t:Int)) f≠0
 ·exact h
 refine absurd (wZ nf (ps:=(a8 (N+1)).map λt:Nat=>pl+(t:Int)) ?_ (by simp;omega) λp hp=>?_) f0
 ·refine List.Pairwise.map _ (λa b hab=>?_) (List.nodup_range (n:=N+1));intro e;apply hab;omega
 ·obtain⟨t,ht,rfl⟩:=aT.mp hp;have:=dh.mp ht;by_cases z:val (pl+(t:Int)) f=0
  ·exact z
  ·exact absurd ⟨t,by omega,z⟩ h
theorem MP {w:Nat}{Ti:List (List (List Int))}{cs:List Nat}{d:List Int}(nd:Nml d)(d0:d≠[]){Pn:Nat}(h:∀p:Nat,p<Pn->val (p:Int) d≠0->Piv w Ti cs (p:Int) Ti.length):Pn<(plc w Ti cs Pn).length+d.length:=by
 have cnt:∀(g:Nat->Bool) (xs:List Nat),(xs.filter g).length+(xs.filter λx=>! g x).length=xs.length:=λg xs=>by
  induction xs with
  | nil=>rfl
  | cons x xs ih=>cases e:g x <;> simp[List.filter_cons,e] <;> omega
 have e:=cnt (λp:Nat=>iG w Ti cs (p:Int) Ti.length) (a8 Pn);rw[ik]at e;have l1:(plc w Ti cs Pn).length=((a8 Pn).filter λp:Nat=>iG w Ti cs (p:Int) Ti.length).length:=by unfold plc;rw[ae]
 rw[l1];have l2:((a8 Pn).filter λp:Nat=>! iG w Ti cs (p:Int) Ti.length).length<d.length:=by
  refine ko λhle=>d0 (wZ nd (ps:=((a8 Pn).filter λp:Nat=>! iG w Ti cs (p:Int) Ti.length).map λp:Nat=>(p:Int)) ?_ (by rw[ae];exact hle) λp hp=>?_)
  ·refine List.Pairwise.map _ (λa b hab=>?_) ((List.nodup_range (n:=Pn)).filter _);intro e;apply hab;omega
  ·obtain⟨t,ht,rfl⟩:=aT.mp hp;obtain⟨h1,h2⟩:=jy.mp ht;by_cases z:val (t:Int) d=0
   ·exact z
   ·have:=qO.mpr (h t (dh.mp h1) z);rw[this]at h2;simp at h2
 omega
theorem MQ {g:Int->Int->Int}{a b:List Int}{j:Nat}(ha:j<a.length)(hb:j<b.length):co (i_ g a b) j=g (co a j) (co b j):=by
 rw[ax (by rw[mv];omega),List.getElem_zipWith,ax ha,ax hb]
theorem j7 {w:Nat}{vec:List (List Int)}{num:Nat}{p:Int}(hv:vec.length=w):(bD w vec num p).length=w+(w+1):=by
 unfold bD;rw[bU,ae,ae,ik,hv]
theorem qR {w:Nat}{vec:List (List Int)}{num:Nat}{p:Int}{j:Nat}(hj:j<vec.length):co (bD w vec num p) j=val p (vec.getD j []):=by
 unfold bD co;rw[av,av,b_ (by rw[ae];exact hj),az,ak hj];rfl
theorem jx {w:Nat}{vec:List (List Int)}{num:Nat}{p:Int}{i:Nat}(hv:vec.length=w)(hi:i<=w):co (bD w vec num p) (w+i)=if i=num then 1 else 0:=by
 unfold bD co;rw[av,di (by rw[ae];omega),ae,hv,Nat.add_sub_cancel_left,az,xT (by omega)];rfl
theorem EF {w:Nat}{vec:List (List Int)}{num:Nat}{p:Int}{k l L:Nat}(hp:Bd l p)(hb:∀f∈vec,f.length<=L∧∀c∈f,Bd k c)(hk:0<k):∀y∈bD w vec num p,Bd (k+(l+1)*L) y:=λy hy=>by
 unfold bD at hy;rcases aK.mp hy with h|h
 ·obtain⟨f,hf,rfl⟩:=aT.mp h;obtain⟨h1,h2⟩:=hb f hf;exact (jv hp f h2).mono (Oq (dC _ h1) _)
 ·obtain⟨o,_,rfl⟩:=aT.mp h
  split
  ·exact Bd.one (by omega)
  ·exact Bd.zero _
theorem EG {z e:Int}(he:e≠0)(h:e∣z):z.fdiv e*e=z:=by
 obtain⟨k,rfl⟩:=h;rw[l6 _ he,cL]
theorem EH {e:Int}(he:e≠0)(n:Int):∀xs:List Int,(∀z∈xs,e∣z)->val n (xs.map λz=>z.fdiv e)*e=val n xs
 | [],_=>by simp[val]
 | z :: xs,h=>by
  have i:=EH he n xs λa ha=>h a (by simp[ha]);show (z.fdiv e+n*val n (xs.map λz=>z.fdiv e))*e=z+n*val n xs;rw[Gw,EG he (h z (by simp)),dm,i]
theorem MR {e:Int}(he:e≠0){xs:List Int}(nx:Nml xs)(h:∀z∈xs,e∣z):Nml (xs.map λz=>z.fdiv e):=en.mpr λa ha=>by
 rw[xY]at ha;obtain⟨z,hz,rfl⟩:=b6.mp ha;have h0:=en.mp nx z hz;have h1:=EG he (h z (Os hz));intro y;rw[y]at h1;simp at h1;exact h0 h1.symm
theorem MS (n:Int)(b:Bool)(R:List Int):val n (fL b R)=(if b then -1 else 1)*val n R:=by
 unfold fL
 cases b
 ·simp
 ·have:(R.map λz=>-z)=R.map λz=>-1*z:=gx λa _=>by omega
  rw[if_pos rfl,if_pos rfl,this,bL]
theorem j8 {e:Int}(he:e≠0){y:List Int}(ny:Nml y):Nml (y.map λz=>e*z):=en.mpr λa ha=>by
 rw[xY]at ha;obtain⟨z,hz,rfl⟩:=b6.mp ha;exact rH he (en.mp ny z hz)
theorem gk {x u:List Int}(nx:Nml x)(nu:Nml u)(x0:x≠[])(u0:u≠[]):(pdL x u).length=x.length+u.length-1∧co (pdL x u) ((pdL x u).length-1)=co x (x.length-1)*co u (u.length-1):=by
 have lx:x.length≠0:=λz=>x0 (bE z);have lu:u.length≠0:=λz=>u0 (bE z);have t:co (pdL x u) (x.length+u.length-2)=co x (x.length-1)*co u (u.length-1):=by
  rw[jw,show x.length+u.length-2=u.length-1+(x.length-1) by omega,jo (λj hj=>gi j hj) (λj hj=>gi j hj)]
 have l1:=j5 nx nu;have l2:x.length+u.length-1<=(pdL x u).length:=by
  refine lU λh=>?_;rw[aw (by omega)]at t;exact rH (cZ nx x0) (cZ nu u0) t.symm
 have l3:(pdL x u).length=x.length+u.length-1:=by omega
 exact⟨l3,by rw[l3,show x.length+u.length-1-1=x.length+u.length-2 by omega];exact t⟩
theorem iZ (g:List Int):pdL [] g=[]:=dZ (cK _ _) b8 λn=>by rw[be];simp[val]
def xp (d:Nat):List Int:=aC d 0++[1]
theorem MT (d:Nat):Nml (xp d):=LJ _
theorem MU (d:Nat):xp d≠[]:=by unfold xp;simp
theorem EI (d:Nat):(xp d).length=d+1:=by unfold xp;simp
theorem MV (d:Nat):co (xp d) ((xp d).length-1)=1:=by
 rw[EI];unfold xp co;simp
theorem EJ {p:List Int}(np:Nml p)(p0:p≠[]):Nml (dvL p (af p))∧dvL p (af p)≠[]∧gJ (co (dvL p (af p)))∧p=pdL [((af p:Nat):Int)] (dvL p (af p)):=by
 have c:=gL np p0;refine⟨qL np p0,λz=>p0 (bE (by rw[←iX p (af p),z];rfl)),qM c,dZ np (cK _ _) λn=>?_⟩;rw[be,←j2 c n];simp[val]
structure Gc (p q g a b U W:List Int)(m:Int):Prop where
 ng:Nml g
 g0:g≠[]
 pg:gJ (co g)
 na:Nml a
 nb:Nml b
 pa:p=pdL a g
 qb:q=pdL b g
 m0:m≠0
 bz:∀n,val n U*val n a+val n W*val n b=m
theorem Gc.swap {p q g a b U W:List Int}{m:Int}(h:Gc p q g a b U W m):Gc q p g b a W U m:=⟨h.ng,h.g0,h.pg,h.nb,h.na,h.qb,h.pa,h.m0,λn=>by rw[←h.bz n];omega⟩
theorem EK:∀(n:Nat) (p q:List Int),p.length+q.length<=n->Nml p->Nml q->(p≠[]∨q≠[])->∃(g a b U W:List Int) (m:Int),Gc p q g a b U W m
 | 0,p,q,h,_,_,hz=>by
  have h1:p=[]:=bE (by omega);have h2:q=[]:=bE (by omega);rcases hz with z|z
  ·exact absurd h1 z
  ·exact absurd h2 z
 | n+1,p,q,h,np,nq,hz=>by
  have side:∀{p q:List Int},p.length+q.length<=n+1->Nml p->Nml q->q≠[]->q.length<=p.length->∃(g a b U W:List Int) (m:Int),Gc p q g a b U W m:=λ{p q} h np nq q0 hl=>by
   have p0:p≠[]:=λz=>q0 (bE (by rw[z]at hl;simpa using hl));have lq0:q.length≠0:=λz=>q0 (bE z);have c0:=cZ nq q0;generalize hc:co q (q.length-1)=c at c0;generalize hlp:co p (p.length-1)=l;obtain⟨d,hd⟩:∃d,p.length=d+q.length:=⟨p.length-q.length,by omega⟩
   obtain⟨t1,t2⟩:=gk (MT d) nq (MU d) q0;rw[EI]at t1;rw[MV,hc,fu]at t2;obtain⟨r,hr⟩:∃r,r=aJ (bK (p.map λz=>c*z) ((pdL (xp d) q).map λz=>-l*z)):=⟨_,rfl⟩
   have nr:Nml r:=by rw[hr];exact cI _
   have rc:∀j,co r j=c*co p j-l*co (pdL (xp d) q) j:=λj=>by rw[hr,cN,fJ,fh,fh];grind
   have rv:∀n,val n r=c*val n p-l*(val n (xp d)*val n q):=λn=>by rw[hr,f_,fI,bL,bL,be];grind
   have lr:r.length<=p.length-1:=g8 nr λk hk=>by
    rw[rc];by_cases z:k=p.length-1
    ·have e:(pdL (xp d) q).length-1=k:=by omega
     rw[e]at t2;rw[t2,z,hlp];grind
    ·rw[aw (xs:=p) (by omega),aw (xs:=pdL (xp d) q) (by omega)];simp
   obtain⟨g,a',b,U,W,m,G⟩:=EK n r q (by omega) nr nq (.inr q0);have A:∀n,c*val n p=(val n a'+l*(val n (xp d)*val n b))*val n g:=λn=>by
    have e1:=rv n;have e2:val n r=val n a'*val n g:=by rw[G.pa,be]
    have e3:val n q=val n b*val n g:=by rw[G.qb,be]
    rw[e2,e3]at e1;grind
   obtain⟨A1,hA1⟩:∃A1,A1=aJ (bK a' ((pdL (xp d) b).map λz=>l*z)):=⟨_,rfl⟩
   have nA:Nml A1:=by rw[hA1];exact cI _
   have vA:∀n,val n A1=val n a'+l*(val n (xp d)*val n b):=λn=>by rw[hA1,f_,fI,bL,be]
   have dv:∀j,c∣co A1 j:=by
    have h1:=qt G.pg c.natAbs (by omega) (co A1) λj=>by
     have e:pm (co g) (co A1) j=c*co p j:=by
      rw[←gj,←fh];exact f8 (λn=>by rw[dy,bL,A n,vA n];grind) j
     rw[e];exact fS (rA.mpr (Gz c)) (jA _ _)
    exact λj=>rA.mp (h1 j)
   have dA:∀z∈A1,c∣z:=dY dv;obtain⟨a,ha⟩:∃a,a=A1.map λz=>z.fdiv c:=⟨_,rfl⟩
   have na:Nml a:=by rw[ha];exact MR c0 nA dA
   have va:∀n,val n a*c=val n A1:=λn=>by rw[ha];exact EH c0 n A1 dA
   refine⟨g,a,b,U.map λz=>c*z,aJ (bK W ((pdL (xp d) U).map λz=>-l*z)),m,G.ng,G.g0,G.pg,na,G.nb,?_,G.qb,G.m0,λn=>?_⟩
   ·refine dZ np (cK _ _) λn=>?_;rw[be];have e1:=A n;rw[←vA n,←va n]at e1;exact rB c0 (by rw[e1];grind)
   ·rw[bL,f_,fI,bL,be];have e1:=G.bz n;have e2:=va n;rw[vA n]at e2;have e3:val n a'=val n a*c-l*(val n (xp d)*val n b):=by omega
    rw[e3]at e1;grind
  by_cases q0:q=[]
  ·subst q0;have p0:p≠[]:=by
    rcases hz with z|z
    ·exact z
    ·exact absurd rfl z
   obtain⟨h1,h2,h3,h4⟩:=EJ np p0;refine⟨_,[((af p:Nat):Int)],[],[1],[],((af p:Nat):Int),h1,h2,h3,hE (by have:=gL np p0;omega),b8,h4,(iZ _).symm,by have:=gL np p0;omega,λn=>by simp[val]⟩
  ·by_cases hl:q.length<=p.length
   ·exact side h np nq q0 hl
   ·by_cases p0:p=[]
    ·subst p0;obtain⟨h1,h2,h3,h4⟩:=EJ nq q0;exact⟨_,[],[((af q:Nat):Int)],[],[1],((af q:Nat):Int),h1,h2,h3,b8,hE (by have:=gL nq q0;omega),(iZ _).symm,h4,by have:=gL nq q0;omega,λn=>by simp[val]⟩
    ·obtain⟨g,a,b,U,W,m,G⟩:=side (by omega) nq np p0 (by omega);exact⟨g,b,a,W,U,m,G.swap⟩
def dB (f:Nat->Int):Nat->List Rw
 | 0=>[]
 | k+1=>f :: dB (sh f) k
theorem j9:∀(k:Nat) (f:Nat->Int),(dB f k).length=k
 | 0,_=>rfl
 | k+1,f=>by rw[dB,bX,j9 k]
theorem w6 {B:Nat}:∀(k:Nat) (f:Nat->Int),(∀J,(f J).natAbs<=B)->∀r∈dB f k,∀J,(r J).natAbs<=B
 | 0,_,_,r,hr,_=>by simp[dB]at hr
 | k+1,f,h,r,hr,J=>by
  rw[dB]at hr;rcases aO.mp hr with z|z
  ·rw[z];exact h J
  ·refine w6 k (sh f) (λJ=>?_) r z J;unfold sh;split
   ·simp
   ·exact h _
theorem w8 {L:Nat}:∀(k:Nat) (f:Nat->Int),(∀J,L+1<=J->f J=0)->∀r∈dB f k,∀J,L+k<=J->r J=0
 | 0,_,_,r,hr,_,_=>by simp[dB]at hr
 | k+1,f,h,r,hr,J,hJ=>by
  rw[dB]at hr;rcases aO.mp hr with z|z
  ·rw[z];exact h J (by omega)
  ·refine w8 (L:=L+1) k (sh f) (λJ hJ=>?_) r z J (by omega);unfold sh;rw[if_neg (by omega)];exact h _ (by omega)
theorem MW (u:Int)(us:List Int)(f:Nat->Int)(J:Nat):pm (co (u :: us)) f J=u*f J+pm (co us) (sh f) J:=by
 rw[Du];unfold pm sh;rw[jp];congr 1;by_cases z:J=0
 ·rw[if_pos z,z];rfl
 ·rw[if_neg z];obtain⟨i,rfl⟩:∃i,J=i+1:=⟨J-1,by omega⟩
  exact cY λj hj=>by
   show co us j*f (i+1-(j+1))=co us j*f (i+1-1-j);congr 2;omega
theorem w_:∀(us:List Int) (f:Nat->Int) (J:Nat),dot us (dB f us.length) J=pm (co us) f J
 | [],f,J=>by
  rw[show pm (co []) f J=ay (J+1) (λj=>co [] j*f (J-j)) from rfl,fQ λj _=>by rw[gG];simp];rfl
 | u :: us,f,J=>by rw[bX,dB,dot,w_ us (sh f) J,MW]
theorem k_:∀(N e:Nat) (cs:List Nat),cs.Nodup->(∀c∈cs,e<=c∧c<e+N)->cs.length<=N
 | 0,e,cs,_,h=>by
  cases cs with
  | nil=>exact am _
  | cons c cs=>have:=h c cD;omega
 | N+1,e,cs,nd,h=>by
  by_cases z:e+N∈cs
  ·have:=k_ N e (cs.erase (e+N)) (nd.erase _) λc hc=>by
    have h1:=(nd.mem_erase_iff).mp hc;have:=h c h1.2;have:=h1.1;omega
   rw[List.length_erase_of_mem z]at this;omega
  ·have:=k_ N e cs nd λc hc=>by
    have:=h c hc;have:c≠e+N:=λy=>z (by rw[←y];exact hc);omega
   omega
theorem MX {N e:Nat}{cs:List Nat}(nd:cs.Nodup)(h:∀c∈cs,e<=c∧c<e+N)(hl:cs.length=N){J:Nat}(h1:e<=J)(h2:J<e+N):J∈cs:=by
 by_cases z:J∈cs
 ·exact z
 ·have:=k_ N e (J :: cs) (iI.mpr ⟨z,nd⟩) λc hc=>by
   rcases aO.mp hc with y|y
   ·rw[y];exact⟨h1,h2⟩
   ·exact h c y
  rw[bX]at this;omega
theorem MY {p q g a b U W:List Int}{m:Int}(G:Gc p q g a b U W m)(p0:p≠[])(q0:q≠[]){Bp Bq N k1 n1:Nat}(hp:∀z∈p,z.natAbs<=Bp)(hq:∀z∈q,z.natAbs<=Bq)(hBp:1<=Bp)(hBq:1<=Bq)(hk1:b.length<=k1+1)(hn1:a.length<=n1+1)(hN:k1+n1=N):
  ∃(U' W':List Int) (m':Int),m'≠0∧(∀n,val n U'*val n p+val n W'*val n q=m'*val n g)∧∀z∈g,m'.natAbs*z.natAbs<=(N+1) ^ (N+1)*(Bp ^ k1*(Bq ^ n1*(Bp*Bq))):=by
 have a0:a≠[]:=λz=>p0 (by rw[G.pa,z,iZ]);have b0:b≠[]:=λz=>q0 (by rw[G.qb,z,iZ]);have la:a.length≠0:=λz=>a0 (bE z);have lb:b.length≠0:=λz=>b0 (bE z);have lg:g.length≠0:=λz=>G.g0 (bE z);have lp:=(gk G.na G.ng a0 G.g0).1;have lq:=(gk G.nb G.ng b0 G.g0).1;rw[←G.pa]at lp;rw[←G.qb]at lq;have vp:∀n,val n p=val n a*val n g:=λn=>by rw[G.pa,be]
 have vq:∀n,val n q=val n b*val n g:=λn=>by rw[G.qb,be]
 have pw:∀{x y z:Nat},1<=x->y<=z->x ^ y<=x ^ z:=λhx h=>fo hx h;have one:∀{x y:Nat},1<=x->1<=x ^ y:=λ{x y} hx=>Nat.pow_pos hx;have top:Bp<=(N+1) ^ (N+1)*(Bp ^ k1*(Bq ^ n1*(Bp*Bq))):=by
  have h0:=ig Bp hBq;have h1:=gv (Bp*Bq) (one (x:=Bq) (y:=n1) hBq);have h2:=gv (Bq ^ n1*(Bp*Bq)) (one (x:=Bp) (y:=k1) hBp);have h3:=gv (Bp ^ k1*(Bq ^ n1*(Bp*Bq))) (one (x:=N+1) (y:=N+1) (by omega));omega
 obtain⟨e,he⟩:∃e,g.length=e+1:=⟨g.length-1,by omega⟩
 obtain⟨k,hk⟩:∃k,b.length=k+1:=⟨b.length-1,by omega⟩
 obtain⟨n,hn⟩:∃n,a.length=n+1:=⟨a.length-1,by omega⟩
 by_cases N0:n+k=0
 ·-- both are the common times a number
  obtain⟨c,hc⟩:=GH.mp (show a.length=1 by omega);have c0:c≠0:=λz=>by have:=G.na;rw[hc,z]at this;exact en.mp this 0 rfl rfl
  refine⟨[1],[],c,c0,λn=>by rw[vp n,hc];simp[val],dY λj=>?_⟩;have e1:co p j=c*co g j:=by
   rw[←fh];exact f8 (λn=>by rw[vp n,bL,hc];simp[val]) j
  rw[←b4,←e1];exact aE (dX (P:=λz=>z.natAbs<=Bp) hp (by simp) j) top
 obtain⟨rs,hrs⟩:∃rs,rs=dB (co p) k++dB (co q) n:=⟨_,rfl⟩
 have lrs:rs.length=k+n:=by rw[hrs,bU,j9,j9]
 have b1:∀r∈dB (co p) k,∀J,(r J).natAbs<=Bp:=λr z=>w6 k _ (λJ=>dX (P:=λz=>z.natAbs<=Bp) hp (by simp) J) r z;have b2:∀r∈dB (co q) n,∀J,(r J).natAbs<=Bq:=λr z=>w6 n _ (λJ=>dX (P:=λz=>z.natAbs<=Bq) hq (by simp) J) r z;obtain⟨X,hX⟩:∃X:Rw,∀J,X J=if J=e then 1 else 0:=⟨_,λ_=>rfl⟩
 obtain⟨β,w1,w2,w3,w4,w5⟩:∃β:Rw->Nat,(∀r∈rs++[X],∀J,(r J).natAbs<=β r)∧(∀r∈rs++[X],1<=β r)∧(∀r∈dB (co p) k,β r<=Bp)∧(∀r∈dB (co q) n,β r<=Bq)∧∀r,β r<=Bp*Bq:=by
  classical
  refine⟨λr=>if r∈dB (co p) k then (if r∈dB (co q) n then min Bp Bq else Bp) else if r∈dB (co q) n then Bq else 1,λr hr J=>?_,λr hr=>?_,λr hr=>?_,λr hr=>?_,λr=>?_⟩
  ·dsimp only;have hx:r=X∨r∈dB (co p) k∨r∈dB (co q) n:=by
    rcases aK.mp hr with z|z
    ·rw[hrs]at z;exact .inr (aK.mp z)
    ·exact .inl (aP.mp z)
   split
   ·rename_i h1
    split
    ·rename_i h2;have:=b1 r h1 J;have:=b2 r h2 J;omega
    ·exact b1 r h1 J
   ·rename_i h1
    split
    ·rename_i h2;exact b2 r h2 J
    ·rename_i h2;rcases hx with rfl|h|h
     ·rw[hX];split <;> simp
     ·exact absurd h h1
     ·exact absurd h h2
  ·dsimp only;split
   ·split <;> omega
   ·split <;> omega
  ·dsimp only;rw[if_pos hr];split <;> omega
  ·dsimp only;split
   ·omega
   ·exact am _
  ·have h1:=ig Bp hBq;have h2:=gv Bq hBp;have h3:1<=Bp*Bq:=gS hBp hBq;dsimp only;split
   ·split <;> omega
   ·split <;> omega
 have frs:∀r∈rs,∀J,e+(k+n)<=J->r J=0:=λr hr J hJ=>by
  rw[hrs]at hr;rcases aK.mp hr with z|z
  ·exact w8 (L:=e+n) k _ (λJ hJ=>aw (by omega)) r z J (by omega)
  ·exact w8 (L:=e+k) n _ (λJ hJ=>aw (by omega)) r z J (by omega)
 have sum:∀us ws:List Int,us.length=k->ws.length=n->∀J,dot (us++ws) rs J=co (bK (aY us p) (aY ws q)) J:=λus ws h1 h2 J=>by
  rw[hrs,DO (by rw[j9];exact h1),fJ,gj,gj,←h1,←h2,w_,w_]
 have split:∀ms:List Int,ms.length=k+n->∃us ws:List Int,ms=us++ws∧us.length=k∧ws.length=n:=λms h=>⟨ms.take k,ms.drop k,(Od k ms).symm,by rw[bT];omega,by rw[kh];omega⟩
 have vS:∀(us ws:List Int) n,val n (bK (aY us p) (aY ws q))=(val n us*val n a+val n ws*val n b)*val n g:=λus ws n=>by
  rw[fI,dy,dy,vp n,vq n];grind
 have eS:∀us ws:List Int,aJ (bK (aY us p) (aY ws q))=pdL (aJ (bK (aY us a) (aY ws b))) g:=λus ws=>dZ (cI _) (cK _ _) λn=>by
  rw[f_,vS,be,f_,fI,dy,dy]
 have noll:∀zs:List Int,aJ zs=[]->∀z∈zs,z=0:=λzs h=>dY λj=>by
  rw[←cN,h,gG]
 have ind:∀ms:List Int,ms.length=rs.length->(∀J,e<=J->dot ms rs J=0)->∀z∈ms,z=0:=λms hl hz=>by
  obtain⟨us,ws,rfl,lu,lw⟩:=split ms (by omega);have T0:aJ (bK (aY us a) (aY ws b))=[]:=by
   by_cases z:aJ (bK (aY us a) (aY ws b))=[]
   ·exact z
   ·have h1:=gk (cI (bK (aY us a) (aY ws b))) G.ng z G.g0;have l1:(aJ (bK (aY us a) (aY ws b))).length≠0:=λy=>z (bE y);have h2:=hz ((pdL (aJ (bK (aY us a) (aY ws b))) g).length-1) (by omega);rw[sum us ws lu lw,←cN,eS]at h2;rw[h1.2]at h2;exact absurd h2 (rH (cZ (cI _) z) (cZ G.ng G.g0))
  have v0:∀n,val n us*val n a+val n ws*val n b=0:=λn=>by
   have:=f_ n (bK (aY us a) (aY ws b));rw[T0,fI,dy,dy]at this;rw[←this];rfl
  have u0:aJ us=[]:=by
   by_cases z:aJ us=[]
   ·exact z
   ·obtain⟨V,hV⟩:∃V,V=aJ (bK (aY W us) ((aY U ws).map λz=>-1*z)):=⟨_,rfl⟩
    have e1:(aJ us).map (λz=>m*z)=pdL b V:=dZ (j8 G.m0 (cI _)) (cK _ _) λn=>by
     rw[bL,f_,be,hV,f_,fI,bL,dy,dy];have h1:=v0 n;have h2:=G.bz n;grind
    have V0:V≠[]:=λy=>by
     rw[y,Mv]at e1;exact z (xI.mp e1)
    have l1:=(gk G.nb (by rw[hV];exact cI _) b0 V0).1;have l2:=congrArg q9 e1;rw[ae,l1]at l2;have l3:=jV us;have l4:V.length≠0:=λy=>V0 (bE y);omega
  have w0:aJ ws=[]:=by
   by_cases z:aJ ws=[]
   ·exact z
   ·refine absurd (dZ (cK _ _) b8 λn=>?_) (iY (cI ws) G.nb z b0);have h1:=v0 n;have h2:val n us=0:=by rw[←f_,u0];rfl
    rw[h2]at h1;rw[be,f_];show _=0;omega
  intro z hz';rcases aK.mp hz' with h|h
  ·exact noll us u0 z h
  ·exact noll ws w0 z h
 obtain⟨cs,c1,c2,c3,c4⟩:=DP (e:=e) (N:=k+n) frs ind rs.length (am _);obtain⟨xs,x1,x2⟩:=iD (rs:=rs) (cs:=cs) rs.length X;rw[eV]at x1 x2;have D0:=c4 rs.length (am _);have inn:∀J,e<=J->J<e+(k+n)->bo rs cs rs.length X J=0:=λJ h1 h2=>by
  obtain⟨l,hl,rfl⟩:=cU.mp (MX c2 c3 (by omega) h1 h2);exact jr X (by omega) hl
 obtain⟨us,ws,rfl,lu,lw⟩:=split xs (by omega);have far:∀J,e+(k+n)<=J->dot (us++ws) rs J=0:=λJ hJ=>by
  have:∀(ms:List Int) (R:List Rw),(∀r∈R,r J=0)->dot ms R J=0:=λms=>by
   induction ms with
   | nil=>intro R _;cases R <;> rfl
   | cons m ms ih=>intro R hR;cases R with
    | nil=>rfl
    | cons r R=>rw[dot,hR r cD,ih R λx hx=>hR x (bM _ hx)];simp
  exact this _ _ λr hr=>frs r hr J hJ
 have atE:dot (us++ws) rs e=- mi rs cs rs.length:=by
  have h1:=x2 e;rw[inn e (am _) (by omega),hX,if_pos rfl]at h1;omega
 have above:∀J,e<J->dot (us++ws) rs J=0:=λJ hJ=>by
  by_cases z:J<e+(k+n)
  ·have h1:=x2 J;rw[inn J (by omega) z,hX,if_neg (by omega)]at h1;omega
  ·exact far J (by omega)
 have pq:prb β rs<=Bp ^ k1*Bq ^ n1:=by
  rw[hrs,wF];refine d8 (aE (wG _ w3) ?_) (aE (wG _ w4) ?_)
  ·rw[j9];exact pw hBp (by omega)
  ·rw[j9];exact pw hBq (by omega)
 have bmi:(mi rs cs rs.length).natAbs<=(N+1) ^ (N+1)*(Bp ^ k1*(Bq ^ n1*(Bp*Bq))):=by
  unfold mi;rw[eV];refine aE (wE (β:=β) (N:=N+1) (by omega) _ rs (by omega) (λr hr=>w1 r (gl _ hr)) λr hr=>w2 r (gl _ hr)) (d8 (pw (by omega) ?_) (aE pq ?_))
  ·unfold cr;rw[mC,bT];omega
  ·exact dC _ (ig _ (gS hBp hBq))
 have bbo:∀J,(bo rs cs rs.length X J).natAbs<=(N+1) ^ (N+1)*(Bp ^ k1*(Bq ^ n1*(Bp*Bq))):=λJ=>by
  unfold bo;rw[eV];refine aE (wE (β:=β) (N:=N+1) (by omega) _ (rs++[X]) (by simp;omega) w1 w2) (d8 (pw (by omega) ?_) ?_)
  ·unfold cr;rw[bX,mC,bT];omega
  ·rw[wF,←ij];refine d8 pq ?_;show β X*1<=_;rw[my];exact w5 X
 have all:∀J,(dot (us++ws) rs J).natAbs<=(N+1) ^ (N+1)*(Bp ^ k1*(Bq ^ n1*(Bp*Bq))):=λJ=>by
  by_cases z:J=e
  ·rw[z,atE,Int.natAbs_neg];exact bmi
  ·have h1:=x2 J;rw[hX,if_neg z]at h1;have h2:dot (us++ws) rs J=bo rs cs rs.length X J:=by omega
   rw[h2];exact bbo J
 obtain⟨S,hS⟩:∃S,S=aJ (bK (aY us p) (aY ws q)):=⟨_,rfl⟩
 have cS:∀J,co S J=dot (us++ws) rs J:=λJ=>by rw[hS,cN,sum us ws lu lw]
 have nS:Nml S:=by rw[hS];exact cI _
 have S0:co S e≠0:=by rw[cS,atE];omega
 have lS:S.length=e+1:=by
  have h1:=g8 nS (n:=e+1) λJ hJ=>by rw[cS,above J (by omega)]
  have h2:e<S.length:=ko λh=>S0 (aw h);omega
 have eT:=eS us ws;rw[←hS]at eT;obtain⟨T,hT⟩:∃T,T=aJ (bK (aY us a) (aY ws b)):=⟨_,rfl⟩
 rw[←hT]at eT;have T0:T≠[]:=λz=>by rw[z,iZ]at eT;rw[eT]at lS;simp at lS
 have lT:=(gk (by rw[hT];exact cI _) G.ng T0 G.g0).1;rw[←eT,lS]at lT;have lT0:T.length≠0:=λz=>T0 (bE z);obtain⟨t,ht⟩:=GH.mp (show T.length=1 by omega);have t0:t≠0:=λz=>by
  have:Nml T:=by rw[hT];exact cI _
  rw[ht,z]at this;exact en.mp this 0 rfl rfl
 have vSt:∀n,val n S=t*val n g:=λn=>by rw[eT,be,ht];simp[val]
 refine⟨us,ws,t,t0,λn=>?_,dY λj=>?_⟩
 ·rw[←vSt n,hS,f_,fI,dy,dy]
 ·rw[←b4];have:t*co g j=co S j:=by rw[←fh];exact f8 (λn=>by rw[bL,vSt n]) j
  rw[this,cS];exact all j
abbrev Rp:=Nat->List Int
def dN (p q:List Int):List Int:=aJ (bK p q)
theorem lC (p q:List Int):Nml (dN p q):=cI _
theorem qS (n:Int)(p q:List Int):val n (dN p q)=val n p+val n q:=by unfold dN;rw[f_,fI]
theorem EL {p q:List Int}{L:Nat}(hp:p.length<=L)(hq:q.length<=L):(dN p q).length<=L:=g8 (lC _ _) λk hk=>by
 unfold dN;rw[cN,fJ,aw (xs:=p) (by omega),aw (xs:=q) (by omega)];rfl
def iop (c:Nat):List Rp->(List Rp->List Int)->List Int
 | [],_=>[]
 | r :: w,F=>dN (pdL [(-1) ^ w.length] (pdL (r c) (F w))) (iop c w λu=>F (r :: u))
def dtp:List Nat->List Rp->List Int
 | [],[]=>[1]
 | [],_ :: _=>[]
 | c :: cs,l=>iop c l (dtp cs)
def evR (n:Int)(r:Rp):Rw:=λc=>val n (r c)
theorem MZ {c:Nat}:∀(w:List Rp) (F:List Rp->List Int),Nml (iop c w F)
 | [],_=>b8
 | _ :: _,_=>lC _ _
theorem ib:∀(cs:List Nat) (l:List Rp),Nml (dtp cs l)
 | [],[]=>hE (by decide)
 | [],_ :: _=>b8
 | _ :: _,_=>MZ _ _
theorem EM (n:Int){c:Nat}:∀(w:List Rp) (F:List Rp->List Int) (F':List Rw->Int),(∀u,val n (F u)=F' (u.map (evR n)))->val n (iop c w F)=io c (w.map (evR n)) F'
 | [],_,_,_=>rfl
 | r :: w,F,F',h=>by
  rw[iop,qS,be,be,c_,io,EM n w (λu=>F (r :: u)) (λu=>F' (evR n r :: u)) (λu=>by rw[h];rfl),h w,ae];simp[val,evR];grind
theorem qT (n:Int):∀(cs:List Nat) (l:List Rp),val n (dtp cs l)=dt cs (l.map (evR n))
 | [],[]=>by simp[dtp,dt,val]
 | [],_ :: _=>by simp[dtp,dt,val]
 | c :: cs,l=>by rw[dtp,dt];exact EM n l _ _ λu=>qT n cs u
theorem M4 (k:Nat){f:List Int}(nf:Nml f):(pdL [(-1) ^ k] f).length<=f.length:=by
 have hk:(-1:Int) ^ k=1∨(-1:Int) ^ k=-1:=by
  induction k with
  | zero=>exact .inl rfl
  | succ k ih=>rw[jD];rcases ih with z|z <;> rw[z] <;> simp
 have:=j5 (hE (c:=(-1) ^ k) (by rcases hk with z|z <;> rw[z] <;> decide)) nf;simp at this;omega
theorem lE {c D:Nat}:∀(w p0:List Rp) (F:List Rp->List Int),(∀u,Nml (F u))->(∀pre r post,w=pre++r :: post->Nml (r c)∧(r c≠[]->(r c).length+(F (p0++pre++post)).length<=D+2))->(iop c w λu=>F (p0++u)).length<=D+1
 | [],_,_,_,_=>by simp[iop]
 | r :: w,p0,F,nF,h=>by
  rw[iop];refine EL (aE (M4 _ (cK _ _)) ?_) ?_
  ·obtain⟨h1,h2⟩:=h [] r w rfl;by_cases z:r c=[]
   ·rw[z,iZ];exact aI _
   ·have l:=j5 h1 (nF (p0++w));have:=h2 z;rw[q8]at this;omega
  ·have:=lE w (p0++[r]) F nF λpre x post e=>by
    have:=h (r :: pre) x post (by rw[e];rfl)
    simpa using this
   simpa using this
theorem qU (dc:Nat->Nat):∀(cs:List Nat) (l:List Rp),(∀r∈l,∀c∈cs,Nml (r c)∧(r c).length<=dc c+1)->(dtp cs l).length<=(cs.map dc).sum+1
 | [],[],_=>by simp[dtp]
 | [],_ :: _,_=>by simp[dtp]
 | c :: cs,l,h=>by
  rw[dtp];refine lE l [] (dtp cs) (ib cs) λpre r post e=>?_;have hm:r∈l:=by rw[e];simp
  obtain⟨h1,h2⟩:=h r hm c cD;refine⟨h1,λ_=>?_⟩;have:=qU dc cs (pre++post) λx hx c' hc'=>h x (by
   rw[e];rcases aK.mp hx with z|z
   ·simp[z]
   ·simp[z]) c' (bM _ hc')
  rw[gO,c_,jE];omega
def ic (rd:Rp->Nat)(l:List Rp):Nat:=(l.map rd).sum
theorem xa (rd:Rp->Nat):∀(cs:List Nat) (l:List Rp),(∀r∈l,∀c∈cs,Nml (r c)∧(r c).length<=rd r+1)->(dtp cs l).length<=ic rd l+1
 | [],[],_=>by simp[dtp]
 | [],_ :: _,_=>by simp[dtp]
 | c :: cs,l,h=>by
  rw[dtp];refine lE l [] (dtp cs) (ib cs) λpre r post e=>?_;have hm:r∈l:=by rw[e];simp
  obtain⟨h1,h2⟩:=h r hm c cD;refine⟨h1,λ_=>?_⟩;have:=xa rd cs (pre++post) λx hx c' hc'=>h x (by
   rw[e];rcases aK.mp hx with z|z
   ·simp[z]
   ·simp[z]) c' (bM _ hc')
  rw[e];unfold ic at this ⊢;simp only[gO,aQ,x8,c_,jE]at this ⊢;omega
theorem xb {c M Fb L:Nat}:∀(w:List Rp) (F:List Rp->List Int),(∀u,u.length+1=w.length->(∀r∈u,r∈w)->∀z∈F u,z.natAbs<=Fb)->(∀r∈w,(r c).length<=L∧∀z∈r c,z.natAbs<=M)->∀z∈iop c w F,z.natAbs<=w.length*(L*(M*Fb))
 | [],_,_,_=>by simp[iop]
 | r :: w,F,h,hb=>dY λj=>by
  have ih:=xb (c:=c) (M:=M) (Fb:=Fb) (L:=L) w (λu=>F (r :: u)) (λu hu hm=>h (r :: u) (by simp[hu]) λx hx=>by
   rcases aO.mp hx with z|z
   ·rw[z];exact cD
   ·exact bM _ (hm x z)) λx hx=>hb x (bM _ hx)
  have h1:=h w rfl λx hx=>bM _ hx;obtain⟨h2,h3⟩:=hb r cD;have e1:co (pdL [(-1) ^ w.length] (pdL (r c) (F w))) j=(-1) ^ w.length*co (pdL (r c) (F w)) j:=by
   rw[←fh];exact f8 (λn=>by rw[be,bL];simp[val]) j
  rw[iop,bX,iL,fR];unfold dN;rw[cN,fJ,e1];have h4:((-1:Int) ^ w.length*co (pdL (r c) (F w)) j).natAbs<=L*(M*Fb):=by
   rw[b4,GA];simp;exact aE (dX (P:=λz=>z.natAbs<=(r c).length*(M*Fb)) (Mw h3 h1) (by simp) j) (dE _ h2)
  have h5:(co (iop c w λu=>F (r :: u)) j).natAbs<=w.length*(L*(M*Fb)):=dX (P:=λz=>z.natAbs<=w.length*(L*(M*Fb))) ih (by simp) j;have:=i8 ((-1:Int) ^ w.length*co (pdL (r c) (F w)) j) (co (iop c w λu=>F (r :: u)) j);omega
theorem EN {N M L:Nat}:∀(cs:List Nat) (l:List Rp),l.length<=N->(∀r∈l,∀c∈cs,(r c).length<=L∧∀z∈r c,z.natAbs<=M)->∀z∈dtp cs l,z.natAbs<=(N*(L*M)) ^ cs.length
 | [],[],_,_=>by simp[dtp]
 | [],_ :: _,_,_=>by simp[dtp]
 | c :: cs,l,hl,hb=>by
  have h:=xb (c:=c) (M:=M) (L:=L) (Fb:=(N*(L*M)) ^ cs.length) l (dtp cs) (λu hu hm=>EN cs u (by omega) λr hr c' hc'=>hb r (hm r hr) c' (bM _ hc')) λr hr=>hb r hr c cD;intro z hz;refine aE (h z hz) ?_;rw[bX,i7];have:l.length*(L*(M*(N*(L*M)) ^ cs.length))<=N*(L*(M*(N*(L*M)) ^ cs.length)):=dE _ hl;refine aE this (xC ?_);rw[gP ((N*(L*M)) ^ cs.length) (N*(L*M))];simp only[ij]
theorem j_ {J:Nat}:∀(ms:List Int) (R:List Rw),(∀r∈R,r J=0)->dot ms R J=0
 | [],R,_=>by cases R <;> rfl
 | m :: ms,[],_=>rfl
 | m :: ms,r :: R,h=>by rw[dot,h r cD,j_ ms R λx hx=>h x (bM _ hx)];simp
theorem M9 {rs:List Rw}{cs:List Nat}{i:Nat}{x:Rw}{J:Nat}(h:∀r∈rs,r J=0)(hx:x J=0):bo rs cs i x J=0:=by
 obtain⟨xs,_,h2⟩:=iD (rs:=rs) (cs:=cs) i x;rw[h2,j_ _ _ λr hr=>h r (fU hr),hx];simp
def aZ (w:Nat)(Ti:List (List (List Int)))(p:Int):List Rw:=(a8 Ti.length).map λi=>co (bD w (Ti.getD i []) i p)
section
variable {w:Nat}{Ti:List (List (List Int))}{cs:List Nat}{p:Int}
theorem ie:(aZ w Ti p).length=Ti.length:=by unfold aZ;rw[ae,ik]
theorem i0 {i:Nat}(h:i<(aZ w Ti p).length):(aZ w Ti p)[i]=co (bD w (Ti.getD i []) i p):=by
 have e:(aZ w Ti p)[i]?=some (co (bD w (Ti.getD i []) i p)):=by
  rw[ie]at h;unfold aZ;rw[az,xT h];rfl
 exact Option.some.inj ((ak h).symm.trans e)
theorem M_ (W:∀v∈Ti,v.length=w){J:Nat}(hJ:w+(w+1)<=J):∀r∈aZ w Ti p,r J=0:=λr hr=>by
 unfold aZ at hr;obtain⟨i,hi,rfl⟩:=aT.mp hr;have hi':=dh.mp hi;exact aw (by rw[j7 (W _ (mem_getD hi'))];exact hJ)
theorem xf {n i:Nat}(h:i<n):(cO w Ti cs p n).getD i []=eQ w Ti cs p i:=by
 induction n with
 | zero=>omega
 | succ n ih=>
  rw[cO,av];by_cases z:i<n
  ·rw[b_ (by rw[dJ];exact z),←av];exact ih z
  ·have e:i=n:=by omega
   subst e;rw[di (by rw[dJ];exact am _),dJ,fT];rfl
def EO (w:Nat)(Ti:List (List (List Int)))(cs:List Nat)(p:Int)(n:Nat):Prop:=(∀i,i<=n->mi (aZ w Ti p) cs i≠0)∧∀i,i<n->(eQ w Ti cs p i).length=w+(w+1)∧∀j,co (eQ w Ti cs p i) j=bo (aZ w Ti p) cs i (co (bD w (Ti.getD i []) i p)) j
theorem ka {n:Nat}(W:∀v∈Ti,v.length=w)(hn:n<=Ti.length)(hc:n<=cs.length)(h:EO w Ti cs p n){x:List Int}(lx:x.length=w+(w+1)):∀i,i<=n->(cu x (cO w Ti cs p n) cs i).1=mi (aZ w Ti p) cs i∧(cu x (cO w Ti cs p n) cs i).2.length=w+(w+1)∧∀j,co (cu x (cO w Ti cs p n) cs i).2 j=bo (aZ w Ti p) cs i (co x) j
 | 0,_=>⟨rfl,lx,λj=>by
  show co x j=dt [j] [co x];simp[dt,io]⟩
 | i+1,hi=>by
  obtain⟨h1,h2,h3⟩:=ka W hn hc h lx i (by omega);obtain⟨t1,t2⟩:=h.2 i (by omega);have hr:i<(aZ w Ti p).length:=by rw[ie];omega
  have hci:i<cs.length:=by omega
  have et:=xf (w:=w) (Ti:=Ti) (cs:=cs) (p:=p) (show i<n by omega);have ec:cs.getD i 0=cs[i]:=by rw[av,ak hci];rfl
  have em:co (eQ w Ti cs p i) cs[i]=mi (aZ w Ti p) cs (i+1):=by rw[t2,jX hr hci,i0]
  have m0:=h.1 i (by omega);rw[cu,et,ec];refine⟨em,by rw[mv,h2,t1];omega,λj=>?_⟩;by_cases hj:j<w+(w+1)
  ·rw[MQ (by omega) (by omega),em,h3,h3,t2,h1];have st:=Lw hr hci (λl hl=>h.1 l (by omega)) (co x) j;rw[i0 hr]at st;rw[←st];exact l6 _ m0
  ·rw[aw (by rw[mv,h2,t1];omega)];exact (M9 (M_ W (by omega)) (aw (by omega))).symm
theorem i3 (W:∀v∈Ti,v.length=w):∀n,n<=Ti.length->n<=cs.length->Piv w Ti cs p n->EO w Ti cs p n
 | 0,_,_,_=>⟨λi hi=>by rw[show i=0 by omega,wB];decide,λi hi=>by omega⟩
 | n+1,hk,hc,pv=>by
  have ih:=i3 W n (by omega) (by omega) λi hi=>pv i (by omega);have lx:(bD w (Ti.getD n []) n p).length=w+(w+1):=j7 (W _ (mem_getD (by omega)));obtain⟨_,l2,l3⟩:=ka W (by omega) (by omega) ih lx n (am _);have hr:n<(aZ w Ti p).length:=by rw[ie];omega
  have hcn:n<cs.length:=by omega
  have ec:cs.getD n 0=cs[n]:=by rw[av,ak hcn];rfl
  have hT:(eQ w Ti cs p n).length=w+(w+1)∧∀j,co (eQ w Ti cs p n) j=bo (aZ w Ti p) cs n (co (bD w (Ti.getD n []) n p)) j:=⟨l2,l3⟩
  refine⟨λi hi=>?_,λi hi=>?_⟩
  ·by_cases z:i<=n
   ·exact ih.1 i z
   ·have e:i=n+1:=by omega
    subst e;rw[jX hr hcn,i0 hr,←hT.2];have:=pv n (by omega);rw[ec]at this;exact this
  ·by_cases z:i<n
   ·exact ih.2 i z
   ·rw[show i=n by omega];exact hT
def cW (w:Nat)(v:List (List Int))(num:Nat):Rp:=λj=>if j<w then v.getD j [] else if j=w+num then [1] else []
theorem Na {v:List (List Int)}{num:Nat}(lv:v.length=w)(hm:num<=w):evR p (cW w v num)=co (bD w v num p):=by
 funext j
 unfold evR cW;by_cases z:j<w
 ·rw[if_pos z,qR (by omega)]
 ·rw[if_neg z];obtain⟨i,rfl⟩:∃i,j=w+i:=⟨j-w,by omega⟩
  by_cases y:i<=w
  ·rw[jx lv y];by_cases x:i=num
   ·rw[if_pos (by omega),if_pos x];simp[val]
   ·rw[if_neg (by omega),if_neg x];rfl
  ·rw[if_neg (by omega),aw (by rw[j7 lv];omega)];rfl
def bO (w:Nat)(Ti:List (List (List Int))):List Rp:=(a8 Ti.length).map λi=>cW w (Ti.getD i []) i
theorem EQ (W:∀v∈Ti,v.length=w)(hk:Ti.length<=w+1)(p:Int):(bO w Ti).map (evR p)=aZ w Ti p:=by
 unfold bO aZ;rw[gu];refine gx λi hi=>?_;have:=dh.mp hi;exact Na (W _ (mem_getD this)) (by omega)
def mkP (w:Nat)(Ti:List (List (List Int)))(cs:List Nat)(q:List (List Int))(j:Nat):List Int:=dtp (j :: cr cs Ti.length) (bO w (Ti++[q]))
theorem Nb (q:List (List Int)):aZ w (Ti++[q]) p=aZ w Ti p++[co (bD w q Ti.length p)]:=by
 unfold aZ;rw[bU,Gq,kz,aQ];congr 1
 ·refine gx λi hi=>?_;have:=dh.mp hi;rw[av,av,b_ this]
 ·simp
theorem lH (W:∀v∈Ti++[q],v.length=w)(hk:Ti.length<=w)(p:Int)(j:Nat):val p (mkP w Ti cs q j)=bo (aZ w Ti p) cs Ti.length (co (bD w q Ti.length p)) j:=by
 unfold mkP bo;rw[qT,EQ W (by simp;omega),Nb,←ie (w:=w) (Ti:=Ti) (p:=p),eV]
theorem xi (W:∀v∈Ti++[q],v.length=w)(hk:Ti.length<=w)(hc:Ti.length<=cs.length)(pv:Piv w Ti cs p Ti.length)(j:Nat):co (cV w Ti cs q p) j=val p (mkP w Ti cs q j):=by
 have W':∀v∈Ti,v.length=w:=λv hv=>W v (by simp[hv]);rw[lH W hk];exact (ka W' (am _) hc (i3 W' _ (am _) hc pv) (j7 (W q (by simp))) Ti.length (am _)).2.2 j
end
theorem ER {rs:List Rw}{cs:List Nat}{i R:Nat}{x:Rw}(hr:∀r∈rs,∀j,Bd R (r j))(hx:∀j,Bd R (x j))(hi:i<=7)(j:Nat):Bd ((R+3)*(i+1)+1) (bo rs cs i x j):=by
 have h:=wD (B:=2 ^ R) (N:=2 ^ 3) (gS (dj _) (dj _)) (j :: cr cs i) (rs.take i++[x]) (by rw[bU,bT];simp;omega) λr hr' c=>by
  rcases aK.mp hr' with z|z
  ·exact bW (hr r (fU z) c)
  ·rw[aP.mp z];exact bW (hx c)
 rw[←de,←mE]at h;refine cE h (cE (fo (by decide) ?_) (mr (by decide) (lM _)));rw[lQ R 3];refine dC _ ?_;unfold cr;rw[bX,mC,bT];omega
theorem Nc {rs:List Rw}{cs:List Nat}{i R:Nat}(hr:∀r∈rs,∀j,Bd R (r j))(hi:i<=7):Bd ((R+3)*i+1) (mi rs cs i):=by
 have h:=wD (B:=2 ^ R) (N:=2 ^ 3) (gS (dj _) (dj _)) (cr cs i) (rs.take i) (by rw[bT];omega) λr hr' c=>bW (hr r (fU hr') c);rw[←de,←mE]at h;refine cE h (cE (fo (by decide) ?_) (mr (by decide) (lM _)));rw[lQ R 3];refine dC _ ?_;unfold cr;rw[mC,bT];omega
structure VB (w:Nat)(Ti:List (List (List Int)))(L b:Nat):Prop where
 wid:∀v∈Ti,v.length=w
 nml:∀v∈Ti,∀f∈v,Nml f∧f.length<=L∧∀c∈f,Bd b c
 few:Ti.length<=6
 w9:w<=9
 b0:0<b
section
variable {w L b:Nat}{Ti:List (List (List Int))}{cs:List Nat}{p:Int}{q:List (List Int)}
theorem VB.row (B:VB w Ti L b){v:List (List Int)}(hv:v∈Ti)(hp:Bd 9 p)(num:Nat)(j:Nat):Bd (b+10*L) (co (bD w v num p) j):=
 dX (P:=λz=>Bd (b+10*L) z) (EF hp (λf hf=>⟨(B.nml v hv f hf).2.1,(B.nml v hv f hf).2.2⟩) B.b0) (Bd.zero _) j
theorem VB.rows (B:VB w Ti L b)(hp:Bd 9 p):∀r∈aZ w Ti p,∀j,Bd (b+10*L) (r j):=λr hr j=>by
 unfold aZ at hr;obtain⟨i,hi,rfl⟩:=aT.mp hr;exact B.row (mem_getD (dh.mp hi)) hp i j
theorem VB.low (B:VB w Ti L b)(hp:Bd 9 p)(hb:(b+10*L+3)*7+1<=4000)(hcs:∀c∈cs,c<w){n:Nat}(hn:n<=Ti.length)(hc:n<=cs.length)(pv:Piv w Ti cs p n){v:List (List Int)}{num:Nat}(lv:v.length=w)(bv:∀f∈v,f.length<=L∧∀c∈f,Bd b c):LowOk (bD w v num p) (cO w Ti cs p n) cs:=by
 have tb:=i3 B.wid n hn hc pv;have w9:=B.w9;have few:=B.few;have lx:(bD w v num p).length=w+(w+1):=j7 lv;have rx:∀j,Bd (b+10*L) (co (bD w v num p) j):=λj=>dX (P:=λz=>Bd (b+10*L) z) (EF hp bv B.b0) (Bd.zero _) j;have big:∀i,i<=6->(b+10*L+3)*(i+1)+1<=4000:=λi hi=>aE (GI (dC _ (show i+1<=7 by omega)) 1) hb;refine⟨by rw[dJ];exact hc,by omega,λy hy=>?_,λc h=>by rw[lx];have:=hcs c h;omega,λy hy=>?_,λi hi=>?_,λi hi=>?_⟩
 ·obtain⟨i,hi,rfl⟩:=cU.mp hy;rw[dJ]at hi;have e:=xf (w:=w) (Ti:=Ti) (cs:=cs) (p:=p) hi;rw[av,ak (by rw[dJ];exact hi)]at e;rw[show (cO w Ti cs p n)[i]'(by rw[dJ];exact hi)=eQ w Ti cs p i from e,(tb.2 i hi).1,lx]
 ·obtain⟨i,hi,rfl⟩:=cU.mp hy;rw[dJ]at hi;have e:=xf (w:=w) (Ti:=Ti) (cs:=cs) (p:=p) hi;rw[av,ak (by rw[dJ];exact hi)]at e;rw[show (cO w Ti cs p n)[i]'(by rw[dJ];exact hi)=eQ w Ti cs p i from e];refine dY λj=>?_;rw[(tb.2 i hi).2 j];exact (ER (B.rows hp) (B.row (mem_getD (by omega)) hp i) (by omega) j).mono (big i (by omega))
 ·rw[dJ]at hi;obtain⟨e1,_⟩:=ka B.wid hn hc tb lx i (by omega);rw[e1];exact⟨tb.1 i (by omega),(Nc (B.rows hp) (by omega)).mono (aE (GI (dC _ (show i<=7 by omega)) 1) hb)⟩
 ·rw[dJ]at hi;obtain⟨_,_,e3⟩:=ka B.wid hn hc tb lx i (by omega);refine dY λj=>?_;rw[e3];exact (ER (B.rows hp) rx (by omega) j).mono (big i (by omega))
theorem VB.tbd (B:VB w Ti L b)(hp:Bd 9 p)(hb:(b+10*L+3)*7+1<=4000)(hL:L<=60)(hb2:b<=1000)(hcs:∀c∈cs,c<w)(hc:Ti.length<=cs.length):TBd w Ti cs p:=by
 have w9:=B.w9;refine⟨by omega,hp.mono (by decide),λn hn pv=>?_,λv hv=>⟨by rw[B.wid v hv];omega,λf hf=>?_⟩⟩
 ·have hm:=mem_getD (d:=([]:List (List Int))) hn;exact B.low hp hb hcs (by omega) (by omega) pv (B.wid _ hm) λf hf=>⟨(B.nml _ hm f hf).2.1,(B.nml _ hm f hf).2.2⟩
 ·obtain⟨_,h2,h3⟩:=B.nml v hv f hf;exact⟨by omega,λc hc=>(h3 c hc).mono hb2⟩
theorem Nd (W:∀v∈Ti++[q],v.length=w)(hk:Ti.length<=w)(p:Int)(j:Nat):val p (mkP w Ti cs q j)=dot ((a8 Ti.length).map λi=>val p (mkP w Ti cs q (w+i))) (aZ w Ti p) j+val p (mkP w Ti cs q (w+Ti.length))*co (bD w q Ti.length p) j:=by
 obtain⟨xs,x1,x2⟩:=iD (rs:=aZ w Ti p) (cs:=cs) Ti.length (co (bD w q Ti.length p));have tl:(aZ w Ti p).take Ti.length=aZ w Ti p:=d_ (by rw[ie];exact am _);rw[tl]at x1 x2;have lr:=ie (w:=w) (Ti:=Ti) (p:=p);have lq:=W q (by simp);have inn:∀i,i<Ti.length->Ti.getD i []∈Ti++[q]:=λi hi=>gl _ (mem_getD hi);have mk:∀i,i<Ti.length->∀j',j'<=w->co (bD w (Ti.getD i []) i p) (w+j')=if j'=i then 1 else 0:=λi hi j' hj'=>jx (W _ (inn i hi)) hj'
 have dl:∀(ms:List Int) (s:Nat) (R:List Rw),ms.length=R.length->(∀i (h:i<R.length) j',j'<=w->R[i] (w+j')=if j'=s+i then 1 else 0)->∀i (h:i<ms.length),s+i<=w->dot ms R (w+(s+i))=ms[i]:=λms=>by
  induction ms with
  | nil=>intro s R _ _ i h;simp at h
  | cons m ms ih=>
   intro s R hl hR i h hs
   cases R with
   | nil=>simp at hl
   | cons r R=>
    have hr:=hR 0 (by simp) (s+i) hs;simp only[GJ,Nat.add_zero]at hr;have tail:∀i (h:i<R.length) j',j'<=w->R[i] (w+j')=if j'=s+1+i then 1 else 0:=λi h j' hj'=>by
     have:=hR (i+1) (by simp;omega) j' hj';simp only[GK]at this;rw[this,show s+(i+1)=s+1+i by omega]
    rw[dot,hr]
    cases i with
    | zero=>
     have z:dot ms R (w+(s+0))=0:=j_ _ _ λr hr=>by
      obtain⟨l,hl',rfl⟩:=cU.mp hr;rw[tail l hl' (s+0) (by omega),if_neg (by omega)]
     rw[z,if_pos (by omega)];simp
    | succ i=>
     rw[if_neg (by omega)];have:=ih (s+1) R (by simpa using hl) tail i (by simpa using h) (by omega);rw[show s+(i+1)=s+1+i by omega,this];simp
 have xsi:xs=(a8 Ti.length).map λi=>val p (mkP w Ti cs q (w+i)):=by
  refine i9 (by rw[x1,lr,ae,ik]) λi h1 h2=>?_;have hi:i<Ti.length:=by rw[x1,lr]at h1;exact h1
  rw[b5,ky,lH W hk,x2];have d:=dl xs 0 (aZ w Ti p) x1 (λl h j' hj'=>by
   rw[i0 h,mk l (by rw[lr]at h;exact h) j' hj',x9]) i h1 (by omega)
  rw[x9]at d;rw[d,jx lq (by omega),if_neg (by omega)];simp
 have last:val p (mkP w Ti cs q (w+Ti.length))=mi (aZ w Ti p) cs Ti.length:=by
  rw[lH W hk,x2,jx lq hk,if_pos rfl,j_ _ _ λr hr=>by
   obtain⟨l,hl',rfl⟩:=cU.mp hr;rw[i0 hl',mk l (by rw[lr]at hl';exact hl') _ hk,if_neg (by rw[lr]at hl';omega)]]
  simp
 rw[lH W hk p j,x2,xsi,last]
theorem ES {c:Nat}(hc:c∈cs)(hl:cs.length=Ti.length):mkP w Ti cs q c=[]:=dZ (ib _ _) b8 λn=>by
 unfold mkP;rw[qT];refine wA _ _ ?_;unfold cr;rw[rC,←hl,eV];exact hc
end
def mx (xs:List Nat):Nat:=xs.foldr max 0
theorem xj {xs:List Nat}{x:Nat}(h:x∈xs):x<=mx xs:=by
 induction xs with
 | nil=>simp at h
 | cons y xs ih=>
  show x<=max y (mx xs);rcases aO.mp h with z|z
  ·omega
  ·have:=ih z;omega
theorem ET {xs:List Nat}{b:Nat}(h:∀x∈xs,x<=b):mx xs<=b:=by
 induction xs with
 | nil=>exact aI _
 | cons y xs ih=>
  show max y (mx xs)<=b;have h1:=h y cD;have h2:=ih λx hx=>h x (bM _ hx);omega
theorem EU {ps:List (List Int)}{b:Int}(h:h8 ps b):b=((mx (ps.map λp=>p.length-1):Nat):Int):=by
 rcases h with ⟨z,rfl⟩|⟨z1,z2⟩
 ·have:ps=[]:=xI.mp z;rw[this];rfl
 ·obtain⟨p,hp,rfl⟩:=aT.mp z1;have h1:p.length-1<=mx (ps.map λp=>p.length-1):=xj (aT.mpr ⟨p,hp,rfl⟩);have h2:mx (ps.map λp=>p.length-1)<=p.length-1:=ET λx hx=>by
   obtain⟨r,hr,rfl⟩:=aT.mp hx;have:=z2 _ (aT.mpr ⟨r,hr,rfl⟩);unfold dgL at this;omega
  unfold dgL;omega
theorem Nf (xs:List Nat):(xs.map λx:Nat=>(x:Int)).sum=((xs.sum:Nat):Int):=by
 induction xs with
 | nil=>rfl
 | cons x xs ih=>simp[ih]
theorem EV {xs:List Nat}{x:Nat}(h:x∈xs):x<=xs.sum:=by
 induction xs with
 | nil=>simp at h
 | cons y xs ih=>
  rw[jE];rcases aO.mp h with z|z
  ·omega
  ·have:=ih z;omega
section
variable {w L b:Nat}{Ti:List (List (List Int))}{cs:List Nat}{p:Int}{q:List (List Int)}
theorem Ng (W:∀v∈Ti++[q],v.length=w)(nml:∀v∈Ti++[q],∀f∈v,Nml f∧f.length<=L)(hk:Ti.length<=w)(hl:cs.length=Ti.length)(hcs:∀c∈cs,c<w){N:Int}(h:qP (Ti++[q]) cs N):0<=N∧N<=((Ti.length*(L-1):Nat):Int)∧∀i,i<=Ti.length->((mkP w Ti cs q (w+i)).length:Int)<=N+1:=by
 obtain⟨bv,bc,m,h1,h2,h3,h4,h5,h6,h7⟩:=h;have ev:bv=((Ti++[q]).map λv=>mx (cs.map λc=>(v.getD c []).length-1)).map λx:Nat=>(x:Int):=by
  refine i9 (by rw[ae,ae];exact h1) λi a1 a2=>?_;have hi:i<(Ti++[q]).length:=by rw[h1]at a1;exact a1
  rw[b5,b5,EU (h3 i bv[i] _ (ak a1) (ak hi))];unfold h_;rw[gu];rfl
 have ec:bc=(cs.map λc=>mx ((Ti++[q]).map λv=>(v.getD c []).length-1)).map λx:Nat=>(x:Int):=by
  refine i9 (by rw[ae,ae];exact h2) λi a1 a2=>?_;have hi:i<cs.length:=by rw[h2]at a1;exact a1
  rw[b5,b5,EU (h4 i bc[i] _ (ak a1) (ak hi))];unfold ia;rw[gu];rfl
 have sv:=congrArg List.sum ev;have sc:=congrArg List.sum ec;rw[Nf]at sv sc;generalize hV:(Ti++[q]).map (λv=>mx (cs.map λc=>(v.getD c []).length-1))=vs at ev sv;generalize hC:cs.map (λc=>mx ((Ti++[q]).map λv=>(v.getD c []).length-1))=us at ec sc;have mm:∃m':Nat,m=(m':Int)∧m'∈vs∧∀x∈vs,m'<=x:=by
  rw[ev]at h5 h6;obtain⟨m',hm',rfl⟩:=aT.mp h5;exact⟨m',rfl,hm',λx hx=>by have:=h6 _ (aT.mpr ⟨x,hx,rfl⟩);omega⟩
 obtain⟨m',rfl,mi1,mi2⟩:=mm;have mle:=EV mi1;have lL:∀v∈Ti++[q],∀c,(v.getD c []).length-1<=L-1:=λv hv c=>by
  by_cases z:c<v.length
  ·have:=(nml v hv _ (mem_getD (d:=([]:List Int)) z)).2;omega
  ·rw[av,rh (by omega)];simp
 have usL:us.sum<=Ti.length*(L-1):=by
  have:∀xs:List Nat,(∀x∈xs,x<=L-1)->xs.sum<=xs.length*(L-1):=λxs=>by
   induction xs with
   | nil=>intro _;simp
   | cons x xs ih=>
    intro hx;have a1:=hx x cD;have a2:=ih λy hy=>hx y (bM _ hy);rw[jE,bX,iL,fR];omega
  have a:=this us λx hx=>by
   rw[←hC]at hx;obtain⟨c,_,rfl⟩:=aT.mp hx;exact ET λy hy=>by
    obtain⟨v,hv,rfl⟩:=aT.mp hy;exact lL v hv c
  rw[show us.length=Ti.length by rw[←hC,ae,hl]]at a;exact a
 have N0:0<=N∧N<=(us.sum:Int):=by rw[h7,sc,sv];split <;> omega
 refine⟨N0.1,by omega,λi hi=>?_⟩;have crm:∀c∈cr cs Ti.length,c∈cs:=λc hc=>by
  unfold cr at hc;exact fU (rC.mp hc)
 have row:∀r∈bO w (Ti++[q]),∃t,∃_:t<(Ti++[q]).length,r=cW w ((Ti++[q]).getD t []) t:=λr hr=>by
  unfold bO at hr;obtain⟨t,ht,rfl⟩:=aT.mp hr;exact⟨t,dh.mp ht,rfl⟩
 have atc:∀t c,c<w->cW w ((Ti++[q]).getD t []) t c=((Ti++[q]).getD t []).getD c []:=λt c hc=>by unfold cW;rw[if_pos hc]
 have nm:∀t,t<(Ti++[q]).length->∀c,Nml (cW w ((Ti++[q]).getD t []) t c):=λt ht c=>by
  unfold cW
  split
  ·rename_i z;exact (nml _ (mem_getD ht) _ (mem_getD (by rw[W _ (mem_getD ht)];exact z))).1
  ·split
   ·exact hE (by decide)
   ·exact b8
 have byC:(mkP w Ti cs q (w+i)).length<=us.sum+1:=by
  have:=qU (λc=>if c<w then mx ((Ti++[q]).map λv=>(v.getD c []).length-1) else 0) ((w+i) :: cr cs Ti.length) (bO w (Ti++[q])) λr hr c hc=>by
   obtain⟨t,ht,rfl⟩:=row r hr;refine⟨nm t ht c,?_⟩;by_cases z:c<w
   ·rw[if_pos z,atc t c z];have:=xj (xs:=(Ti++[q]).map λv=>(v.getD c []).length-1) (aT.mpr ⟨_,mem_getD (d:=([]:List (List Int))) ht,rfl⟩);omega
   ·rw[if_neg z];unfold cW;rw[if_neg z]
    split <;> simp
  unfold mkP;refine aE this ?_;have e1:(mj (λc=>if c<w then mx ((Ti++[q]).map λv=>(v.getD c []).length-1) else 0) ((w+i) :: cr cs Ti.length)).sum=us.sum:=by
   rw[c_,jE,if_neg (by omega),x9,←hC];unfold cr;rw[List.map_reverse,List.sum_reverse,←hl,eV];congr 1;exact gx λc hc=>by rw[if_pos (hcs c hc)]
  omega
 have hiq:i<(Ti++[q]).length:=by simp;omega
 have byR:(mkP w Ti cs q (w+i)).length+vs.getD i 0<=vs.sum+1:=by
  obtain⟨rd,hrd⟩:∃rd:Rp->Nat,∀r,rd r=mx (cs.map λc=>(r c).length-1):=⟨_,λ_=>rfl⟩
  have srd:ic rd (bO w (Ti++[q]))=vs.sum:=by
   unfold ic bO;rw[gu,←hV];have:(Ti++[q]).map (λv=>mx (cs.map λc=>(v.getD c []).length-1))=(a8 (Ti++[q]).length).map λt=>mx (cs.map λc=>(((Ti++[q]).getD t []).getD c []).length-1):=by
    refine i9 (by simp) λt a1 a2=>?_;rw[b5,b5,ky,av,ak (by simpa using a1)];rfl
   rw[this];congr 1;refine gx λt ht=>?_;show rd _=_;rw[hrd];congr 1;exact gx λc hc=>by
    show (cW w ((Ti++[q]).getD t []) t c).length-1=_;rw[atc t c (hcs c hc)]
  have ri:rd (cW w ((Ti++[q]).getD i []) i)=vs.getD i 0:=by
   have e:vs.getD i 0=mx (cs.map λc=>(((Ti++[q]).getD i []).getD c []).length-1):=by
    have eg:(Ti++[q]).getD i []=(Ti++[q])[i]:=by rw[av,ak hiq];rfl
    rw[eg,←hV,av,az,ak hiq];rfl
   rw[hrd,e];congr 1;exact gx λc hc=>by rw[atc i c (hcs c hc)]
  have le:vs.getD i 0<=vs.sum:=by
   refine EV ?_;rw[av,ak (by rw[←hV,ae];exact hiq)];exact aW _
  have:=lE (c:=w+i) (D:=vs.sum-vs.getD i 0) (bO w (Ti++[q])) [] (dtp (cr cs Ti.length)) (ib _) λpre r post e=>by
   obtain⟨t,ht,rfl⟩:=row r (by rw[e];simp);refine⟨nm t ht _,λhne=>?_⟩;have et:t=i:=by
    unfold cW at hne;rw[if_neg (by omega)]at hne;by_cases z:w+i=w+t
    ·omega
    ·rw[if_neg z]at hne;exact absurd rfl hne
   subst et;have l1:(cW w ((Ti++[q]).getD t []) t (w+t)).length=1:=by unfold cW;rw[if_neg (by omega),if_pos rfl];rfl
   have l2:=xa rd (cr cs Ti.length) (pre++post) λx hx c hc=>by
    obtain⟨s,hs,rfl⟩:=row x (by
     rw[e];rcases aK.mp hx with z|z
     ·simp[z]
     ·simp[z])
    refine⟨nm s hs c,?_⟩;rw[hrd];have:=xj (xs:=cs.map λc=>(cW w ((Ti++[q]).getD s []) s c).length-1) (aT.mpr ⟨c,crm c hc,rfl⟩);omega
   have l3:ic rd (pre++post)+rd (cW w ((Ti++[q]).getD t []) t)=vs.sum:=by
    rw[←srd,e];unfold ic;simp only[aQ,x8,c_,jE];omega
   rw[ri]at l3;rw[gO,l1];omega
  have e2:(mkP w Ti cs q (w+i))=iop (w+i) (bO w (Ti++[q])) (λu=>dtp (cr cs Ti.length) ([]++u)):=rfl;rw[e2];omega
 have mi3:=mi2 (vs.getD i 0) (by
  rw[av,ak (by rw[←hV,ae];exact hiq)];exact aW _)
 rw[h7,sc,sv]
 split <;> omega
end
section
variable {w L b:Nat}{Ti:List (List (List Int))}{cs:List Nat}{p:Int}{q:List (List Int)}
theorem EW (W:∀v∈Ti,v.length=w):∀n,n<=Ti.length->n<=cs.length->(∀i,i<=n->mi (aZ w Ti p) cs i≠0)->Piv w Ti cs p n
 | 0,_,_,_=>λi hi=>by omega
 | n+1,hk,hc,h=>by
  have ih:=EW W n (by omega) (by omega) λi hi=>h i (by omega);have tb:=i3 W n (by omega) (by omega) ih;have hr:n<(aZ w Ti p).length:=by rw[ie];omega
  have hcn:n<cs.length:=by omega
  have ec:cs.getD n 0=cs[n]:=by rw[av,ak hcn];rfl
  intro i hi;by_cases z:i<n
  ·exact ih i z
  ·have e:i=n:=by omega
   subst e;have lx:(bD w (Ti.getD i []) i p).length=w+(w+1):=j7 (W _ (mem_getD (by omega)));have l3:=(ka W (by omega) (by omega) tb lx i (am _)).2.2 cs[i];rw[ec];have e2:co (eQ w Ti cs p i) cs[i]=mi (aZ w Ti p) cs (i+1):=by rw[jX hr hcn,i0 hr];exact l3
   rw[e2];exact h (i+1) (am _)
def mnP (w:Nat)(Ti:List (List (List Int)))(cs:List Nat)(i:Nat):List Int:=dtp (cr cs i) ((bO w Ti).take i)
theorem EX (W:∀v∈Ti,v.length=w)(hk:Ti.length<=w+1)(n:Int)(i:Nat):val n (mnP w Ti cs i)=mi (aZ w Ti n) cs i:=by
 unfold mnP mi;rw[qT,re,EQ W hk]
def prP (w:Nat)(Ti:List (List (List Int)))(cs:List Nat):Nat->List Int
 | 0=>[1]
 | i+1=>pdL (prP w Ti cs i) (mnP w Ti cs (i+1))
theorem places (W:∀v∈Ti,v.length=w)(nml:∀v∈Ti,∀f∈v,Nml f∧f.length<=L)(hk:Ti.length<=w)(hl:cs.length=Ti.length)(hcs:∀c∈cs,c<w)(pv:Piv w Ti cs p Ti.length):∃d:List Int,Nml d∧d≠[]∧d.length<=1+Ti.length*(Ti.length*(L-1))∧∀n:Int,val n d≠0->Piv w Ti cs n Ti.length:=by
 have tb:=i3 W _ (am _) (by omega) pv;have lrp:(bO w Ti).length=Ti.length:=by unfold bO;rw[ae,ik]
 have ml:∀i,i<=Ti.length->(mnP w Ti cs i).length<=Ti.length*(L-1)+1:=λi hi=>by
  have:=qU (λ_=>L-1) (cr cs i) ((bO w Ti).take i) λr hr c hc=>by
   have hr':=fU hr;unfold bO at hr';obtain⟨t,ht,rfl⟩:=aT.mp hr';have ht':=dh.mp ht;have hcw:c<w:=by
    unfold cr at hc;exact hcs c (fU (rC.mp hc))
   unfold cW;rw[if_pos hcw];have hm:=mem_getD (d:=([]:List (List Int))) ht';have:=nml _ hm _ (mem_getD (d:=([]:List Int)) (show c<(Ti.getD t []).length by rw[W _ hm];exact hcw));exact⟨this.1,by omega⟩
  have e:(mj (λ_:Nat=>L-1) (cr cs i)).sum<=Ti.length*(L-1):=by
   have:∀xs:List Nat,(xs.map λ_=>L-1).sum=xs.length*(L-1):=λxs=>by
    induction xs with
    | nil=>simp
    | cons x xs ih=>rw[c_,jE,ih,bX,iL,fR];omega
   rw[this];refine dE _ ?_;unfold cr;rw[mC,bT];omega
  unfold mnP;omega
 have mne:∀i,i<=Ti.length->mnP w Ti cs i≠[]:=λi hi z=>tb.1 i hi (by rw[←EX W (by omega),z];rfl);have key:∀i,i<=Ti.length->Nml (prP w Ti cs i)∧prP w Ti cs i≠[]∧(prP w Ti cs i).length<=1+i*(Ti.length*(L-1))∧∀n:Int,val n (prP w Ti cs i)≠0->∀l,l<=i->mi (aZ w Ti n) cs l≠0:=λi=>by
  induction i with
  | zero=>intro _;exact⟨hE (by decide),by simp[prP],by simp[prP],λn _ l hl=>by rw[show l=0 by omega,wB];decide⟩
  | succ i ih=>
   intro hi;obtain⟨h1,h2,h3,h4⟩:=ih (by omega);have nm:=ib (cr cs (i+1)) ((bO w Ti).take (i+1));refine⟨cK _ _,iY h1 nm h2 (mne _ hi),?_,λn hn l hl=>?_⟩
   ·have:=j5 h1 nm;have:=ml (i+1) hi;unfold mnP at this;show (pdL (prP w Ti cs i) (mnP w Ti cs (i+1))).length<=_;unfold mnP;rw[iL,fR];omega
   ·have e:val n (prP w Ti cs (i+1))=val n (prP w Ti cs i)*val n (mnP w Ti cs (i+1)):=be _ _ _;rw[e]at hn;by_cases z:l<=i
    ·exact h4 n (λy=>hn (by rw[y];simp)) l z
    ·rw[show l=i+1 by omega,←EX W (by omega)];exact λy=>hn (by rw[y];simp)
 obtain⟨h1,h2,h3,h4⟩:=key Ti.length (am _);exact⟨_,h1,h2,h3,λn hn=>EW W _ (am _) (by omega) (h4 n hn)⟩
theorem EY (W:∀v∈Ti,v.length=w)(hk:Ti.length<=w+1)(hl:cs.length=Ti.length)(pv:Piv w Ti cs p Ti.length){ms:List Int}(lm:ms.length=Ti.length)(hz:∀c∈cs,dot ms (aZ w Ti p) c=0):∀m∈ms,m=0:=by
 have tb:=i3 W _ (am _) (by omega) pv;have lr:=ie (w:=w) (Ti:=Ti) (p:=p);have tl:(aZ w Ti p).take Ti.length=aZ w Ti p:=d_ (by rw[lr];exact am _);have all:=wC (rs:=aZ w Ti p) (cs:=cs) Ti.length (by omega) (by omega) tb.1 ms (by rw[tl];omega) λl h _=>by rw[tl];exact hz _ (aW h)
 rw[tl]at all;have dl:∀(ms:List Int) (s:Nat) (R:List Rw),ms.length=R.length->(∀i (h:i<R.length) j',j'<=w->R[i] (w+j')=if j'=s+i then 1 else 0)->s+ms.length<=w+1->(∀j,dot ms R j=0)->∀m∈ms,m=0:=λms=>by
  induction ms with
  | nil=>intro _ _ _ _ _ _ m hm;simp at hm
  | cons m ms ih=>
   intro s R hl' hR hs hz m' hm'
   cases R with
   | nil=>simp at hl'
   | cons r R=>
    simp only[bX]at hs hl';have tail:∀i (h:i<R.length) j',j'<=w->R[i] (w+j')=if j'=s+1+i then 1 else 0:=λi h j' hj'=>by
     have:=hR (i+1) (by simp;omega) j' hj';simp only[GK]at this;rw[this,show s+(i+1)=s+1+i by omega]
    have m0:m=0:=by
     have h1:=hz (w+s);have hr:=hR 0 (by simp) s (by omega);simp only[GJ,Nat.add_zero]at hr;rw[dot,hr,j_ _ _ λr hr=>by
      obtain⟨l,hl2,rfl⟩:=cU.mp hr;rw[tail l hl2 s (by omega),if_neg (by omega)]]at h1
     simpa using h1
    rcases aO.mp hm' with z|z
    ·rw[z];exact m0
    ·refine ih (s+1) R (by omega) tail (by omega) (λj=>?_) m' z;have:=hz j;rw[dot,m0]at this;omega
 refine dl ms 0 (aZ w Ti p) (by omega) (λi h j' hj'=>?_) (by omega) all;rw[i0 h,x9];exact jx (W _ (mem_getD (by rw[lr]at h;exact h))) hj'
end
def ds:List Int->List Int->Int
 | a :: as,b :: bs=>a*b+ds as bs
 | _,_=>0
theorem EZ:∀(ms:List Int) (R:List Rw) (j:Nat),dot ms R j=ds ms (R.map λr=>r j)
 | [],R,_=>by cases R <;> rfl
 | m :: ms,[],_=>rfl
 | m :: ms,r :: R,j=>by rw[dot,c_,ds,EZ ms R j]
def cf:List Nat->List Int->Nat->Int
 | i :: S,m :: ms,x=>(if x=i then m else 0)+cf S ms x
 | _,_,_=>0
theorem qV:∀(S:List Nat) (ms:List Int) (x:Nat),x∉S->cf S ms x=0
 | [],_,_,_=>by simp[cf]
 | i :: S,[],_,_=>by simp[cf]
 | i :: S,m :: ms,x,h=>by
  rw[cf,if_neg (λz=>h (by rw[z];exact cD)),qV S ms x λz=>h (bM _ z)];rfl
theorem E1:∀(S:List Nat) (ms:List Int),S.Nodup->S.length=ms.length->∀t (h:t<S.length) (h2:t<ms.length),cf S ms S[t]=ms[t]
 | [],_,_,_,t,h,_=>by simp at h
 | i :: S,[],_,hl,_,_,_=>by simp at hl
 | i :: S,m :: ms,nd,hl,t,h,h2=>by
  rw[iI]at nd
  cases t with
  | zero=>
   simp only[GJ];rw[cf,if_pos rfl,qV S ms i nd.1];simp
  | succ t=>
   simp only[GK];have ht:t<S.length:=by simpa using h
   have:S[t]≠i:=λz=>nd.1 (by rw[←z];exact aW _);rw[cf,if_neg this,E1 S ms nd.2 (by simpa using hl) t (by simpa using h) (by simpa using h2)];simp
theorem E2 {k i:Nat}(h:i<k)(f:Nat->Int):ay k (λx=>if x=i then f x else 0)=f i:=by
 rw[qm h λj hj hne=>by rw[if_neg hne],if_pos rfl]
theorem E3 {k:Nat}(F:Nat->Int):∀(S:List Nat) (ms:List Int),S.length=ms.length->(∀i∈S,i<k)->ds ms (S.map F)=ay k λx=>cf S ms x*F x
 | [],[],_,_=>by
  show (0:Int)=_;rw[fQ λj _=>by simp[cf]]
 | [],_ :: _,h,_=>by simp at h
 | _ :: _,[],h,_=>by simp at h
 | i :: S,m :: ms,h,hS=>by
  have ih:=E3 F S ms (by simpa using h) λx hx=>hS x (bM _ hx);have e:ay k (λx=>cf (i :: S) (m :: ms) x*F x)=ay k (λx=>if x=i then m*F x else 0)+ay k λx=>cf S ms x*F x:=by
   rw[←kP];exact cY λx _=>by rw[cf];split <;> grind
  rw[c_,ds,ih,e,E2 (hS i cD)]
theorem Nh {p q g U W:List Int}{m:Int}{G:Nat}(np:Nml p)(nq:Nml q)(ng:Nml g)(p0:p≠[])(q0:q≠[])(g0:g≠[])(lA:(pdL p g).length<=40)(lB:(pdL q g).length<=40)(lg:g.length<=40)(bA:∀z∈pdL p g,Bd 5000 z)(bB:∀z∈pdL q g,Bd 5000 z)(hm:m≠0)(hb:∀n,val n U*val n p+val n W*val n q=m)(bg:∀z∈g,m.natAbs*z.natAbs<=G)(bG:Bd 4480 (G:Int)):gM (pdL p g) (pdL q g) (cx (pdL [((af (p++q):Nat):Int)] g)):=by
 obtain⟨c1,c2,A0,B0,tw,er⟩:=Mu np nq ng (cK p g) (cK q g) p0 q0 g0 lA lB lg bA bB bg hm bG hb (λn=>be n p g) (λn=>be n q g);refine .inr (.inr ⟨A0,B0,c1,c2,bA,bB,_,_,tw,?_⟩);rw[er];have c0:((af (p++q):Nat):Int)≠0:=by
  have h1:=gL np p0;have h2:af (p++q)∣af p:=iF _ _ λx hx=>fK _ x (by simp[hx]);intro z;have hz:af (p++q)=0:=by omega
  rw[hz]at h2;have:=xN h2;omega
 congr 1;exact dZ (cK _ _) (j8 c0 ng) λn=>by rw[be,bL];simp[val]
theorem E4 {B k b:Nat}(h:B<=2 ^ b):B ^ k<=2 ^ (b*k):=by rw[mE];exact mB h k
theorem E5 (qs:List (List (List Int)))(ws:List (List Int))(c:Nat):∀n,Nml (dz qs ws c n)
 | 0=>b8
 | n+1=>DY _ _
theorem lI (qs:List (List (List Int)))(ws:List (List Int))(c:Nat)(n:Int):∀k,val n (dz qs ws c k)=ay k λt=>val n ((qs.getD t []).getD c [])*val n (ws.getD t [])
 | 0=>rfl
 | k+1=>by
  rw[dz,DX,DW,lI qs ws c n k];rfl
theorem E6 (F G:Nat->Int):∀m,ds ((a8 m).map F) ((a8 m).map G)=ay m λt=>F t*G t:=λm=>by
 have ap:∀(as bs cs' ds':List Int),as.length=bs.length->ds (as++cs') (bs++ds')=ds as bs+ds cs' ds':=λas=>by
  induction as with
  | nil=>intro bs cs' ds' hl;cases bs with
   | nil=>simp[ds]
   | cons=>simp at hl
  | cons a as ih=>intro bs cs' ds' hl;cases bs with
   | nil=>simp at hl
   | cons b bs=>simp only[jB,ds];rw[ih bs cs' ds' (by simpa using hl)];omega
 induction m with
 | zero=>rfl
 | succ m ih=>
  rw[kz,aQ,aQ,ap _ _ _ _ (by simp),ih];simp[ds,ay]
theorem E7 {n:Nat}{few:List Nat}{ws:List (List Int)}(fp:few.Pairwise (· < ·))(fk:∀i∈few,i<n):∀m,m<=few.length->(∀l (h:l<few.length),l<m->(spw n few ws m)[few[l]]?=some (ws.getD l []))∧(∀i,i<n->i∉few.take m->(spw n few ws m)[i]?=some [])∧(spw n few ws m)[n]?=some (ws.getD few.length [])
 | 0,_=>by
  refine⟨λl h hl=>by omega,λi hi _=>?_,?_⟩
  ·rw[spw,b_ (by simpa using hi),iJ,if_pos hi]
  ·rw[spw,di (by simp),lN,fT];rfl
 | m+1,hm=>by
  obtain⟨h1,h2,h3⟩:=E7 (ws:=ws) fp fk m (by omega);have hmf:m<few.length:=by omega
  have ef:few.getD m 0=few[m]:=by rw[av,ak hmf];rfl
  have fm:=fk _ (aW hmf);have ll:=iH n few ws m;rw[spw,ef];refine⟨λl h hl=>?_,λi hi hn=>?_,?_⟩
  ·by_cases z:l=m
   ·subst z;rw[qZ (by omega)]
   ·have:few[l]<few[m]:=jz.mp fp l m h hmf (by omega);rw[lK (by omega)];exact h1 l h (by omega)
  ·rw[cM,ak hmf]at hn;simp only[Option.toList_some,aK,aP,not_or]at hn;rw[lK (λz=>hn.2 z.symm)];exact h2 i hi hn.1
  ·rw[lK (by omega)];exact h3
def syn (x:Int):List Int->List Int
 | []=>[]
 | _ :: e=>bK e ((syn x e).map λz=>x*z)
theorem xk:∀(xs ys:List Int),ys.length<=xs.length->(bK xs ys).length=xs.length
 | [],[],_=>rfl
 | [],_ :: _,h=>by simp at h
 | x :: xs,[],_=>by simp[bK]
 | x :: xs,y :: ys,h=>by simp only[bK,bX];rw[xk xs ys (by simpa using h)]
theorem E8 (x:Int):∀e:List Int,(syn x e).length<=e.length
 | []=>am _
 | a :: e=>by
  rw[syn,xk _ _ (by rw[ae];exact E8 x e),bX];omega
theorem Ni (x a:Int)(e:List Int):(syn x (a :: e)).length=e.length:=by
 rw[syn,xk _ _ (by rw[ae];exact E8 x e)]
theorem E9 (x n:Int):∀e:List Int,val n e=val x e+(n-x)*val n (syn x e)
 | []=>by simp[val,syn]
 | a :: e=>by
  have ih:=E9 x n e;rw[syn,fI,bL];simp only[val];grind
theorem E_ (x:Int):∀(e:List Int) (a:Int) (j:Nat),co (syn x (a :: e)) (j+1)=co (syn x e) j
 | [],a,j=>by simp[syn,bK,co]
 | b :: e,a,j=>by
  have ih:=E_ x e b j;rw[syn,fJ,fh,ih,syn,fJ,fh];rfl
theorem Fc (x:Int):∀(e:List Int) (a:Int),co (syn x (a :: e)) 0=val x e
 | [],a=>by simp[syn,bK,co,val]
 | b :: e,a=>by
  have ih:=Fc x e b;rw[syn,fJ,fh,ih];rfl
theorem Fd (X:Nat):∀(d:Nat) (e xs:List Int) (M:Nat),e.length<=d+1->xs.length=d+1->xs.Nodup->(∀x∈xs,x.natAbs<=X)->(∀x∈xs,(val x e).natAbs<=M)->∀j,(co e j).natAbs<=M*(2*X+3) ^ d
 | d,[],xs,M,_,_,_,_,_,j=>by rw[aw (by simp)];simp
 | 0,a :: e,xs,M,he,hl,_,_,hm,j=>by
  have e0:e=[]:=bE (by simpa using he);subst e0;obtain⟨x,rfl⟩:=GH.mp hl;have:=hm x (by simp);simp[val]at this
  cases j with
  | zero=>simpa [co] using this
  | succ j=>rw[aw (by simp)];simp
 | d+1,a :: e,xs,M,he,hl,nd,hx,hm,j=>by
  cases xs with
  | nil=>simp at hl
  | cons x xs=>
   rw[iI]at nd;have hx0:=hx x cD;have hm0:=hm x cD;have ih:=Fd X d (syn x (a :: e)) xs (2*M) (by rw[Ni];simpa using he) (by simpa using hl) nd.2 (λy hy=>hx y (bM _ hy)) λy hy=>by
    have h1:=E9 x y (a :: e);have h2:=hm y (bM _ hy);have hne:y-x≠0:=λz=>nd.1 (by rw[show x=y by omega];exact hy);have h3:((y-x)*val y (syn x (a :: e))).natAbs<=2*M:=by
     rw[show (y-x)*val y (syn x (a :: e))=val y (a :: e)-val x (a :: e) by omega,Nat.two_mul];exact aE (km _ _) (l_ h2 hm0)
    rw[b4]at h3;exact aE (gv _ (by omega)) h3
   generalize hT:2*M*(2*X+3) ^ d=T at ih;have tot:T+X*T+M<=M*(2*X+3) ^ (d+1):=by
    have p1:M<=M*(2*X+3) ^ d:=ig _ (Nat.pow_pos (by omega));rw[i7,←ij,←hT];have e2:2*M*(2*X+3) ^ d=2*(M*(2*X+3) ^ d):=by rw[ij]
    rw[e2];clear e2 hT ih;generalize M*(2*X+3) ^ d=Y at *;grind
   have mulb:∀z:Int,z.natAbs<=T->(x*z).natAbs<=X*T:=λz hz=>by rw[b4];exact d8 hx0 hz
   cases j with
   | zero=>
    have h1:co (a :: e) 0=val x (a :: e)-x*co (syn x (a :: e)) 0:=by rw[Fc];simp[co,val]
    have h2:=mulb _ (ih 0);rw[h1];refine aE (aE (km _ _) (l_ hm0 h2)) (aE ?_ tot);rw[lQ];exact GI (Nat.le_add_left _ _) _
   | succ j=>
    have h1:co (a :: e) (j+1)=co (syn x (a :: e)) j-x*co (syn x (a :: e)) (j+1):=by
     rw[E_,syn,fJ,fh];have:co (a :: e) (j+1)=co e j:=rfl;omega
    have h2:=mulb _ (ih (j+1));have h3:=ih j;rw[h1];exact aE (aE (km _ _) (l_ h3 h2)) (aE (Nat.le_add_right _ _) tot)
theorem Nj {f:List Int}(nf:Nml f)(f0:f≠[]){D:Nat}(hl:f.length<=D+1):∃xs:List Int,xs.length=D+1∧xs.Nodup∧(∀x∈xs,x.natAbs<=2*D)∧∀x∈xs,val x f≠0:=by
 obtain⟨R,hR⟩:∃R,R=(a8 (2*D+1)).map λn:Nat=>(n:Int):=⟨_,rfl⟩
 have ndR:R.Nodup:=by
  rw[hR];refine List.pairwise_map.mpr (List.nodup_range.imp λh z=>h (by omega))
 have bR:∀x∈R,x.natAbs<=2*D:=λx hx=>by
  rw[hR]at hx;obtain⟨n,hn,rfl⟩:=aT.mp hx;have:=dh.mp hn;omega
 have lb:(R.filter λx=>val x f == 0).length<=D:=by
  refine lU λh=>f0 (wZ nf (ndR.filter _) (aE hl h) λp hp=>?_);exact beq_iff_eq.mp (jy.mp hp).2
 have lt:(R.filter λx=>val x f == 0).length+(R.filter λx=>!(val x f == 0)).length=R.length:=by
  rw[←Ot,←Ot];have:=List.length_eq_countP_add_countP (λx=>val x f == 0) (l:=R);rw[this];congr 1;exact List.countP_congr λx _=>by simp
 have lR:R.length=2*D+1:=by rw[hR];simp
 refine⟨(R.filter λx=>!(val x f == 0)).take (D+1),by rw[bT];omega,(ndR.filter _).sublist (Go _ _),λx hx=>bR x (jy.mp (fU hx)).1,λx hx=>?_⟩;have:=(jy.mp (fU hx)).2
 simpa using this
theorem Fe {e t f:List Int}(ne:Nml e)(nf:Nml f)(f0:f≠[]){D b:Nat}(hD:D<=15)(lf:f.length<=D+1)(le:e.length<=D+1)(bf:∀z∈f,Bd b z)(h:∀n,val n f=val n e*val n t):∀z∈e,Bd (b+12*D+7) z:=by
 obtain⟨xs,x1,x2,x3,x4⟩:=Nj nf f0 lf;have key:=Fd (2*D) D e xs (2 ^ (b+6*(D+1))) le x1 x2 x3 λx hx=>by
  have h1:=jv (k:=b) (l:=5) (n:=x) (Bd.of_lt (m:=31) (by have:=x3 x hx;omega) (by decide)) f bf;have h2:Bd (b+6*(D+1)) (val x f):=h1.mono (Oq (dC _ lf) _);have h3:(val x f).natAbs<2 ^ (b+6*(D+1)):=h2;have h4:=h x;have t0:val x t≠0:=λz=>x4 x hx (by rw[h4,z];simp);rw[h4,b4]at h3;exact bW (cE (ig _ (by omega)) h3)
 refine dY λj=>?_;show (co e j).natAbs<2 ^ (b+12*D+7);refine cE (key j) ?_;have p1:(2*(2*D)+3) ^ D<=2 ^ (6*D):=by rw[mE];exact mB (by omega) _
 refine cE (dC _ p1) ?_;rw[←de];exact mr (by decide) (by omega)
theorem Fg {a:List Int}{c:Nat}(hc:0<c)(na:Nml a)(h:∀x∈a,(c:Int)∣x):∃a1:List Int,Nml a1∧(∀n,val n a=(c:Int)*val n a1)∧∀j,co a j=(c:Int)*co a1 j:=by
 have e:(a.map λx=>x / (c:Int)).map (λz=>(c:Int)*z)=a:=by
  rw[gu]
  conv=>rhs;rw[←List.map_id a]
  exact gx λx hx=>rp (h x hx)
 refine⟨a.map λx=>x / (c:Int),en.mpr λz hz z0=>?_,λn=>?_,λj=>?_⟩
 ·rw[xY]at hz;obtain⟨y,hy,rfl⟩:=b6.mp hz;refine en.mp na y hy ?_;have:=rp (h y (Os hy));rw[z0]at this;omega
 ·conv=>lhs;rw[←e]
  rw[bL]
 ·conv=>lhs;rw[←e]
  rw[fh]
theorem Nk {p q:List Int}{D bp bq:Nat}(np:Nml p)(nq:Nml q)(p0:p≠[])(q0:q≠[])(lp:p.length<=D+1)(lq:q.length<=D+1)(hD:D<=15)(bP:∀z∈p,Bd bp z)(bQ:∀z∈q,Bd bq z)(big:5*(2*D+1)+bp*D+bq*D+bp+bq+1<=4480):
  ∃R a b:List Int,gM p q R∧Nml R∧R≠[]∧0<co R (R.length-1)∧Nml a∧Nml b∧(∀n,val n p=val n R*val n a)∧(∀n,val n q=val n R*val n b)∧∀s:Nat,Prm s->(∀j,(s:Int)∣co a j)->(∀j,(s:Int)∣co b j)->False:=by
 obtain⟨g,a,b,U,W,m,G⟩:=EK _ p q (am _) np nq (.inl p0);have a0:a≠[]:=λz=>p0 (by rw[G.pa,z,iZ]);have b0:b≠[]:=λz=>q0 (by rw[G.qb,z,iZ]);have la:=(gk G.na G.ng a0 G.g0).1;have lb:=(gk G.nb G.ng b0 G.g0).1;rw[←G.pa]at la;rw[←G.qb]at lb;have lg0:g.length≠0:=λz=>G.g0 (bE z);have la0:a.length≠0:=λz=>a0 (bE z);have lb0:b.length≠0:=λz=>b0 (bE z);obtain⟨U',W',m',m0,bz,gb⟩:=MY G p0 q0 (Bp:=2 ^ bp) (Bq:=2 ^ bq) (N:=D+D) (k1:=D) (n1:=D) (λz hz=>bW (bP z hz)) (λz hz=>bW (bQ z hz)) (dj _) (dj _) (by omega) (by omega) rfl;have vp:∀n,val n p=val n a*val n g:=λn=>by rw[G.pa,be]
 have vq:∀n,val n q=val n b*val n g:=λn=>by rw[G.qb,be]
 have bez:∀n,val n U'*val n a+val n W'*val n b=m':=by
  obtain⟨F,hF⟩:∃F,F=dN (dN (pdL U' a) (pdL W' b)) [-m']:=⟨_,rfl⟩
  have vF:∀n,val n F=val n U'*val n a+val n W'*val n b-m':=λn=>by rw[hF,qS,qS,be,be];simp[val];omega
  have F0:F=[]:=by
   by_cases z:F=[]
   ·exact z
   ·refine absurd (dZ (cK _ _) b8 λn=>?_) (iY (by rw[hF];exact lC _ _) G.ng z G.g0);rw[be,vF n];show _=0;have h1:=bz n;rw[vp,vq]at h1;grind
  intro n;have:=vF n;rw[F0]at this;have e:val n []=0:=rfl;omega
 obtain⟨K,hK⟩:∃K,K=5*(2*D+1)+bp*D+bq*D+bp+bq:=⟨_,rfl⟩
 have gK:∀z∈g,m'.natAbs*z.natAbs<=2 ^ K:=λz hz=>by
  refine aE (gb z hz) ?_;have e1:(D+D+1) ^ (D+D+1)<=2 ^ (5*(2*D+1)):=by
   rw[mE,show D+D+1=2*D+1 by omega];exact mB (by omega) _
  have e2:=E4 (B:=2 ^ bp) (k:=D) (am _);have e3:=E4 (B:=2 ^ bq) (k:=D) (am _);have e4:2 ^ bp*2 ^ bq=2 ^ (bp+bq):=(de _ _ _).symm;rw[e4];refine aE (d8 e1 (d8 e2 (d8 e3 (am _)))) (xC ?_);rw[←de,←de,←de,hK];congr 1;omega
 have big2:bp<=5000∧bq<=5000:=by omega
 have ci:=Nh (G:=2 ^ K) G.na G.nb G.ng a0 b0 G.g0 (by rw[←G.pa];omega) (by rw[←G.qb];omega) (by omega) (λz hz=>(bP z (by rw[G.pa];exact hz)).mono big2.1) (λz hz=>(bQ z (by rw[G.qb];exact hz)).mono big2.2) m0 bez gK (by
  show (((2 ^ K:Nat):Int)).natAbs<2 ^ 4480;rw[df];exact mr (by decide) (by omega))
 rw[←G.pa,←G.qb]at ci;have cp:0<af (a++b):=by
  have h1:=gL G.na a0;have h2:af (a++b)∣af a:=iF _ _ λx hx=>fK _ x (by simp[hx]);exact Nat.pos_of_dvd_of_pos h2 h1
 generalize hc:af (a++b)=c at ci cp;have dva:∀x∈a,(c:Int)∣x:=λx hx=>by rw[←hc];exact fK _ x (by simp[hx])
 have dvb:∀x∈b,(c:Int)∣x:=λx hx=>by rw[←hc];exact fK _ x (by simp[hx])
 obtain⟨a1,na1,va1,ca1⟩:=Fg cp G.na dva;obtain⟨b1,nb1,vb1,cb1⟩:=Fg cp G.nb dvb;have nc:Nml [(c:Int)]:=hE (by omega);have c0:[(c:Int)]≠[]:=by simp
 obtain⟨ε,hε,hv⟩:=Ev (pdL [(c:Int)] g);have ε0:ε≠0:=by rcases hε with rfl|rfl <;> decide
 have εε:ε * ε=1:=by rcases hε with rfl|rfl <;> rfl
 have gR:=iY nc G.ng c0 G.g0;refine⟨_,a1.map λz=>ε * z,b1.map λz=>ε * z,ci,wY (cK _ _),Ew gR,j4 (cK _ _) gR,j8 ε0 na1,j8 ε0 nb1,λn=>?_,λn=>?_,λs hs h1 h2=>?_⟩
 ·rw[hv,be,bL,vp,va1];have:val n [(c:Int)]=c:=by simp[val]
  rw[this];grind
 ·rw[hv,be,bL,vq,vb1];have:val n [(c:Int)]=c:=by simp[val]
  rw[this];grind
 ·have un:∀{z:Int},(s:Int)∣ε * z->(s:Int)∣z:=λ{z} h=>by
   obtain⟨y,hy⟩:=h;have h1:z=ε * (ε * z):=by rw[←dm,εε,fu]
   exact⟨ε * y,by rw[h1,hy];grind⟩
  have h3:s*c∣af (a++b):=iF _ _ λx hx=>by
   have:∃j,(s:Int)∣co a1 j∧x=(c:Int)*co a1 j∨(s:Int)∣co b1 j∧x=(c:Int)*co b1 j:=by
    rcases aK.mp hx with z|z
    ·obtain⟨j,hj,rfl⟩:=cU.mp z;exact⟨j,.inl ⟨un (by rw[←fh];exact h1 j),by rw[←ca1,ax hj]⟩⟩
    ·obtain⟨j,hj,rfl⟩:=cU.mp z;exact⟨j,.inr ⟨un (by rw[←fh];exact h2 j),by rw[←cb1,ax hj]⟩⟩
   obtain⟨j,⟨⟨y,hy⟩,e⟩|⟨⟨y,hy⟩,e⟩⟩:=this
   ·exact⟨y,by rw[e,hy,ga];grind⟩
   ·exact⟨y,by rw[e,hy,ga];grind⟩
  rw[hc]at h3;have h4:=lZ cp h3;have:=hs.1;have:=dE c (show 2<=s by omega);omega
theorem Fh {gs:List (List Int)}{D b:Nat}(hD:D<=15)(hg:∀g∈gs,Nml g∧g.length<=D+1∧∀z∈g,Bd b z)(big:5*(2*D+1)+(b+12*D+7)*D+b*D+(b+12*D+7)+b+1<=4480):∀m,m<=gs.length->
  ∃f:Nat->List Int,f 0=[]∧(∀i,(f i).length<=D+1)∧(∀i r,i<m->gs[i]?=some r->gM (f i) r (f (i+1)))∧Nml (f m)∧(f m=[]->∀i r,i<m->gs[i]?=some r->r=[])∧
  (f m≠[]->0<co (f m) ((f m).length-1)∧(∀z∈f m,Bd (b+12*D+7) z)∧∃us:List (List Int),us.length=m∧(∀u∈us,Nml u)∧(∀(i:Nat) (r u:List Int),gs[i]?=some r->us[i]?=some u->∀n,val n r=val n (f m)*val n u)∧∀s:Nat,Prm s->(∀u∈us,∀j,(s:Int)∣co u j)->False)
 | 0,_=>⟨λ_=>[],rfl,λ_=>aI _,λi r h=>by omega,b8,λ_ i r h=>by omega,λh=>absurd rfl h⟩
 | m+1,hm=>by
  obtain⟨f,f0,fl,fs,nf,fz,fn⟩:=Fh hD hg big m (by omega);have er:gs[m]?=some gs[m]:=ak (by omega);generalize gs[m]=r at er;obtain⟨nr,lr,br⟩:=hg r (bH er);have ext:∀R:List Int,R.length<=D+1->gM (f m) r R->Nml R->(R=[]->f m=[]∧r=[])->(R≠[]->0<co R (R.length-1)∧(∀z∈R,Bd (b+12*D+7) z)∧∃us:List (List Int),us.length=m+1∧(∀u∈us,Nml u)∧(∀(i:Nat) (r u:List Int),gs[i]?=some r->us[i]?=some u->∀n,val n r=val n R*val n u)∧∀s:Nat,Prm s->(∀u∈us,∀j,(s:Int)∣co u j)->False)->∃f:Nat->List Int,f 0=[]∧(∀i,(f i).length<=D+1)∧(∀i r,i<m+1->gs[i]?=some r->gM (f i) r (f (i+1)))∧Nml (f (m+1))∧(f (m+1)=[]->∀i r,i<m+1->gs[i]?=some r->r=[])∧
    (f (m+1)≠[]->0<co (f (m+1)) ((f (m+1)).length-1)∧(∀z∈f (m+1),Bd (b+12*D+7) z)∧∃us:List (List Int),us.length=m+1∧(∀u∈us,Nml u)∧(∀(i:Nat) (r u:List Int),gs[i]?=some r->us[i]?=some u->∀n,val n r=val n (f (m+1))*val n u)∧∀s:Nat,Prm s->(∀u∈us,∀j,(s:Int)∣co u j)->False):=λR lR cR nR zR hR=>by
   have e1:(λi=>if i<=m then f i else R) (m+1)=R:=if_neg (by omega);refine⟨λi=>if i<=m then f i else R,by simp[f0],λi=>?_,λi r' hi hr=>?_,by rw[e1];exact nR,λhz i r' hi hr=>?_,λhne=>?_⟩
   ·dsimp only;split
    ·exact fl i
    ·exact lR
   ·dsimp only;rw[if_pos (by omega)];by_cases z:i<m
    ·rw[if_pos (by omega)];exact fs i r' z hr
    ·have e:i=m:=by omega
     subst e;rw[er]at hr;cases hr;rw[if_neg (by omega)];exact cR
   ·rw[e1]at hz;obtain⟨z1,z2⟩:=zR hz;by_cases z:i<m
    ·exact fz z1 i r' z hr
    ·have e:i=m:=by omega
     subst e;rw[er]at hr;cases hr;exact z2
   ·rw[e1]at hne ⊢;exact hR hne
  by_cases z1:f m=[]
  ·-- nothing so far
   obtain⟨ε,hε,hv⟩:=Ev r;have ε0:ε≠0:=by rcases hε with rfl|rfl <;> decide
   have εε:ε * ε=1:=by rcases hε with rfl|rfl <;> rfl
   refine ext (cx r) (by rw[j3];exact lr) (.inl ⟨z1,rfl⟩) (wY nr) (λz=>⟨z1,?_⟩) λhne=>?_
   ·by_cases y:r=[]
    ·exact y
    ·exact absurd z (Ew y)
   ·have r0:r≠[]:=λy=>hne (by rw[y];rfl);refine⟨j4 nr r0,λz hz=>?_,aC m []++[[ε]],by simp,λu hu=>?_,λi r' u hr hu n=>?_,λs hs h=>?_⟩
    ·obtain⟨ε',hε',hc⟩:=qN r;refine (dY (xs:=cx r) (P:=λz=>Bd b z) (λj=>?_) z hz).mono (by omega);rw[hc];have:=dX (P:=λz=>Bd b z) br (Bd.zero _) j;rcases hε' with rfl|rfl
     ·rw[fu];exact this
     ·rw[show (-1:Int)*co r j=- co r j by omega];exact this.neg
    ·rcases aK.mp hu with y|y
     ·rw[Ou y];exact b8
     ·rw[aP.mp y];exact hE ε0
    ·by_cases y:i<m
     ·rw[b_ (by simpa using y),iJ,if_pos y]at hu
      cases hu
      rw[fz z1 i r' y hr];simp[val]
     ·have hi:=(aV.mp hu).1;have e:i=m:=by simp at hi;omega
      subst e;rw[er]at hr;cases hr;rw[di (by simp)]at hu;simp at hu;subst hu;rw[hv];have:val n [ε]=ε:=by simp[val]
      rw[this];grind
    ·have:=h [ε] (by simp) 0;have e:co [ε] 0=ε:=rfl;rw[e]at this;have h2:(s:Int).natAbs∣ε.natAbs:=lY.mpr this;have h3:ε.natAbs=1:=by rcases hε with rfl|rfl <;> rfl
     rw[h3,df]at h2;have:=Nat.dvd_one.mp h2;have:=hs.1;omega
  ·obtain⟨g1,g2,us,u1,u2,u3,u4⟩:=fn z1;by_cases z2:r=[]
   ·have eu:cx (f m)=f m:=by unfold cx;rw[if_neg λh=>by omega]
    refine ext (f m) (fl m) (.inr (.inl ⟨z1,z2,eu.symm⟩)) nf (λz=>absurd z z1) λ_=>⟨g1,g2,us++[[]],by simp[u1],λu hu=>?_,λi r' u hr hu n=>?_,λs hs h=>u4 s hs λu hu=>h u (gl _ hu)⟩
    ·rcases aK.mp hu with y|y
     ·exact u2 u y
     ·rw[aP.mp y];exact b8
    ·by_cases y:i<m
     ·rw[b_ (by omega)]at hu;exact u3 i r' u hr hu n
     ·have hi:=(aV.mp hu).1;have e:i=m:=by simp at hi;omega
      subst e;rw[er]at hr;cases hr;rw[di (by omega),u1,fT]at hu;simp at hu;subst hu;rw[z2];simp[val]
   ·obtain⟨R,a,c,ci,nR,R0,tR,na,nc,va,vc,hp⟩:=Nk nf nr z1 z2 (fl m) lr hD g2 br big;have c0:c≠[]:=λz=>z2 (dZ nr b8 λn=>by rw[vc,z];simp[val]);have lR:R.length<=D+1:=by
     have h1:=(gk nR nc R0 c0).1;have h2:pdL R c=r:=dZ (cK _ _) nr λn=>by rw[be,vc]
     rw[h2]at h1;have:c.length≠0:=λz=>c0 (bE z);omega
    refine ext R lR ci nR (λz=>absurd z R0) λ_=>⟨tR,Fe nR nr z2 hD lr lR br vc,us.map (pdL a)++[c],by simp[u1],λu hu=>?_,λi r' u hr hu n=>?_,λs hs h=>?_⟩
    ·rcases aK.mp hu with y|y
     ·obtain⟨v,_,rfl⟩:=aT.mp y;exact cK _ _
     ·rw[aP.mp y];exact nc
    ·by_cases y:i<m
     ·rw[b_ (by simp;omega),az]at hu;obtain⟨v,hv,rfl⟩:=b6.mp hu;rw[be,u3 i r' v hr hv n,va];grind
     ·have hi:=(aV.mp hu).1;have e:i=m:=by simp at hi;omega
      subst e;rw[er]at hr;cases hr;rw[di (by simp[u1])]at hu;simp[u1]at hu;subst hu;exact vc n
    ·by_cases y:∀j,(s:Int)∣co a j
     ·exact hp s hs y (h c (by simp))
     ·refine u4 s hs λu hu=>?_;rcases qr hs (f:=co a) (g:=co u) λk=>by rw[←jw];exact h (pdL a u) (gl _ (aT.mpr ⟨u,hu,rfl⟩)) k with z|z
      ·exact absurd z y
      ·exact z
structure PG (w L e b l B D β:Nat):Prop where
 w5:w<=5
 L1:1<=L
 Ll:L+e<=2 ^ l
 L40:L+e<=40
 b0:0<b
 b1:(b+10*(L+e)+3)*7+1<=4000
 b2:b<=1000
 b3:(w+2)*(2*B+2)<=900
 pl:97+B*(w+1)<512
 D15:D<=15
 dD:w*(L-1)+e<=D
 d60:w*(L+e-1)<60
 bb:(3+l+b)*w+3 < β
 big:5*(2*D+1)+(β+12*D+7)*D+β * D+(β+12*D+7)+β+1<=4480
 pls:w*(w*(L-1))+w*(L+e-1)<B
section
variable {w L e b l B D β:Nat}{Ti:List (List (List Int))}{cs:List Nat}{q:List (List Int)}
def StG (w B:Nat)(Ti:List (List (List Int)))(cs:List Nat)(pl:Int):Prop:=cs.length=Ti.length∧(∀c∈cs,c<w)∧cs.Nodup∧97<=pl∧pl<=97+(B:Int)*(Ti.length:Int)∧Piv w Ti cs pl Ti.length
def VqG (w L e b:Nat)(Ti:List (List (List Int)))(q:List (List Int)):Prop:=(∀v∈Ti,v.length=w∧∀f∈v,Nml f∧f.length<=L∧∀c∈f,Bd b c)∧q.length=w∧∀f∈q,Nml f∧f.length<=L+e∧∀c∈f,Bd b c
def RlG (w D g:Nat)(Ti:List (List (List Int)))(q ws:List (List Int)):Prop:=ws.length=Ti.length+1∧(∀r∈ws,Nml r∧r.length<=D+1∧∀c∈r,Bd g c)∧(∃p0 t0,ws.getD Ti.length []=p0++[t0]∧0<t0)∧(∀s:Nat,Prm s->(∀u∈ws,∀j,(s:Int)∣co u j)->False)∧
 ∀c,c<w->∀n,ay (Ti.length+1) (λt=>val n (((Ti++[q]).getD t []).getD c [])*val n (ws.getD t []))=0
theorem StG.few {pl:Int}(h:StG w B Ti cs pl):Ti.length<=w:=by
 obtain⟨h1,h2,h3,_⟩:=h;rw[←h1];exact k_ w 0 cs h3 λc hc=>⟨aI _,by have:=h2 c hc;omega⟩
theorem VqG.vb (P:PG w L e b l B D β)(h:VqG w L e b Ti q)(hk:Ti.length<=5):VB w Ti L b:=⟨λv hv=>(h.1 v hv).1,λv hv=>(h.1 v hv).2,by omega,by have:=P.w5;omega,P.b0⟩
theorem VqG.vb1 (P:PG w L e b l B D β)(h:VqG w L e b Ti q)(hk:Ti.length<=5):VB w Ti (L+e) b:=⟨λv hv=>(h.1 v hv).1,λv hv f hf=>⟨((h.1 v hv).2 f hf).1,by have:=((h.1 v hv).2 f hf).2.1;omega,((h.1 v hv).2 f hf).2.2⟩,by omega,by have:=P.w5;omega,P.b0⟩
theorem VqG.vbq (P:PG w L e b l B D β)(h:VqG w L e b Ti q)(hk:Ti.length<=5):VB w (Ti++[q]) (L+e) b:=by
 have B1:=h.vb1 P hk;refine⟨λv hv=>?_,λv hv=>?_,by simp;omega,by have:=P.w5;omega,P.b0⟩
 ·rcases aK.mp hv with z|z
  ·exact B1.wid v z
  ·rw[aP.mp z];exact h.2.1
 ·rcases aK.mp hv with z|z
  ·exact B1.nml v z
  ·rw[aP.mp z];exact h.2.2
theorem Nl (W:∀v∈Ti++[q],v.length=w)(kw:Ti.length<=w)(p:Int):val p (mkP w Ti cs q (w+Ti.length))=mi (aZ w Ti p) cs Ti.length:=by
 rw[lH W kw];obtain⟨xs,_,x2⟩:=iD (rs:=aZ w Ti p) (cs:=cs) Ti.length (co (bD w q Ti.length p));have lr:=ie (w:=w) (Ti:=Ti) (p:=p);rw[x2,jx (W q (by simp)) kw,if_pos rfl,j_ _ _ λr hr=>by
  obtain⟨l,hl',rfl⟩:=cU.mp (fU hr);rw[i0 hl',jx (W _ (gl _ (mem_getD (by rw[lr]at hl';exact hl')))) kw,if_neg (by rw[lr]at hl';omega)]]
 simp
theorem Fi (w:Nat)(Ti:List (List (List Int)))(q:List (List Int)):bO w (Ti++[q])=bO w Ti++[cW w q Ti.length]:=by
 unfold bO;rw[bU,show Ti.length+[q].length=Ti.length+1 from rfl,kz,aQ];congr 1
 ·refine gx λi hi=>?_;have:=dh.mp hi;rw[av,b_ this,av]
 ·simp
theorem ke (B1:VB w (Ti++[q]) (L+e) b){r:Rp}(hr:r∈bO w (Ti++[q]))(c:Nat):Nml (r c)∧(c<w->(r c).length<=L+e∧∀z∈r c,Bd b z)∧(w<=c->(r c).length<=1∧∀z∈r c,z.natAbs<=1):=by
 unfold bO at hr;obtain⟨i,hi,rfl⟩:=aT.mp hr;have hm:=mem_getD (d:=([]:List (List Int))) (dh.mp hi);unfold cW
 split
 ·rename_i hc;obtain⟨a1,a2,a3⟩:=B1.nml _ hm _ (mem_getD (d:=([]:List Int)) (show c<((Ti++[q]).getD i []).length by rw[B1.wid _ hm];exact hc));exact⟨a1,λ_=>⟨a2,a3⟩,λh=>by omega⟩
 ·rename_i hc
  split
  ·exact⟨hE (by decide),λh=>absurd h hc,λ_=>⟨by simp,λz hz=>by rw[aP.mp hz];decide⟩⟩
  ·exact⟨b8,λh=>absurd h hc,λ_=>⟨by simp,λz hz=>by simp at hz⟩⟩
theorem xm {k:Nat}{c:Nat}(hc:c∈cr cs k):c∈cs:=by
 unfold cr at hc;exact fU (rC.mp hc)
theorem Fj (k:Nat):(cr cs k).length<=k:=by unfold cr;rw[mC,bT];omega
theorem Fk (P:PG w L e b l B D β)(V:VqG w L e b Ti q)(kw:Ti.length<=w)(hcs:∀c∈cs,c<w)(t:Nat):(mkP w Ti cs q (w+t)).length<=D+1:=by
 have w5:=P.w5;have B1:=V.vbq P (by omega);obtain⟨rd,hrd⟩:∃rd:Rp->Nat,∀r,rd r=if r (w+Ti.length)=[] then L-1 else L-1+e:=⟨_,λ_=>rfl⟩
 have rk:∀i,i<Ti.length->rd (cW w (Ti.getD i []) i)=L-1:=λi hi=>by
  rw[hrd,if_pos];unfold cW;rw[if_neg (by omega),if_neg (by omega)]
 have rq:rd (cW w q Ti.length)=L-1+e:=by
  rw[hrd,if_neg];unfold cW;rw[if_neg (by omega),if_pos rfl];simp
 have tot:ic rd (bO w (Ti++[q]))=Ti.length*(L-1)+(L-1+e):=by
  rw[Fi];unfold ic;rw[aQ,x8,List.map_singleton,rq];have:(bO w Ti).map rd=aC Ti.length (L-1):=by
   unfold bO;rw[gu];refine List.eq_replicate_iff.mpr ⟨by simp,λx hx=>?_⟩;obtain⟨i,hi,rfl⟩:=aT.mp hx;exact rk i (dh.mp hi)
  rw[this,Ov];simp
 have all:∀r∈bO w (Ti++[q]),L-1<=rd r∧∀c,c<w->(r c).length<=rd r+1:=λr hr=>by
  rw[Fi]at hr;rcases aK.mp hr with z|z
  ·unfold bO at z;obtain⟨i,hi,rfl⟩:=aT.mp z;have hi':=dh.mp hi;rw[rk i hi'];refine⟨am _,λc hc=>?_⟩;have hm:=mem_getD (d:=([]:List (List Int))) hi';unfold cW;rw[if_pos hc];have:=((V.1 _ hm).2 _ (mem_getD (d:=([]:List Int)) (show c<(Ti.getD i []).length by rw[(V.1 _ hm).1];exact hc))).2.1;omega
  ·rw[aP.mp z,rq];refine⟨by omega,λc hc=>?_⟩;unfold cW;rw[if_pos hc];have:=(V.2.2 _ (mem_getD (d:=([]:List Int)) (show c<q.length by rw[V.2.1];exact hc))).2.1;have:=P.L1;omega
 have key:=lE (c:=w+t) (D:=Ti.length*(L-1)+e) (bO w (Ti++[q])) [] (dtp (cr cs Ti.length)) (ib _) λpre r post er=>by
  have hr:r∈bO w (Ti++[q]):=by rw[er];simp
  refine⟨(ke B1 hr _).1,λ_=>?_⟩;have l1:=((ke B1 hr (w+t)).2.2 (by omega)).1;have l2:=xa rd (cr cs Ti.length) (pre++post) λx hx c hc=>by
   have hx':x∈bO w (Ti++[q]):=by
    rw[er];rcases aK.mp hx with z|z
    ·simp[z]
    ·simp[z]
   exact⟨(ke B1 hx' c).1,(all x hx').2 c (hcs c (xm hc))⟩
  have l3:ic rd (pre++post)+rd r=Ti.length*(L-1)+(L-1+e):=by
   rw[←tot,er];unfold ic;simp only[aQ,x8,c_,jE];omega
  have:=(all r hr).1;rw[gO];omega
 have e2:(mkP w Ti cs q (w+t))=iop (w+t) (bO w (Ti++[q])) (λu=>dtp (cr cs Ti.length) ([]++u)):=rfl;rw[e2];have h1:=dE (L-1) kw;have:=P.dD;omega
theorem Fl (P:PG w L e b l B D β)(V:VqG w L e b Ti q)(kw:Ti.length<=w)(hcs:∀c∈cs,c<w)(t:Nat):∀z∈mkP w Ti cs q (w+t),Bd β z:=λz hz=>by
 have w5:=P.w5;have B1:=V.vbq P (by omega);have lr:(bO w (Ti++[q])).length=Ti.length+1:=by unfold bO;simp
 have key:=xb (c:=w+t) (M:=1) (L:=1) (Fb:=(2 ^ 3*(2 ^ l*2 ^ b)) ^ Ti.length) (bO w (Ti++[q])) (dtp (cr cs Ti.length)) (λu lu hu y hy=>by
  have:=EN (N:=2 ^ 3) (M:=2 ^ b) (L:=2 ^ l) (cr cs Ti.length) u (by omega) (λr hr c hc=>by
   have:=(ke B1 (hu r hr) c).2.1 (hcs c (xm hc));exact⟨aE this.1 P.Ll,λz hz=>bW (this.2 z hz)⟩) y hy
  refine aE this (fo (gS (by decide) (gS (dj _) (dj _))) (Fj _))) (λr hr=>by
  exact (ke B1 hr (w+t)).2.2 (by omega)) z hz
 show z.natAbs<2 ^ β;refine cE key ?_;rw[lr,fR,fR,←de,←de,←mE];have h1:(3+(l+b))*Ti.length<=(3+l+b)*w:=by rw[Nat.add_assoc];exact dC _ kw
 refine cE (d8 (show Ti.length+1<=2 ^ 3 by omega) (fo (by decide) h1)) ?_;rw[←de];exact mr (by decide) (by have:=P.bb;omega)
theorem xo (W:∀v∈Ti,v.length=w){p:Int}{j:Nat}(hj:j<w)(F:Nat->Int):dot ((a8 Ti.length).map F) (aZ w Ti p) j=ay Ti.length λx=>F x*val p ((Ti.getD x []).getD j []):=by
 rw[EZ];have:(aZ w Ti p).map (λr=>r j)=(a8 Ti.length).map λx=>val p ((Ti.getD x []).getD j []):=by
  unfold aZ;rw[gu];refine gx λx hx=>?_;have hm:=mem_getD (d:=([]:List (List Int))) (dh.mp hx);show co (bD w (Ti.getD x []) x p) j=_;rw[qR (by rw[W _ hm];exact hj)]
 rw[this,E6]
theorem Nm (W:∀v∈Ti++[q],v.length=w)(kw:Ti.length<=w){c:Nat}(hc:c<w)(n:Int):ay (Ti.length+1) (λt=>val n (((Ti++[q]).getD t []).getD c [])*val n (mkP w Ti cs q (w+t)))=val n (mkP w Ti cs q c):=by
 rw[Nd W kw n c,xo (λv hv=>W v (gl _ hv)) hc,qR (by rw[W q (by simp)];exact hc),iC];congr 1
 ·refine cY λx hx=>?_;rw[cL,av (l:=Ti++[q]),b_ hx,←av]
 ·rw[av (l:=Ti++[q]),di (am _),fT,cL];rfl
end
section
variable {w L e b l B D β:Nat}{Ti:List (List (List Int))}{cs:List Nat}{q:List (List Int)}{pl:Int}
theorem PG.at (P:PG w L e b l B D β)(S:StG w B Ti cs pl)(hk:Ti.length<=w){t:Nat}(ht:t<=B):Bd 9 (pl+(t:Int)):=by
 obtain⟨_,_,_,p1,p2,_⟩:=S;have h1:=P.pl;have h2:(B:Int)*(Ti.length:Int)<=(B:Int)*(w:Int):=jC (by omega) (by omega);rw[Nat.mul_add,my]at h1;have h3:((B*w:Nat):Int)=(B:Int)*(w:Int):=ga _ _;exact Bd.of_lt (m:=512) (by omega) (by decide)
theorem No (P:PG w L e b l B D β)(S:StG w B Ti cs pl)(V:VqG w L e b Ti q){c:Nat}(hc:c<w)(hn:c∉cs)(hne:mkP w Ti cs q c≠[]):∃N,N<=B∧(∀t:Nat,t<=N->TBd w (Ti++[q]) (cs++[c]) (pl+(t:Int)))∧Piv w (Ti++[q]) (cs++[c]) (pl+(N:Int)) (Ti.length+1):=by
 have kw:=S.few;have w5:=P.w5;obtain⟨hl,hcs,nd,p1,p2,pv⟩:=S;have B1:=V.vb P (by omega);have Bq:=V.vbq P (by omega);have k1:Ti.length+1<=w:=by
  have:=k_ w 0 (c :: cs) (iI.mpr ⟨hn,nd⟩) λx hx=>⟨aI _,by
   rcases aO.mp hx with z|z
   ·omega
   ·have:=hcs x z;omega⟩
  rw[bX]at this;omega
 obtain⟨d,d1,d2,d3,d4⟩:=places (L:=L) B1.wid (λv hv f hf=>⟨(B1.nml v hv f hf).1,(B1.nml v hv f hf).2.1⟩) kw hl hcs pv;have lc:(mkP w Ti cs q c).length<=(Ti.length+1)*(L+e-1)+1:=by
  have:=qU (λ_=>L+e-1) (c :: cr cs Ti.length) (bO w (Ti++[q])) λr hr c' hc'=>by
   have h1:=ke Bq hr c';have:c'<w:=by
    rcases aO.mp hc' with z|z
    ·omega
    ·exact hcs c' (xm z)
   exact⟨h1.1,by have:=(h1.2.1 this).1;omega⟩
  have e1:(mj (λ_:Nat=>L+e-1) (c :: cr cs Ti.length)).sum<=(Ti.length+1)*(L+e-1):=by
   rw[List.map_const',Ov,bX];exact dE _ (by have:=Fj (cs:=cs) Ti.length;omega)
  unfold mkP;omega
 have nc:Nml (mkP w Ti cs q c):=ib _ _;have X0:=iY d1 nc d2 hne;have lX:(pdL d (mkP w Ti cs q c)).length<=B+1:=by
  have h1:=(gk d1 nc d2 hne).1;have h2:Ti.length*(Ti.length*(L-1))<=w*(w*(L-1)):=d8 kw (dE _ kw);have h3:(Ti.length+1)*(L+e-1)<=w*(L+e-1):=dE _ k1;have:=P.pls;omega
 obtain⟨N,hN,hv⟩:=EE (cK d (mkP w Ti cs q c)) X0 pl lX;rw[be]at hv;have v1:val (pl+(N:Int)) d≠0:=λz=>hv (by rw[z];simp);have v2:val (pl+(N:Int)) (mkP w Ti cs q c)≠0:=λz=>hv (by rw[z];simp);have pn:=d4 _ v1;refine⟨N,hN,λt ht=>Bq.tbd (P.at ⟨hl,hcs,nd,p1,p2,pv⟩ kw (by omega)) P.b1 (by have:=P.L40;omega) P.b2 (λc' hc'=>?_) (by simp[hl]),EA hl pn ?_⟩
 ·rcases aK.mp hc' with z|z
  ·exact hcs c' z
  ·rw[aP.mp z];exact hc
 ·rw[xi Bq.wid kw (by omega) pn];exact v2
theorem Np (P:PG w L e b l B D β)(S:StG w B Ti cs pl)(V:VqG w L e b Ti q):∃(gs:List (List Int)) (Pn:Nat) (f:Nat->List Int) (qs:List (List Int)) (p0:List Int) (t0:Int),OcOk w Ti cs q gs Pn∧Pn<=B∧(∀N,qP (Ti++[q]) cs N->0<=N∧N<60∧(∀g∈gs,(g.length:Int)<=N+1)∧N<((plc w Ti cs Pn).length:Int))∧
  ((∀p∈gs,p.length<=64∧Nml p∧∀c∈p,Bd 5000 c)∧(∀i,(f i).length<=64)∧f 0=[]∧(∀i r,gs[i]?=some r->gM (f i) r (f (i+1)))∧gs.getLast?=some (p0++[t0])∧f gs.length≠[]∧Nml (f gs.length)∧(∀c∈f gs.length,Bd 8000 c)∧qs.length=gs.length∧(∀(i:Nat) (p q:List Int),gs[i]?=some p->qs[i]?=some q->Nml q∧Div p (fL (decide (t0<0)) (f gs.length)) q))∧
  FcOk w (Ti++[q]) qs∧((∀c,c<w->c∉cs->dz (Ti++[q]) qs c (Ti.length+1)=[])->RlG w D (β+12*D+7) Ti q qs)∧
  ∀c,c<w->c∉cs->dz (Ti++[q]) qs c (Ti.length+1)≠[]->∃N,N<=B∧(∀t:Nat,t<=N->TBd w (Ti++[q]) (cs++[c]) (pl+(t:Int)))∧Piv w (Ti++[q]) (cs++[c]) (pl+(N:Int)) (Ti.length+1):=by
 have kw:=S.few;have w5:=P.w5;have S0:=S;obtain⟨hl,hcs,nd,p1,p2,pv⟩:=S;have B0:=V.vb P (by omega);have B1:=V.vb1 P (by omega);have Bq:=V.vbq P (by omega);have W:=Bq.wid;have D15:=P.D15;have big:=P.big;have bB:∀n:Nat,n<B->Bd 9 (n:Int):=λn hn=>Bd.of_lt (m:=512) (by have:=P.pl;have:B<=B*(w+1):=ig _ (by omega);omega) (by decide);obtain⟨d,d1,d2,d3,d4⟩:=places (L:=L) B0.wid (λv hv f hf=>⟨(B0.nml v hv f hf).1,(B0.nml v hv f hf).2.1⟩) kw hl hcs pv;have pm:=MP (w:=w) (Ti:=Ti) (cs:=cs) d1 d2 (Pn:=B) λn _ hn=>d4 n hn;have hd2:Ti.length*(Ti.length*(L-1))<=w*(w*(L-1)):=d8 kw (dE _ kw);have pls:=P.pls;have hd4:Ti.length*(L+e-1)<=w*(L+e-1):=dE _ kw;obtain⟨gs,hgs⟩:∃gs,gs=(a8 (Ti.length+1)).map λt=>mkP w Ti cs q (w+t):=⟨_,rfl⟩
 have lgs:gs.length=Ti.length+1:=by rw[hgs,ae,ik]
 have gsat:∀t,t<=Ti.length->gs[t]?=some (mkP w Ti cs q (w+t)):=λt ht=>by rw[hgs,az,xT (by omega)];rfl
 have gsm:∀g∈gs,∃t,t<=Ti.length∧g=mkP w Ti cs q (w+t):=λg hg=>by
  rw[hgs]at hg;obtain⟨t,ht,rfl⟩:=aT.mp hg;exact⟨t,by have:=dh.mp ht;omega,rfl⟩
 have sz:∀g∈gs,Nml g∧g.length<=D+1∧∀z∈g,Bd β z:=λg hg=>by
  obtain⟨t,_,rfl⟩:=gsm g hg;exact⟨ib _ _,Fk P V kw hcs t,Fl P V kw hcs t⟩
 obtain⟨f,f0,fl,fs,nf,fz,fn⟩:=Fh D15 sz big gs.length (am _);have tb:=i3 B0.wid _ (am _) (by omega) pv;have last0:mkP w Ti cs q (w+Ti.length)≠[]:=λz=>tb.1 Ti.length (am _) (by rw[←Nl W kw,z];rfl);have F0:f gs.length≠[]:=λz=>last0 (fz z Ti.length _ (by omega) (gsat _ (am _)));obtain⟨tF,bF,us,u1,u2,u3,u4⟩:=fn F0;obtain⟨F,hF⟩:∃F,F=f gs.length:=⟨_,rfl⟩
 rw[←hF]at nf F0 tF bF u3;obtain⟨p0,t0,ev⟩:∃p0 t0,mkP w Ti cs q (w+Ti.length)=p0++[t0]:=by
  cases z:(mkP w Ti cs q (w+Ti.length)).getLast? with
  | none=>rw[rD]at z;exact absurd z last0
  | some a=>exact⟨_,a,(mn.mp z).choose_spec⟩
 obtain⟨σ,hσ⟩:∃σ:Int,σ=if decide (t0<0)=true then -1 else 1:=⟨_,rfl⟩
 have σ2:σ=1∨σ=-1:=by rw[hσ];split <;> simp
 have σ0:σ≠0:=by rcases σ2 with z|z <;> rw[z] <;> decide
 have σσ:σ * σ=1:=by rcases σ2 with z|z <;> rw[z] <;> rfl
 obtain⟨qs,hqs⟩:∃qs,qs=us.map λu=>u.map λz=>σ * z:=⟨_,rfl⟩
 have lqs:qs.length=gs.length:=by rw[hqs,ae,u1]
 have uat:∀t,t<=Ti.length->∃u,us[t]?=some u∧Nml u∧qs[t]?=some (u.map λz=>σ * z)∧qs.getD t []=(u.map λz=>σ * z)∧∀n,val n (mkP w Ti cs q (w+t))=val n F*val n u:=λt ht=>by
  have h1:t<us.length:=by omega
  have h2:qs[t]?=some ((us[t]).map λz=>σ * z):=by rw[hqs,az,ak h1];rfl
  exact⟨us[t],ak h1,u2 _ (aW h1),h2,by rw[av,h2];rfl,u3 t _ _ (gsat t ht) (ak h1)⟩
 have qsz:∀r∈qs,Nml r∧r.length<=D+1∧∀c∈r,Bd (β+12*D+7) c:=λr hr=>by
  obtain⟨t,ht,rfl⟩:=cU.mp hr;obtain⟨u,_,nu,h3,_,h5⟩:=uat t (by omega);rw[ak ht]at h3;rw[Option.some.inj h3];have bu:u.length<=D+1∧∀z∈u,Bd (β+12*D+7) z:=by
   by_cases z:u=[]
   ·rw[z];exact⟨by simp,λz hz=>by simp at hz⟩
   ·have g0:=sz _ (bH (gsat t (by omega)));have eg:pdL F u=mkP w Ti cs q (w+t):=dZ (cK _ _) g0.1 λn=>by rw[be,h5]
    have g1:mkP w Ti cs q (w+t)≠[]:=by rw[←eg];exact iY nf nu F0 z
    have h6:=(gk nf nu F0 z).1;rw[eg]at h6;have:F.length≠0:=λy=>F0 (bE y);have lu:u.length<=D+1:=by have:=g0.2.1;omega
    exact⟨lu,Fe (t:=F) nu g0.1 g1 D15 g0.2.1 lu g0.2.2 λn=>by rw[h5,cL]⟩
  refine⟨j8 σ0 nu,by rw[ae];exact bu.1,λc hc=>?_⟩;obtain⟨y,hy,rfl⟩:=aT.mp hc;rcases σ2 with z|z
  ·rw[z,fu];exact bu.2 y hy
  ·rw[z,show (-1:Int)*y=-y by omega];exact (bu.2 y hy).neg
 have γb:β+12*D+7<=4480:=by omega
 have col:∀c,c<w->∀n,val n F*ay (Ti.length+1) (λt=>val n (((Ti++[q]).getD t []).getD c [])*val n (qs.getD t []))=σ * val n (mkP w Ti cs q c):=λc hc n=>by
  rw[←Nm W kw hc n,←iV,←iV];refine cY λt ht=>?_;obtain⟨u,_,_,_,h4,h5⟩:=uat t (by omega);rw[h4,bL,h5];grind
 have sumz:∀c,c<w->mkP w Ti cs q c=[]->∀n,ay (Ti.length+1) (λt=>val n (((Ti++[q]).getD t []).getD c [])*val n (qs.getD t []))=0:=λc hc hz n=>by
  have h1:dz (Ti++[q]) qs c (Ti.length+1)=[]:=by
   by_cases z:dz (Ti++[q]) qs c (Ti.length+1)=[]
   ·exact z
   ·refine absurd (dZ (cK F (dz (Ti++[q]) qs c (Ti.length+1))) b8 λn=>?_) (iY nf (E5 _ _ _ _) F0 z);rw[be,lI,col c hc n,hz];simp[val]
  rw[←lI,h1];rfl
 refine⟨gs,B,f,qs,p0,t0,⟨by omega,kw,W,hcs,by omega,lgs,by have:=P.pl;have:B<=B*(w+1):=ig _ (by omega);omega,λn hn=>B1.tbd (bB n hn) P.b1 (by have:=P.L40;omega) P.b2 hcs (by omega),λn hn pn=>B1.low (bB n hn) P.b1 hcs (am _) (by omega) pn V.2.1 λf hf=>(V.2.2 f hf).2,⟨by rw[V.2.1];omega,λf hf=>⟨by have:=(V.2.2 f hf).2.1;have:=P.L40;omega,λc hc=>((V.2.2 f hf).2.2 c hc).mono P.b2⟩⟩,λn hn pn i g hg=>?_,λg hg=>?_⟩,am _,λN hN=>?_,⟨λg hg=>?_,λi=>by have:=fl i;omega,f0,λi r hr=>fs i r (aV.mp hr).1 hr,?_,by rw[←hF];exact F0,by rw[←hF];exact nf,λc hc=>(bF c (by rw[hF];exact hc)).mono (by omega),lqs,λi a r ha hr=>?_⟩,⟨by rw[lqs,lgs];simp,by simp;omega,by omega,W,λv hv f hf=>?_,λr hr=>?_⟩,λhz=>?_,λc hc hn hne=>?_⟩
 ·have hi:i<=Ti.length:=by have:=(aV.mp hg).1;omega
  rw[gsat i hi]at hg;rw[←Option.some.inj hg];exact xi W kw (by omega) pn (w+i)
 ·obtain⟨t,ht,rfl⟩:=gsm g hg;refine⟨ib _ _,λn hn=>?_⟩;refine (jv (k:=β) (l:=9) (bB n hn) _ (Fl P V kw hcs t)).mono ?_;have:=dC (9+1) (Fk (cs:=cs) P V kw hcs t);omega
 ·obtain⟨n0,n1,n2⟩:=Ng (L:=L+e) W (λv hv f hf=>⟨(Bq.nml v hv f hf).1,(Bq.nml v hv f hf).2.1⟩) kw hl hcs hN;have:=P.d60;refine⟨n0,by omega,λg hg=>?_,by omega⟩;obtain⟨t,ht,rfl⟩:=gsm g hg;exact n2 t ht
 ·have:=sz g hg;exact⟨by omega,this.1,λc hc=>(this.2.2 c hc).mono (by omega)⟩
 ·rw[rg,lgs,Nat.add_sub_cancel,gsat _ (am _),ev]
 ·have hi:i<=Ti.length:=by have:=(aV.mp ha).1;omega
  rw[gsat i hi]at ha;rw[←Option.some.inj ha];obtain⟨u,_,nu,h3,_,h5⟩:=uat i hi;rw[h3]at hr;rw[←Option.some.inj hr];refine⟨j8 σ0 nu,g_.mpr λn=>?_⟩;rw[←hF,MS,←hσ,bL,h5];grind
 ·obtain⟨_,a2,a3⟩:=Bq.nml v hv f hf;exact⟨by have:=P.L40;omega,λc hc=>(a3 c hc).mono P.b2⟩
 ·obtain⟨_,a2,a3⟩:=qsz r hr;exact⟨by omega,λc hc=>(a3 c hc).mono (by omega)⟩
 ·refine⟨by rw[lqs,lgs],qsz,?_,λs hs h=>u4 s hs λu hu j=>?_,λc hc n=>?_⟩
  ·obtain⟨u,_,nu,_,h4,h5⟩:=uat Ti.length (am _);rw[h4];have eg:pdL F u=p0++[t0]:=dZ (cK _ _) (by rw[←ev];exact ib _ _) λn=>by rw[be,←h5,ev]
   have u0:u≠[]:=λz=>by rw[z]at eg;have:=congrArg q9 eg;rw[show pdL F []=[] from dZ (cK _ _) b8 λn=>by rw[be];simp[val]]at this;simp at this
   have tt:=(gk nf nu F0 u0).2;rw[eg]at tt;have e1:co (p0++[t0]) ((p0++[t0]).length-1)=t0:=by unfold co;simp
   rw[e1]at tt;obtain⟨v,y,rfl⟩:∃v y,u=v++[y]:=by
    cases z:u.getLast? with
    | none=>rw[rD]at z;exact absurd z u0
    | some a=>exact⟨_,a,(mn.mp z).choose_spec⟩
   have e2:co (v++[y]) ((v++[y]).length-1)=y:=by unfold co;simp
   rw[e2]at tt;have y0:y≠0:=en.mp nu y (by simp);refine⟨v.map λz=>σ * z,σ * y,by simp,?_⟩;rw[hσ];generalize co F (F.length-1)=lf at tF tt;by_cases z:t0<0
   ·have:y<0:=by
     refine xX λh=>?_;have:=Int.mul_nonneg (xP tF) h;omega
    simp[z];omega
   ·have:0<y:=by
     refine xX λh=>?_;have:=Int.mul_pos tF (show 0 < -y by omega);rw[rj]at this;omega
    simp[z];omega
  ·have:=h (u.map λz=>σ * z) (by rw[hqs];exact aT.mpr ⟨u,hu,rfl⟩) j;rw[fh]at this;obtain⟨y,hy⟩:=this;have h1:co u j=σ * (σ * co u j):=by rw[←dm,σσ,fu]
   exact⟨σ * y,by rw[h1,hy];grind⟩
  ·by_cases z:c∈cs
   ·exact sumz c hc (ES z hl) n
   ·have:=hz c hc z;rw[←lI,this];rfl
 ·refine No P S0 V hc hn λz=>hne ?_;refine dZ (E5 _ _ _ _) b8 λn=>?_;rw[lI,sumz c hc z n];rfl
end
section
variable {w L e b l B D β:Nat}{Ti:List (List (List Int))}{cs:List Nat}{q:List (List Int)}{pl:Int}
theorem Fm {few:List Nat}(hv:∀v∈Ti,v.length=w∧∀f∈v,Nml f∧f.length<=L∧∀c∈f,Bd b c)(fk:∀i∈few,i<Ti.length):∀v∈few.map (λi=>Ti.getD i []),v.length=w∧∀f∈v,Nml f∧f.length<=L∧∀c∈f,Bd b c:=λv h=>by
 obtain⟨i,hi,rfl⟩:=aT.mp h;exact hv _ (mem_getD (fk i hi))
theorem Nq {few:List Nat}{t:Nat}(ht:t<few.length):(few.map λi=>Ti.getD i []).getD t []=Ti.getD few[t] []:=by
 rw[av,az,ak ht];rfl
theorem Fn {few:List Nat}(nd:few.Nodup)(fk:∀i∈few,i<Ti.length)(ws:List (List Int))(c:Nat)(n:Int):ay few.length (λt=>val n ((Ti.getD (few.getD t 0) []).getD c [])*val n (ws.getD t []))=ay Ti.length λx=>cf few ((a8 few.length).map λt=>val n (ws.getD t [])) x*val n ((Ti.getD x []).getD c []):=by
 rw[←E3 (k:=Ti.length) (λx=>val n ((Ti.getD x []).getD c [])) few _ (by simp) fk];have:few.map (λx=>val n ((Ti.getD x []).getD c []))=(a8 few.length).map λt=>val n ((Ti.getD (few.getD t 0) []).getD c []):=by
  refine i9 (by simp) λt a1 a2=>?_;rw[b5,b5,ky,av (l:=few),ak (by simpa using a1)];rfl
 rw[this,E6];exact cY λt _=>cL _ _
theorem Fo {q:List (List Int)}{few:List Nat}{ws:List (List Int)}(c:Nat)(n:Int):ay ((few.map λi=>Ti.getD i []).length+1) (λt=>val n (((few.map (λi=>Ti.getD i [])++[q]).getD t []).getD c [])*val n (ws.getD t []))=ay few.length (λt=>val n ((Ti.getD (few.getD t 0) []).getD c [])*val n (ws.getD t []))+val n (q.getD c [])*val n (ws.getD few.length []):=by
 rw[ae,iC];congr 1
 ·refine cY λt ht=>?_;rw[av (l:=_++[q]),b_ (by simpa using ht),←av,Nq ht,av (l:=few),ak ht];rfl
 ·rw[av (l:=_++[q]),di (by simp)];simp
theorem Nr (P:PG w L e b l B D β)(S:StG w B Ti cs pl)(hv:∀v∈Ti,v.length=w∧∀f∈v,Nml f∧f.length<=L∧∀c∈f,Bd b c){few:List Nat}{j:Nat}(nd:few.Nodup)(fk:∀i∈few,i<Ti.length)(hj:j<Ti.length)(hjn:j∉few){ws:List (List Int)}{u:List Int}(nu:Nml u)(u0:u≠[])(h:∀c,c<w->∀n,ay few.length (λt=>val n ((Ti.getD (few.getD t 0) []).getD c [])*val n (ws.getD t []))+val n ((Ti.getD j []).getD c [])*val n u=0):False:=by
 have kw:=S.few;have w5:=P.w5;obtain⟨hl,hcs,_,p1,p2,pv⟩:=S;have W:∀v∈Ti,v.length=w:=λv hv'=>(hv v hv').1;obtain⟨d,d1,d2,d3,d4⟩:=places (L:=L) W (λv hv' f hf=>⟨((hv v hv').2 f hf).1,((hv v hv').2 f hf).2.1⟩) kw hl hcs pv;obtain⟨N,_,hN⟩:=EE (cK d u) (iY d1 nu d2 u0) 0 (i5 _);rw[be]at hN;have v1:val (0+(N:Int)) d≠0:=λz=>hN (by rw[z];simp);have v2:val (0+(N:Int)) u≠0:=λz=>hN (by rw[z];simp);generalize (0+(N:Int))=p at *;obtain⟨G,hG⟩:∃G:Nat->Int,∀x,G x=cf few ((a8 few.length).map λt=>val p (ws.getD t [])) x+if x=j then val p u else 0:=⟨_,λ_=>rfl⟩
 have all:=EY W (by omega) hl (d4 _ v1) (ms:=(a8 Ti.length).map G) (by simp) (λc hc=>by
  rw[xo W (hcs c hc)];have h1:=h c (hcs c hc) p;rw[Fn nd fk]at h1;have e1:ay Ti.length (λx=>G x*val p ((Ti.getD x []).getD c []))=ay Ti.length (λx=>cf few ((a8 few.length).map λt=>val p (ws.getD t [])) x*val p ((Ti.getD x []).getD c []))+ay Ti.length (λx=>if x=j then val p ((Ti.getD x []).getD c [])*val p u else 0):=by
   rw[←kP];exact cY λx _=>by rw[hG];split <;> grind
  rw[e1,E2 hj];exact h1) (G j) (aT.mpr ⟨j,dh.mpr hj,rfl⟩)
 rw[hG,qV _ _ _ hjn,if_pos rfl]at all;omega
theorem Nt (P:PG w L e b l B D β):SpTh w B w (StG w B) (VqG w L e b) (RlG w D (β+12*D+7)) where
 b3:=P.b3
 k18:=by have:=P.w5;omega
 st0:=⟨rfl,by simp,mo,by decide,by simp,λi hi=>by simp at hi⟩
 stS:=λTi cs pl q c t hS _ hc hn ht pv=>by
  obtain⟨hl,hcs,nd,p1,p2,_⟩:=hS;refine⟨by simp[hl],λc' hc'=>?_,?_,by omega,?_,by rw[bU];exact pv⟩
  ·rcases aK.mp hc' with z|z
   ·exact hcs c' z
   ·rw[aP.mp z];exact hc
  ·exact ku.mpr ⟨nd,by simp,λa ha b' hb' z=>hn (by rw[aP.mp hb']at z;rw[←z];exact ha)⟩
  ·have e1:((Ti++[q]).length:Int)=(Ti.length:Int)+1:=by simp
   rw[e1,ja];omega
 bd:=λTi cs pl q hS hV=>⟨hS.few,hV.2.1,λf hf=>⟨by have:=(hV.2.2 f hf).2.1;have:=P.L40;omega,λc hc=>((hV.2.2 f hf).2.2 c hc).mono P.b2⟩⟩
 tb:=λTi cs pl q hS hV=>by
  have kw:=hS.few;have w5:=P.w5;have B1:=hV.vb1 P (by omega);have b9:=P.at hS kw (aI B);have e0:pl+((0:Nat):Int)=pl:=by omega
  rw[e0]at b9;obtain⟨hl,hcs,nd,p1,p2,pv⟩:=hS;exact⟨B1.tbd b9 P.b1 (by have:=P.L40;omega) P.b2 hcs (by omega),pv,B1.low b9 P.b1 hcs (am _) (by omega) pv hV.2.1 λf hf=>(hV.2.2 f hf).2⟩
 hit:=λTi cs pl q c hS hV hc h0=>by
  have kw:=hS.few;have w5:=P.w5;have Bq:=hV.vbq P (by omega);have b9:=P.at hS kw (aI B);have e0:pl+((0:Nat):Int)=pl:=by omega
  rw[e0]at b9;obtain⟨hl,hcs,nd,p1,p2,pv⟩:=hS;refine⟨λhm=>h0 ?_,Bq.tbd b9 P.b1 (by have:=P.L40;omega) P.b2 (λc' hc'=>?_) (by simp[hl])⟩
  ·rw[xi Bq.wid kw (by omega) pv,ES hm hl];rfl
  ·rcases aK.mp hc' with z|z
   ·exact hcs c' z
   ·rw[aP.mp z];exact hc
 oc:=λTi cs pl q hS hV _=>Np P hS hV
 sub:=λTi cs pl q few hS hV fp fk fl=>by
  have nd:few.Nodup:=fp.imp λh=>by omega
  refine⟨⟨Fm hV.1 fk,hV.2⟩,λi j hij=>?_⟩;have hjm:=bH hij;have hj:=fk j hjm;have hi:=(aV.mp hij).1;have fkt:∀x∈few.take i,x<Ti.length:=λx hx=>fk x (fU hx);have hm:=mem_getD (d:=([]:List (List Int))) hj;refine⟨⟨Fm hV.1 fkt,(hV.1 _ hm).1,λf hf=>?_⟩,λws hR=>?_⟩
  ·obtain⟨a1,a2,a3⟩:=(hV.1 _ hm).2 f hf;exact⟨a1,by omega,a3⟩
  ·obtain⟨h1,h2,⟨p0,t0,h3,h3'⟩,h4,h5⟩:=hR;rw[ae]at h1 h3;refine Nr P hS hV.1 (few:=few.take i) (j:=j) (nd.sublist (Go _ _)) fkt hj (λhx=>?_) (ws:=ws) (u:=ws.getD (few.take i).length []) (h2 _ (mem_getD (by omega))).1 (by rw[h3];simp) λc hc n=>?_
   ·obtain⟨t,ht,et⟩:=cU.mp hx;rw[List.getElem_take]at et;have ht2:t<i:=by rw[bT]at ht;omega
    have:=jz.mp fp t i (by omega) hi ht2;have e2:=(aV.mp hij).2;omega
   ·rw[←Fo];exact h5 c hc n
 len:=λTi q ws hR=>hR.1
 up:=λTi cs pl q few ws hS hV fp fk fl hR=>by
  have nd:few.Nodup:=fp.imp λh=>by omega
  obtain⟨h1,h2,⟨p0,t0,h3,h3'⟩,h4,h5⟩:=hR;rw[ae]at h1 h3;obtain⟨g1,g2,g3⟩:=E7 (ws:=ws) fp fk few.length (am _);rw[eV]at g2;have at1:∀t,t<few.length->(spw Ti.length few ws few.length).getD (few.getD t 0) []=ws.getD t []:=λt ht=>by
   have e1:few.getD t 0=few[t]:=by rw[av,ak ht];rfl
   rw[e1,av,g1 t ht ht];rfl
  have at2:∀i,i<Ti.length->i∉few->(spw Ti.length few ws few.length).getD i []=[]:=λi hi hn=>by rw[av,g2 i hi hn];rfl
  have at3:(spw Ti.length few ws few.length).getD Ti.length []=ws.getD few.length []:=by rw[av,g3];rfl
  refine⟨iH _ _ _ _,λr hr=>?_,⟨p0,t0,by rw[at3,h3],h3'⟩,λs hs h=>h4 s hs λu hu=>?_,λc hc n=>?_⟩
  ·obtain⟨i,hi,rfl⟩:=cU.mp hr;rw[iH]at hi;have e0:(spw Ti.length few ws few.length)[i]'(by rw[iH];exact hi)=(spw Ti.length few ws few.length).getD i []:=by rw[av,ak (by rw[iH];exact hi)];rfl
   rw[e0];by_cases z:i=Ti.length
   ·rw[z,at3];exact h2 _ (mem_getD (by omega))
   ·by_cases y:i∈few
    ·obtain⟨t,ht,rfl⟩:=cU.mp y;have e1:few.getD t 0=few[t]:=by rw[av,ak ht];rfl
     rw[←e1,at1 t ht];exact h2 _ (mem_getD (by omega))
    ·rw[at2 i (by omega) y];exact⟨b8,by simp,λc hc=>by simp at hc⟩
  ·obtain⟨t,ht,rfl⟩:=cU.mp hu;have e0:ws[t]=ws.getD t []:=by rw[av,ak ht];rfl
   rw[e0];by_cases z:t<few.length
   ·rw[←at1 t z];exact h _ (mem_getD (by rw[iH];have:=fk (few.getD t 0) (mem_getD z);omega))
   ·rw[show t=few.length by omega,←at3];exact h _ (mem_getD (by rw[iH];omega))
  ·have h6:=h5 c hc n;rw[Fo,Fn nd fk]at h6;rw[iC,←h6];congr 1
   ·refine cY λx hx=>?_;rw[av (l:=Ti++[q]),b_ hx,←av,cL];congr 1;by_cases y:x∈few
    ·obtain⟨t,ht,rfl⟩:=cU.mp y;have e1:few.getD t 0=few[t]:=by rw[av,ak ht];rfl
     rw[E1 few _ nd (by simp) t ht (by simpa using ht),b5,ky,←at1 t ht,e1]
    ·rw[at2 x hx y,qV _ _ _ y];rfl
   ·rw[at3,av (l:=Ti++[q]),di (am _),fT];rfl
end
theorem Nu {xs:List Int}(h:xs≠[])(h0:xs.getLast h=0):aJ xs.dropLast=aJ xs:=by
 have e:=List.dropLast_concat_getLast h;rw[h0]at e
 conv=>rhs;rw[←e]
 rw[wf]
theorem xq {P:Program}{w:World}{K:W.Frag}{mg:Str->Option Value}{base:Heap}(T:Tx K mg):FnOk P w K mg base CX0 1 T.Qr T.Qs ["_law_numbers"] (wH K):=by
 refine T.OW.ok sc__law_cut (λvs H Q E h=>?_) (λcdv A outer s H vs Q E hr h=>?_)
 ·obtain⟨a,xs,rfl,_⟩:=h;rfl
 obtain⟨a,xs,rfl,hS,hl,q⟩:=h;refine⟨_,((ai (au (i:=1) sc__law_cut.nd rfl (Or.inl rfl) (fX iy rfl T.OF fG (aa (pv 0) ac)))
  (ai (gy PassesOwn.never (PW.pt (jI (aM gz (aA aU rfl T.OB aS (aa (pv 1) ac)) ah (aL _)) (jH (aM fE (aH a_ (pv 1) (dF dG ah) (λ_ _=>rfl)) ah (aL _))))) (aq (e9 (vJ PySem.F.plainAttrs_list PySem.F.slot_list_pop PySem.F.type_list_pop Js (pv 1)))))
  (aq (aF (pv 1)))))),?_⟩
 k_units
 refine⟨_,.inl hS,λL hL=>?_⟩;refine gD (λm σ H'=>∃ys:List Int,ys.length=m∧σ=[some (.ref a),some (.ref L)]∧H'=upd H L (.lst (ys.map V.int))∧aJ ys=aJ xs) xs.length ⟨xs,rfl,rfl,rfl,rfl⟩ ?_
 rintro m σ H' ⟨ys,hm,rfl,rfl,he⟩
 k_units
 refine⟨_,.inl (SqL.of ag),?_⟩;rw[ae];have fin:Nml ys->Q (.ref L) (upd H L (.lst (ys.map V.int))):=λhn=>by
  refine q L _ (ar hL _) hL ?_;rw[ag,←he,KS hn]
 refine bJ (λh=>?_) (λh=>?_)
 ·have hne:ys≠[]:=by intro z;rw[z]at h;simp at h
  refine⟨_,SqL.of ag,_,jP hne,?_⟩
  k_units
  refine bJ (λh0=>?_) (λh0=>?_)
  ·refine⟨λσ' H1=>σ'=[some (V.ref a),some (V.ref L)]∧H1=upd H L (.lst (ys.dropLast.map V.int)),?_,fZ (SqL.of ag),_,ag,V.int (ys.getLast hne),?_,rfl,?_⟩
   ·rintro σ' H1 ⟨rfl,rfl⟩
    exact⟨ys.length-1,by omega,ys.dropLast,N5,rfl,rfl,by rw[Nu hne h0];exact he⟩
   ·rw[az,ae,←rg,xF hne];rfl
   ·rw[Il,←List.map_dropLast]
  ·refine fin (en.mpr λx hx=>?_);rw[xF hne]at hx;rw[←Option.some.inj hx];exact h0
 ·have hn:ys=[]:=bE (by omega);exact fin (by rw[hn];exact b8)
def Nv:Sp:=λvs H Q _=>∃i:Int,vs=[.int i]∧Q (.bl true) H
theorem xr {P:Program}{w:World}{K:W.Frag}{mg:Str->Option Value}{base:Heap}(T:Tx K mg):FnOk P w K mg base CX0 1 T.Qv T.Qw ["_law_found"] Nv:=by
 refine T.OX.ok LB (λvs H Q E h=>?_) (λcdv A outer s H vs Q E hr h=>?_)
 ·obtain⟨i,rfl,_⟩:=h;rfl
 obtain⟨i,rfl,q⟩:=h;refine⟨_,((aq (aF (Iz (aA jM rfl T.ON jO (aa (pv 0) (aa (jG (v:=.ty "int") rfl T.S_ JH rfl) ac))) (Iy (IA (aA jM rfl T.ON jO (aa (pv 0) (aa (jG (v:=.ty "bool") rfl T.Ta JI rfl) ac))))))))),?_⟩
 k_units
 refine⟨_,.int _,true,rfl,?_⟩;rw[if_pos rfl];refine⟨_,.int _,false,rfl,?_⟩
 simpa using q
def Nw (K:W.Frag):Sp:=λvs H Q _=>∃(a b:Addr) (xs ys:List Int) (k l:Nat),vs=[.ref a,.ref b]∧SqL K H a (xs.map V.int)∧SqL K H b (ys.map V.int)∧xs.length<=40∧ys.length<=40∧(∀x∈xs,Bd k x)∧(∀y∈ys,Bd l y)∧k+l<=5000∧
 ∀ws:List Int,Nml ws->ws.length<=xs.length+ys.length->(∀j,co ws j=pm (co xs) (co ys) j)->dH H Q (ws.map V.int)
theorem xu {P:Program}{w:World}{K:W.Frag}{mg:Str->Option Value}{base:Heap}(T:Tx K mg):FnOk P w K mg base CX0 2 T.Qz T.QB ["_law_one","_law_other"] (Nw K):=by
 refine T.OY.ok sc__law_product (λvs H Q E h=>?_) (λcdv A outer s H vs Q E hr h=>?_)
 ·obtain⟨a,b,xs,ys,k0,l0,rfl,_⟩:=h;rfl
 obtain⟨a,b,xs,ys,k0,l0,rfl,hA,hB,la,lb,ba,bb,hkl,q⟩:=h;refine⟨_,((ai (au (i:=2) sc__law_product.nd rfl (Or.inl rfl) (ao iR (bN (aa ah ac)) (ao cG (aA aU rfl T.OB aS (aa (pv 0) ac)) (aA aU rfl T.OB aS (aa (pv 1) ac)))))
  (ai (bY PassesOwn.never rfl (fW rfl T.OE (aa (aA aU rfl T.OB aS (aa (pv 0) ac)) ac)) (a7 (i:=3) sc__law_product.nd rfl (Or.inl rfl)) (aq (bY PassesOwn.never rfl (fW rfl T.OE (aa (aA aU rfl T.OB aS (aa (pv 1) ac)) ac)) (a7 (i:=4) sc__law_product.nd rfl (Or.inl rfl)) (aq (jK (ao cG (aH a_ (pv 2) (ao cG (pv 3) (pv 4)) (λ_ _=>rfl)) (ao dw (aH a_ (pv 0) (pv 3) (λ_ _=>rfl)) (aH a_ (pv 1) (pv 4) (λ_ _=>rfl)))) (jJ (pv 2) (ao cG (pv 3) (pv 4)) iw))))))
  (aq (aF (aN (FnOk.mono (xq T) (by decide)) hr rfl T.Qt T.OW.kp T.Qu .nil aD (aa (pv 2) ac))))))),?_⟩
 k_units
 refine⟨by decide,λp hp=>?_⟩;have s1:=ar hp (.lst [V.int 0]);refine⟨_,.inl (s1.seq hA),_,.inl (s1.seq hB),_,ag,?_⟩;rw[ae,ae,js];obtain⟨k,hk⟩:∃k:Nat,(xs.length:Int)+(ys.length:Int)=(k:Int):=⟨xs.length+ys.length,by omega⟩
 have hk1:k=xs.length+ys.length:=by omega
 rw[hk,eE];refine⟨by omega,by omega,bW (aX (by simp;omega)),λF hF=>?_⟩;have s4:=s1.trans (ar hF (.lst ((aC k (0:Int)).map V.int)));have f0:=s1.free hF;have h4:upd (upd H p (.lst [V.int 0])) F (.lst ((aC k (0:Int)).map V.int)) F=_:=ag;generalize upd (upd H p (.lst [V.int 0])) F (.lst ((aC k (0:Int)).map V.int))=H4 at s4 h4 ⊢;refine⟨_,.inl (s4.seq hA),?_⟩;rw[ae,eE];refine⟨by omega,by omega,?_⟩;obtain⟨Pv,hPv⟩:∃Pv:Nat->L2.St->Hp->Prop,∀l σ H',Pv l σ H'↔∃(zs:List Int) (r1 r2:Option V),σ=[some (V.ref a),some (V.ref b),some (V.ref F),r1,r2]∧H' F=some (.lst (zs.map V.int))∧zs.length=k∧
  (∀j,co zs j=cv xs ys l j)∧Same H H':=⟨_,λ_ _ _=>Iff.rfl⟩
 refine gF Pv ((hPv _ _ _).mpr ⟨_,none,none,rfl,h4,by simp,λj=>by rw[wJ];rfl,s4⟩) ?_ ?_
 ·intro l σ H' hi hp';obtain⟨zs,r1,r2,rfl,hz,lz,cz',sz⟩:=(hPv _ _ _).mp hp';have e1:(0:Int)+(l:Int)=(l:Int):=fq _
  (iterate 3 (k_units;(try simp only[e1]));k_units)
  refine⟨_,.inl (sz.seq hB),?_⟩;rw[ae,eE];refine⟨by omega,by omega,?_⟩;obtain⟨Pw,hPw⟩:∃Pw:Nat->L2.St->Hp->Prop,∀j σ H',Pw j σ H'↔∃(zs:List Int) (r2:Option V),σ=[some (V.ref a),some (V.ref b),some (V.ref F),some (V.int l),r2]∧H' F=some (.lst (zs.map V.int))∧zs.length=k∧
   (∀t,co zs t=cv xs ys l t+if l<=t∧t<l+j then xs[l]*co ys (t-l) else 0)∧Same H H':=⟨_,λ_ _ _=>Iff.rfl⟩
  refine gF Pw ((hPw _ _ _).mpr ⟨zs,_,rfl,hz,lz,λt=>by rw[cz' t,if_neg (show ¬(l<=t∧t<l+0) by omega)];omega,sz⟩) ?_ ?_
  ·intro j σ H' hj hp';obtain⟨zs,r2,rfl,hz,lz,cz',sz⟩:=(hPw _ _ _).mp hp';have e2:(0:Int)+(j:Int)=(j:Int):=fq _;have eij:(l:Int)+(j:Int)=((l+j:Nat):Int):=rfl
   (iterate 3 (k_units;(try simp only[e2,eij]));k_units)
   have hiz:l+j<zs.length:=by omega
   refine⟨_,SqL.of hz,_,fg hiz,_,sz.seq hA,_,fg hi,_,sz.seq hB,_,fg hj,?_⟩
   k_units
   refine⟨(ba _ (aW hi)).fits (bb _ (aW hj)) (by omega),_,hz,l+j,iA (by rw[ae];exact hiz),(hPw _ _ _).mpr ⟨zs.set (l+j) (zs[l+j]+xs[l]*ys[j]),_,rfl,by rw[ag,map_set],by rw[i6];exact lz,λt=>?_,sz.more f0⟩⟩;rw[iU _ _ _ _ hiz];by_cases e:t=l+j
   ·subst e;have:=cz' (l+j);rw[if_neg (show ¬(l<=l+j∧l+j<l+j) by omega),ax hiz]at this;rw[if_pos (show l+j=l+j from rfl),if_pos (show l<=l+j∧l+j<l+(j+1) by omega),show l+j-l=j by omega,ax hj];omega
   ·rw[if_neg e,cz' t];by_cases h3:l<=t∧t<l+j
    ·rw[if_pos h3,if_pos (show l<=t∧t<l+(j+1) by omega)]
    ·rw[if_neg h3,if_neg (show ¬(l<=t∧t<l+(j+1)) by omega)]
  ·intro σ H' hp';obtain⟨zs,r2,rfl,hz,lz,cz',sz⟩:=(hPw _ _ _).mp hp';refine (hPv _ _ _).mpr ⟨zs,_,_,rfl,hz,lz,λt=>?_,sz⟩;rw[cz' t];have e:cv xs ys (l+1) t=cv xs ys l t+co xs l*cz ys t l:=rfl;rw[e,ax hi];unfold cz;by_cases h2:l<=t
   ·rw[if_pos h2];by_cases h3:t<l+ys.length
    ·rw[if_pos ⟨h2,h3⟩]
    ·rw[if_neg (by omega),aw (xs:=ys) (by omega),cT]
   ·rw[if_neg (by omega),if_neg h2,cT]
 ·intro σ H' hp';obtain⟨zs,r1,r2,rfl,hz,lz,cz',sz⟩:=(hPv _ _ _).mp hp'
  k_units
  refine⟨F,zs,rfl,SqL.of hz,by omega,λR H2 s2 nR eR=>q (aJ zs) (cI _) (aE (jV _) (by omega)) (λj=>?_) R _ (sz.trans s2) (sz.free nR) eR⟩;rw[cN,cz' j,wN]
def Nx (K:W.Frag):Sp:=λvs H Q _=>∃(a b:Addr) (xs ys:List Int),vs=[.ref a,.ref b]∧SqL K H a (xs.map V.int)∧SqL K H b (ys.map V.int)∧xs.length<=40∧ys.length<=40∧
 ∀ws:List Int,Nml ws->ws.length<=40->(∀j,co ws j=co xs j+co ys j)->dH H Q (ws.map V.int)
theorem Fp {P:Program}{w:World}{K:W.Frag}{mg:Str->Option Value}{base:Heap}(T:Tx K mg):FnOk P w K mg base CX0 2 T.QE T.QF ["_law_one","_law_other"] (Nx K):=by
 refine T.QG.ok sc__law_sum (λvs H Q E h=>?_) (λcdv A outer s H vs Q E hr h=>?_)
 ·obtain⟨a,b,xs,ys,rfl,_⟩:=h;rfl
 obtain⟨a,b,xs,ys,rfl,hA,hB,la,lb,q⟩:=h;refine⟨_,((ai (au (i:=2) sc__law_sum.nd rfl (Or.inl rfl) (ao iR (bN (aa ah ac)) (aA (jh rfl) rfl T.OH iz (aa (aA aU rfl T.OB aS (aa (pv 0) ac)) (aa (aA aU rfl T.OB aS (aa (pv 1) ac)) ac)))))
  (ai (bY PassesOwn.never rfl (fW rfl T.OE (aa (aA aU rfl T.OB aS (aa (pv 0) ac)) ac)) (a7 (i:=3) sc__law_sum.nd rfl (Or.inl rfl)) (aq (jK (aH a_ (pv 0) (pv 3) (λ_ _=>rfl)) (jJ (pv 2) (pv 3) iw))))
  (ai (bY PassesOwn.never rfl (fW rfl T.OE (aa (aA aU rfl T.OB aS (aa (pv 1) ac)) ac)) (a7 (i:=3) sc__law_sum.nd rfl (Or.inl rfl)) (aq (jK (ao cG (aH a_ (pv 2) (pv 3) (λ_ _=>rfl)) (aH a_ (pv 1) (pv 3) (λ_ _=>rfl))) (jJ (pv 2) (pv 3) iw))))
  (aq (aF (aN (FnOk.mono (xq T) (by decide)) hr rfl T.Qt T.OW.kp T.Qu .nil aD (aa (pv 2) ac)))))))),?_⟩
 k_units
 refine⟨by decide,λp hp=>?_⟩;have s1:=ar hp (.lst [V.int 0]);refine⟨_,.inl (s1.seq hA),_,.inl (s1.seq hB),_,ag,?_⟩;rw[ae,ae,js];obtain⟨k,hk⟩:∃k:Nat,(if (ys.length:Int) > (xs.length:Int) then (ys.length:Int) else (xs.length:Int))=(k:Int):=⟨max xs.length ys.length,by split <;> omega⟩
 have hk1:xs.length<=k∧ys.length<=k∧k<=40:=by split at hk <;> omega
 obtain⟨k1,k2,k3⟩:=hk1;rw[hk,eE];refine⟨by omega,by omega,bW (aX (by simp;omega)),λF hF=>?_⟩;have s4:=s1.trans (ar hF (.lst ((aC k (0:Int)).map V.int)));have f0:=s1.free hF;have h4:upd (upd H p (.lst [V.int 0])) F (.lst ((aC k (0:Int)).map V.int)) F=_:=ag;generalize upd (upd H p (.lst [V.int 0])) F (.lst ((aC k (0:Int)).map V.int))=H4 at s4 h4 ⊢;refine⟨_,.inl (s4.seq hA),?_⟩;rw[ae,eE];refine⟨by omega,by omega,?_⟩;obtain⟨Pv,hPv⟩:∃Pv:Nat->L2.St->Hp->Prop,∀l σ H',Pv l σ H'↔∃(zs:List Int) (r1:Option V),σ=[some (V.ref a),some (V.ref b),some (V.ref F),r1]∧H' F=some (.lst (zs.map V.int))∧zs.length=k∧(∀j,co zs j=if j<l then co xs j else 0)∧Same H H':=⟨_,λ_ _ _=>Iff.rfl⟩
 refine gF Pv ((hPv _ _ _).mpr ⟨_,none,rfl,h4,by simp,λj=>by rw[wJ,if_neg (by omega)],s4⟩) ?_ ?_
 ·intro j σ H' hj hp';obtain⟨zs,r1,rfl,hz,lz,cz',sz⟩:=(hPv _ _ _).mp hp';have e2:(0:Int)+(j:Int)=(j:Int):=fq _
  (iterate 3 (k_units;(try simp only[e2]));k_units)
  have hiz:j<zs.length:=by omega
  refine⟨_,sz.seq hA,_,fg hj,_,hz,j,iA (by rw[ae];exact hiz),(hPv _ _ _).mpr ⟨zs.set j xs[j],_,rfl,by rw[ag,map_set],by rw[i6];exact lz,λt=>?_,sz.more f0⟩⟩;rw[iU _ _ _ _ hiz];by_cases e:t=j
  ·subst e;rw[if_pos rfl,if_pos (by omega),ax hj]
  ·rw[if_neg e,cz' t];by_cases h3:t<j
   ·rw[if_pos h3,if_pos (by omega)]
   ·rw[if_neg h3,if_neg (by omega)]
 ·intro σ H' hp';obtain⟨zs,r1,rfl,hz,lz,cz',sz⟩:=(hPv _ _ _).mp hp'
  k_units
  refine⟨_,.inl (sz.seq hB),?_⟩;rw[ae,eE];refine⟨by omega,by omega,?_⟩;obtain⟨Pw,hPw⟩:∃Pw:Nat->L2.St->Hp->Prop,∀l σ H',Pw l σ H'↔∃(zs:List Int) (r1:Option V),σ=[some (V.ref a),some (V.ref b),some (V.ref F),r1]∧H' F=some (.lst (zs.map V.int))∧zs.length=k∧(∀j,co zs j=co xs j+if j<l then co ys j else 0)∧Same H H':=⟨_,λ_ _ _=>Iff.rfl⟩
  refine gF Pw ((hPw _ _ _).mpr ⟨zs,_,rfl,hz,lz,λt=>?_,sz⟩) ?_ ?_
  ·rw[cz' t,if_neg (show ¬t<0 by omega)];by_cases h3:t<xs.length
   ·rw[if_pos h3];omega
   ·rw[if_neg h3,aw (xs:=xs) (by omega)];rfl
  ·intro j σ H' hj hp';obtain⟨zs,r1,rfl,hz,lz,cz',sz⟩:=(hPw _ _ _).mp hp';have e2:(0:Int)+(j:Int)=(j:Int):=fq _
   (iterate 3 (k_units;(try simp only[e2]));k_units)
   have hiz:j<zs.length:=by omega
   refine⟨_,SqL.of hz,_,fg hiz,_,sz.seq hB,_,fg hj,?_⟩
   k_units
   refine⟨_,hz,j,iA (by rw[ae];exact hiz),(hPw _ _ _).mpr ⟨zs.set j (zs[j]+ys[j]),_,rfl,by rw[ag,map_set],by rw[i6];exact lz,λt=>?_,sz.more f0⟩⟩;rw[iU _ _ _ _ hiz];by_cases e:t=j
   ·subst e;have:=cz' t;rw[if_neg (by omega),ax hiz]at this;rw[if_pos rfl,if_pos (by omega),ax hj];omega
   ·rw[if_neg e,cz' t];by_cases h3:t<j
    ·rw[if_pos h3,if_pos (by omega)]
    ·rw[if_neg h3,if_neg (by omega)]
  ·intro σ H' hp';obtain⟨zs,r1,rfl,hz,lz,cz',sz⟩:=(hPw _ _ _).mp hp'
   k_units
   refine⟨F,zs,rfl,SqL.of hz,by omega,λR H2 s2 nR eR=>q (aJ zs) (cI _) (aE (jV _) (by omega)) (λj=>?_) R _ (sz.trans s2) (sz.free nR) eR⟩;rw[cN,cz' j];by_cases h3:j<ys.length
   ·rw[if_pos h3]
   ·rw[if_neg h3,aw (xs:=ys) (by omega)]
def Ny:Sp:=λvs H Q _=>∃a b:Int,vs=[.int a,.int b]∧Q (.int (bh a.natAbs b.natAbs:Nat)) H
theorem Nz {P:Program}{w:World}{K:W.Frag}{mg:Str->Option Value}{base:Heap}(T:Tx K mg):FnOk P w K mg base CX0 1 T.QH T.QI ["_law_one","_law_other"] Ny:=by
 refine T.RF.ok sc__law_divisor (λvs H Q E h=>?_) (λcdv A outer s H vs Q E hr h=>?_)
 ·obtain⟨a,b,rfl,_⟩:=h;rfl
 obtain⟨a,b,rfl,q⟩:=h;refine⟨_,((ai (au (i:=0) sc__law_divisor.nd rfl (Or.inl rfl) (aA jg rfl T.OK jn (aa (pv 0) ac)))
  (ai (au (i:=1) sc__law_divisor.nd rfl (Or.inl rfl) (aA jg rfl T.OK jn (aa (pv 1) ac)))
  (ai (gy PassesOwn.never (aM gf (pv 0) ah (aL _)) (ai (au (i:=2) sc__law_divisor.nd rfl (Or.inl rfl) (ao fN (pv 1) (pv 0)))
  (ai (au (i:=1) sc__law_divisor.nd rfl (Or.inl rfl) (pv 0))
  (aq (au (i:=0) sc__law_divisor.nd rfl (Or.inl rfl) (pv 2))))))
  (aq (aF (pv 1))))))),?_⟩
 (iterate 3 (k_units;(try simp only[j1]));k_units)
 refine gD (λm σ H'=>∃(x y:Nat) (r:Option V),σ=[some (.int x),some (.int y),r]∧H'=H∧m=x∧bh x y=bh a.natAbs b.natAbs) a.natAbs ⟨a.natAbs,b.natAbs,none,rfl,rfl,rfl,rfl⟩ ?_
 rintro m σ H' ⟨x,y,r,rfl,rfl,rfl,hg⟩
 k_units
 refine bJ (λh=>?_) (λh=>?_)
 ·refine⟨λσ' H1=>σ'=[some (V.int ((y:Int) % (m:Int))),some (V.int m),some (V.int ((y:Int) % (m:Int)))]∧H1=H',?_,by omega,rfl,rfl⟩
  rintro σ' H1 ⟨rfl,rfl⟩
  refine⟨y % m,kC _ (by omega),y % m,m,_,by rw[←Int.natCast_emod],rfl,rfl,?_⟩;rw[←GE];exact hg
 ·have h0:m=0:=by omega
  subst h0;rw[Nat.gcd_zero_left]at hg;rw[hg];exact q
theorem NA {P:Program}{w:World}{K:W.Frag}{mg:Str->Option Value}{base:Heap}(T:Tx K mg):FnOk P w K mg base CX0 1 T.QL T.QM ["_law_poly_here","_law_n"] (D_ K):=by
 refine T.RH.ok sc__law_value (λvs H Q E h=>?_) (λcdv A outer s H vs Q E hr h=>?_)
 ·obtain⟨a,xs,n,k,l,rfl,_⟩:=h;rfl
 obtain⟨a,xs,n,k,l,rfl,hS,hl,hk,hb,hf,q⟩:=h;refine⟨_,((ai (au (i:=2) sc__law_value.nd rfl (Or.inl rfl) ah)
  (ai (bY PassesOwn.never rfl (CP rfl T.R4 (aa (pv 0) ac)) (a7 (i:=3) sc__law_value.nd rfl (Or.inl rfl)) (aq (au (i:=2) sc__law_value.nd rfl (Or.inl rfl) (ao cG (ao dw (pv 2) (pv 1)) (pv 3)))))
  (aq (aF (pv 2)))))),?_⟩
 k_units
 refine⟨_,hS,?_⟩;obtain⟨Pv,hPv⟩:∃Pv:Nat->L2.St->Hp->Prop,∀i σ H',Pv i σ H'↔(∃r,σ=[some (V.ref a),some (V.int n),some (V.int (val n (xs.drop (xs.length-i)))),r])∧Bd (k+(l+1)*i) (val n (xs.drop (xs.length-i)))∧H'=H:=⟨_,λ_ _ _=>Iff.rfl⟩
 refine CQ Pv ((hPv _ _ _).mpr ⟨⟨none,by simp[val]⟩,by simp[val,Bd.zero],rfl⟩) (λi σ H' _ z=>by rw[((hPv i σ H').mp z).2.2];exact hS) ?_ ?_
 ·intro i v σ H' hi hv hp;obtain⟨⟨r,rfl⟩,hbd,rfl⟩:=(hPv _ _ _).mp hp;rw[ae]at hi hv;rw[az,ak (by omega)]at hv;obtain rfl:V.int xs[xs.length-1-i]=v:=Option.some.inj hv
  k_units
  have hx:Bd k xs[xs.length-1-i]:=hk _ (aW _);have e:xs.length-(i+1)=xs.length-1-i:=by omega
  have i64:(l+1)*i<=l*64+64:=by have:=dC (l+1) (by omega:i<=64);omega
  refine⟨hbd.fits hb (by omega),(hPv _ _ _).mpr ⟨⟨_,by rw[e,qG n xs i hi]⟩,?_,rfl⟩⟩;rw[e,qG n xs i hi];refine ((hbd.mul hb).add (hx.mono (by omega:k<=k+(l+1)*i+l))).mono ?_;rw[rE];omega
 ·intro σ H' hp;obtain⟨⟨r,rfl⟩,_,rfl⟩:=(hPv _ _ _).mp hp
  k_units
  rw[ae,fT,kr];exact q
def SmP (f:List Int):Prop:=Nml f∧f.length<=3∧∀c∈f,Bd 52 c
def NB (_:W.Frag):Sp:=λvs H Q _=>∃c:Int,vs=[.int c]∧∀f:List Int,SmP f->dH H Q (f.map V.int)
theorem NC (xs:List Int){z:Int}(h:z∈aJ xs):z∈xs:=by
 obtain⟨j,hj,rfl⟩:=cU.mp h;have e:co (aJ xs) j=(aJ xs)[j]:=ax hj;rw[←e,cN];have:j<xs.length:=bV hj (jV _);rw[ax this];exact aW _
theorem ND {P:Program}{w:World}{K:W.Frag}{mg:Str->Option Value}{base:Heap}(T:Tx K mg):FnOk P w K mg base CX0 2 T.Qp T.Qq ["_law_cell"] (NB K):=by
 refine T.RC.ok sc__law_poly (λvs H Q E h=>?_) (λcdv A outer s H vs Q E hr h=>?_)
 ·obtain⟨c,rfl,_⟩:=h;rfl
 obtain⟨c,rfl,q⟩:=h;refine⟨_,((ai (au (i:=1) sc__law_poly.nd rfl (Or.inl rfl) (bN ac))
  (ai (au (i:=2) sc__law_poly.nd rfl (Or.inl rfl) (ao fN (ao kF (pv 0) ah) ah))
  (ai (bY PassesOwn.never rfl (fW rfl T.OE (aa (ao fN (pv 0) ah) ac)) (a7 (i:=3) sc__law_poly.nd rfl (Or.inl rfl)) (ai (au (i:=4) sc__law_poly.nd rfl (Or.inl rfl) (ao cX (ao fN (ao jm (ao cG (ao jf (ao dw (pv 2) (pv 2)) ah) (ao jf ah (pv 2))) (ao cG ah (ao jf ah (pv 3)))) ah) ah))
  (gZ (bC (aM fE (ao fN (ao kF (pv 0) ah) ah) ah (aL _)) (aq (au (i:=4) sc__law_poly.nd rfl (Or.inl rfl) (ao cX (ao cG (ao jf (pv 4) (ao IP ah ah)) (ao fN (ao kF (pv 0) ah) ah)) ah))) bI)
  (aq (e9 (fY PySem.F.plainAttrs_list PySem.F.slot_list_append PySem.F.type_list_append e_ (pv 1) (aa (pv 4) ac)))))))
  (aq (aF (aN (FnOk.mono (xq T) (by decide)) hr rfl T.Qt T.OW.kp T.Qu .nil aD (aa (pv 1) ac)))))))),?_⟩
 dsimp only[aB]
 k_typeOf
 refine⟨aI _,λD nD=>?_⟩;have u1:=ar nD (.lst []);have e1:=ag (H:=H) (a:=D) (o:=.lst []);generalize L2.upd H D (.lst [])=H1 at u1 e1 ⊢;dsimp only[aB]
 k_typeOf
 refine⟨⟨by decide,by decide⟩,by decide,?_⟩;obtain⟨m,hm,bm⟩:∃m:Int,c / 4 % 1000003=m∧Bd 20 m:=⟨_,rfl,Bd.of_lt (m:=1000003) (by omega) (by decide)⟩
 rw[hm];dsimp only[aB]
 k_typeOf
 refine⟨by decide,by omega,by omega,?_⟩;obtain⟨n,hn,hn3⟩:∃n:Nat,(c % 4).toNat=n∧n<=3:=⟨_,rfl,by omega⟩
 rw[hn];obtain⟨Pv,hPv⟩:∃Pv:Nat->L2.St->Hp->Prop,∀i σ H',Pv i σ H'↔∃(ns:List Int) (r3 r4:Option V),σ=[some (V.int c),some (V.ref D),some (V.int m),r3,r4]∧ns.length=i∧(∀a∈ns,Bd 52 a)∧H' D=some (.lst (ns.map V.int))∧Same H H':=⟨_,λ_ _ _=>Iff.rfl⟩
 refine gF Pv ((hPv _ _ _).mpr ⟨[],none,none,rfl,rfl,by simp,e1,u1⟩) ?_ ?_
 ·intro i σ H2 hi hp;obtain⟨ns,r3,r4,rfl,ln,bn,eD,s2⟩:=(hPv _ _ _).mp hp;have e0:(0:Int)+(i:Int)=(i:Int):=fq _
  (iterate 3 (k_units;(try simp only[e0]));k_units)
  refine⟨bm.fits bm (by decide),.inr ⟨by decide,by decide⟩,.inl ⟨by decide,by decide⟩,.inl ⟨by decide,by decide⟩,by omega,?_,by decide,?_⟩
  ·exact bV (show (11+6*(i:Int)).natAbs<2 ^ 9 by omega) (fo (by decide) (by decide))
  obtain⟨a,ha,ba⟩:∃a:Int,(m*m*48271+7907*m).fdiv (11+6*(i:Int)) % 9-4=a∧a.natAbs<=4:=by
   generalize (m*m*48271+7907*m).fdiv (11+6*(i:Int))=g;exact⟨_,rfl,by omega⟩
  rw[ha];obtain⟨M,hM⟩:∃M:L2.St->Hp->Prop,∀σ Hx,M σ Hx↔∃x:Int,Bd 52 x∧σ=[some (V.int c),some (V.ref D),some (V.int m),some (V.int (i:Int)),some (V.int x)]∧Hx=H2:=⟨_,λ_ _=>Iff.rfl⟩
  refine gE M ?_ ?_
  ·k_units
   refine⟨⟨by decide,by decide⟩,by decide,?_⟩;refine bJ (λz=>?_) (λz=>?_)
   ·have e15:(10:Int) ^ (15:Int).toNat=10 ^ 15:=rfl;rw[e15];exact⟨⟨by decide,by decide,by decide⟩,.inr ⟨by decide,by decide⟩,⟨by decide,by decide⟩,by decide,(hM _ _).mpr ⟨_,Bd.of_lt (m:=4000000000000004) (by omega) (by decide),rfl,rfl⟩⟩
   ·exact (hM _ _).mpr ⟨a,Bd.of_lt (m:=5) (by omega) (by decide),rfl,rfl⟩
  intro σ H3 hm3;obtain⟨x,bx,rfl,rfl⟩:=(hM _ _).mp hm3
  k_units
  refine⟨fZ (SqL.of eD),_,eD,by rw[ae];exact aX (by omega),(hPv _ _ _).mpr ⟨ns++[x],_,_,rfl,by simp[ln],λy hy=>?_,by rw[ag,aQ];rfl,s2.more nD⟩⟩;rcases aK.mp hy with z|z
  ·exact bn y z
  ·rw[aP.mp z];exact bx
 intro σ H2 hp;obtain⟨ns,r3,r4,rfl,ln,bn,eD,s2⟩:=(hPv _ _ _).mp hp
 k_units
 exact⟨D,ns,rfl,SqL.of eD,by omega,λR H3 s3 nR eR=>q (aJ ns) ⟨cI _,aE (jV _) (by omega),λc hc=>bn c (NC ns hc)⟩ R _ (s2.trans s3) (s2.free nR) eR⟩
def NE {K:W.Frag}{mg:Str->Option Value}(T:Tx K mg):Sp:=λvs H Q _=>∃(x dx Kp Cl Tb:Addr) (us:List Addr) (kvs:List (Key×V)) (M:List Addr) (w:Nat) (Ti:List (List (List Int))) (cs:List Nat) (pl:Int),vs=[.ref x]∧Spn T H x dx Kp Cl Tb us kvs M w Ti cs pl∧
 ∀(t D:Addr) (H':Hp),Same H H'->H t=none->H D=none->t≠D->H' D=some (.lst ((cs.map λc:Nat=>(c:Int)).map V.int))->H' t=some (.tup [.int pl,.ref D])->Q (.ref t) H'
theorem NF {P:Program}{w:World}{K:W.Frag}{mg:Str->Option Value}{base:Heap}(T:Tx K mg):FnOk P w K mg base CX0 1 T.Ra T.Rb ["self"] (NE T):=by
 refine T.SR.ok LF (λvs H Q E h=>?_) (λcdv A outer s H vs Q E hr h=>?_)
 ·obtain⟨x,dx,Kp,Cl,Tb,us,kvs,M,w,Ti,cs,pl,rfl,_⟩:=h;rfl
 obtain⟨x,dx,Kp,Cl,Tb,us,kvs,M,w,Ti,cs,pl,rfl,S,q⟩:=h;refine⟨_,((aq (aF (ji (aa (cH (pv 0) rfl) (aa (fX iy rfl T.OF fG (aa (cH (pv 0) rfl) ac)) ac)))))),?_⟩
 k_units
 refine⟨_,_,_,S.hx,T.OC,T.OP,_,rfl,_,_,_,S.hx,T.OC,T.OI,_,rfl,Cl,rfl,_,.inl (SqL.of S.hC),λD nD=>⟨by decide,λt nt=>?_⟩⟩;have ne:t≠D:=λz=>by rw[z,ag]at nt;cases nt
 have s1:=ar nD (.lst ((cs.map λc:Nat=>(c:Int)).map V.int));exact q t D _ (s1.trans (ar nt _)) (s1.free nt) nD ne (by rw[aj ne.symm,ag]) ag
def mnL (c:Nat)(x:List Int):List Int:=x.take c++x.drop (c+1)
def dtL:Nat->List (List Int)->Int
 | 0,_=>1
 | _+1,[]=>1
 | n+1,r :: rs=>ay (rs.length+1) λc=>(1-2*((c:Int) % 2))*co r c*dtL n (rs.map (mnL c))
theorem NG:∀(cs:List Nat) (R:List Rw),cs.length=R.length->R.length<=3->dtL 3 (R.map λr=>cs.map r)=dt cs.reverse R
 | [],[],_,_=>rfl
 | [a],[r],_,_=>by
  simp[dtL,dt,io,ay,co]
 | [a,b],[r,s],_,_=>by
  simp[dtL,dt,io,ay,mnL,co];grind
 | [a,b,c],[r,s,t],_,_=>by
  simp[dtL,dt,io,ay,mnL,co];grind
 | [],_ :: _,h,_=>by simp at h
 | _ :: _,[],h,_=>by simp at h
 | [_],_ :: _ :: _,h,_=>by simp at h
 | _ :: _ :: _,[_],h,_=>by simp at h
 | [_,_],_ :: _ :: _ :: _,h,_=>by simp at h
 | _ :: _ :: _ :: _,[_,_],h,_=>by simp at h
 | _,_ :: _ :: _ :: _ :: _,_,h=>by simp at h
 | _ :: _ :: _ :: _ :: _,_ :: _ :: _ :: [],h,_=>by simp at h
theorem NH {c:Nat}{x:List Int}(h:c<x.length):(mnL c x).length=x.length-1:=by unfold mnL;rw[bU,bT,kh];omega
theorem xv {c:Nat}{x:List Int}{z:Int}(h:z∈mnL c x):z∈x:=by
 unfold mnL at h;rcases aK.mp h with y|y
 ·exact fU y
 ·exact List.mem_of_mem_drop y
theorem NI {b:Nat}{F:Nat->Int}:∀n,n<=3->(∀c,c<n->Bd b (F c))->Bd (b+2) (ay n F)
 | 0,_,_=>Bd.zero _
 | 1,_,h=>by
  show (0+F 0).natAbs<_;have:=h 0 (by omega);rw[fq];exact this.mono (by omega)
 | 2,_,h=>by
  show Bd _ (0+F 0+F 1);rw[fq];exact ((h 0 (by decide)).add (h 1 (by decide))).mono (i5 _)
 | 3,_,h=>by
  show Bd _ (0+F 0+F 1+F 2);rw[fq];exact ((h 0 (by decide)).add (h 1 (by decide))).add ((h 2 (by decide)).mono (i5 _))
 | n+4,h,_=>by omega
theorem Fs (c:Nat):(1-2*((c:Int) % 2))=1∨(1-2*((c:Int) % 2))=-1:=by omega
theorem Ft {b:Nat}:∀(n:Nat) (rs:List (List Int)),rs.length<=3->(∀r∈rs,∀z∈r,Bd b z)->Bd ((b+3)*n+1) (dtL n rs)
 | 0,_,_,_=>Bd.one (by omega)
 | n+1,[],_,_=>Bd.one (by omega)
 | n+1,r :: rs,hl,h=>by
  rw[dtL];refine (NI (b:=b+((b+3)*n+1)) (rs.length+1) (by simpa using hl) λc _=>?_).mono (by rw[rE];omega);have ih:=Ft n (rs.map (mnL c)) (by rw[ae];simp at hl;omega) λx hx z hz=>by
   obtain⟨y,hy,rfl⟩:=aT.mp hx;exact h y (bM _ hy) z (xv hz)
  have hc:=dX (P:=λz=>Bd b z) (h r cD) (Bd.zero _) c;rcases Fs c with z|z
  ·rw[z,fu];exact hc.mul ih
  ·rw[z,show (-1:Int)*co r c=- co r c by omega];exact hc.neg.mul ih
theorem NJ {w:Nat}{Ti:List (List (List Int))}{cs:List Nat}{p:Int}(W:∀v∈Ti,v.length=w)(hl:cs.length=Ti.length)(hcs:∀c∈cs,c<w)(k3:Ti.length<=3)(pv:Piv w Ti cs p Ti.length):dtL 3 (Ti.map λv=>cs.map λc=>val p (v.getD c []))≠0:=by
 have tb:=i3 W _ (am _) (by omega) pv;have h:=tb.1 Ti.length (am _);have lr:=ie (w:=w) (Ti:=Ti) (p:=p);have e:(Ti.map λv=>cs.map λc=>val p (v.getD c []))=(aZ w Ti p).map λr=>cs.map r:=by
  unfold aZ;rw[gu];refine i9 (by simp) λi a1 a2=>?_;rw[b5,b5,ky];refine gx λc hc=>?_;have hi:i<Ti.length:=by simpa using a1
  have eg:Ti.getD i []=Ti[i]:=by rw[av,ak hi];rfl
  show val p (Ti[i].getD c [])=co (bD w (Ti.getD i []) i p) c;rw[qR (by rw[eg,W _ (aW hi)];exact hcs c hc),eg]
 rw[e,NG _ _ (by omega) (by omega)];unfold mi cr at h;rw[←hl,eV,hl,d_ (by omega)]at h;exact h
theorem Fu {X:Cx}{K:W.Frag}(hK:X.K=K):SlR X (vG K):=by subst hK;exact iP
theorem Fv (ys:List V)(k:Nat):dr ys none (some (k:Int))=ys.take k:=by
 unfold dr;rw[HT.sIx_nat,HT.sIx_none,kr];by_cases z:k<=ys.length
 ·rw[xS z];rfl
 ·rw[GG (by omega),Gx,d_ (am _),d_ (by omega)]
theorem Fx (ys:List V)(k:Nat):dr ys (some (k:Int)) none=ys.drop k:=by
 unfold dr;rw[HT.sIx_nat,HT.sIx_none,d_ (by rw[kh];omega)];by_cases z:k<=ys.length
 ·rw[xS z]
 ·rw[GG (by omega),xZ (am _),xZ (by omega)]
def NK (K:W.Frag):Nat->Sp
 | 0=>λ_ _ _ _=>False
 | d+1=>λvs H Q _=>∃(R:Addr) (as:List Addr) (rs:List (List Int)),vs=[.ref R]∧SqL K H R (as.map V.ref)∧LL K H as rs∧d<=3∧rs.length<=d∧(∀r∈rs,r.length=rs.length∧∀z∈r,Bd 90 z)∧∀H',Same H H'->Q (.int (dtL d rs)) H'
theorem Fy {P:Program}{w:World}{K:W.Frag}{mg:Str->Option Value}{base:Heap}(T:Tx K mg):∀d:Nat,FnOk P w K mg base CX0 (d+1) T.QN T.QO ["_law_rows"] (NK K d)
 | 0=>T.OZ.ok sc__law_determinant (λ_ _ _ _ h=>h.elim) (λ_ _ _ _ _ _ _ _ _ h=>h.elim)
 | d+1=>by
  have ih:=Fy (P:=P) (w:=w) (base:=base) T d;refine T.OZ.ok sc__law_determinant (λvs H Q E h=>?_) (λcdv A outer s H vs Q E hr h=>?_)
  ·obtain⟨R,as,rs,rfl,_⟩:=h;rfl
  obtain⟨R,as,rs,rfl,hR,hL,d3,ld,hb,q⟩:=h;refine⟨_,((ai (bC (aM fE (aA aU rfl T.OB aS (aa (pv 0) ac)) ah (aL _)) (aq (aF ah)) bI)
  (ai (au (i:=1) sc__law_determinant.nd rfl (Or.inl rfl) ah)
  (ai (bY PassesOwn.never rfl (fW rfl T.OE (aa (aA aU rfl T.OB aS (aa (pv 0) ac)) ac)) (a7 (i:=2) sc__law_determinant.nd rfl (Or.inr rfl)) (ai (jL (i:=3) rfl (dg rfl (du rfl ck) (d9 2 "_law_c" (by decide) rfl (Or.inl rfl) (Or.inl rfl) ⟨_,rfl⟩ cJ)) (cc (iu iP (pv 0) (gC ah) jj)) (λ_ _ _ _=>(ao iQ (iu (Fu (K:=K) rfl) (pv 0) jj (gC (pv 1))) (iu (Fu (K:=K) rfl) (pv 0) (gC (ao cG (pv 1) ah)) jj))) sc__law_determinant.nd rfl rfl)
  (aq (au (i:=1) sc__law_determinant.nd rfl (Or.inl rfl) (ao cG (pv 1) (ao dw (ao dw (ao cX ah (ao jf ah (ao fN (pv 2) ah))) (aH a_ (aH a_ (pv 0) ah (λ_ _=>rfl)) (pv 2) (λ_ _=>rfl))) (aN ih hr rfl T.RI T.OZ.kp T.RJ .nil aD (aa (pv 3) ac))))))))
  (aq (aF (pv 1))))))),?_⟩
  k_units
  have la:=hL.len;have l1:(as.map V.ref).length=rs.length:=by rw[ae,la]
  refine⟨_,.inl hR,?_⟩;rw[l1];refine bJ (λz=>?_) (λz=>?_)
  ·have e:rs=[]:=bE (by omega);have:=q H (Same.refl _);rw[e]at this
   cases d with
   | zero=>exact this
   | succ d=>exact this
  cases rs with
  | nil=>simp at z
  | cons r rt=>
   cases as with
   | nil=>simp at la
   | cons a0 at'=>
    cases d with
    | zero=>simp at ld
    | succ d=>
     refine⟨_,.inl hR,?_⟩;rw[l1];have lt:rt.length<=d:=by simpa using ld
     refine⟨by simp;omega,by rw[bX];omega,?_⟩;rw[eE];obtain⟨F,hF⟩:∃F:Nat->Int,∀c,F c=(1-2*((c:Int) % 2))*co r c*dtL d (rt.map (mnL c)):=⟨_,λ_=>rfl⟩
     obtain⟨Pv,hPv⟩:∃Pv:Nat->L2.St->Hp->Prop,∀i σ H',Pv i σ H'↔∃r2 r3:Option V,σ=[some (V.ref R),some (V.int (ay i F)),r2,r3]∧Same H H':=⟨_,λ_ _ _=>Iff.rfl⟩
     refine gF Pv ((hPv _ _ _).mpr ⟨none,none,rfl,Same.refl _⟩) ?_ ?_
     ·intro i σ H1 hi hp;obtain⟨r2,r3,rfl,s1⟩:=(hPv _ _ _).mp hp;have e0:(0:Int)+(i:Int)=(i:Int):=fq _;dsimp only[aB]
      k_typeOf
      have s1R:=s1.seq hR;refine⟨_,s1R,λp np=>?_⟩;have c1:∀ys,dr ys (some 1) none=ys.drop 1:=λys=>Fx ys 1;rw[c1,e0];have s2:=s1.trans (ar np (.lst ((a0 :: at').map V.ref |>.drop 1)));have e2:=ag (H:=H1) (a:=p) (o:=.lst ((a0 :: at').map V.ref |>.drop 1));generalize L2.upd H1 p (.lst ((a0 :: at').map V.ref |>.drop 1))=H2 at s2 e2 ⊢;have e2':H2 p=some (.lst (at'.map V.ref)):=e2;have hLt:LL K H2 at' rt:=⟨by simpa using la,λj b x e1 e2=>s2.seq (hL.get (j+1) b x e1 e2)⟩
      refine⟨⟨_,SqL.of e2'⟩,λD nD=>j6 (ps:=rt) (ds:=rt.map (mnL i)) nD (SqL.of e2') hLt (by simp) (by omega) (λj b x y Hx R' hx hy sx hX hR'=>?_) (λO bs H3 s3 nO eO lO nOb Ob ndb=>?_)⟩
      ·have ey:y=mnL i x:=by rw[az,hx]at hy;exact (Option.some.inj hy).symm
       subst ey;have e1:(i:Int)+1=((i+1:Nat):Int):=by omega
       (iterate 3 (k_units;(try simp only[bst]));k_units)
       have lx:x.length<=3:=by have:=(hb x (bM _ (bH hx))).1;simp at this;omega
       refine⟨_,rfl,_,rfl,_,hX,λp1 n1=>⟨_,rfl,_,rfl,_,(ar n1 _).seq hX,λp2 n2=>?_⟩⟩;have ne:p1≠p2:=λz=>by rw[←z,ag]at n2;cases n2
       rw[Fv]at n2 ⊢;rw[e1,Fx];refine⟨_,by rw[aj ne,ag],_,ag,bW (aX (by simp;omega)),λp3 n3=>?_⟩;have t1:=(ar n1 (.lst ((x.map V.int).take i))).trans (ar n2 (.lst ((x.map V.int).drop (i+1))));refine hR' p3 _ (t1.trans (ar n3 _)) (t1.free n3) ?_;rw[ag];unfold mnL;rw[aQ,re,rf]
      ·have sH:=s2.trans s3;have hr0:r.length=(r :: rt).length:=(hb r cD).1;have hi':i<r.length:=by rw[hr0];exact hi
       have bc:Bd 90 r[i]:=(hb r cD).2 _ (aW hi');have sg:=Fs i;have b1:Bd 2 (1-2*((i:Int) % 2)):=Bd.of_lt (m:=2) (by omega) (by decide);have dd:=Ft (b:=90) d (rt.map (mnL i)) (by simp;omega) λy hy z hz=>by
        obtain⟨x,hx,rfl⟩:=aT.mp hy;exact (hb x (bM _ hx)).2 z (xv hz)
       have b2:Bd 100 ((1-2*((i:Int) % 2))*r[i]):=(b1.mul bc).mono (by decide);refine⟨by decide,.inl ⟨by decide,by omega⟩,_,sH.seq hR,_,eI (j:=0) rfl,a0,rfl,_,sH.seq (hL.get 0 a0 r rfl rfl),_,fg hi',_,rfl,b1.fits bc (by decide),O,bs,rt.map (mnL i),rfl,SqL.of eO,lO.ll,by omega,by rw[ae];omega,λy hy=>?_,λH4 s4=>⟨_,rfl,b2.fits dd ?_,(hPv _ _ _).mpr ⟨some (V.int (i:Int)),some (V.ref O),?_,sH.trans s4⟩⟩⟩
       ·obtain⟨x,hx,rfl⟩:=aT.mp hy;have h1:=hb x (bM _ hx);refine⟨by rw[NH (by rw[h1.1];exact hi),h1.1,ae,bX];omega,λz hz=>h1.2 z (xv hz)⟩
       ·have:=dC (90+3) (show d<=3 by omega);omega
       ·rw[iC,hF,ax hi']
     ·intro σ H1 hp;obtain⟨r2,r3,rfl,s1⟩:=(hPv _ _ _).mp hp
      k_units
      have:=q H1 s1;rw[dtL]at this;have e:ay (rt.length+1) F=ay (rt.length+1) λc=>(1-2*((c:Int) % 2))*co r c*dtL d (rt.map (mnL c)):=cY λc _=>hF c;rw[e];exact this
theorem NL {K:W.Frag}{a b:Addr}{as bs:List Addr}{ps rs ds:List (List Int)}{fv:List (Nat×Str)}{te:TE}{Q:VK}{σ:L2.St}{H1:Hp}{D:Addr}(nD:H1 D=none) (hA:SqL K H1 a (as.map V.ref)) (hL:LL K H1 as ps) (hB:SqL K H1 b (bs.map V.ref)) (hM:LL K H1 bs rs) (hd:ds.length=ps.length) (hr:rs.length=ps.length) (hl:ps.length<=900)
  (hs:∀(i:Nat) (x y:Addr) (p r d:List Int) (Hx:Hp) (R:VK),ps[i]?=some p->rs[i]?=some r->ds[i]?=some d->Same H1 Hx->SqL K Hx x (p.map V.int)->SqL K Hx y (r.map V.int)->dH Hx R (d.map V.int)->te (ej fv σ (some (V.ref x)) (some (V.ref y))) Hx R) (he:qQ H1 Q ds):pF K (Itz K a b) fv te Q σ H1 D:=by
 obtain⟨Pc,hPc⟩:∃Pc:Nat->Hp->Prop,∀j Hx,Pc j Hx↔∃cs:List Addr,Hx D=some (.lst (cs.map V.ref))∧LH Hx cs (ds.take j)∧D∉cs∧cs.Nodup∧(∀b∈cs,H1 b=none)∧Same H1 Hx:=⟨_,λ_ _=>Iff.rfl⟩
 refine C5 (xs:=as.map V.ref) (ys:=bs.map V.ref) Pc ((hPc _ _).mpr ⟨[],ag,LH.nil _,by simp,mo,by simp,ar nD _⟩) (λi Hx _ _ z=>by obtain⟨_,_,_,_,_,_,z⟩:=(hPc i Hx).mp z;exact⟨z.seq hA,z.seq hB⟩) ?_ ?_
 ·intro j v1 v2 pt Hx h1 h2 hc npt;obtain⟨cs,k1,k2,k3,k4,k5,k6⟩:=(hPc _ _).mp hc;obtain⟨x,p,rfl,_,hp,hX⟩:=hL.nth h1;obtain⟨y,r,rfl,_,hr',hY⟩:=hM.nth h2;have hj:j<ps.length:=(aV.mp hp).1;have hdj:ds[j]?=some ds[j]:=ak (by omega);have u:=ar npt (.tup [V.ref x,V.ref y]);have u6:=k6.trans u;refine hs j x y p r _ _ _ hp hr' hdj u6 (u6.seq hX) (u6.seq hY) λF H2 s2 nF eF=>?_;have t2:=u.trans s2;have lk:=k2.len;rw[bT]at lk;have nF1:=u.free nF;have nFD:F≠D:=λz=>by rw[z,k1]at nF1;cases nF1
  have nFb:F∉cs:=k2.notin nF1;have m1:D∉cs++[F]:=λz=>by
   rcases aK.mp z with z|z
   ·exact k3 z
   ·exact nFD (aP.mp z).symm
  refine⟨_,t2 _ _ k1,by rw[ae];exact aX (by omega),(hPc _ _).mpr ⟨cs++[F],by rw[ag];simp,?_,m1,?_,?_,(k6.trans t2).more nD⟩⟩
  ·have e:ds.take (j+1)=ds.take j++[ds[j]]:=by rw[cM,hdj];rfl
   rw[e];exact ((k2.same t2).snoc eF).upd m1
  ·exact ku.mpr ⟨k4,by simp,λx hx y hy z=>nFb (by rw[aP.mp hy]at z;rw[←z];exact hx)⟩
  ·intro x hx;rcases aK.mp hx with z|z
   ·exact k5 x z
   ·rw[aP.mp z];exact k6.free nF1
 ·intro H' hc;obtain⟨cs,k1,k2,k3,k4,k5,k6⟩:=(hPc _ _).mp hc;have e1:=hL.len;have e2:=hM.len;rw[ae,ae,d_ (by omega)]at k2;exact he D cs H' k6 nD k1 k2 k5 k3 k4
theorem Fz {K:W.Frag}{a:Addr}{xs:List V}{Pd:Nat->List Int->Prop}{fv:List (Nat×Str)}{te:TE}{Q:VK}{σ:L2.St}{H1:Hp}{D:Addr}(nD:H1 D=none) (hA:SqL K H1 a xs) (hl:xs.length<=900)
  (hs:∀(i:Nat) (v:V) (Hx:Hp) (R:VK),xs[i]?=some v->Same H1 Hx->(∀f,Pd i f->dH Hx R (f.map V.int))->te (bst fv σ (some v)) Hx R)
  (he:∀ds:List (List Int),ds.length=xs.length->(∀i d,ds[i]?=some d->Pd i d)->qQ H1 Q ds):jN (Itl K a) fv te Q σ H1 D:=by
 obtain⟨Pc,hPc⟩:∃Pc:Nat->Hp->Prop,∀j Hx,Pc j Hx↔∃(bs:List Addr) (ds:List (List Int)),ds.length=j∧(∀i d,ds[i]?=some d->Pd i d)∧Hx D=some (.lst (bs.map V.ref))∧LH Hx bs ds∧D∉bs∧bs.Nodup∧(∀b∈bs,H1 b=none)∧Same H1 Hx:=⟨_,λ_ _=>Iff.rfl⟩
 refine eJ (xs:=xs) Pc ((hPc _ _).mpr ⟨[],[],rfl,λi d e=>by simp at e,ag,LH.nil _,by simp,mo,by simp,ar nD _⟩) (λi Hx _ z=>by obtain⟨_,_,_,_,_,_,_,_,_,z⟩:=(hPc i Hx).mp z;exact z.seq hA) ?_ ?_
 ·intro j v Hx hv hc;obtain⟨bs,ds,lj,pd,k1,k2,k3,k4,k5,k6⟩:=(hPc _ _).mp hc;have hj:=(aV.mp hv).1;refine hs j v Hx _ hv k6 λf pf F H2 s2 nF eF=>?_;have lk:=k2.len;have nFD:F≠D:=λz=>by rw[z,k1]at nF;cases nF
  have nFb:F∉bs:=k2.notin nF;have m1:D∉bs++[F]:=λz=>by
   rcases aK.mp z with z|z
   ·exact k3 z
   ·exact nFD (aP.mp z).symm
  refine⟨_,s2 _ _ k1,by rw[ae];exact aX (by omega),(hPc _ _).mpr ⟨bs++[F],ds++[f],by simp[lj],λi d hd=>?_,by rw[ag];simp,((k2.same s2).snoc eF).upd m1,m1,?_,?_,(k6.trans s2).more nD⟩⟩
  ·by_cases z:i<ds.length
   ·rw[b_ z]at hd;exact pd i d hd
   ·have hi:=(aV.mp hd).1;have ei:i=ds.length:=by simp at hi;omega
    subst ei;simp at hd;rw[←hd,lj];exact pf
  ·exact ku.mpr ⟨k4,by simp,λx hx y hy z=>nFb (by rw[aP.mp hy]at z;rw[←z];exact hx)⟩
  ·intro x hx;rcases aK.mp hx with z|z
   ·exact k5 x z
   ·rw[aP.mp z];exact k6.free nF
 ·intro H' hc;obtain⟨bs,ds,lj,pd,k1,k2,k3,k4,k5,k6⟩:=(hPc _ _).mp hc;exact he ds lj pd D bs H' k6 nD k1 k2 k5 k3 k4
theorem xw {xs:List V}{i:Nat}(h0:0<i)(h:i<=xs.length):atI xs (-(i:Int))=xs[xs.length-i]?:=by
 unfold atI;rw[CS h0 h];rfl
theorem qW {α:Int}(hα:1<=α∧α<=3){f:List Int}(h:SmP f):Nml (pdL [α] f)∧(pdL [α] f).length<=3∧(∀j,co (pdL [α] f) j=α * co f j)∧∀n,val n (pdL [α] f)=α * val n f:=by
 have v:∀n,val n (pdL [α] f)=α * val n f:=λn=>by rw[be];simp[val]
 refine⟨cK _ _,?_,λj=>by rw[←fh];exact f8 (λn=>by rw[v,bL]) j,v⟩;have:=j5 (hE (show α≠0 by omega)) h.1;simp at this;exact aE this h.2.1
theorem xx {f:List Int}(h:SmP f)(j:Nat):(co f j).natAbs<2 ^ 52:=dX (P:=λz=>Bd 52 z) h.2.2 (Bd.zero _) j
theorem FA {α:Int}(hα:1<=α∧α<=3){f g:List Int}(h:SmP f)(k:SmP g):Nml (dN (pdL [α] f) (pdL [0,1] g))∧(dN (pdL [α] f) (pdL [0,1] g)).length<=4∧(∀c∈dN (pdL [α] f) (pdL [0,1] g),Bd 54 c)∧∀n,val n (dN (pdL [α] f) (pdL [0,1] g))=α * val n f+n*val n g:=by
 obtain⟨s1,s2,s3,s4⟩:=qW hα h;have v:∀n,val n (pdL [0,1] g)=n*val n g:=λn=>by rw[be];simp[val]
 have c1:∀j,(co (pdL [0,1] g) j).natAbs<2 ^ 52:=λj=>by
  rw[f8 (ys:=0 :: g) (λn=>by rw[v];simp[val]) j]
  cases j with
  | zero=>exact dj _
  | succ j=>exact xx k j
 refine⟨lC _ _,EL (by omega) ?_,dY λj=>?_,λn=>by rw[qS,s4,v]⟩
 ·have:=j5 (show Nml [0,1] from en.mpr λa ha=>by simp at ha;omega) k.1;simp at this;have:=k.2.1;omega
 ·have e:co (dN (pdL [α] f) (pdL [0,1] g)) j=α * co f j+co (pdL [0,1] g) j:=by unfold dN;rw[cN,fJ,s3]
  have a1:=xx h j;have a2:=c1 j;rw[e];show _<2 ^ 54;have:(α * co f j).natAbs=α.natAbs*(co f j).natAbs:=b4 _ _;have:α.natAbs*(co f j).natAbs<=3*(co f j).natAbs:=dE _ (by omega);refine cE (i8 _ _) ?_;clear e;generalize (α * co f j).natAbs=u1 at *;generalize (co (pdL [0,1] g) j).natAbs=u2 at *;generalize (co f j).natAbs=u3 at *;omega
def qX (w:Nat)(Ti:List (List (List Int)))(q:List (List Int)):Prop:=q.length=w∧((∀f∈q,SmP f)∨((∀f∈q,Nml f∧f.length<=4∧∀c∈f,Bd 54 c)∧∃U:Nat->Int->Int,∀c,c<w->∀n,val n (q.getD c [])=ay Ti.length λt=>U t n*val n ((Ti.getD t []).getD c [])))
def NM (K:W.Frag):Sp:=λvs H Q _=>∃(A Kp:Addr) (ns:List Int) (us:List Addr) (Ti:List (List (List Int))) (w:Nat) (k:Int),vs=[.ref A,.int (w:Int),.ref Kp,.int k]∧SqL K H A (ns.map V.int)∧ns.length=max 1 w∧w<=3∧SqL K H Kp (us.map V.ref)∧VL K H us Ti∧(∀v∈Ti,v.length=w∧∀f∈v,SmP f)∧Ti.length<=3∧∀q,qX w Ti q->qQ H Q q
theorem NN {P:Program}{wd:World}{K:W.Frag}{mg:Str->Option Value}{base:Heap}(T:Tx K mg):FnOk P wd K mg base CX0 3 T.QJ T.QK ["_law_cells","_law_width","_law_kept","_law_k"] (NM K):=by
 refine T.RG.ok sc__law_vector (λvs H Q E h=>?_) (λcdv A outer s H vs Q E hr h=>?_)
 ·obtain⟨A,Kp,ns,us,Ti,w,k,rfl,_⟩:=h;rfl
 obtain⟨A,Kp,ns,us,Ti,w,k,rfl,hA,ln,w3,hK,hL,hv,k3,q⟩:=h;refine⟨_,((ai (jL (i:=4) rfl (dg rfl ck cJ) (cc (pv 0)) (λ_ _ _ _=>(aN (FnOk.mono (ND T) (by decide)) hr rfl T.Sq T.RC.kp T.Sr .nil aD (aa (pv 0) ac))) sc__law_vector.nd rfl rfl)
  (gZ (bC (PW.pt (jI (aM fE (ao fN (ao kF (aH a_ (pv 0) ah (λ_ _=>rfl)) ah) ah) ah (aL _)) (jH (aM gz (aA aU rfl T.OB aS (aa (pv 2) ac)) ah (aL _))))) (ai (jL (i:=4) rfl (dg rfl (du rfl ck) (d9 0 "_law_cells" (by decide) rfl (Or.inl rfl) (Or.inl rfl) ⟨_,rfl⟩ cJ)) (cc (aH a_ (pv 2) (dF dG ah) (λ_ _=>rfl))) (λ_ _ _ _=>(aN (FnOk.mono (xu T) (by decide)) hr rfl T.QC T.OY.kp T.QD .nil aD (aa (bN (aa (ao cG ah (ao fN (aH (jY (K:=K) rfl) (pv 1) ah (λ_ _=>rfl)) ah)) ac)) (aa (pv 0) ac)))) sc__law_vector.nd rfl rfl)
  (aq (bC (aM gz (aA aU rfl T.OB aS (aa (pv 2) ac)) ah (aL _)) (aq (Dh (i:=4) rfl (C3 rfl ck C2) (jT rfl T.OM (aa (pv 4) (aa (aH a_ (pv 2) (dF dG ah) (λ_ _=>rfl)) ac))) (λ_ _ _ _=>(aN (FnOk.mono (Fp T) (by decide)) hr rfl T.RD T.QG.kp T.RE .nil aD (aa (pv 0) (aa (aN (FnOk.mono (xu T) (by decide)) hr rfl T.QC T.OY.kp T.QD .nil aD (aa (bN (aa ah (aa ah ac))) (aa (pv 1) ac))) ac)))) sc__law_vector.nd rfl rfl)) bI))) bI)
  (aq (aF (ff rfl (dg rfl ck cJ) (cc (iu iP (pv 4) jj (gC (pv 1)))) (λ_ _ _ _=>(fX (qD (K:=K) rfl) rfl T.OF fG (aa (pv 0) ac))))))))),?_⟩
 dsimp only[aB]
 k_typeOf
 have lus:=hL.len;have c0:0<ns.length:=by omega
 refine⟨⟨_,hA⟩,λD nD=>Fz (Pd:=λ_ f=>SmP f) nD hA (by rw[ae];omega) (λi v Hx R hvv sx hR=>?_) (λds ld hds F fs H1 s1 nF eF lF nfs Ff ndf=>?_)⟩
 ·rw[az]at hvv;obtain⟨c,hc,rfl⟩:=b6.mp hvv
  (iterate 3 (k_units;(try simp only[bst]));k_units)
  exact⟨c,rfl,hR⟩
 rw[ae]at ld;obtain⟨M,hM⟩:∃M:L2.St->Hp->Prop,∀σ Hx,M σ Hx↔∃(G:Addr) (gs:List Addr) (ps:List (List Int)),σ=[some (V.ref A),some (V.int (w:Int)),some (V.ref Kp),some (V.int k),some (V.ref G)]∧Hx G=some (.lst (gs.map V.ref))∧LH Hx gs ps∧w<=ps.length∧ps.length<=3∧qX w Ti (ps.take w)∧Same H Hx:=⟨_,λ_ _=>Iff.rfl⟩
 refine gE M ?_ ?_
 ·have stay:M [some (V.ref A),some (V.int (w:Int)),some (V.ref Kp),some (V.int k),some (V.ref F)] H1:=(hM _ _).mpr ⟨F,fs,ds,rfl,eF,lF,by omega,by omega,⟨by rw[bT];omega,.inl λf hf=>by
   obtain⟨i,hi⟩:=List.mem_iff_getElem?.mp (fU hf);exact hds i f hi⟩,s1⟩
  k_units
  refine⟨_,s1.seq hA,_,eI (j:=0) (by rw[az,ak c0];rfl),_,rfl,?_⟩;refine⟨⟨by decide,by decide⟩,by decide,?_⟩;refine bJ (λ_=>?_) (λ_=>stay);refine⟨_,.inl (s1.seq hK),?_⟩;refine bJ (λz=>?_) (λ_=>stay);rw[ae]at z;obtain⟨m,hm⟩:∃m,Ti.length=m+1:=⟨Ti.length-1,by omega⟩
  have hm1:m<Ti.length:=by omega
  have hu1:us[m]?=some us[m]:=ak (by omega);have hk1:Ti[m]?=some Ti[m]:=ak hm1;obtain⟨as1,a1,a2⟩:=hL.get m _ _ hu1 hk1;have hv1:=hv _ (aW hm1);obtain⟨α,hα,eα⟩:∃α:Int,(1<=α∧α<=3)∧(1:Int)+ns[0] % 3=α:=⟨(1:Int)+ns[0] % 3,by omega,rfl⟩
  have gm:Ti.getD m []=Ti[m]:=by rw[av,hk1];rfl
  generalize Ti[m]=v1 at hk1 a2 hv1 gm;refine⟨_,s1.seq hK,_,?_,us[m],rfl,⟨_,s1.seq a1⟩,λD2 nD2=>j6 (ps:=v1) (ds:=v1.map (pdL [α])) nD2 (s1.seq a1) (a2.same s1) (by simp) (by omega) (λi b p d Hx R' hp hd sx hb hR'=>?_) (λO ob H2 s2 nO eO lO nOb Oob nd=>?_)⟩
  ·have:=xw (xs:=us.map V.ref) (i:=1) (by decide) (by rw[ae];omega);rw[show (-((1:Nat):Int))=-1 from rfl]at this;rw[this,ae,az,show us.length-1=m by omega,hu1];rfl
  ·have ed:d=pdL [α] p:=by rw[az,hp]at hd;exact (Option.some.inj hd).symm
   subst ed
   (iterate 3 (k_units;(try simp only[bst]));k_units)
   have hsm:=hv1.2 p (bH hp);have l3:=hsm.2.1;refine⟨_,rfl,A,rfl,_,sx.seq (s1.seq hA),_,eI (j:=0) (by rw[az,ak c0];rfl),_,rfl,by decide,by decide,λl hl=>?_⟩;rw[eα];have u:=ar hl (.lst [V.int α]);refine⟨l,b,[α],p,2,52,rfl,SqL.of ag,u.seq hb,by simp,by omega,λx hx=>by rw[aP.mp hx];exact Bd.of_lt (m:=4) (by omega) (by decide),hsm.2.2,by decide,λws nw _ cw F2 H3 s3 nF2 eF2=>?_⟩;have ew:ws=pdL [α] p:=gH nw (cK _ _) λj=>by rw[cw,jw]
   exact hR' F2 H3 (u.trans s3) (u.free nF2) (by rw[←ew];exact eF2)
  ·have t2:=s1.trans s2;have lo:=lO.len;rw[ae]at lo;have w1:=hv1.1;refine⟨_,.inl (t2.seq hK),?_⟩;rw[ae];refine bJ (λz2=>?_) (λz2=>?_)
   ·obtain⟨m',rfl⟩:∃m',m=m'+1:=⟨m-1,by omega⟩
    have hm2:m'<Ti.length:=by omega
    have hu2:us[m']?=some us[m']:=ak (by omega);have hk2:Ti[m']?=some Ti[m']:=ak hm2;obtain⟨as2,b1,b2⟩:=hL.get m' _ _ hu2 hk2;have hv2:=hv _ (aW hm2);have gm2:Ti.getD m' []=Ti[m']:=by rw[av,hk2];rfl
    generalize Ti[m']=v2 at hk2 b2 hv2 gm2;have w2:=hv2.1;obtain⟨ds2,hds2⟩:∃ds2,ds2=i_ (λf g=>dN (pdL [α] f) (pdL [0,1] g)) v1 v2:=⟨_,rfl⟩
    have ld2:ds2.length=w:=by rw[hds2,mv];omega
    have gd2:∀i f g,v1[i]?=some f->v2[i]?=some g->ds2[i]?=some (dN (pdL [α] f) (pdL [0,1] g)):=λi f g h1 h2=>by rw[hds2,Og,h1,h2]
    refine⟨_,t2.seq hK,_,?_,O,rfl,us[m'],rfl,_,SqL.of eO,_,t2.seq b1,λD3 nD3=>NL (ps:=v1.map (pdL [α])) (rs:=v2) (ds:=ds2) nD3 (SqL.of eO) lO.ll (t2.seq b1) (b2.same t2) (by simp;omega) (by simp;omega) (by simp;omega) (λi x y p r d Hx R' hp hr hd sx hX hY hR'=>?_) (λO3 ob3 H3 s3 nO3 eO3 lO3 nOb3 Oob3 nd3=>?_)⟩
    ·have:=xw (xs:=us.map V.ref) (i:=2) (by decide) (by rw[ae];omega);rw[show (-((2:Nat):Int))=-2 from rfl]at this;rw[this,ae,az,show us.length-2=m' by omega,hu2];rfl
    ·rw[az]at hp;obtain⟨f,hf,rfl⟩:=b6.mp hp;have hsm:=hv2.2 r (bH hr);have hsf:=qW hα (hv1.2 f (bH hf));have l3:=hsm.2.1;have ed:d=dN (pdL [α] f) (pdL [0,1] r):=by rw[gd2 i f r hf hr]at hd;exact (Option.some.inj hd).symm
     subst ed
     (iterate 3 (k_units;(try simp only[ej]));k_units)
     refine⟨by decide,λl hl=>?_⟩;have u:=ar hl (.lst [V.int 0,V.int 1]);refine⟨l,y,[0,1],r,2,52,rfl,SqL.of ag,u.seq hY,by simp,by omega,λx hx=>?_,hsm.2.2,by decide,λws nw lw cw F2 H4 s4 nF2 eF2=>?_⟩
     ·simp at hx;rcases hx with rfl|rfl
      ·exact Bd.zero _
      ·exact Bd.one (by decide)
     have ew:ws=pdL [0,1] r:=gH nw (cK _ _) λj=>by rw[cw,jw]
     have t4:=u.trans s4;refine⟨x,F2,_,ws,rfl,t4.seq hX,SqL.of eF2,by omega,by simp at lw;omega,λvs nv _ cv' F3 H5 s5 nF3 eF3=>?_⟩;have ev:vs=dN (pdL [α] f) (pdL [0,1] r):=gH nv (lC _ _) λj=>by
      rw[cv',ew];unfold dN;rw[cN,fJ]
     exact hR' F3 H5 (t4.trans s5) (t4.free nF3) (by rw[←ev];exact eF3)
    ·have vq:qX w Ti ds2:=by
      obtain⟨U,hU⟩:∃U:Nat->Int->Int,∀t n,U t n=if t=m'+1 then α else if t=m' then n else 0:=⟨_,λ_ _=>rfl⟩
      refine⟨ld2,.inr ⟨λf hf=>?_,U,λc hc n=>?_⟩⟩
      ·obtain⟨i,hi,rfl⟩:=cU.mp hf;have h1:v1[i]?=some v1[i]:=ak (by omega);have h2:v2[i]?=some v2[i]:=ak (by omega);have h3:=gd2 i _ _ h1 h2;rw[ak hi]at h3;rw[Option.some.inj h3];obtain⟨x1,x2,x3,_⟩:=FA hα (hv1.2 _ (bH h1)) (hv2.2 _ (bH h2));exact⟨x1,x2,x3⟩
      ·have h1:v1[c]?=some v1[c]:=ak (by omega);have h2:v2[c]?=some v2[c]:=ak (by omega);have h3:=gd2 c _ _ h1 h2;rw[av,h3,hm,iC,iC,gm,gm2,fQ λt ht=>by rw[hU,if_neg (by omega),if_neg (by omega)];simp];rw[hU,hU,if_neg (show ¬m'=m'+1 by omega),if_pos rfl,if_pos rfl];obtain⟨_,_,_,x4⟩:=FA hα (hv1.2 _ (bH h1)) (hv2.2 _ (bH h2));show val n (dN (pdL [α] v1[c]) (pdL [0,1] v2[c]))=_;rw[x4,av,h2,av,h1];show _=0+n*val n v2[c]+α * val n v1[c];omega
     exact (hM _ _).mpr ⟨O3,ob3,ds2,rfl,eO3,lO3,by omega,by omega,by rw[d_ (by omega)];exact vq,t2.trans s3⟩
   ·have m0:m=0:=by omega
    subst m0;have vq:qX w Ti (v1.map (pdL [α])):=by
     refine⟨by simp;exact w1,.inr ⟨λf hf=>?_,λt n=>α,λc hc n=>?_⟩⟩
     ·obtain⟨g,hg,rfl⟩:=aT.mp hf;obtain⟨x1,x2,x3,_⟩:=qW hα (hv1.2 g hg);refine⟨x1,by omega,dY λj=>?_⟩;rw[x3];exact ((Bd.of_lt (m:=4) (show α.natAbs<4 by omega) (by decide):Bd 2 α).mul (show Bd 52 (co g j) from xx (hv1.2 g hg) j)).mono (by decide)
     ·have h1:v1[c]?=some v1[c]:=ak (by omega);obtain⟨_,_,_,x4⟩:=qW hα (hv1.2 _ (bH h1));rw[av,az,h1,hm];show val n (pdL [α] v1[c])=0+α * val n ((Ti.getD 0 []).getD c []);rw[x4,gm,av,h1];show _=0+α * val n v1[c];omega
    exact (hM _ _).mpr ⟨O,ob,v1.map (pdL [α]),rfl,eO,lO,by simp;omega,by simp;omega,by rw[d_ (by simp;omega)];exact vq,t2⟩
 intro σ H2 hm;obtain⟨G,gs,ps,rfl,eG,lG,wp,p3,hq,s2⟩:=(hM _ _).mp hm;clear hm hM M
 k_units
 refine⟨_,SqL.of eG,λp np=>?_⟩;rw[Fv];have s3:=s2.trans (ar np (.lst ((gs.map V.ref).take w)));have e3:=ag (H:=H2) (a:=p) (o:=.lst ((gs.map V.ref).take w));have s23:=ar np (.lst ((gs.map V.ref).take w));generalize L2.upd H2 p (.lst ((gs.map V.ref).take w))=H3 at s3 s23 e3 ⊢;rw[←re]at e3;have lg:=lG.len;have l3:LL K H3 (gs.take w) (ps.take w):=⟨by rw[bT,bT,lg],λi a p e1 e2=>by
  rw[List.getElem?_take]at e1 e2
  split at e1
  ·rename_i z;rw[if_pos z]at e2;exact (lG.same s23).ll.get i a p e1 e2
  ·cases e1⟩
 refine⟨⟨_,SqL.of e3⟩,λD' nD'=>j6 (ps:=ps.take w) (ds:=ps.take w) nD' (SqL.of e3) l3 rfl (by rw[bT];omega) (λi b p d Hx R' hp hd sx hb hR'=>?_) (λO ob H4 s4 nO eO lO nOb Oob nd=>?_)⟩
 ·have e:d=p:=by rw[hp]at hd;exact (Option.some.inj hd).symm
  subst e
  (iterate 3 (k_units;(try simp only[bst]));k_units)
  exact⟨_,.inl hb,λl hl=>hR' l _ (ar hl _) hl ag⟩
 ·exact q _ hq O ob H4 (s3.trans s4) (s3.free nO) eO lO (λb hb=>s3.free (nOb b hb)) Oob nd
theorem FB (xs ys:List Int):PyData.eqv (.list (xs.map PyData.int)) (.list (ys.map PyData.int))=decide (xs=ys):=by simp[PyData.eqv,vU]
theorem xy (xs:List Int):PyData.canLay0 (.list (xs.map PyData.int))=true:=by simp[PyData.canLay0,vV]
theorem FC (xs:List Int):PyData.depth (.list (xs.map PyData.int))<=64:=by simp[PyData.depth,vX]
theorem NO {ws:List (List Int)}{u:List Int}(hu:u∈ws){z:Int}(hz:z∈u)(z0:z≠0)(hp:∀s:Nat,Prm s->(∀u∈ws,∀j,(s:Int)∣co u j)->False):af ws.flatten=1:=by
 have h0:=fK ws.flatten z (List.mem_flatten.mpr ⟨u,hu,hz⟩);by_cases z1:af ws.flatten=1
 ·exact z1
 ·exfalso;have hne:af ws.flatten≠0:=λy=>by
   rw[y]at h0;exact z0 (xO.mp h0)
  obtain⟨s,hs,ps⟩:=wt (af ws.flatten) (by omega);refine hp s ps λv hv j=>dX (P:=λx=>(s:Int)∣x) (λx hx=>?_) (mh _) j;exact fS (ii.mpr hs) (fK ws.flatten x (List.mem_flatten.mpr ⟨v,hv,hx⟩))
theorem VL.snoc {K:W.Frag}{H:Hp}{us:List Addr}{qs:List (List (List Int))}{u:Addr}{q:List (List Int)}{as:List Addr}(h:VL K H us qs)(e:SqL K H u (as.map V.ref))(l:LL K H as q):VL K H (us++[u]) (qs++[q]):=by
 refine⟨by simp[h.len],λi v r e1 e2=>?_⟩;have:=h.len;by_cases z:i<us.length
 ·rw[b_ z]at e1;rw[b_ (by omega)]at e2;exact h.get i v r e1 e2
 ·have hi:=(aV.mp e1).1;have ei:i=us.length:=by simp at hi;omega
  subst ei;rw[di (am _),fT]at e1;rw[di (by omega),this,fT]at e2
  cases Option.some.inj e1
  cases Option.some.inj e2
  exact⟨as,e,l⟩
theorem NP (xs:List Int)(x:Int):bh ((af xs:Nat):Int).natAbs x.natAbs=af (xs++[x]):=by
 rw[kZ,df,rG]
def NQ (K:W.Frag):Sp:=λvs H Q _=>∃(Fa Kp Va:Addr) (fs us as:List Addr) (ws:List (List Int)) (Ti:List (List (List Int))) (q:List (List Int)) (w:Nat),vs=[.ref Fa,.ref Kp,.ref Va]∧H Fa=some (.lst (fs.map V.ref))∧LH H fs ws∧H Kp=some (.lst (us.map V.ref))∧VL K H us Ti∧SqL K H Va (as.map V.ref)∧LL K H as q∧w<=3∧Ti.length<=3∧RlG w 7 272 Ti q ws∧(∀v∈Ti++[q],v.length=w∧∀f∈v,f.length<=4∧∀c∈f,Bd 54 c)∧∀H',Same H H'->Q (.bl true) H'
theorem FD {P:Program}{wd:World}{K:W.Frag}{mg:Str->Option Value}{base:Heap}(T:Tx K mg):FnOk P wd K mg base CX0 3 T.QP T.QQ ["_law_found","_law_kept","_law_vector_here"] (NQ K):=by
 refine T.QR.ok sc__law_relation (λvs H Q E h=>?_) (λcdv A outer s H vs Q E hr h=>?_)
 ·obtain⟨Fa,Kp,Va,fs,us,as,ws,Ti,q,w,rfl,_⟩:=h;rfl
 obtain⟨Fa,Kp,Va,fs,us,as,ws,Ti,q,w,rfl,hF,hL,eK,hV,hA,hq,w3,k3,hR,hb,fin⟩:=h;refine⟨_,((ai (bC (PW.pt (gd (ir (gU (aA jM rfl T.ON jO (aa (pv 0) (aa (jG (v:=.ty "list") rfl T.OF fG rfl) ac))))) (jc (aM gf (aA aU rfl T.OB aS (aa (pv 0) ac)) (ao cG (aA aU rfl T.OB aS (aa (pv 1) ac)) ah) (aL _))))) (aq (aF fM)) bI)
  (ai (au (i:=3) sc__law_relation.nd rfl (Or.inl rfl) ah)
  (ai (bY PassesOwn.never rfl (cc (pv 0)) (a7 (i:=4) sc__law_relation.nd rfl (Or.inl rfl)) (ai (bC (PW.pt (gd (ir (gU (aA jM rfl T.ON jO (aa (pv 4) (aa (jG (v:=.ty "list") rfl T.OF fG rfl) ac))))) (jc (PW.pt (jI (aM gz (aA aU rfl T.OB aS (aa (pv 4) ac)) ah (aL _)) (jH (aM fE (aH a_ (pv 4) (dF dG ah) (λ_ _=>rfl)) ah (aL _)))))))) (aq (aF fM)) bI)
  (aq (bY PassesOwn.never rfl (cc (pv 4)) (a7 (i:=5) sc__law_relation.nd rfl (Or.inl rfl)) (ai (bC (ir (gU (aN (FnOk.mono (xr T) (by decide)) hr rfl T.Qx T.OX.kp T.Qy .nil aD (aa (pv 5) ac)))) (aq (aF fM)) bI)
  (aq (au (i:=3) sc__law_relation.nd rfl (Or.inl rfl) (aN (FnOk.mono (Nz T) (by decide)) hr rfl T.Ss T.RF.kp T.Su .nil aD (aa (pv 3) (aa (pv 5) ac))))))))))
  (ai (bC (PW.pt (gd (aM (JK hr.units) (aH a_ (pv 0) (dF dG ah) (λ_ _=>rfl)) (bN ac) (aL _)) (gd (aM iN (aH a_ (aH a_ (pv 0) (dF dG ah) (λ_ _=>rfl)) (dF dG ah) (λ_ _=>rfl)) ah (aL _)) (jc (aM gf (pv 3) ah (aL _)))))) (aq (aF fM)) bI)
  (ai (au (i:=6) sc__law_relation.nd rfl (Or.inl rfl) (ao iQ (pv 1) (bN (aa (pv 2) ac))))
  (ai (bY PassesOwn.never rfl (fW rfl T.OE (aa (aA aU rfl T.OB aS (aa (pv 2) ac)) ac)) (a7 (i:=7) sc__law_relation.nd rfl (Or.inl rfl)) (ai (au (i:=8) sc__law_relation.nd rfl (Or.inl rfl) (bN ac))
  (ai (bY PassesOwn.never rfl (jT rfl T.OM (aa (pv 0) (aa (pv 6) ac))) (gX rfl (dQ (a7 (i:=4) sc__law_relation.nd rfl (Or.inl rfl)) (dQ (a7 (i:=9) sc__law_relation.nd rfl (Or.inl rfl)) gW))) (aq (au (i:=8) sc__law_relation.nd rfl (Or.inl rfl) (aN (FnOk.mono (Fp T) (by decide)) hr rfl T.RD T.QG.kp T.RE .nil aD (aa (pv 8) (aa (aN (FnOk.mono (xu T) (by decide)) hr rfl T.QC T.OY.kp T.QD .nil aD (aa (pv 4) (aa (aH a_ (pv 9) (pv 7) (λ_ _=>rfl)) ac))) ac))))))
  (aq (bC (aM (vT hr.units) (pv 8) (bN ac) (aL _)) (aq (aF fM)) bI)))))
  (aq (aF fM))))))))),?_⟩
 obtain⟨lw,bw,⟨p0,t0,eL,t0p⟩,hp,hz⟩:=hR;have lf:=hL.len;dsimp only[aB]
 k_typeOf
 have lu:=hV.len;refine⟨_,.lst hF,true,rfl,?_⟩;rw[if_neg (by decide)];refine⟨_,.inl (SqL.of hF),_,.inl (SqL.of eK),?_⟩;rw[ae,ae,if_neg (by omega)];dsimp only[aB]
 k_typeOf
 dsimp only[aB]
 k_typeOf
 obtain⟨Pv,hPv⟩:∃Pv:Nat->L2.St->Hp->Prop,∀i σ H',Pv i σ H'↔(∃r4 r5:Option V,σ=[some (V.ref Fa),some (V.ref Kp),some (V.ref Va),some (V.int ((af (ws.take i).flatten:Nat):Int)),r4,r5,none,none,none,none])∧H'=H:=⟨_,λ_ _ _=>Iff.rfl⟩
 refine⟨⟨_,SqL.of hF⟩,iT (xs:=fs.map V.ref) Pv ((hPv _ _ _).mpr ⟨⟨none,none,rfl⟩,rfl⟩) (λi σ H' _ z=>by obtain⟨_,rfl⟩:=(hPv i σ H').mp z;exact SqL.of hF) ?_ ?_⟩
 ·intro i v σ H1 hv hp';obtain⟨⟨r4,r5,rfl⟩,rfl⟩:=(hPv _ _ _).mp hp';obtain⟨a,p,rfl,ha,hpp,_⟩:=(hL.ll (K:=K)).nth hv;have ea:=hL.get i a p ha hpp;obtain⟨np,lp,bp⟩:=bw p (bH hpp);dsimp only[aB]
  k_typeOf
  refine⟨_,.lst ea,true,rfl,?_⟩;rw[if_neg (by decide)];refine⟨_,.inl (SqL.of ea),?_⟩;have et:ws.take (i+1)=ws.take i++[p]:=by rw[cM,hpp];rfl
  refine (λinner=>bJ (λz=>?_) (λ_=>inner)) ?_
  ·have hne:p≠[]:=λy=>by rw[y]at z;simp at z
   refine⟨_,SqL.of ea,_,jP hne,?_⟩
   k_units
   rw[if_neg (λy=>en.mp np _ (xF hne) y)];exact inner
  obtain⟨Pw,hPw⟩:∃Pw:Nat->L2.St->Hp->Prop,∀j σ H',Pw j σ H'↔(∃r5:Option V,σ=[some (V.ref Fa),some (V.ref Kp),some (V.ref Va),some (V.int ((af ((ws.take i).flatten++p.take j):Nat):Int)),some (V.ref a),r5,none,none,none,none])∧H'=H1:=⟨_,λ_ _ _=>Iff.rfl⟩
  refine⟨⟨_,SqL.of ea⟩,iT (xs:=p.map V.int) Pw ((hPw _ _ _).mpr ⟨⟨r5,by simp⟩,rfl⟩) (λi σ H' _ z=>by obtain⟨_,rfl⟩:=(hPw i σ H').mp z;exact SqL.of ea) ?_ ?_⟩
  ·intro j v σ H2 hv2 hp2;obtain⟨⟨r5,rfl⟩,rfl⟩:=(hPw _ _ _).mp hp2;rw[az]at hv2;obtain⟨x,hx,rfl⟩:=b6.mp hv2
   k_units
   refine⟨x,rfl,?_⟩
   k_units
   rw[if_neg (by decide)];refine⟨_,x,rfl,(hPw _ _ _).mpr ⟨⟨some (V.int x),?_⟩,rfl⟩⟩;have e2:p.take (j+1)=p.take j++[x]:=by rw[cM,hx];rfl
   rw[e2,←Gp,←NP]
  ·intro σ H2 hp2;obtain⟨⟨r5,rfl⟩,rfl⟩:=(hPw _ _ _).mp hp2;refine (hPv _ _ _).mpr ⟨⟨some (V.ref a),r5,?_⟩,rfl⟩;rw[et,List.flatten_append,ae,eV];simp
 intro σ H1 hp';obtain⟨⟨r4,r5,rfl⟩,rfl⟩:=(hPv _ _ _).mp hp';rw[ae,lf,eV];clear hp' hPv Pv;obtain⟨fl,hfl,wl⟩:∃fl:Addr,fs[Ti.length]?=some fl∧ws[Ti.length]?=some (p0++[t0]):=by
  refine⟨fs[Ti.length]'(by omega),ak _,?_⟩;rw[←eL,av,ak (by omega)];rfl
 have el:=hL.get _ fl _ hfl wl;have atl:atI (fs.map V.ref) (-1)=some (V.ref fl):=by
  have:=xw (xs:=fs.map V.ref) (i:=1) (by decide) (by rw[ae];omega);rw[show (-((1:Nat):Int))=-1 from rfl]at this;rw[this,ae,az,show fs.length-1=Ti.length by omega,hfl];rfl
 have c1:af ws.flatten=1:=NO (bH wl) (z:=t0) (by simp) (by omega) hp;dsimp only[aB]
 k_typeOf
 refine⟨_,SqL.of hF,_,atl,aI _,λe0 ne0=>?_⟩;have u0:=ar ne0 (.lst []);have ee:=ag (H:=H1) (a:=e0) (o:=.lst []);generalize L2.upd H1 e0 (.lst [])=H2 at u0 ee ⊢;refine⟨_,.lst (SqL.of (u0 _ _ el)) (DVs.ints _),_,.lst (SqL.of ee) .nil,xy _,by simp[PyData.canLay0,PyData.canLayAll0],FC _,?_⟩;have eN:PyData.eqv (.list ((p0++[t0]).map PyData.int)) (.list [])=false:=by
  rw[show PyData.list []=.list (([]:List Int).map PyData.int) from rfl,FB];simp
 rw[eN,if_neg (by decide)];have hne:p0++[t0]≠[]:=by simp
 refine⟨_,SqL.of (u0 _ _ hF),_,atl,fl,rfl,_,SqL.of (u0 _ _ el),_,jP hne,_,rfl,?_⟩;rw[if_neg (by simp;omega),c1,if_neg (by simp)];clear ee;dsimp only[aB]
 k_typeOf
 refine⟨by decide,λp1 n1=>?_⟩;have u1:=ar n1 (.lst [V.ref Va]);refine⟨_,u1 _ _ (u0 _ _ eK),_,ag,bW (aX (by simp;omega)),λR nR=>?_⟩;have u2:=ar nR (.lst (us.map V.ref++[V.ref Va]));have eR:=ag (H:=L2.upd H2 p1 (.lst [V.ref Va])) (a:=R) (o:=.lst (us.map V.ref++[V.ref Va]));have s3:=u0.trans (u1.trans u2);generalize L2.upd (L2.upd H2 p1 (.lst [V.ref Va])) R (.lst (us.map V.ref++[V.ref Va]))=H3 at s3 eR ⊢;clear u0 u1 u2 nR n1 ne0;have eR':H3 R=some (.lst ((us++[Va]).map V.ref)):=by rw[eR];simp
 have hVR:=(hV.snoc hA hq).same s3;have lq:q.length=w:=(hb q (by simp)).1;have laq:=hq.len;dsimp only[aB]
 k_typeOf
 refine⟨_,.inl (s3.seq hA),by rw[ae];omega,by rw[ae];omega,?_⟩;rw[ae,eE,laq,lq];obtain⟨Pv,hPv⟩:∃Pv:Nat->L2.St->Hp->Prop,∀i σ H',Pv i σ H'↔(∃r4 r7 r8 r9:Option V,σ=[some (V.ref Fa),some (V.ref Kp),some (V.ref Va),some (V.int ((1:Nat):Int)),r4,r5,some (V.ref R),r7,r8,r9])∧Same H3 H':=⟨_,λ_ _ _=>Iff.rfl⟩
 refine gF Pv ((hPv _ _ _).mpr ⟨⟨r4,none,none,none,rfl⟩,Same.refl _⟩) ?_ ?_
 ·intro c σ H4 hc hp4;obtain⟨⟨r4,r7,r8,r9,rfl⟩,s4⟩:=(hPv _ _ _).mp hp4;have e0:(0:Int)+(c:Int)=(c:Int):=fq _;dsimp only[aB]
  k_typeOf
  refine⟨aI _,λA0 nA0=>?_⟩;have s5:=s4.trans (ar nA0 (.lst []));have eA0:=ag (H:=H4) (a:=A0) (o:=.lst []);generalize L2.upd H4 A0 (.lst [])=H5 at s5 eA0 ⊢;rw[e0];dsimp only[aB]
  k_typeOf
  obtain⟨Pz,hPz⟩:∃Pz:Nat->L2.St->Hp->Prop,∀n σ H',Pz n σ H'↔∃(An:Addr) (tot:List Int) (r4 r9:Option V),σ=[some (V.ref Fa),some (V.ref Kp),some (V.ref Va),some (V.int ((1:Nat):Int)),r4,r5,some (V.ref R),some (V.int (c:Int)),some (V.ref An),r9]∧H' An=some (.lst (tot.map V.int))∧Nml tot∧tot.length<=40∧(∀m,val m tot=ay n λt=>val m (((Ti++[q]).getD t []).getD c [])*val m (ws.getD t []))∧Same H3 H':=⟨_,λ_ _ _=>Iff.rfl⟩
  refine⟨_,SqL.of ((s3.trans s5) _ _ hF),_,SqL.of (s5 _ _ eR'),pK (xs:=fs.map V.ref) (ys:=(us++[Va]).map V.ref) Pz ((hPz _ _ _).mpr ⟨A0,[],_,_,rfl,eA0,b8,by simp,λm=>rfl,s5⟩) (λn σ H' _ _ y=>by obtain⟨_,_,_,_,_,_,_,_,_,y⟩:=(hPz n σ H').mp y;exact⟨SqL.of ((s3.trans y) _ _ hF),SqL.of (y _ _ eR')⟩) ?_ ?_⟩
  ·intro n v1 v2 pr σ H6 e1 e3 hp6 npr;obtain⟨An,tot,t4,t9,rfl,eAn,nt,lt,vt,s6⟩:=(hPz _ _ _).mp hp6;obtain⟨a,p,rfl,ha,hpp,_⟩:=(hL.ll (K:=K)).nth e1;have ea:=hL.get n a p ha hpp;obtain⟨np,lp,bp⟩:=bw p (bH hpp);rw[az]at e3;obtain⟨u,hu,rfl⟩:=b6.mp e3;have hn:n<(Ti++[q]).length:=by have:=(aV.mp hpp).1;simp;omega
   have hqn:(Ti++[q])[n]?=some ((Ti++[q])[n]):=ak hn;have gq:(Ti++[q]).getD n []=(Ti++[q])[n]:=by rw[av,hqn];rfl
   have gw:ws.getD n []=p:=by rw[av,hpp];rfl
   obtain⟨as1,x1,x2⟩:=hVR.get n u _ hu hqn;have hbn:=hb _ (aW hn);generalize (Ti++[q])[n]=qn at hqn gq x2 hbn;have hcn:qn[c]?=some qn[c]:=ak (by omega);have gc:qn.getD c []=qn[c]:=by rw[av,hcn];rfl
   have la1:c<as1.length:=by have:=x2.len;omega
   have hac:as1[c]?=some as1[c]:=ak la1;have hX:=x2.get c _ _ hac hcn;obtain⟨lf4,bf⟩:=hbn.2 _ (aW (by omega:c<qn.length));generalize qn[c]=f at hcn gc hX lf4 bf;have u6:=ar npr (.tup [V.ref a,V.ref u]);have s7:=s6.trans u6
   k_units
   refine⟨_,SqT.of ag,rfl,?_⟩
   k_units
   have ea7:=s7 _ _ (s3 _ _ ea);have eA7:=u6 _ _ eAn;have hX7:=s7.seq hX;have x17:=s7.seq x1;generalize L2.upd H6 pr (.tup [V.ref a,V.ref u])=H7 at s7 ea7 eA7 hX7 x17 ⊢;refine⟨_,x17,_,eI (by rw[az,hac];rfl),a,as1[c],p,f,272,54,rfl,SqL.of ea7,hX7,by omega,by omega,bp,bf,by decide,λzs nz lz cz B1 H8 s8 nB1 eB1=>?_⟩;refine⟨An,B1,tot,zs,rfl,SqL.of (s8 _ _ eA7),SqL.of eB1,lt,by omega,λys ny ly cy C1 H9 s9 nC1 eC1=>?_⟩;refine (hPz _ _ _).mpr ⟨C1,ys,_,_,rfl,eC1,ny,ly,λm=>?_,s7.trans (s8.trans s9)⟩;have v1:val m zs=val m p*val m f:=by
    rw[←be];exact f9 (λj=>by rw[cz,jw]) m
   have v2:val m ys=val m tot+val m zs:=by
    rw[←fI];exact f9 (λj=>by rw[cy,fJ]) m
   rw[v2,v1,vt,iC,gq,gc,gw,cL (val m p)]
  ·intro σ H6 hp6;obtain⟨An,tot,t4,t9,rfl,eAn,nt,lt,vt,s6⟩:=(hPz _ _ _).mp hp6
   k_units
   rw[ae,ae,bU]at vt;have e2:min fs.length (us.length+[Va].length)=Ti.length+1:=by simp;omega
   have tz:tot=[]:=dZ nt b8 λm=>by
    rw[vt,e2,hz c hc m];rfl
   subst tz;refine⟨aI _,λe7 n7=>?_⟩;have u7:=ar n7 (.lst []);refine⟨_,.lst (SqL.of (u7 _ _ eAn)) .nil,_,.lst (SqL.of ag) .nil,by simp[PyData.canLay0,PyData.canLayAll0],by simp[PyData.canLay0,PyData.canLayAll0],by simp[PyData.depth,PyData.depthAll],?_⟩;rw[if_neg (by simp[PyData.eqv,PyData.eqvAll])];exact (hPv _ _ _).mpr ⟨⟨_,_,_,_,rfl⟩,s6.trans u7⟩
 ·intro σ H4 hp4;obtain⟨⟨r4,r7,r8,r9,rfl⟩,s4⟩:=(hPv _ _ _).mp hp4
  k_units
  exact fin _ (s3.trans s4)
theorem FE {K:W.Frag}{a:Addr}{xs:List Int}{g:Int->Int}{fv:List (Nat×Str)}{te:TE}{Q:VK}{σ:L2.St}{H1:Hp}{D:Addr}(nD:H1 D=none) (hA:SqL K H1 a (xs.map V.int)) (hl:xs.length<=900)
  (hs:∀x∈xs,∀Hx R,Same H1 Hx->R (.int (g x)) Hx->te (bst fv σ (some (V.int x))) Hx R) (he:dH H1 Q ((xs.map g).map V.int)):jN (Itl K a) fv te Q σ H1 D:=by
 obtain⟨Pc,hPc⟩:∃Pc:Nat->Hp->Prop,∀i H',Pc i H'↔H' D=some (.lst (((xs.take i).map g).map V.int))∧Same H1 H':=⟨_,λ_ _=>Iff.rfl⟩
 refine eJ (xs:=xs.map V.int) Pc ((hPc _ _).mpr ⟨by rw[ag];rfl,ar nD _⟩) (λi Hx _ z=>((hPc i Hx).mp z).2.seq hA) ?_ ?_
 ·intro i v Hx hv hc;obtain⟨k1,k2⟩:=(hPc _ _).mp hc;have hi:i<xs.length:=by have:=(aV.mp hv).1;rw[ae]at this;exact this
  rw[az,ak hi]at hv;obtain rfl:V.int xs[i]=v:=Option.some.inj hv;have et:xs.take (i+1)=xs.take i++[xs[i]]:=by rw[cM,ak hi];rfl
  refine hs _ (aW hi) Hx _ k2 ⟨_,k1,aX (by simp;omega),(hPc _ _).mpr ⟨?_,k2.more nD⟩⟩;rw[ag,et,aQ,aQ];rfl
 intro H' hc;obtain⟨k1,k2⟩:=(hPc _ _).mp hc;rw[ae,eV]at k1;exact he D H' k2 nD k1
def NR (K:W.Frag):Sp:=λvs H Q _=>∃(t C Kp:Addr) (us:List Addr) (Ti:List (List (List Int))) (cs:List Nat) (pl:Int) (w:Nat),vs=[.ref t,.ref Kp,.int (w:Int)]∧H t=some (.tup [.int pl,.ref C])∧H C=some (.lst ((cs.map λc:Nat=>(c:Int)).map V.int))∧SqL K H Kp (us.map V.ref)∧VL K H us Ti∧(∀v∈Ti,v.length=w∧∀f∈v,SmP f)∧Ti.length<=3∧w<=3∧0<=pl∧Bd 9 pl∧cs.length=Ti.length∧(∀c∈cs,c<w)∧cs.Nodup∧Piv w Ti cs pl Ti.length∧∀H',Same H H'->Q (.bl true) H'
theorem NS {P:Program}{wd:World}{K:W.Frag}{mg:Str->Option Value}{base:Heap}(T:Tx K mg):FnOk P wd K mg base CX0 6 T.QS T.QU ["_law_told","_law_kept","_law_width"] (NR K):=by
 refine T.RM.ok sc__law_apart (λvs H Q E h=>?_) (λcdv A outer s H vs Q E hr h=>?_)
 ·obtain⟨t,C,Kp,us,Ti,cs,pl,w,rfl,_⟩:=h;rfl
 obtain⟨t,C,Kp,us,Ti,cs,pl,w,rfl,et,eC,hK,hV,hv,k3,w3,pl0,bpl,lc,hcs,nd,pvt,fin⟩:=h;refine⟨_,((ai (bC (PW.pt (gd (ir (gU (aA jM rfl T.ON jO (aa (pv 0) (aa (jG (v:=.ty "tuple") rfl T.Tc JJ rfl) ac))))) (gd (aM gf (aA aU rfl T.OB aS (aa (pv 0) ac)) ah (aL _)) (gd (ir (gU (aN (FnOk.mono (xr T) (by decide)) hr rfl T.Qx T.OX.kp T.Qy .nil aD (aa (aH dS (pv 0) ah (λ_ _=>rfl)) ac)))) (jc (aM iN (aH dS (pv 0) ah (λ_ _=>rfl)) ah (aL _))))))) (aq (aF fM)) bI)
  (ai (bC (PW.pt (gd (ir (gU (aA jM rfl T.ON jO (aa (aH dS (pv 0) ah (λ_ _=>rfl)) (aa (jG (v:=.ty "list") rfl T.OF fG rfl) ac))))) (gd (aM gf (aA aU rfl T.OB aS (aa (aH dS (pv 0) ah (λ_ _=>rfl)) ac)) (aA aU rfl T.OB aS (aa (pv 1) ac)) (aL _)) (jc (aM gf (aA KQ rfl T.OB aS (aa (fX (KP rfl) rfl T.Td KO (aa (aH dS (pv 0) ah (λ_ _=>rfl)) ac)) ac)) (aA aU rfl T.OB aS (aa (pv 1) ac)) (aL _)))))) (aq (aF fM)) bI)
  (ai (bY PassesOwn.never rfl (cc (aH dS (pv 0) ah (λ_ _=>rfl))) (a7 (i:=3) sc__law_apart.nd rfl (Or.inl rfl)) (aq (bC (PW.pt (gd (ir (gU (aN (FnOk.mono (xr T) (by decide)) hr rfl T.Qx T.OX.kp T.Qy .nil aD (aa (pv 3) ac)))) (gd (aM iN (pv 3) ah (aL _)) (jc (aM BX (pv 3) (pv 2) (aL _)))))) (aq (aF fM)) bI)))
  (aq (aF (IR gf (aN (FnOk.mono (Fy T 4) (by decide)) hr rfl T.RI T.OZ.kp T.RJ .nil aD (aa (Dg rfl (qf rfl (du rfl ck) (d9 0 "_law_told" (by decide) rfl (Or.inl rfl) (Or.inl rfl) ⟨_,rfl⟩ cJ)) (cc (pv 1)) (λ_ _ _ _=>(ff rfl (dg rfl (du rfl (du rfl ck)) (d9 0 "_law_row" (by decide) rfl (Or.inl rfl) (Or.inl rfl) ⟨_,rfl⟩ (d9 1 "_law_told" (by decide) rfl (Or.inl rfl) (Or.inl rfl) ⟨_,rfl⟩ cJ))) (qH (K:=K) rfl (aH (D5 (K:=K) rfl) (pv 1) ah (λ_ _=>rfl))) (λ_ _ _ _=>(aN (FnOk.mono (NA T) (by decide)) hr rfl T.Sy T.RH.kp T.Sz .nil aD (aa (aH (jY (K:=K) rfl) (pv 1) (pv 0) (λ_ _=>rfl)) (aa (aH (D5 (K:=K) rfl) (pv 2) ah (λ_ _=>rfl)) ac))))))) ac)) ah (aL _)))))))),?_⟩
 have lu:=hV.len;dsimp only[aB]
 k_typeOf
 have at0:atI [V.int pl,V.ref C] 0=some (V.int pl):=eI (j:=0) rfl;have at1:atI [V.int pl,V.ref C] 1=some (V.ref C):=eI (j:=1) rfl;refine⟨_,.tup et,true,rfl,?_⟩;rw[if_neg (by decide)];refine⟨_,.inr (SqT.of et),?_⟩;rw[if_neg (by simp)];refine⟨_,SqT.of et,_,at0,pl,rfl,true,rfl,?_⟩;rw[if_neg (by decide)];refine⟨_,SqT.of et,_,at0,pl,rfl,?_⟩;rw[if_neg (by omega)];obtain⟨ns,hns⟩:∃ns:List Int,ns=cs.map λc:Nat=>(c:Int):=⟨_,rfl⟩
 rw[←hns]at eC;have lns:ns.length=Ti.length:=by rw[hns,ae];exact lc
 have ndn:ns.Nodup:=by rw[hns];exact List.pairwise_map.mpr (nd.imp λh z=>h (by omega))
 dsimp only[aB]
 k_typeOf
 refine⟨_,SqT.of et,_,at1,_,.lst eC,true,rfl,?_⟩;rw[if_neg (by decide)];refine⟨_,SqT.of et,_,at1,C,rfl,_,.inl (SqL.of eC),_,.inl hK,?_⟩;rw[ae,ae,if_neg (by omega)];refine⟨_,SqT.of et,_,at1,C,rfl,ns,SqL.of eC,ndn,by omega,λz S nz=>?_⟩;have uz:=ar nz (.set S ns.length);have ez:=ag (H:=H) (a:=z) (o:=.set S ns.length);generalize L2.upd H z (.set S ns.length)=H1 at uz ez ⊢;refine⟨_,_,ez,_,.inl (uz.seq hK),?_⟩;rw[ae,if_neg (by omega)];clear ez nz;dsimp only[aB]
 k_typeOf
 have et1:=uz _ _ et;have eC1:=uz _ _ eC;obtain⟨Pv,hPv⟩:∃Pv:Nat->L2.St->Hp->Prop,∀i σ H',Pv i σ H'↔(∃r3:Option V,σ=[some (V.ref t),some (V.ref Kp),some (V.int (w:Int)),r3])∧H'=H1:=⟨_,λ_ _ _=>Iff.rfl⟩
 refine⟨_,SqT.of et1,_,at1,C,rfl,⟨_,SqL.of eC1⟩,iT (xs:=ns.map V.int) Pv ((hPv _ _ _).mpr ⟨⟨none,rfl⟩,rfl⟩) (λi σ H' _ y=>by obtain⟨_,rfl⟩:=(hPv i σ H').mp y;exact SqL.of eC1) ?_ ?_⟩
 ·intro i v σ H2 hvv hp;obtain⟨⟨r3,rfl⟩,rfl⟩:=(hPv _ _ _).mp hp;rw[az]at hvv;obtain⟨x,hx,rfl⟩:=b6.mp hvv;have hxm:=bH hx;rw[hns]at hxm;obtain⟨c,hc,rfl⟩:=aT.mp hxm;have hcw:=hcs c hc
  k_units
  refine⟨_,rfl,?_⟩
  k_units
  rw[if_neg (by decide),if_neg (by omega),if_neg (by omega)];exact (hPv _ _ _).mpr ⟨⟨_,rfl⟩,rfl⟩
 intro σ H2 hp;obtain⟨⟨r3,rfl⟩,rfl⟩:=(hPv _ _ _).mp hp;clear hp hPv Pv;obtain⟨rs,hrs⟩:∃rs,rs=Ti.map λv=>cs.map λc=>val pl (v.getD c []):=⟨_,rfl⟩
 have lrs:rs.length=Ti.length:=by rw[hrs,ae]
 dsimp only[aB]
 k_typeOf
 have hK2:=uz.seq hK;refine⟨⟨_,hK2⟩,λD nD=>Fz (xs:=us.map V.ref) (Pd:=λi f=>rs[i]?=some f) nD hK2 (by rw[ae];omega) (λi v Hx R hvv sx hR=>?_) (λds ld hds O ob H3 s3 nO eO lO nOb Oob ndb=>?_)⟩
 ·rw[az]at hvv;obtain⟨u,hu,rfl⟩:=b6.mp hvv;have hi:i<Ti.length:=by have:=(aV.mp hu).1;omega
  have hki:Ti[i]?=some Ti[i]:=ak hi;obtain⟨as,a1,a2⟩:=hV.get i u _ hu hki;have hvi:=hv _ (aW hi);have hri:rs[i]?=some (cs.map λc=>val pl (Ti[i].getD c [])):=by rw[hrs,az,hki];rfl
  generalize Ti[i]=q at hki a2 hvi hri;have s2:=uz.trans sx
  (iterate 3 (k_units;(try simp only[bst]));k_units)
  refine⟨_,rfl,t,rfl,_,SqT.of (s2 _ _ et),_,at1,C,rfl,⟨_,SqL.of (s2 _ _ eC)⟩,λD2 nD2=>FE (g:=λx=>val pl (q.getD x.toNat [])) nD2 (SqL.of (s2 _ _ eC)) (by omega) (λx hx Hy R' sy hR'=>?_) (λF H4 s4 nF eF=>?_)⟩
  ·rw[hns]at hx;obtain⟨c,hc,rfl⟩:=aT.mp hx;have hcw:=hcs c hc;have s5:=s2.trans sy;have hqc:q[c]?=some q[c]:=ak (by omega);have gc:q.getD c []=q[c]:=by rw[av,hqc];rfl
   have hac:as[c]?=some (as[c]'(by have:=a2.len;omega)):=ak _;have hX:=a2.get c _ _ hac hqc;obtain⟨_,l3,b52⟩:=hvi.2 _ (aW (by omega:c<q.length));rw[eE,gc]at hR'
   (iterate 3 (k_units;(try simp only[bst]));k_units)
   refine⟨_,rfl,u,rfl,_,s5.seq a1,_,eI (by rw[az,hac];rfl),_,rfl,t,rfl,_,SqT.of (s5 _ _ et),_,at0,_,_,pl,52,9,rfl,s5.seq hX,by omega,b52,bpl,by decide,hR'⟩
  ·refine hR _ hri F H4 s4 nF ?_;rw[eF,hns,gu];congr 2;rw[gu,gu];exact gx λc _=>rfl
 ·have es:ds=rs:=by
   refine List.ext_getElem? λi=>?_;by_cases y:i<ds.length
   ·rw[hds i ds[i] (ak y),ak y]
   ·rw[rh (by omega),rh (by rw[ae]at ld;omega)]
  subst es;have l3:ds.length<=3:=by omega
  refine⟨O,ob,ds,rfl,SqL.of eO,lO.ll,by decide,l3,λr hr=>?_,λH4 s4=>?_⟩
  ·rw[hrs]at hr;obtain⟨v,hvm,rfl⟩:=aT.mp hr;refine⟨by rw[ae];omega,λz hz=>?_⟩;obtain⟨c,hc,rfl⟩:=aT.mp hz;have hcw:=hcs c hc;obtain⟨_,l3,b52⟩:=(hv v hvm).2 _ (mem_getD (d:=([]:List Int)) (show c<v.length by rw[(hv v hvm).1];exact hcw));refine (jv (k:=52) (l:=9) bpl _ b52).mono ?_;have:=dC (9+1) l3;omega
  ·have hd:=NJ (λv hvm=>(hv v hvm).1) lc hcs k3 pvt;rw[←hrs]at hd
   k_units
   have:=fin H4 (uz.trans (s3.trans s4))
   simpa [hd] using this
theorem FF (n:Nat)(a:Addr):(aC n [V.ref a]).flatten=(aC n a).map V.ref:=by
 induction n with
 | zero=>rfl
 | succ n ih=>rw[gr,lP,ih,gr];rfl
def fj (H:Hp)(O:List Addr):Hp:=λa=>if a∈O then none else H a
theorem lJ {H:Hp}{O:List Addr}{a:Addr}{o:HO}(h:fj H O a=some o):a∉O∧H a=some o:=by
 unfold fj at h
 split at h
 ·cases h
 ·rename_i z;exact⟨z,h⟩
theorem qY {H:Hp}{O:List Addr}{a:Addr}(h:a∉O):fj H O a=H a:=by unfold fj;rw[if_neg h]
theorem kf {H H':Hp}{O O':List Addr}(h:∀a o,a∉O->H a=some o->a∉O'∧H' a=some o):Same (fj H O) (fj H' O'):=λa o e=>by
 obtain⟨e1,e2⟩:=lJ e;obtain⟨e3,e4⟩:=h a o e1 e2;rw[qY e3];exact e4
section
variable {K:W.Frag}{mg:Str->Option Value}{T:Tx K mg}{H H':Hp}{x dx Kp Cl Tb:Addr}{us:List Addr}{kvs:List (Key×V)}{M:List Addr}{w:Nat}{Ti:List (List (List Int))}{cs:List Nat}{pl:Int}{O:List Addr}
theorem Spn.off (S:Spn T H x dx Kp Cl Tb us kvs M w Ti cs pl)(hO:∀a∈O,∃o u,H a=some (.frz o u))(hM:∀a∈M,a∉O):Spn T (fj H O) x dx Kp Cl Tb us kvs M w Ti cs pl:=by
 have key:∀{a:Addr}{v:HO},H a=some v->(∀o u,v≠.frz o u)->fj H O a=some v:=λ{a v} e n=>by
  have:a∉O:=λz=>by
   obtain⟨o,u,e2⟩:=hO a z;rw[e]at e2;exact n o u (Option.some.inj e2)
  rw[qY this];exact e
 have lh:∀{as:List Addr}{ps:List (List Int)},LH H as ps->LH (fj H O) as ps:=λh=>⟨h.len,λi a p e1 e2=>key (h.get i a p e1 e2) (λ_ _ z=>nomatch z)⟩
 refine⟨key S.hx (λ_ _ z=>nomatch z),key S.hK (λ_ _ z=>nomatch z),key S.hC (λ_ _ z=>nomatch z),key S.hT (λ_ _ z=>nomatch z),S.lk,S.lc,λi u q e1 e2=>?_,λe he=>?_,S.inj,S.mem,S.out,S.ne,λa ha=>?_⟩
 ·obtain⟨as,h1,h2,h3,h4⟩:=S.vec i u q e1 e2;exact⟨as,key h1 (λ_ _ z=>nomatch z),lh h2,h3,h4⟩
 ·obtain⟨p,ta,n,rs,h1,h2,h3,h4,h5⟩:=S.tab e he;exact⟨p,ta,n,rs,h1,h2,key h3 (λ_ _ z=>nomatch z),lh h4,h5⟩
 ·obtain⟨o,e⟩:=S.al a ha;exact⟨o,by rw[qY (hM a ha)];exact e⟩
theorem Spn.nO (S:Spn T (fj H O) x dx Kp Cl Tb us kvs M w Ti cs pl):∀a∈M,a∉O∧∃o,H a=some o:=λa ha=>by
 obtain⟨o,e⟩:=S.al a ha;obtain⟨e1,e2⟩:=lJ e;exact⟨e1,o,e2⟩
end
def HIt (H:Hp)(S:List Addr)(t:Addr):Prop:=∃a b:Addr,H t=some (.tup [.ref a,.ref b])∧t∉S∧a∉S∧b∉S∧
 ((∃ns:List Int,H a=some (.lst (ns.map V.int))∧H b=some (.lst (ns.map V.int)))∨∃(as bs:List Addr) (ws:List (List Int)),H a=some (.lst (as.map V.ref))∧H b=some (.lst (bs.map V.ref))∧LH H as ws∧LH H bs ws∧(∀y∈as,y∉S)∧∀y∈bs,y∉S)
theorem HIt.step {H H':Hp}{S S':List Addr}{t:Addr}(h:HIt H S t)(k:KX S H H')(m:∀a∈S',a∈S∨H a=none):HIt H' S' t:=by
 have out:∀{a:Addr}{o:HO},H a=some o->a∉S->a∉S':=λ{a o} e n z=>by
  rcases m a z with y|y
  ·exact n y
  ·rw[y]at e;cases e
 obtain⟨a,b,h1,h2,h3,h4,h5⟩:=h;rcases h5 with ⟨ns,x1,x2⟩|⟨as,bs,ws,x1,x2,x3,x4,x5,x6⟩
 ·exact⟨a,b,k _ _ h2 h1,out h1 h2,out x1 h3,out x2 h4,.inl ⟨ns,k _ _ h3 x1,k _ _ h4 x2⟩⟩
 ·refine⟨a,b,k _ _ h2 h1,out h1 h2,out x1 h3,out x2 h4,.inr ⟨as,bs,ws,k _ _ h3 x1,k _ _ h4 x2,x3.kx k x5,x4.kx k x6,λy hy=>?_,λy hy=>?_⟩⟩
  ·obtain⟨p,e⟩:=x3.mem hy;exact out e (x5 y hy)
  ·obtain⟨p,e⟩:=x4.mem hy;exact out e (x6 y hy)
theorem VecAt.step {H H':Hp}{S S':List Addr}{u:Addr}{q:List (List Int)}(h:VecAt H S u q)(k:KX S H H')(m:∀a∈S',a∈S∨H a=none):VecAt H' S' u q:=by
 obtain⟨as,h1,h2,h3,h4⟩:=h;have out:∀{a:Addr}{o:HO},H a=some o->a∉S->a∉S':=λ{a o} e n z=>by
  rcases m a z with y|y
  ·exact n y
  ·rw[y]at e;cases e
 refine⟨as,k _ _ h3 h1,h2.kx k h4,out h1 h3,λy hy=>?_⟩;obtain⟨p,e⟩:=h2.mem hy;exact out e (h4 y hy)
theorem NT {w:Nat}(h:w<=3):PG w 3 1 54 2 50 7 181:=by
 match w,h with
 | 0,_=>constructor <;> decide
 | 1,_=>constructor <;> decide
 | 2,_=>constructor <;> decide
 | 3,_=>constructor <;> decide
theorem FG {w:Nat}{Ti:List (List (List Int))}{cs:List Nat}{q:List (List Int)}{pl:Int}(S:StG w 50 (Ti++[q]) cs pl)(W:∀v∈Ti++[q],v.length=w){U:Nat->Int->Int}(h:∀c,c<w->∀n,val n (q.getD c [])=ay Ti.length λt=>U t n*val n ((Ti.getD t []).getD c [])):False:=by
 have kw:=S.few;obtain⟨hl,hcs,_,_,_,pv⟩:=S;obtain⟨G,hG⟩:∃G:Nat->Int,∀x,G x=if x=Ti.length then -1 else U x pl:=⟨_,λ_=>rfl⟩
 have all:=EY W (by omega) hl pv (ms:=(a8 (Ti++[q]).length).map G) (by simp) (λc hc=>by
  rw[xo W (hcs c hc)];have e1:(Ti++[q]).length=Ti.length+1:=by simp
  rw[e1,iC,hG,if_pos rfl];have e2:(Ti++[q]).getD Ti.length []=q:=by rw[av,di (am _),fT];rfl
  rw[e2,h c (hcs c hc) pl,cY (g:=λt=>U t pl*val pl ((Ti.getD t []).getD c [])) λt ht=>by
   rw[hG,if_neg (by omega),av (l:=Ti++[q]),b_ ht,←av]]
  omega) (G Ti.length) (aT.mpr ⟨Ti.length,dh.mpr (by simp),rfl⟩)
 rw[hG,if_pos rfl]at all;omega
theorem LH.pairs {H:Hp}:∀{as:List Addr}{ps:List (List Int)},LH H as ps->∃L:List (Addr×List V),L.map (·.1)=as∧(∀p∈L,H p.1=some (.lst p.2))∧∀(i:Nat) (a:Addr) (f:List Int),as[i]?=some a->ps[i]?=some f->(a,f.map V.int)∈L
 | [],ps,_=>⟨[],rfl,λp hp=>by simp at hp,λi a f e=>by simp at e⟩
 | a :: as,[],h=>by have:=h.len;simp at this
 | a :: as,p :: ps,h=>by
  obtain⟨L,l1,l2,l3⟩:=LH.pairs (as:=as) (ps:=ps) ⟨by have:=h.len;simpa using this,λi b r e1 e2=>h.get (i+1) b r e1 e2⟩;refine⟨(a,p.map V.int) :: L,by rw[c_,l1],λr hr=>?_,λi b f e1 e2=>?_⟩
  ·rcases aO.mp hr with rfl|hr
   ·exact h.get 0 a p rfl rfl
   ·exact l2 r hr
  ·cases i with
   | zero=>
    simp at e1 e2;subst e1 e2;exact cD
   | succ i=>exact bM _ (l3 i b f (by simpa using e1) (by simpa using e2))
structure LSt {K:W.Frag}{mg:Str->Option Value}(T:Tx K mg)(H:Hp)(x dx Kp Cl Tb KA HA CA:Addr)(w:Nat)(cl:List Int)(n:Nat)(us:List Addr)(kvs:List (Key×V))(M:List Addr)(Ti:List (List (List Int)))(cs:List Nat)(pl:Int)(vs ts:List Addr):Prop where
 sp:Spn T (fj H [KA,HA,CA]) x dx Kp Cl Tb us kvs M w Ti cs pl
 st:StG w 50 Ti cs pl
 sm:∀v∈Ti,v.length=w∧∀f∈v,SmP f
 lk:kvs.length<=n*102
 eK:H KA=some (.lst (vs.map V.ref))
 eH:H HA=some (.lst (ts.map V.ref))
 eC:H CA=some (.lst (cl.map V.int))
 nd:[KA,HA,CA].Nodup
 lv:vs.length=Ti.length
 kv:∀(i:Nat) (v:Addr) (q:List (List Int)),vs[i]?=some v->Ti[i]?=some q->VecAt H (M++[KA,HA,CA]) v q
 ht:∀t∈ts,HIt H (M++[KA,HA,CA]) t
 lt:ts.length<=2*n
theorem LSt.same {K:W.Frag}{mg:Str->Option Value}{T:Tx K mg}{H H':Hp}{x dx Kp Cl Tb KA HA CA:Addr}{w:Nat}{cl:List Int}{n m:Nat}{us:List Addr}{kvs:List (Key×V)}{M:List Addr}{Ti:List (List (List Int))}{cs:List Nat}{pl:Int}{vs ts:List Addr}(L:LSt T H x dx Kp Cl Tb KA HA CA w cl n us kvs M Ti cs pl vs ts)(s:Same H H')(hm:n<=m):LSt T H' x dx Kp Cl Tb KA HA CA w cl m us kvs M Ti cs pl vs ts:=
 ⟨L.sp.same (kf λa o h e=>⟨h,s a o e⟩),L.st,L.sm,aE L.lk (dE _ hm),s _ _ L.eK,s _ _ L.eH,s _ _ L.eC,L.nd,L.lv,λi v q e1 e2=>(L.kv i v q e1 e2).step (λy o _ e=>s y o e) λa ha=>.inl ha,λt ht=>(L.ht t ht).step (λy o _ e=>s y o e) λa ha=>.inl ha,aE L.lt (dC _ hm)⟩
theorem LSt.vl {K:W.Frag}{mg:Str->Option Value}{T:Tx K mg}{H:Hp}{x dx Kp Cl Tb KA HA CA:Addr}{w:Nat}{cl:List Int}{n:Nat}{us:List Addr}{kvs:List (Key×V)}{M:List Addr}{Ti:List (List (List Int))}{cs:List Nat}{pl:Int}{vs ts:List Addr}(L:LSt T H x dx Kp Cl Tb KA HA CA w cl n us kvs M Ti cs pl vs ts):VL K H vs Ti:=⟨L.lv,λi v q e1 e2=>by
 obtain⟨as,h1,h2,_,_⟩:=L.kv i v q e1 e2;exact⟨as,SqL.of h1,h2.ll⟩⟩
section
variable {K:W.Frag}{mg:Str->Option Value}{T:Tx K mg}{H H':Hp}{x dx Kp Cl Tb KA HA CA:Addr}{w:Nat}{cl:List Int}{n:Nat}{us us':List Addr}{kvs kvs':List (Key×V)}{M M':List Addr}{Ti kept':List (List (List Int))}{cs cs':List Nat}{pl pl':Int}{vs ts:List Addr}
theorem LSt.hold {m:Nat}{t:Addr}(L:LSt T H x dx Kp Cl Tb KA HA CA w cl n us kvs M Ti cs pl vs ts)(k:∀y o,y≠HA->H y=some o->H' y=some o)(e:H' HA=some (.lst ((ts++[t]).map V.ref)))(h:HIt H' (M++[KA,HA,CA]) t)(hm:n<=m)(hl:ts.length+1<=2*m):LSt T H' x dx Kp Cl Tb KA HA CA w cl m us kvs M Ti cs pl vs (ts++[t]):=by
 have kx:KX (M++[KA,HA,CA]) H H':=λy o hy e=>k y o (λz=>hy (by simp[z])) e;have nd:=L.nd;simp at nd;refine⟨L.sp.same (kf λy o hy e=>⟨hy,k y o (λz=>hy (by simp[z])) e⟩),L.st,L.sm,aE L.lk (dE _ hm),k _ _ nd.1.1 L.eK,e,k _ _ (Ne.symm nd.2) L.eC,L.nd,L.lv,λi v q e1 e2=>(L.kv i v q e1 e2).step kx λa ha=>.inl ha,λu hu=>?_,by simpa using hl⟩;rcases aK.mp hu with z|z
 ·exact (L.ht u z).step kx λa ha=>.inl ha
 ·rw[aP.mp z];exact h
theorem LSt.took {m:Nat}(L:LSt T H x dx Kp Cl Tb KA HA CA w cl n us kvs M Ti cs pl vs ts) (S:Spn T (fj H' [KA,HA,CA]) x dx Kp Cl Tb us' kvs' M' w kept' cs' pl') (st:StG w 50 kept' cs' pl') (sm:∀v∈kept',v.length=w∧∀f∈v,SmP f) (lk:kvs'.length<=m*102) (vs':List Addr) (eK:H' KA=some (.lst (vs'.map V.ref))) (eH:H' HA=some (.lst (ts.map V.ref))) (eC:H' CA=some (.lst (cl.map V.int))) (lv:vs'.length=kept'.length)
  (kx:KX (M++[KA,HA,CA]) H H') (mf:∀a∈M',a∈M∨H a=none) (hm:n<=m) (old:∀(i:Nat) (v:Addr) (q:List (List Int)),vs'[i]?=some v->kept'[i]?=some q->(vs[i]?=some v∧Ti[i]?=some q)∨VecAt H' (M'++[KA,HA,CA]) v q):LSt T H' x dx Kp Cl Tb KA HA CA w cl m us' kvs' M' kept' cs' pl' vs' ts:=by
 have mf':∀a∈M'++[KA,HA,CA],a∈M++[KA,HA,CA]∨H a=none:=λa ha=>by
  rcases aK.mp ha with z|z
  ·exact (mf a z).imp (gl _) id
  ·exact .inl (cP _ z)
 refine⟨S,st,sm,lk,eK,eH,eC,L.nd,lv,λi v q e1 e2=>?_,λt ht=>(L.ht t ht).step kx mf',aE L.lt (dC _ hm)⟩;rcases old i v q e1 e2 with ⟨z1,z2⟩|z
 ·exact (L.kv i v q z1 z2).step kx mf'
 ·exact z
end
theorem cutV_map (ns:List Int)(l u:Option Int):∃ms:List Int,dr (ns.map V.int) l u=ms.map V.int∧ms.length<=ns.length:=by
 unfold dr;refine⟨_,by rw[←rf,←re],?_⟩;rw[bT,kh];omega
def FH (K:W.Frag):Sp:=λvs H Q _=>∃(a:Addr) (ns:List Int),vs=[.ref a]∧SqL K H a (ns.map V.int)∧ns.length<=63∧∀H',Q (.bl true) H'
theorem NU {P:Program}{wd:World}{K:W.Frag}{mg:Str->Option Value}{base:Heap}(T:Tx K mg):FnOk P wd K mg base CX0 24 T.OO T.OL ["_law_script"] (FH K):=by
 refine T.SD.ok sc_law (λvs H Q E h=>?_) (λcdv A outer s H vs Q E hr h=>?_)
 ·obtain⟨a,ns,rfl,_⟩:=h;rfl
 obtain⟨a,ns,rfl,hS,l63,fin⟩:=h;obtain⟨w,w3,hw⟩:∃w:Nat,w<=3∧((0<ns.length->∀x,ns[0]?=some x->x % 4=(w:Int))∧(ns=[]->w=0)):=by
  cases ns with
  | nil=>exact⟨0,by omega,λh=>by simp at h,λ_=>rfl⟩
  | cons x xs=>exact⟨(x % 4).toNat,by omega,λ_ y hy=>by simp at hy;subst hy;omega,λh=>by simp at h⟩
 have Z:=Nt (NT w3);have F:=ED (P:=P) (wd:=wd) (base:=base) T Z 4;refine⟨_,((ai (au (i:=1) sc_law.nd rfl (Or.inl rfl) ah)
  (gZ (bC (aM gz (aA aU rfl T.OB aS (aa (pv 0) ac)) ah (aL _)) (aq (au (i:=1) sc_law.nd rfl (Or.inl rfl) (ao fN (aH a_ (pv 0) ah (λ_ _=>rfl)) ah))) bI)
  (ai (au (i:=2) sc_law.nd rfl (Or.inl rfl) (Ce T.RV (FnOk.mono (Eb T) (by omega)) hr rfl T.RU T.RN .nil aD (aa (pv 1) ac)))
  (ai (au (i:=3) sc_law.nd rfl (Or.inl rfl) (bN ac))
  (ai (au (i:=4) sc_law.nd rfl (Or.inl rfl) (bN ac))
  (ai (au (i:=5) sc_law.nd rfl (Or.inl rfl) (ao iQ (ff rfl (dg rfl ck cJ) (cc (iu iP (pv 0) (gC ah) (gC ah))) (λ_ _ _ _=>(pv 0))) (ao iR (bN (aa ah ac)) (aA (jh rfl) rfl T.OH iz (aa ah (aa (pv 1) ac))))))
  (ai (bY PassesOwn.never rfl (fW rfl T.OE (aa ah ac)) (a7 (i:=6) sc_law.nd rfl (Or.inl rfl)) (ai (au (i:=7) sc_law.nd rfl (Or.inl rfl) (iu iP (pv 5) (gC (ao dw (pv 6) (aA (jh rfl) rfl T.OH iz (aa ah (aa (pv 1) ac))))) (gC (ao dw (ao cG (pv 6) ah) (aA (jh rfl) rfl T.OH iz (aa ah (aa (pv 1) ac)))))))
  (aq (bC (aM fE (aA aU rfl T.OB aS (aa (pv 7) ac)) (aA (jh rfl) rfl T.OH iz (aa ah (aa (pv 1) ac))) (aL _)) (ai (au (i:=8) sc_law.nd rfl (Or.inl rfl) (aN (FnOk.mono (NN T) (by omega)) hr rfl T.Sv T.RG.kp T.Sw .nil aD (aa (pv 7) (aa (pv 1) (aa (pv 3) (aa (pv 6) ac))))))
  (ai (jL (i:=9) rfl (dg rfl ck cJ) (cc (pv 8)) (λ_ _ _ _=>(fX (qD (K:=K) rfl) rfl T.OF fG (aa (pv 0) ac))) sc_law.nd rfl rfl)
  (gZ (au (i:=10) sc_law.nd rfl (Or.inl rfl) (Dm (fF (pv 2) T.OC T.O_ (FnOk.mono F (by omega)) hr T.O9 .nil aD (aa (pv 9) ac))))
  (ai (bC (aM (vT hr.units) (pv 9) (pv 8) (aL _)) (aq (aF fM)) bI)
  (ai (bY PassesOwn.never rfl (cc (pv 9)) (a7 (i:=11) sc_law.nd rfl (Or.inl rfl)) (aq (e9 (fY PySem.F.plainAttrs_list PySem.F.slot_list_append PySem.F.type_list_append e_ (pv 11) (aa ah ac)))))
  (gZ (bC (aM kG (pv 10) eh (aL _)) (aq (e9 (fY PySem.F.plainAttrs_list PySem.F.slot_list_append PySem.F.type_list_append e_ (pv 3) (aa (pv 8) ac)))) (ai (bC (ir (gU (aN (FnOk.mono (FD T) (by omega)) hr rfl T.RK T.QR.kp T.RL .nil aD (aa (pv 10) (aa (pv 3) (aa (pv 8) ac)))))) (aq (aF fM)) bI)
  (aq (e9 (fY PySem.F.plainAttrs_list PySem.F.slot_list_append PySem.F.type_list_append e_ (pv 4) (aa (ji (aa (pv 10) (aa (ff rfl (dg rfl ck cJ) (cc (pv 10)) (λ_ _ _ _=>(fX (qD (K:=K) rfl) rfl T.OF fG (aa (pv 0) ac)))) ac))) ac))))))
  (ai (au (i:=12) sc_law.nd rfl (Or.inl rfl) (Jd (pv 2) T.OC T.SZ (FnOk.mono (NF T) (by omega)) hr T.SS .nil aD))
  (ai (bC (ir (gU (aN (FnOk.mono (NS T) (by omega)) hr rfl T.SB T.RM.kp T.SC .nil aD (aa (pv 12) (aa (pv 3) (aa (pv 1) ac)))))) (aq (aF fM)) bI)
  (aq (bC (aM fE (ao fN (pv 6) ah) ah (aL _)) (aq (e9 (fY PySem.F.plainAttrs_list PySem.F.slot_list_append PySem.F.type_list_append e_ (pv 4) (aa (ji (aa (aH dS (pv 12) ah (λ_ _=>rfl)) (aa (fX iy rfl T.OF fG (aa (aH dS (pv 12) ah (λ_ _=>rfl)) ac)) ac))) ac)))) (aq (e9 (fY PySem.F.plainAttrs_list PySem.F.slot_list_append PySem.F.type_list_append e_ (aH dS (pv 12) ah (λ_ _=>rfl)) (aa (pv 6) ac)))))))))))))) bI))))
  (ai (bY PassesOwn.never rfl (cc (pv 4)) (gX rfl (dQ (a7 (i:=12) sc_law.nd rfl (Or.inl rfl)) (dQ (a7 (i:=13) sc_law.nd rfl (Or.inl rfl)) gW))) (aq (bC (aM (vT hr.units) (pv 12) (pv 13) (aL _)) (aq (aF fM)) bI)))
  (aq (aF (aN (FnOk.mono (FD T) (by omega)) hr rfl T.RK T.QR.kp T.RL .nil aD (aa (Dm (fF (pv 2) T.OC T.O_ (FnOk.mono F (by omega)) hr T.O9 .nil aD (aa (ao iR (bN (aa (bN ac) ac)) (pv 1)) ac))) (aa (pv 3) (aa (ao iR (bN (aa (bN ac) ac)) (pv 1)) ac))))))))))))))),?_⟩
 dsimp only[aB]
 k_typeOf
 have hmx:(if (w:Int) > 1 then (w:Int) else 1)=((max 1 w:Nat):Int):=by split <;> omega
 obtain⟨M0,hM0⟩:∃M0:L2.St->Hp->Prop,∀σ Hx,M0 σ Hx↔σ=[some (V.ref a),some (V.int (w:Int)),none,none,none,none,none,none,none,none,none,none,none,none]∧Hx=H:=⟨_,λ_ _=>Iff.rfl⟩
 refine gE M0 ?_ ?_
 ·k_units
  refine⟨_,.inl hS,?_⟩;rw[ae];refine bJ (λz=>?_) (λz=>?_)
  ·have z':0<ns.length:=by omega
   have h0:ns[0]?=some ns[0]:=ak z';refine⟨_,hS,_,eI (j:=0) (by rw[az,h0];rfl),_,rfl,by decide,(hM0 _ _).mpr ⟨?_,rfl⟩⟩;rw[hw.1 z' _ h0]
  ·have e:ns=[]:=bE (by omega);refine (hM0 _ _).mpr ⟨?_,rfl⟩;rw[hw.2 e];rfl
 intro σ H0 hm0;obtain⟨rfl,rfl⟩:=(hM0 _ _).mp hm0;clear hm0 hM0 M0 hw;dsimp only[aB]
 k_typeOf
 refine EC λx dx Kp Cl Tb M H1 s1 m1 S1=>?_;dsimp only[aB]
 k_typeOf
 refine⟨aI _,λKA nKA=>?_⟩;have u1:=ar nKA (.lst []);have eKA:=ag (H:=H1) (a:=KA) (o:=.lst []);generalize L2.upd H1 KA (.lst [])=H2 at u1 eKA ⊢;dsimp only[aB]
 k_typeOf
 refine⟨aI _,λHA nHA=>?_⟩;have u2:=ar nHA (.lst []);have eHA:=ag (H:=H2) (a:=HA) (o:=.lst []);generalize L2.upd H2 HA (.lst [])=H3 at u2 eHA ⊢;dsimp only[aB]
 k_typeOf
 obtain⟨ms,hms,lms⟩:=cutV_map ns (some 1) (some 63);refine⟨_,(s1.trans (u1.trans u2)).seq hS,λp np=>?_⟩;rw[hms];have u3:=ar np (.lst (ms.map V.int));have ep:=ag (H:=H3) (a:=p) (o:=.lst (ms.map V.int));generalize L2.upd H3 p (.lst (ms.map V.int))=H4 at u3 ep ⊢;refine⟨⟨_,SqL.of ep⟩,λD nD=>FE (g:=λx=>x) nD (SqL.of ep) (by omega) (λy _ Hx R _ hR=>?_) (λF0 H5 s5 nF0 eF0=>?_)⟩
 ·(iterate 3 (k_units;(try simp only[bst]));k_units)
  exact hR
 rw[List.map_id']at eF0;rw[hmx,eE];refine⟨by decide,λp1 n1=>⟨_,ag,by omega,by omega,bW (aX (by simp;omega)),λp2 n2=>⟨F0,rfl,ms.map V.int,?_,_,ag,?_,λCA nCA=>?_⟩⟩⟩
 ·exact ((ar n1 _).trans (ar n2 _)) _ _ eF0
 ·rw[js];exact bW (aX (by simp;omega))
 rw[js]at nCA ⊢;have u4:=(ar n1 (.lst [V.int 0])).trans ((ar n2 (.lst ((aC (max 1 w) (0:Int)).map V.int))).trans (ar nCA (.lst (ms.map V.int++(aC (max 1 w) (0:Int)).map V.int))));have eCA:=ag (H:=L2.upd (L2.upd H5 p1 (.lst [V.int 0])) p2 (.lst ((aC (max 1 w) (0:Int)).map V.int))) (a:=CA) (o:=.lst (ms.map V.int++(aC (max 1 w) (0:Int)).map V.int));have nCA5:=(ar n1 (.lst [V.int 0])).free ((ar n2 (.lst ((aC (max 1 w) (0:Int)).map V.int))).free nCA);generalize L2.upd (L2.upd (L2.upd H5 p1 (.lst [V.int 0])) p2 (.lst ((aC (max 1 w) (0:Int)).map V.int))) CA (.lst (ms.map V.int++(aC (max 1 w) (0:Int)).map V.int))=H6 at u4 eCA ⊢;rw[←aQ]at eCA;obtain⟨cl,hcl,lcl⟩:∃cl:List Int,ms++aC (max 1 w) 0=cl∧cl.length<=70:=⟨_,rfl,by simp;omega⟩
 rw[hcl]at eCA;have s36:=u3.trans (s5.trans u4);have nCA3:=u3.free (s5.free nCA5);have L0:LSt T H6 x dx Kp Cl Tb KA HA CA w cl 0 [] [] M [] [] 97 [] []:=by
  have nM:∀y,H1 y=none->y∉M:=λy hy z=>by obtain⟨o,e⟩:=S1.al y z;rw[hy]at e;cases e
  have ne1:KA≠HA:=λz=>by rw[←z,eKA]at nHA;cases nHA
  have ne2:KA≠CA:=λz=>by rw[←z,u2 _ _ eKA]at nCA3;cases nCA3
  have ne3:HA≠CA:=λz=>by rw[←z,eHA]at nCA3;cases nCA3
  have nH:=u1.free nHA;have nC:=u1.free (u2.free nCA3);refine⟨S1.same λy o e=>?_,Z.st0,by simp,by simp,s36 _ _ (u2 _ _ eKA),s36 _ _ eHA,eCA,by simp[ne1,ne2,ne3],rfl,λi v q e=>by simp at e,by simp,by simp⟩;rw[qY]
  ·exact s36 _ _ (u2 _ _ (u1 _ _ e))
  ·intro z;simp only[aO,gQ,or_false]at z;rcases z with rfl|rfl|rfl
   ·rw[nKA]at e;cases e
   ·rw[nH]at e;cases e
   ·rw[nC]at e;cases e
 clear hms ep eF0 nF0 eKA eHA eCA nCA nCA5 nCA3 n1 n2 u1 u2 u3 u4 s5 s36 nKA nHA np S1 m1 s1 nD;dsimp only[aB]
 k_typeOf
 refine⟨by decide,by decide,?_⟩;obtain⟨Pv,hPv⟩:∃Pv:Nat->L2.St->Hp->Prop,∀i σ H',Pv i σ H'↔∃(us:List Addr) (kvs:List (Key×V)) (M:List Addr) (Ti:List (List (List Int))) (cs:List Nat) (pl:Int) (vs ts:List Addr) (r6 r7 r8 r9 r10 r11 r12:Option V),σ=[some (V.ref a),some (V.int (w:Int)),some (V.ref x),some (V.ref KA),some (V.ref HA),some (V.ref CA),r6,r7,r8,r9,r10,r11,r12,none]∧LSt T H' x dx Kp Cl Tb KA HA CA w cl i us kvs M Ti cs pl vs ts:=⟨_,λ_ _ _=>Iff.rfl⟩
 refine gF Pv ((hPv _ _ _).mpr ⟨[],[],M,[],[],97,[],[],none,none,none,none,none,none,none,rfl,L0⟩) ?_ ?_
 ·clear L0;clear M;intro i σ H7 hi hp7;obtain⟨us,kvs,M,Ti,cs,pl,vs,ts,r6,r7,r8,r9,r10,r11,r12,rfl,L⟩:=(hPv _ _ _).mp hp7;have e0:(0:Int)+(i:Int)=(i:Int):=fq _;rw[e0];dsimp only[aB]
  k_typeOf
  rw[hmx];obtain⟨sl,hsl,_⟩:=cutV_map cl (some ((i:Int)*((max 1 w:Nat):Int))) (some (((i:Int)+1)*((max 1 w:Nat):Int)));have bi:Bd 4 (i:Int):=Bd.of_lt (m:=16) (by omega) (by decide);have bi1:Bd 4 ((i:Int)+1):=Bd.of_lt (m:=16) (by omega) (by decide);have bm:Bd 4 ((max 1 w:Nat):Int):=Bd.of_lt (m:=16) (by omega) (by decide);refine⟨bi.fits bm (by decide),bi1.fits bm (by decide),_,SqL.of L.eC,λSa nSa=>?_⟩;rw[hsl];have u8:=ar nSa (.lst (sl.map V.int));have eSa:=ag (H:=H7) (a:=Sa) (o:=.lst (sl.map V.int));generalize L2.upd H7 Sa (.lst (sl.map V.int))=H8 at u8 eSa ⊢;have L8:=L.same u8 (am _);refine⟨_,.inl (SqL.of eSa),?_⟩;rw[ae];refine bJ (λz=>?_) (λz=>(hPv _ _ _).mpr ⟨us,kvs,M,Ti,cs,pl,vs,ts,_,_,_,_,_,_,_,rfl,L.same u8 (i5 _)⟩);have lsl:sl.length=max 1 w:=by omega
  clear L hp7 hsl nSa;have k3:Ti.length<=3:=aE L8.st.few w3;dsimp only[aB]
  k_typeOf
  refine⟨Sa,KA,sl,vs,Ti,w,(i:Int),rfl,SqL.of eSa,lsl,w3,SqL.of L8.eK,L8.vl,L8.sm,k3,λq hq Va va H9 s9 nVa eVa lVa nva Vva ndva=>?_⟩;have L9:=L8.same s9 (am _);have wq:q.length=w:=hq.1;dsimp only[aB]
  k_typeOf
  refine⟨⟨_,SqL.of eVa⟩,λD nD=>j6 (ps:=q) (ds:=q) nD (SqL.of eVa) lVa.ll rfl (by omega) (λj b p d Hx R' hp hd sx hb hR'=>?_) (λHd hs H10 s10 nHd eHd lHd nhs Hdhs ndhs=>?_)⟩
  ·have e:d=p:=by rw[hp]at hd;exact (Option.some.inj hd).symm
   subst e
   (iterate 3 (k_units;(try simp only[bst]));k_units)
   exact⟨_,.inl hb,λl hl=>hR' l _ (ar hl _) hl ag⟩
  have L10:=L9.same s10 (am _);have eVa10:=s10 _ _ eVa;have lVa10:=lVa.same s10;have lhs:=lHd.len;have inK:∀y∈[KA,HA,CA],∃o,H9 y=some o:=λy hy=>by
   simp only[aO,gQ,or_false]at hy;rcases hy with rfl|rfl|rfl
   ·exact⟨_,L9.eK⟩
   ·exact⟨_,L9.eH⟩
   ·exact⟨_,L9.eC⟩
  have nhK:∀y∈hs,y∉[KA,HA,CA]:=λy hy hz=>by
   obtain⟨o,e⟩:=inK y hz;rw[nhs y hy]at e;cases e
  have hVq:VqG w 3 1 54 Ti q:=by
   refine⟨λv hv=>⟨(L10.sm v hv).1,λf hf=>?_⟩,wq,λf hf=>?_⟩
   ·obtain⟨a1,a2,a3⟩:=(L10.sm v hv).2 f hf;exact⟨a1,a2,λc hc=>(a3 c hc).mono (by decide)⟩
   ·rcases hq.2 with h|⟨h,_⟩
    ·obtain⟨a1,a2,a3⟩:=h f hf;exact⟨a1,by omega,λc hc=>(a3 c hc).mono (by decide)⟩
    ·exact h f hf
  have SM:∀y,H9 y=none->y∉M:=λy hy hz=>by
   obtain⟨_,o,e⟩:=L9.sp.nO y hz;rw[hy]at e;cases e
  obtain⟨M5,hM5⟩:∃M5:L2.St->Hp->Prop,∀σ Hx,M5 σ Hx↔∃(v10:V) (us':List Addr) (kvs':List (Key×V)) (M':List Addr) (kept':List (List (List Int))) (cs':List Nat) (pl':Int),σ=[some (V.ref a),some (V.int (w:Int)),some (V.ref x),some (V.ref KA),some (V.ref HA),some (V.ref CA),some (V.int (i:Int)),some (V.ref Sa),some (V.ref Va),some (V.ref Hd),some v10,r11,r12,none]∧
   Spn T (fj Hx (hs++[KA,HA,CA])) x dx Kp Cl Tb us' kvs' M' w kept' cs' pl'∧StG w 50 kept' cs' pl'∧kvs'.length<=(i+1)*102∧KX M H10 Hx∧(∀y∈M,y∈M')∧(∀y∈M',y∈M∨H10 y=none)∧
   ((v10=.non∧kept'=Ti++[q]∧∀f∈q,SmP f)∨∃(D:Addr) (bs:List Addr) (ws:List (List Int)),v10=.ref D∧kept'=Ti∧RlG w 7 272 Ti q ws∧H10 D=none∧D∉M'∧Hx D=some (.lst (bs.map V.ref))∧LH Hx bs ws∧(∀b∈bs,b∉M'∧H10 b=none)∧D∉bs):=⟨_,λ_ _=>Iff.rfl⟩
  refine gE M5 ?_ ?_
  ·k_units
   obtain⟨Lh,h1,h2,h3⟩:=lHd.pairs;obtain⟨O1,hO1⟩:∃O1,O1=hs++[KA,HA,CA]:=⟨_,rfl⟩
   obtain⟨LL1,hLL⟩:∃LL1,LL1=Lh++[(KA,vs.map V.ref),(HA,ts.map V.ref),(CA,cl.map V.int)]:=⟨_,rfl⟩
   have eO:LL1.map (·.1)=O1:=by rw[hLL,aQ,h1,hO1];rfl
   have ndO:O1.Nodup:=by
    rw[hO1];exact ku.mpr ⟨ndhs,L10.nd,λy hy z hz e=>nhK y hy (by rw[e];exact hz)⟩
   have lst10:∀p∈LL1,H10 p.1=some (.lst p.2):=λp hp=>by
    rw[hLL]at hp;rcases aK.mp hp with hp|hp
    ·exact h2 p hp
    ·simp only[aO,gQ,or_false]at hp;rcases hp with rfl|rfl|rfl
     ·exact L10.eK
     ·exact L10.eH
     ·exact L10.eC
   have S10:Spn T (fj H10 O1) x dx Kp Cl Tb us kvs M w Ti cs pl:=L9.sp.same (kf λy o hy e=>⟨λhz=>by
    rw[hO1]at hz;rcases aK.mp hz with hz|hz
    ·rw[nhs y hz]at e;cases e
    ·exact hy hz,s10 y o e⟩)
   rw[←hO1]at hM5;refine⟨LL1,by rw[eO];exact ndO,lst10,λHf f1 f2=>?_⟩;rw[eO]at f2;have fO:∀y∈O1,∃o u,Hf y=some (.frz o u):=λy hy=>by
    rw[←eO]at hy;obtain⟨p,hp,rfl⟩:=aT.mp hy;obtain⟨o,e⟩:=f1 p hp;exact⟨o,_,e⟩
   have noO:∀y,Hf y=none->y∉O1:=λy hy hz=>by
    obtain⟨o,u,e⟩:=fO y hz;rw[hy]at e;cases e
   have Sf:Spn T Hf x dx Kp Cl Tb us kvs M w Ti cs pl:=S10.same λy o e=>by
    obtain⟨e1,e2⟩:=lJ e;rw[f2 y e1];exact e2
   have HdO:Hd∉O1:=λhz=>by
    rw[hO1]at hz;rcases aK.mp hz with hz|hz
    ·exact Hdhs hz
    ·obtain⟨o,e⟩:=inK Hd hz;rw[nHd]at e;cases e
   have lf:LL K Hf hs q:=⟨lhs,λj b f e1 e2=>by
    obtain⟨o,e⟩:=f1 (b,f.map V.int) (by rw[hLL];exact gl _ (h3 j b f e1 e2));exact .inl (.inr ⟨o,e⟩)⟩
   have keepO:∀{H':Hp},KX M Hf H'->∀p∈LL1,H' p.1=Hf p.1:=λ{H'} kx p hp=>by
    obtain⟨o,e⟩:=f1 p hp;rw[e];exact kx _ _ (λz=>(S10.nO _ z).1 (by rw[←eO];exact aT.mpr ⟨p,hp,rfl⟩)) e
   have common:∀{H' H'':Hp}{us':List Addr}{kvs':List (Key×V)}{M':List Addr}{kept':List (List (List Int))}{cs':List Nat}{pl':Int},Spn T H' x dx Kp Cl Tb us' kvs' M' w kept' cs' pl'->KX M Hf H'->(∀y∈M',y∈M∨Hf y=none)->(∀p∈LL1,H'' p.1=some (.lst p.2))->(∀y,y∉LL1.map (·.1)->H'' y=H' y)->Spn T (fj H'' O1) x dx Kp Cl Tb us' kvs' M' w kept' cs' pl'∧KX M H10 H''∧(∀y∈M',y∈M∨H10 y=none):=λ{H' H'' us' kvs' M' kept' cs' pl'} S' kx mf g1 g2=>by
    rw[eO]at g2;refine⟨(S'.off (O:=O1) (λy hy=>?_) λy hy=>?_).same (kf λy o hy e=>⟨hy,by rw[g2 y hy];exact e⟩),λy o hy e=>?_,λy hy=>?_⟩
    ·rw[←eO]at hy;obtain⟨p,hp,rfl⟩:=aT.mp hy;obtain⟨o,e⟩:=f1 p hp;exact⟨o,_,by rw[keepO kx p hp];exact e⟩
    ·rcases mf y hy with z|z
     ·exact (S10.nO y z).1
     ·exact noO y z
    ·by_cases hz:y∈O1
     ·rw[←eO]at hz;obtain⟨p,hp,rfl⟩:=aT.mp hz;rw[lst10 p hp]at e;rw[g1 p hp];exact e
     ·rw[g2 y hz];exact kx y o hy (by rw[f2 y hz];exact e)
    ·rcases mf y hy with z|z
     ·exact .inl z
     ·exact .inr (by rw[←f2 y (noO y z)];exact z)
   have lk:=L10.lk;have W:∀v∈Ti++[q],v.length=w:=λv hv=>by
    rcases aK.mp hv with z|z
    ·exact (L10.sm v z).1
    ·rw[aP.mp z];exact wq
   refine⟨dx,_,Sf.hx,rfl,x,dx,Kp,Cl,Tb,Hd,us,kvs,M,Ti,cs,pl,hs,q,rfl,Sf,SqL.of (by rw[f2 Hd HdO];exact eHd),lf,L10.st,hVq,by omega,by omega,λH' us' kvs' M' c pl' S' st' kx ms mf l _=>⟨keepO kx,λH'' g1 g2=>?_⟩,λH' kvs' M' D bs ws S' hR kx ms mf l nDM nD eD lD nb Db=>⟨keepO kx,λH'' g1 g2=>?_⟩⟩
   ·obtain⟨c1,c2,c3⟩:=common S' kx mf g1 g2;refine (hM5 _ _).mpr ⟨.non,us',kvs',M',_,_,pl',rfl,c1,st',by omega,c2,ms,c3,.inl ⟨rfl,rfl,?_⟩⟩;rcases hq.2 with z|⟨_,U,hU⟩
    ·exact z
    ·exact (FG st' W hU).elim
   ·obtain⟨c1,c2,c3⟩:=common S' kx mf g1 g2;rw[eO]at g2;have n10:∀y,Hf y=none->H10 y=none:=λy hy=>by rw[←f2 y (noO y hy)];exact hy
    exact (hM5 _ _).mpr ⟨.ref D,us,kvs',M',Ti,cs,pl,rfl,c1,L10.st,by omega,c2,ms,c3,.inr ⟨D,bs,ws,rfl,rfl,hR,n10 D nD,nDM,by rw[g2 D (noO D nD)];exact eD,⟨lD.len,λj b f e1 e2=>by rw[g2 b (noO b (nb b (bH e1)).2)];exact lD.get j b f e1 e2⟩,λb hb=>⟨(nb b hb).1,n10 b (nb b hb).2⟩,Db⟩⟩
  intro σ H11 hm5;obtain⟨v10,us',kvs',M',kept',cs',pl',rfl,S11,t11,l11,kx11,ms11,mf11,hv10⟩:=(hM5 _ _).mp hm5;clear hm5 hM5 M5;have SM8:∀y,H8 y=none->y∉M:=λy hy hz=>by
   obtain⟨_,o,e⟩:=L8.sp.nO y hz;rw[hy]at e;cases e
  have eHd11:=kx11 _ _ (SM Hd nHd) eHd;have lHd11:=lHd.kx kx11 λy hy=>SM y (nhs y hy);have eVa11:=kx11 _ _ (SM8 Va nVa) eVa10;have lVa11:=lVa10.kx kx11 λy hy=>SM8 y (nva y hy);have VaH:Va∉hs:=λz=>by have:=nhs Va z;rw[eVa]at this;cases this
  have vaH:∀y∈va,y∉hs:=λy hy z=>by
   obtain⟨p,e⟩:=lVa.mem hy;rw[nhs y z]at e;cases e
  have inK8:∀y∈[KA,HA,CA],∃o,H8 y=some o:=λy hy=>by
   simp only[aO,gQ,or_false]at hy;rcases hy with rfl|rfl|rfl
   ·exact⟨_,L8.eK⟩
   ·exact⟨_,L8.eH⟩
   ·exact⟨_,L8.eC⟩
  have frK:∀y,H8 y=none->y∉[KA,HA,CA]:=λy hy hz=>by
   obtain⟨o,e⟩:=inK8 y hz;rw[hy]at e;cases e
  have KM:∀y∈[KA,HA,CA],y∉M:=λy hy hz=>(L9.sp.nO y hz).1 hy;dsimp only[aB]
  k_typeOf
  refine⟨_,qE (SqL.of eHd11) lHd11.ll,_,qE (SqL.of eVa11) lVa11.ll,?_⟩;refine⟨qF _,qF _,D8 _,?_⟩;rw[D7,if_neg (by decide)];dsimp only[aB]
  k_typeOf
  obtain⟨Pw,hPw⟩:∃Pw:Nat->L2.St->Hp->Prop,∀j σ Hx,Pw j σ Hx↔(∃r11:Option V,σ=[some (V.ref a),some (V.int (w:Int)),some (V.ref x),some (V.ref KA),some (V.ref HA),some (V.ref CA),some (V.int (i:Int)),some (V.ref Sa),some (V.ref Va),some (V.ref Hd),some v10,r11,r12,none])∧∀y,y∉hs.take j->Hx y=H11 y:=⟨_,λ_ _ _=>Iff.rfl⟩
  refine⟨⟨_,SqL.of eHd11⟩,iT (xs:=hs.map V.ref) Pw ((hPw _ _ _).mpr ⟨⟨r11,rfl⟩,λ_ _=>rfl⟩) (λj σ Hx _ z=>by
   obtain⟨_,z⟩:=(hPw j σ Hx).mp z;refine SqL.of ?_;rw[z Hd λy=>Hdhs (fU y)];exact eHd11) ?_ ?_⟩
  ·intro j v σ Hx hvv hpj;obtain⟨⟨r11,rfl⟩,hk⟩:=(hPw _ _ _).mp hpj;rw[az]at hvv;obtain⟨b,hb,rfl⟩:=b6.mp hvv;have hj:j<hs.length:=(aV.mp hb).1;have hqj:q[j]?=some q[j]:=ak (by omega);have bj:b∉hs.take j:=λz=>by
    obtain⟨l,hl,e⟩:=cU.mp z;rw[List.getElem_take]at e;have e2:=(aV.mp hb).2;rw[bT]at hl;exact jz.mp ndhs l j (by omega) hj (by omega) (by rw[e,e2])
   have eb:Hx b=some (.lst (q[j].map V.int)):=by rw[hk b bj];exact lHd11.get j b _ hb hqj
   have lq4:(q[j]).length<=4:=by have:=(hVq.2.2 _ (aW (by omega:j<q.length))).2.1;omega
   k_units
   refine⟨fZ (SqL.of eb),_,eb,by rw[ae];exact aX (by omega),(hPw _ _ _).mpr ⟨⟨_,rfl⟩,λy hy=>?_⟩⟩;have et:hs.take (j+1)=hs.take j++[b]:=by rw[cM,hb];rfl
   rw[et,aK,not_or]at hy;rw[aj (λz=>hy.2 (by simp[z]))];exact hk y hy.1
  intro σ H12 hpw;obtain⟨⟨r11',rfl⟩,hk12⟩:=(hPw _ _ _).mp hpw;rw[ae,eV]at hk12;clear hpw hPw Pw eHd11 lHd11;have KH:∀y∈[KA,HA,CA],y∉hs:=λy hy hz=>nhK y hz hy;have kx12:KX (M++[KA,HA,CA]) H9 H12:=λy o hy e=>by
   have h1:y∉hs:=λz=>by rw[nhs y z]at e;cases e
   rw[hk12 y h1];exact kx11 y o (λz=>hy (gl _ z)) (s10 y o e)
  have own12:∀y∈[KA,HA,CA],∀o,H9 y=some o->H12 y=some o:=λy hy o e=>by
   rw[hk12 y (KH y hy)];exact kx11 y o (KM y hy) (s10 y o e)
  have mf9:∀y∈M',y∈M∨H9 y=none:=λy hy=>(mf11 y hy).imp id s10.free;have S12:Spn T (fj H12 [KA,HA,CA]) x dx Kp Cl Tb us' kvs' M' w kept' cs' pl':=S11.same (kf λy o hy e=>by
   rw[aK,not_or]at hy;exact⟨hy.2,by rw[hk12 y hy.1];exact e⟩)
  have eVa12:H12 Va=some (.lst (va.map V.ref)):=by rw[hk12 Va VaH];exact eVa11
  have lVa12:LH H12 va q:=⟨lVa11.len,λj b f e1 e2=>by rw[hk12 b (vaH b (bH e1))];exact lVa11.get j b f e1 e2⟩
  have M'no:∀y o,H9 y=some o->y∉M->y∉M':=λy o e hn hz=>by
   rcases mf9 y hz with z|z
   ·exact hn z
   ·rw[z]at e;cases e
  obtain⟨M6,hM6⟩:∃M6:L2.St->Hp->Prop,∀σ Hx,M6 σ Hx↔∃(r10 r11:Option V) (us:List Addr) (kvs:List (Key×V)) (M:List Addr) (Ti:List (List (List Int))) (cs:List Nat) (pl:Int) (vs ts:List Addr),σ=[some (V.ref a),some (V.int (w:Int)),some (V.ref x),some (V.ref KA),some (V.ref HA),some (V.ref CA),some (V.int (i:Int)),some (V.ref Sa),some (V.ref Va),some (V.ref Hd),r10,r11,r12,none]∧LSt T Hx x dx Kp Cl Tb KA HA CA w cl (i+1) us kvs M Ti cs pl vs ts∧ts.length<=2*i+1:=⟨_,λ_ _=>Iff.rfl⟩
  refine gE M6 ?_ ?_
  ·have lts:=L9.lt;have eK12:=own12 KA (by simp) _ L9.eK;have eH12:=own12 HA (by simp) _ L9.eH;have eC12:=own12 CA (by simp) _ L9.eC;have ndk:=L9.nd;simp at ndk;rcases hv10 with ⟨rfl,rfl,hsm⟩|⟨D,bs,ws,rfl,rfl,hR,nD10,nDM,eD,lD,nb,Db⟩
   ·k_units
    have lvs:=L9.lv;have VaK:=frK Va nVa;have KAva:KA∉va:=λz=>frK KA (nva KA z) (by simp);refine⟨fZ (SqL.of eK12),_,eK12,by rw[ae];exact aX (by omega),(hM6 _ _).mpr ⟨_,_,us',kvs',M',Ti++[q],cs',pl',vs++[Va],ts,rfl,?_,by omega⟩⟩;have up:∀y o,y≠KA->H12 y=some o->L2.upd H12 KA (.lst (vs.map V.ref++[V.ref Va])) y=some o:=λy o hy e=>by rw[aj hy];exact e
    refine L9.took (m:=i+1) (S12.same (kf λy o hy e=>⟨hy,up y o (λz=>hy (by simp[z])) e⟩)) t11 (λv hv=>?_) l11 (vs++[Va]) (by rw[ag];simp) (up _ _ (Ne.symm ndk.1.1) eH12) (up _ _ (Ne.symm ndk.1.2) eC12) (by simp[lvs]) (λy o hy e=>up y o (λz=>hy (by simp[z])) (kx12 y o hy e)) mf9 (i5 _) (λl v r e1 e2=>?_)
    ·rcases aK.mp hv with z|z
     ·exact L9.sm v z
     ·rw[aP.mp z];exact⟨wq,hsm⟩
    ·by_cases z:l<vs.length
     ·rw[b_ z]at e1;rw[b_ (by omega)]at e2;exact .inl ⟨e1,e2⟩
     ·have hl:=(aV.mp e1).1;have el:l=vs.length:=by simp at hl;omega
      subst el;rw[di (am _),fT]at e1;rw[di (by omega),lvs,fT]at e2
      cases Option.some.inj e1
      cases Option.some.inj e2
      refine .inr ⟨va,up _ _ (λz=>VaK (by simp[z])) eVa12,lVa12.upd KAva,λz=>?_,λy hy z=>?_⟩
      ·rcases aK.mp z with z|z
       ·exact M'no _ _ eVa (SM8 Va nVa) z
       ·exact VaK z
      ·obtain⟨p,e⟩:=lVa.mem hy;rcases aK.mp z with z|z
       ·exact M'no _ _ e (SM8 y (nva y hy)) z
       ·exact frK y (nva y hy) z
   ·k_units
    rw[if_neg (λz=>nomatch z)];have L12:=L9.took (m:=i+1) S12 t11 L9.sm l11 vs eK12 eH12 eC12 L9.lv kx12 mf9 (i5 _) (λl v r e1 e2=>.inl ⟨e1,e2⟩);have nh10:∀y,H10 y=none->y∉hs:=λy hy z=>by
     obtain⟨p,e⟩:=lHd.mem z;rw[hy]at e;cases e
    have eD12:H12 D=some (.lst (bs.map V.ref)):=by rw[hk12 D (nh10 D nD10)];exact eD
    have lD12:LH H12 bs ws:=⟨lD.len,λl b f e1 e2=>by rw[hk12 b (nh10 b (nb b (bH e1)).2)];exact lD.get l b f e1 e2⟩
    have n8:∀y,H10 y=none->y∉[KA,HA,CA]:=λy hy=>frK y (s9.free (s10.free hy));have nS:∀y,H12 y=none->y∉M'++[KA,HA,CA]:=λy hy z=>by
     rcases aK.mp z with z|z
     ·obtain⟨_,o,e⟩:=S12.nO y z;rw[hy]at e;cases e
     ·simp only[aO,gQ,or_false]at z;rcases z with rfl|rfl|rfl
      ·rw[hy]at eK12;cases eK12
      ·rw[hy]at eH12;cases eH12
      ·rw[hy]at eC12;cases eC12
    have lws:ws.length=kept'.length+1:=hR.1;refine⟨D,KA,Va,bs,vs,va,ws,_,q,w,rfl,eD12,lD12,eK12,L12.vl,SqL.of eVa12,lVa12.ll,w3,k3,hR,λv hv=>?_,λH13 s13=>⟨true,rfl,?_⟩⟩
    ·rcases aK.mp hv with z|z
     ·refine⟨(hVq.1 v z).1,λf hf=>?_⟩;obtain⟨_,a2,a3⟩:=(hVq.1 v z).2 f hf;exact⟨by omega,a3⟩
     ·rw[aP.mp z];exact⟨wq,λf hf=>(hVq.2.2 f hf).2⟩
    rw[if_neg (by decide)];have eD13:=s13 _ _ eD12;have lD13:=lD12.same s13;refine⟨fZ (SqL.of (s13 _ _ eH12)),⟨_,SqL.of eD13⟩,λD1 nD1=>j6 (ps:=ws) (ds:=ws) nD1 (SqL.of eD13) lD13.ll rfl (by omega) (λl b p d Hx R' hp hd sx hb hR'=>?_) (λCp cps H14 s14 nCp eCp lCp ncps Cpc ndc=>⟨by decide,λt nt=>?_⟩)⟩
    ·have e:d=p:=by rw[hp]at hd;exact (Option.some.inj hd).symm
     subst e
     (iterate 3 (k_units;(try simp only[bst]));k_units)
     exact⟨_,.inl hb,λl hl=>hR' l _ (ar hl _) hl ag⟩
    have s24:=s13.trans s14;have eH14:=s24 _ _ eH12;have tHA:t≠HA:=λz=>by rw[z,eH14]at nt;cases nt
    have k16:∀y o,y≠HA->H14 y=some o->L2.upd (L2.upd H14 t (.tup [V.ref D,V.ref Cp])) HA (.lst (ts.map V.ref++[V.ref t])) y=some o:=λy o hy e=>by
     rw[aj hy,aj (λz=>by rw[z,nt]at e;cases e)];exact e
    have lv16:∀{as:List Addr},LH H14 as ws->HA∉as->LH (L2.upd (L2.upd H14 t (.tup [V.ref D,V.ref Cp])) HA (.lst (ts.map V.ref++[V.ref t]))) as ws:=λ{as} h hn=>(h.upd (h.notin nt)).upd hn;refine⟨_,by rw[aj tHA.symm];exact eH14,by rw[ae];exact aX (by omega),(hM6 _ _).mpr ⟨_,_,us',kvs',M',_,cs',pl',vs,ts++[t],rfl,(L12.same s24 (am _)).hold k16 (by rw[ag];simp) ⟨D,Cp,by rw[aj tHA,ag],nS t (s24.free nt),λz=>?_,nS Cp (s13.free nCp),.inr ⟨bs,cps,ws,k16 _ _ (λz=>n8 D nD10 (by simp[z])) (s14 _ _ eD13),k16 _ _ (λz=>nS Cp (s13.free nCp) (by simp[z])) eCp,lv16 (lD13.same s14) (λz=>n8 HA (nb HA z).2 (by simp)),lv16 lCp (λz=>nS HA (s13.free (ncps HA z)) (by simp)),λy hy z=>?_,λy hy=>nS y (s13.free (ncps y hy))⟩⟩ (am _) (by omega),by simp;omega⟩⟩
    ·rcases aK.mp z with z|z
     ·exact nDM z
     ·exact n8 D nD10 z
    ·rcases aK.mp z with z|z
     ·exact (nb y hy).1 z
     ·exact n8 y (nb y hy).2 z
  intro σ H13 hm6;clear hv10 S11 S12 L9 L10 L8 t11 l11 kx11 ms11 mf11 mf9 kx12 own12 M'no SM SM8 KM k3 hVq;clear kept' us' kvs' M' cs' pl';obtain⟨t10,t11,us,kvs,M,Ti,cs,pl,vs,ts,rfl,L13,lts⟩:=(hM6 _ _).mp hm6;clear hm6 hM6 M6;have S13:Spn T H13 x dx Kp Cl Tb us kvs M w Ti cs pl:=L13.sp.same λy o e=>(lJ e).2;have k3:Ti.length<=3:=aE L13.st.few w3;dsimp only[aB]
  k_typeOf
  refine⟨dx,_,S13.hx,rfl,x,dx,Kp,Cl,Tb,us,kvs,M,w,Ti,cs,pl,rfl,S13,λt D H14 s14 nt nD tD eD et=>?_⟩;have L14:=L13.same s14 (am _);obtain⟨g1,g2,g3,g4,g5,g6⟩:=L13.st;have plw:pl<=97+50*3:=by
   have:(50:Int)*(Ti.length:Int)<=50*3:=jC (by omega) (by omega);have e:((50:Nat):Int)=50:=rfl;rw[e]at g5;omega
  have bpl:Bd 9 pl:=Bd.of_lt (m:=512) (by omega) (by decide);have nS:∀y,H13 y=none->y∉M++[KA,HA,CA]:=λy hy z=>by
   rcases aK.mp z with z|z
   ·obtain⟨_,o,e⟩:=L13.sp.nO y z;rw[hy]at e;cases e
   ·simp only[aO,gQ,or_false]at z;rcases z with rfl|rfl|rfl
    ·have:=L13.eK;rw[hy]at this;cases this
    ·have:=L13.eH;rw[hy]at this;cases this
    ·have:=L13.eC;rw[hy]at this;cases this
  have nDS:=nS D nD;dsimp only[aB]
  k_typeOf
  refine⟨t,D,KA,vs,Ti,cs,pl,w,rfl,et,eD,SqL.of L14.eK,L14.vl,L14.sm,k3,w3,by omega,bpl,g1,g2,g3,g6,λH15 s15=>⟨true,rfl,?_⟩⟩;rw[if_neg (by decide)];have L15:=L14.same s15 (am _);have et15:=s15 _ _ et;have eD15:=s15 _ _ eD;have at1:atI [V.int pl,V.ref D] 1=some (V.ref D):=eI (j:=1) rfl;obtain⟨cn,hcn⟩:∃cn:List Int,cn=cs.map λc:Nat=>(c:Int):=⟨_,rfl⟩
  rw[←hcn]at eD15;have lcn:cn.length<=3:=by rw[hcn,ae];omega
  k_units
  refine⟨by decide,?_⟩;refine bJ (λz=>?_) (λz=>?_)
  ·have eH15:=L15.eH;refine⟨fZ (SqL.of eH15),_,SqT.of et15,_,at1,_,SqT.of et15,_,at1,D,rfl,_,.inl (SqL.of eD15),λl nl=>⟨by decide,λp np=>?_⟩⟩;have ul:=ar nl (.lst (cn.map V.int));have el:=ag (H:=H15) (a:=l) (o:=.lst (cn.map V.int));have np15:=ul.free np;generalize L2.upd H15 l (.lst (cn.map V.int))=H16 at ul el np ⊢;have s36:=s14.trans (s15.trans ul);have eH16:=ul _ _ eH15;have pHA:p≠HA:=λz=>by rw[z,eH16]at np;cases np
   have lHA:l≠HA:=λz=>by rw[z,eH15]at nl;cases nl
   have DHA:D≠HA:=λz=>nDS (by simp[z]);have k18:∀y o,y≠HA->H16 y=some o->L2.upd (L2.upd H16 p (.tup [V.ref D,V.ref l])) HA (.lst (ts.map V.ref++[V.ref p])) y=some o:=λy o hy e=>by
    rw[aj hy,aj (λz=>by rw[z,np]at e;cases e)];exact e
   refine⟨_,by rw[aj pHA.symm];exact eH16,by rw[ae];exact aX (by omega),(hPv _ _ _).mpr ⟨us,kvs,M,Ti,cs,pl,vs,ts++[p],_,_,_,_,_,_,_,rfl,(L15.same ul (am _)).hold k18 (by rw[ag];simp) ⟨D,l,by rw[aj pHA,ag],nS p (s36.free np),nDS,nS l (s14.free (s15.free nl)),.inl ⟨cn,k18 _ _ DHA (ul _ _ eD15),k18 _ _ lHA el⟩⟩ (am _) (by omega)⟩⟩
  ·refine⟨_,SqT.of et15,_,at1,fZ (SqL.of eD15),D,rfl,_,eD15,by rw[ae];exact aX (by omega),(hPv _ _ _).mpr ⟨us,kvs,M,Ti,cs,pl,vs,ts,_,_,_,_,_,_,_,rfl,L13.same (λy o e=>?_) (am _)⟩⟩;rw[aj (λz=>by rw[z,nD]at e;cases e)];exact s15 _ _ (s14 _ _ e)
 ·intro σ H7 hp7;obtain⟨us,kvs,M,Ti,cs,pl,vs,ts,r6,r7,r8,r9,r10,r11,r12,rfl,L⟩:=(hPv _ _ _).mp hp7;clear hp7 hPv Pv L0;dsimp only[aB]
  k_typeOf
  obtain⟨Pw,hPw⟩:∃Pw:Nat->L2.St->Hp->Prop,∀j σ Hx,Pw j σ Hx↔(∃r12 r13:Option V,σ=[some (V.ref a),some (V.int (w:Int)),some (V.ref x),some (V.ref KA),some (V.ref HA),some (V.ref CA),r6,r7,r8,r9,r10,r11,r12,r13])∧Hx=H7:=⟨_,λ_ _ _=>Iff.rfl⟩
  refine⟨⟨_,SqL.of L.eH⟩,iT (xs:=ts.map V.ref) Pw ((hPw _ _ _).mpr ⟨⟨_,_,rfl⟩,rfl⟩) (λj σ Hx _ z=>by obtain⟨_,rfl⟩:=(hPw j σ Hx).mp z;exact SqL.of L.eH) ?_ ?_⟩
  ·intro j v σ Hx hvv hpj;obtain⟨⟨r12',r13,rfl⟩,rfl⟩:=(hPw _ _ _).mp hpj;rw[az]at hvv;obtain⟨t,ht,rfl⟩:=b6.mp hvv;obtain⟨y,z,h1,_,_,_,h5⟩:=L.ht t (bH ht)
   k_units
   refine⟨_,SqT.of h1,rfl,?_⟩
   k_units
   rcases h5 with ⟨cn,x1,x2⟩|⟨as,bs,ws,x1,x2,x3,x4,_,_⟩
   ·refine⟨_,.lst (SqL.of x1) (DVs.ints _),_,.lst (SqL.of x2) (DVs.ints _),xy _,xy _,FC _,?_⟩;rw[FB,if_neg (by simp)];exact (hPw _ _ _).mpr ⟨⟨_,_,rfl⟩,rfl⟩
   ·refine⟨_,qE (SqL.of x1) x3.ll,_,qE (SqL.of x2) x4.ll,qF _,qF _,D8 _,?_⟩;rw[D7,if_neg (by decide)];exact (hPw _ _ _).mpr ⟨⟨_,_,rfl⟩,rfl⟩
  intro σ Hx hpj;obtain⟨⟨r12',r13,rfl⟩,rfl⟩:=(hPw _ _ _).mp hpj;clear hpj hPw Pw;have k3:Ti.length<=3:=aE L.st.few w3;have lk:=L.lk
  k_units
  refine⟨[],by simp,by simp,λHf _ f2=>?_⟩;have eHf:Hf=Hx:=funext λb=>f2 b (by simp);subst eHf;have Sx:Spn T Hf x dx Kp Cl Tb us kvs M w Ti cs pl:=L.sp.same λy o e=>(lJ e).2;refine⟨dx,_,Sx.hx,rfl,aI _,λp np=>⟨by decide,λp1 n1=>⟨_,ag,by omega,by omega,?_,λZ0 nZ=>?_⟩⟩⟩
  ·rw[eE];exact bW (aX (by simp;omega))
  rw[eE,FF];have u1:=ar np (.lst []);have u2:=ar n1 (.lst [V.ref p]);have u3:=ar nZ (.lst ((aC w p).map V.ref));have sz:=u1.trans (u2.trans u3);have ep:=(u2.trans u3) _ _ (ag (H:=Hf) (a:=p) (o:=.lst []));have eZ:=ag (H:=L2.upd (L2.upd Hf p (.lst [])) p1 (.lst [V.ref p])) (a:=Z0) (o:=.lst ((aC w p).map V.ref));generalize L2.upd (L2.upd (L2.upd Hf p (.lst [])) p1 (.lst [V.ref p])) Z0 (.lst ((aC w p).map V.ref))=Hz at sz ep eZ ⊢;have lrep:∀{G:Hp}{y:Addr},G y=some (.lst [])->LL K G (aC w y) (aC w []):=λ{G y} e=>⟨by simp,λj b f e1 e2=>by
   rw[iJ]at e1 e2
   split at e1
   ·rename_i hj;rw[if_pos hj]at e2
    cases e1;cases e2
    exact SqL.of e
   ·cases e1⟩
  have hVq:VqG w 3 1 54 Ti (aC w []):=by
   refine⟨λv hv=>⟨(L.sm v hv).1,λf hf=>?_⟩,by simp,λf hf=>?_⟩
   ·obtain⟨a1,a2,a3⟩:=(L.sm v hv).2 f hf;exact⟨a1,a2,λc hc=>(a3 c hc).mono (by decide)⟩
   ·rw[Ou hf];exact⟨b8,by simp,λc hc=>by simp at hc⟩
  refine⟨x,dx,Kp,Cl,Tb,Z0,us,kvs,M,Ti,cs,pl,aC w p,aC w [],rfl,Sx.same sz,SqL.of eZ,lrep ep,L.st,hVq,by omega,by omega,λH' us' kvs' M' c pl' S' st' kx ms mf l _=>?_,λH' kvs' M' D bs ws S' hR kx ms mf l nDM nD eD lD nb Db=>⟨by simp,λH'' _ g2=>?_⟩⟩
  ·refine (FG (U:=λ_ _=>0) st' (λv hv=>?_) λc hc n=>?_).elim
   ·rcases aK.mp hv with z|z
    ·exact (L.sm v z).1
    ·rw[aP.mp z];simp
   ·rw[fQ λt _=>by simp,av,iJ,if_pos hc];rfl
  have eH'':H''=H':=funext λb=>g2 b (by simp);subst eH'';refine⟨aI _,λp' np'=>⟨by decide,λp1' n1'=>⟨_,ag,by omega,by omega,?_,λZ' nZ'=>?_⟩⟩⟩
  ·exact bW (aX (by simp;omega))
  rw[FF];have v1:=ar np' (.lst []);have v2:=ar n1' (.lst [V.ref p']);have v3:=ar nZ' (.lst ((aC w p').map V.ref));have sv:=v1.trans (v2.trans v3);have ep':=(v2.trans v3) _ _ (ag (H:=H'') (a:=p') (o:=.lst []));have eZ':=ag (H:=L2.upd (L2.upd H'' p' (.lst [])) p1' (.lst [V.ref p'])) (a:=Z') (o:=.lst ((aC w p').map V.ref));generalize L2.upd (L2.upd (L2.upd H'' p' (.lst [])) p1' (.lst [V.ref p'])) Z' (.lst ((aC w p').map V.ref))=Hv at sv ep' eZ' ⊢;have KM:KA∉M:=λhz=>(L.sp.nO KA hz).1 (by simp);refine⟨D,KA,Z',bs,vs,aC w p',ws,Ti,aC w [],w,rfl,sv _ _ eD,lD.same sv,sv _ _ (kx _ _ KM (sz _ _ L.eK)),⟨L.lv,λj v r e1 e2=>?_⟩,SqL.of eZ',lrep ep',w3,k3,hR,λv hv=>?_,λH3 _=>fin H3⟩
  ·obtain⟨as,a1,a2,a3,a4⟩:=L.kv j v r e1 e2;have nM:∀{y:Addr},y∉M++[KA,HA,CA]->y∉M:=λh z=>h (gl _ z);exact⟨as,SqL.of (sv _ _ (kx _ _ (nM a3) (sz _ _ a1))),(((a2.same sz).kx kx λy hy=>nM (a4 y hy)).same sv).ll⟩
  ·rcases aK.mp hv with z|z
   ·refine⟨(hVq.1 v z).1,λf hf=>?_⟩;obtain⟨_,a2,a3⟩:=(hVq.1 v z).2 f hf;exact⟨by omega,a3⟩
   ·rw[aP.mp z];exact⟨by simp,λf hf=>(hVq.2.2 f hf).2⟩
theorem NV {us:List Value}(h:us.length=1):∃x0,us=[x0]:=by
 match us,h with
 | [x0],_=>exact⟨x0,rfl⟩
theorem NW {us:List Value}(h:us.length=2):∃x0 x1,us=[x0,x1]:=by
 match us,h with
 | [x0,x1],_=>exact⟨x0,x1,rfl⟩
theorem NX {us:List Value}(h:us.length=3):∃x0 x1 x2,us=[x0,x1,x2]:=by
 match us,h with
 | [x0,x1,x2],_=>exact⟨x0,x1,x2,rfl⟩
theorem NY {us:List Value}(h:us.length=4):∃x0 x1 x2 x3,us=[x0,x1,x2,x3]:=by
 match us,h with
 | [x0,x1,x2,x3],_=>exact⟨x0,x1,x2,x3,rfl⟩
local macro_rules | `(tactic| o_law)=>`(tactic| (intro _ _ _ _ _ _ us hl;first|(obtain⟨x0,e⟩:=NV hl;subst e;rfl)|(obtain⟨x0,x1,e⟩:=NW hl;subst e;rfl)|(obtain⟨x0,x1,x2,e⟩:=NX hl;subst e;rfl)|(obtain⟨x0,x1,x2,x3,e⟩:=NY hl;subst e;rfl)))
abbrev fdK (x q:Str) (st:Stmt) (pm:Value) (c:Nat):FuncData:=PySem.W.fnOf x q (kJ st) (jk st) (aR st) .none .none .none pm none (.ref c) .none
abbrev FU (P:Params) (x q:Str) (st:Stmt) (f:Addr) (pm:Value) (c:Nat):Prop:=Fun (KK P) x q st f (fdK x q st pm c)
theorem fuk {P:Params}{x q:Str}{st:Stmt}{f:Addr}{pm:Value}{c:Nat}(l:(KK P).lookup f=some ⟨.type "function",none,.func (fdK x q st pm c),#[]⟩) (h:PySem.W.codeIn (KK P) (.ref c) q=true) (k:PySem.W.keepIn (KK P) (.ref f)=true):FU P x q st f pm c:=JA l h k
abbrev pm0:Value:=.str "sumcraft.polys" 223
abbrev pm1:Value:=.str "sumcraft.ratios" 283
abbrev pm2:Value:=.str "sumcraft.reaches" 318
abbrev pm3:Value:=.str "sumcraft.spans" 382
abbrev pm4:Value:=.str "law_sumcraft_k22_whole_span" 529
theorem kf0 (P:Params):FU P "trimmed" "trimmed" rJ 46 pm0 45:=fuk (by kernel_rfl) (by kernel_rfl) (by kernel_rfl)
theorem kf1 (P:Params):FU P "poly_plus" "poly_plus" rK 53 pm0 52:=fuk (by kernel_rfl) (by kernel_rfl) (by kernel_rfl)
theorem kf2 (P:Params):FU P "poly_times" "poly_times" rL 60 pm0 59:=fuk (by kernel_rfl) (by kernel_rfl) (by kernel_rfl)
theorem kf3 (P:Params):FU P "poly_value" "poly_value" rM 67 pm0 66:=fuk (by kernel_rfl) (by kernel_rfl) (by kernel_rfl)
theorem kf4 (P:Params):FU P "quotient" "quotient" rN 74 pm0 73:=fuk (by kernel_rfl) (by kernel_rfl) (by kernel_rfl)
theorem kf5 (P:Params):FU P "shortened" "shortened" rO 81 pm1 80:=fuk (by kernel_rfl) (by kernel_rfl) (by kernel_rfl)
theorem kf6 (P:Params):FU P "divisor" "divisor" rP 88 pm1 87:=fuk (by kernel_rfl) (by kernel_rfl) (by kernel_rfl)
theorem kf7 (P:Params):FU P "content" "content" rQ 95 pm2 94:=fuk (by kernel_rfl) (by kernel_rfl) (by kernel_rfl)
theorem kf8 (P:Params):FU P "over" "over" rR 100 pm2 99:=fuk (by kernel_rfl) (by kernel_rfl) (by kernel_rfl)
theorem kf9 (P:Params):FU P "upright" "upright" rS 105 pm2 104:=fuk (by kernel_rfl) (by kernel_rfl) (by kernel_rfl)
theorem FI (P:Params):FU P "spread" "spread" rT 112 pm2 111:=fuk (by kernel_rfl) (by kernel_rfl) (by kernel_rfl)
theorem FJ (P:Params):FU P "greatest_size" "greatest_size" rV 117 pm2 116:=fuk (by kernel_rfl) (by kernel_rfl) (by kernel_rfl)
theorem FK (P:Params):FU P "bare_common" "bare_common" rW 124 pm2 123:=fuk (by kernel_rfl) (by kernel_rfl) (by kernel_rfl)
theorem FL (P:Params):FU P "common" "common" rX 129 pm2 128:=fuk (by kernel_rfl) (by kernel_rfl) (by kernel_rfl)
theorem FM (P:Params):FU P "common_of" "common_of" rY 136 pm2 135:=fuk (by kernel_rfl) (by kernel_rfl) (by kernel_rfl)
theorem FN (P:Params):FU P "lowered" "lowered" rZ 141 pm3 140:=fuk (by kernel_rfl) (by kernel_rfl) (by kernel_rfl)
theorem FO (P:Params):FU P "through" "through" r_ 148 pm3 147:=fuk (by kernel_rfl) (by kernel_rfl) (by kernel_rfl)
theorem FP (P:Params):FU P "greatest_degree" "greatest_degree" sd 153 pm3 152:=fuk (by kernel_rfl) (by kernel_rfl) (by kernel_rfl)
theorem FQ (P:Params):FU P "degree_bound" "degree_bound" se 158 pm3 157:=fuk (by kernel_rfl) (by kernel_rfl) (by kernel_rfl)
theorem FR (P:Params):FU P "cleared" "cleared" sf 163 pm3 162:=fuk (by kernel_rfl) (by kernel_rfl) (by kernel_rfl)
theorem FS (P:Params):FU P "_law_poly" "_law_poly" si 246 pm4 245:=fuk (by kernel_rfl) (by kernel_rfl) (by kernel_rfl)
theorem FT (P:Params):FU P "_law_cut" "_law_cut" sj 253 pm4 252:=fuk (by kernel_rfl) (by kernel_rfl) (by kernel_rfl)
theorem FV (P:Params):FU P "_law_whole" "_law_whole" sk 260 pm4 259:=fuk (by kernel_rfl) (by kernel_rfl) (by kernel_rfl)
theorem FW (P:Params):FU P "_law_product" "_law_product" sr 267 pm4 266:=fuk (by kernel_rfl) (by kernel_rfl) (by kernel_rfl)
theorem FX (P:Params):FU P "_law_sum" "_law_sum" su 274 pm4 273:=fuk (by kernel_rfl) (by kernel_rfl) (by kernel_rfl)
theorem FY (P:Params):FU P "_law_divisor" "_law_divisor" sw 281 pm4 280:=fuk (by kernel_rfl) (by kernel_rfl) (by kernel_rfl)
theorem FZ (P:Params):FU P "_law_vector" "_law_vector" sB 286 pm4 285:=fuk (by kernel_rfl) (by kernel_rfl) (by kernel_rfl)
theorem F1 (P:Params):FU P "_law_value" "_law_value" sC 293 pm4 292:=fuk (by kernel_rfl) (by kernel_rfl) (by kernel_rfl)
theorem F4 (P:Params):FU P "_law_determinant" "_law_determinant" sD 298 pm4 297:=fuk (by kernel_rfl) (by kernel_rfl) (by kernel_rfl)
theorem F5 (P:Params):FU P "_law_relation" "_law_relation" sE 305 pm4 304:=fuk (by kernel_rfl) (by kernel_rfl) (by kernel_rfl)
theorem F6 (P:Params):FU P "_law_apart" "_law_apart" sF 310 pm4 309:=fuk (by kernel_rfl) (by kernel_rfl) (by kernel_rfl)
theorem F7 (P:Params):FU P "law" "law" sI 315 pm4 314:=fuk (by kernel_rfl) (by kernel_rfl) (by kernel_rfl)
theorem F8 (P:Params):FU P "__init__" "Span.__init__" sJ 177 pm3 176:=fuk (by kernel_rfl) (by kernel_rfl) (by kernel_rfl)
theorem F9 (P:Params):FU P "row_at" "Span.row_at" sK 182 pm3 181:=fuk (by kernel_rfl) (by kernel_rfl) (by kernel_rfl)
theorem F_ (P:Params):FU P "table_at" "Span.table_at" sL 189 pm3 188:=fuk (by kernel_rfl) (by kernel_rfl) (by kernel_rfl)
theorem Ga (P:Params):FU P "lowered_at" "Span.lowered_at" sM 196 pm3 195:=fuk (by kernel_rfl) (by kernel_rfl) (by kernel_rfl)
theorem Gb (P:Params):FU P "only_choice" "Span.only_choice" sO 201 pm3 200:=fuk (by kernel_rfl) (by kernel_rfl) (by kernel_rfl)
theorem Gd (P:Params):FU P "failing_column" "Span.failing_column" sR 208 pm3 207:=fuk (by kernel_rfl) (by kernel_rfl) (by kernel_rfl)
theorem Ge (P:Params):FU P "keep" "Span.keep" sS 215 pm3 214:=fuk (by kernel_rfl) (by kernel_rfl) (by kernel_rfl)
theorem Gf (P:Params):FU P "by_few" "Span.by_few" sT 220 pm3 219:=fuk (by kernel_rfl) (by kernel_rfl) (by kernel_rfl)
theorem Gg (P:Params):FU P "take" "Span.take" sU 225 pm3 224:=fuk (by kernel_rfl) (by kernel_rfl) (by kernel_rfl)
theorem Gh (P:Params):FU P "apart" "Span.apart" sV 232 pm3 231:=fuk (by kernel_rfl) (by kernel_rfl) (by kernel_rfl)
theorem NZ {l:PySem.W.OpenLaw}{q:Program}{loose:List Str}{XP:(Str->Option Value)->Heap->Prop}{YP:World->Heap->Prop}{d:DefRec}{K:Params->W.Frag}(hn:l.most=some 63) (hdf:d.params.defaults=[])
  (hY:∀(w:World) (h:Heap),YP w h->(K w.params).In h)
  (F:∀(w:World) (mg:Str->Option Value) (fa:Addr) (h:Heap),(K w.params).In h->h.Ns mainGlobals mg->mg d.name=some (.ref fa)->
   ∃T:Tx (K w.params) mg,T.OO=fa∧∀(s:Shared) (v:Value),BindsTo s T.OL ⟨[v],[]⟩ [("_law_script",v)]):
  PySem.W.WalkO q loose XP YP l.row.toRowW d [] (λf vs=>PySem.call f vs):=
 L2.Jz (n:=63) (k:=30) (x := "_law_script") (CX:=λ_=>CX0) (sp:=λw=>FH (K w.params)) hn (by decide) hdf ⟨rfl,by decide,by decide⟩ hY
  (λw mg fa h KX G hmg=>by
   obtain⟨T,e,hb⟩:=F w mg fa h KX G hmg;subst e;exact⟨T.OL,hb,λbase _ _=>FnOk.mono (NU T) (by decide)⟩)
  (λ_ H a ns hl _ hS=>⟨a,ns,rfl,hS,hl,λ_=>rfl⟩) λ_ _ _ _ _ z=>z
theorem facts (w:World) (mg:Str->Option Value) (fa:Addr) (h:Heap) (KX:(KK w.params).In h) (G:h.Ns mainGlobals mg) (hmg:mg "law" = some (.ref fa)):
  ∃T:Tx (KK w.params) mg,T.OO=fa∧∀(s:Shared) (v:Value),BindsTo s T.OL ⟨[v],[]⟩ [("_law_script",v)]:=by
 have ma:∀{x:Str}{f:Addr},PySem.W.nsIn (KK w.params) mainGlobals x=some (some (.ref f))->mg x=some (.ref f):=λe=>PySem.W.mg_of KX G e;have mi:∀{x:Str}{i:Int}{t:Tok},PySem.W.nsIn (KK w.params) mainGlobals x=some (some (.int i t))->mg x=some (.int i t):=λe=>PySem.W.mg_of KX G e;have mz:∀{x:Str},PySem.W.nsIn (KK w.params) mainGlobals x=some none->mg x=none:=λe=>PySem.W.mg_none_of KX G e;have e:=hmg.symm.trans (ma (f:=315) (by kernel_rfl))
 cases e
 exact⟨⟨_,_,kf0 _,ma (by kernel_rfl),(kf0 _).binds (by o_law),_,_,kf1 _,ma (by kernel_rfl),(kf1 _).binds (by o_law),_,_,kf2 _,ma (by kernel_rfl),(kf2 _).binds (by o_law),_,_,kf3 _,ma (by kernel_rfl),(kf3 _).binds (by o_law),_,_,kf4 _,ma (by kernel_rfl),(kf4 _).binds (by o_law),_,_,kf5 _,ma (by kernel_rfl),(kf5 _).binds (by o_law),_,_,kf6 _,ma (by kernel_rfl),(kf6 _).binds (by o_law),_,_,kf7 _,ma (by kernel_rfl),(kf7 _).binds (by o_law),_,_,kf8 _,ma (by kernel_rfl),(kf8 _).binds (by o_law),_,_,kf9 _,ma (by kernel_rfl),(kf9 _).binds (by o_law),_,_,FI _,ma (by kernel_rfl),(FI _).binds (by o_law),_,_,FJ _,ma (by kernel_rfl),(FJ _).binds (by o_law),_,_,FK _,ma (by kernel_rfl),(FK _).binds (by o_law),_,_,FL _,ma (by kernel_rfl),(FL _).binds (by o_law),_,_,FM _,ma (by kernel_rfl),(FM _).binds (by o_law),_,_,FN _,ma (by kernel_rfl),(FN _).binds (by o_law),_,_,FO _,ma (by kernel_rfl),(FO _).binds (by o_law),_,_,FP _,ma (by kernel_rfl),(FP _).binds (by o_law),_,_,FQ _,ma (by kernel_rfl),(FQ _).binds (by o_law),_,_,FR _,ma (by kernel_rfl),(FR _).binds (by o_law),_,_,FS _,ma (by kernel_rfl),(FS _).binds (by o_law),_,_,FT _,ma (by kernel_rfl),(FT _).binds (by o_law),_,_,FV _,ma (by kernel_rfl),(FV _).binds (by o_law),_,_,FW _,ma (by kernel_rfl),(FW _).binds (by o_law),_,_,FX _,ma (by kernel_rfl),(FX _).binds (by o_law),_,_,FY _,ma (by kernel_rfl),(FY _).binds (by o_law),_,_,FZ _,ma (by kernel_rfl),(FZ _).binds (by o_law),_,_,F1 _,ma (by kernel_rfl),(F1 _).binds (by o_law),_,_,F4 _,ma (by kernel_rfl),(F4 _).binds (by o_law),_,_,F5 _,ma (by kernel_rfl),(F5 _).binds (by o_law),_,_,F6 _,ma (by kernel_rfl),(F6 _).binds (by o_law),_,_,F7 _,ma (by kernel_rfl),(F7 _).binds (by o_law),_,_,F8 _,(F8 _).binds (by o_law),_,_,F9 _,(F9 _).binds (by o_law),_,_,F_ _,(F_ _).binds (by o_law),_,_,Ga _,(Ga _).binds (by o_law),_,_,Gb _,(Gb _).binds (by o_law),_,_,Gd _,(Gd _).binds (by o_law),_,_,Ge _,(Ge _).binds (by o_law),_,_,Gf _,(Gf _).binds (by o_law),_,_,Gg _,(Gg _).binds (by o_law),_,_,Gh _,(Gh _).binds (by o_law),37,ma (by kernel_rfl),by kernel_rfl,235,ma (by kernel_rfl),⟨by kernel_rfl,by kernel_rfl,by kernel_rfl,by kernel_rfl⟩,⟨by kernel_rfl,by kernel_rfl,by kernel_rfl,by kernel_rfl⟩,⟨by kernel_rfl,by kernel_rfl,by kernel_rfl⟩,⟨by kernel_rfl,by kernel_rfl,by kernel_rfl⟩,⟨by kernel_rfl,by kernel_rfl,by kernel_rfl⟩,⟨by kernel_rfl,by kernel_rfl,by kernel_rfl⟩,⟨by kernel_rfl,by kernel_rfl,by kernel_rfl⟩,⟨by kernel_rfl,by kernel_rfl,by kernel_rfl⟩,⟨by kernel_rfl,by kernel_rfl,by kernel_rfl⟩,⟨by kernel_rfl,by kernel_rfl,by kernel_rfl⟩,⟨by kernel_rfl,by kernel_rfl,by kernel_rfl⟩,by show PySem.W.findIn _ _ _=_;kernel_rfl,by show PySem.W.findIn _ _ _=_;kernel_rfl,by show PySem.W.findIn _ _ _=_;kernel_rfl,by show PySem.W.findIn _ _ _=_;kernel_rfl,by show PySem.W.findIn _ _ _=_;kernel_rfl,mz (by kernel_rfl),mz (by kernel_rfl),mz (by kernel_rfl),mz (by kernel_rfl),mz (by kernel_rfl),mz (by kernel_rfl),mz (by kernel_rfl),mz (by kernel_rfl),mz (by kernel_rfl),mz (by kernel_rfl),mz (by kernel_rfl),mz (by kernel_rfl),mz (by kernel_rfl),mz (by kernel_rfl),mz (by kernel_rfl),⟨287,mi (by kernel_rfl)⟩,⟨285,mi (by kernel_rfl)⟩,⟨384,mi (by kernel_rfl)⟩⟩,rfl,λs v=>.of_eq rfl⟩
end My
open PySem PySem.W PyProof.Rows
set_option maxRecDepth 100000 in
set_option maxHeartbeats 0 in
theorem PySem.Challenge.cw_sumcraft_k22_whole_span_holds : PySem.Challenge.rw_sumcraft_k22_whole_span.Holds := by
 refine holds_law My.HY λsaid=>?_;refine holds_open (r:=PySem.Challenge.rw_sumcraft_k22_whole_span.row)
  (q:=My.qv) (loose:=[]) (Xt:=My.xt)
  (XP:=XL My.qv []) (Yf:=My.hk.obs) (Ya:=My.hk.val)
  (YP:=My.hk.says) (N:=4044)
  My.HX My.hk.of My.hk.keeps
  (λs e=>xl_of s (Bool.and_eq_true_iff.mp e).1)
  XL.keeps (by rfl) (by rfl) (by rfl)
  (λs e=>recFacts_of (Bool.and_eq_true_iff.mp e).2)
  (by rfl) said (by decide +kernel)
  My.HZ ?wit ?go
 case wit=>w_witness2
 case go=>exact My.NZ (l:=PySem.Challenge.rw_sumcraft_k22_whole_span) rfl rfl (λw h Y=>kIn_of Y) My.facts
