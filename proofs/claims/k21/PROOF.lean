import PyProof.Rows.All
import Wide.All
import OpenK.AllK
import Wide.FinOn
import Lean
import PyProof.EqAt
import PyProof.EqKinds
import PyProof.TupleCall
import PySem.Challenge.RW_sumcraft_k21_a_relation_made
set_option Elab.async false
set_option linter.all false
set_option maxRecDepth 100000
set_option maxHeartbeats 4000000
set_option compiler.extract_closed false
set_option bootstrap.genMatcherCode false
local macro_rules | `(tactic| omega) => `(tactic| first|lia|omega +splitDisjunctions)
noncomputable section
open List renaming length_map→ac,getElem?_eq_getElem→aj,getD_eq_getElem?_getD→av,getElem?_map→aA,range→aD,replicate→aL,mem_singleton→aQ,getElem?_eq_some_iff→aU,map_append→aV,mem_map→aW,mem_cons→a_,mem_append→bj,getElem_mem→bH,mem_of_getElem?→bJ,eq_nil_of_length_eq_zero→bK,length_append→bM,getElem_map→bO,length_take→b6,getElem?_append_left→b_,length_cons→ck,length_pos_iff→cK,mem_cons_of_mem→cT,mem_append_right→cX,size_toArray→cY,take_succ→de,mem_iff_getElem→dq,mem_cons_self→dw,map_cons→dy,getElem?_append_right→dz,mem_range→dS,take_of_length_le→eZ,length_range→fI,take_length→fT,replicate_succ→gy,getElem?_eq_none→gz,ext_getElem→gJ,length→ij,length_set→ik,nil_append→il,getElem_range→ir,mem_of_mem_take→iR,getElem?_set_ne→i4,getElem?_replicate→i5,getLast?_eq_getElem?→i6,getLast?_eq_some_getLast→i7,zipWith→i8,map_map→ja,map_congr_left→jc,pairwise_iff_getElem→jd,sum_cons→je,map_eq_nil_iff→jD,cons_append→jG,getElem?_range→jI,eq_of_mem_replicate→jL,getElem?_set_self→kr,lookup→ku,length_reverse→kG,mem_append_left→l_,nodup_cons→md,length_replicate→me,flatten_cons→mh,map_take→mn,not_mem_nil→mr,drop_zero→mF,length_zipWith→mG,range_succ→mH,mem_filter→rB,append_nil→rD,any_cons→rE,length_singleton→rF,map_nil→rH,length_nil→rK,map→rO,getLast?_eq_some_iff→rP,nodup_nil→rQ,nodup_append→rR,length_drop→xw,length_dropLast→xx,lookup_cons→xy,map_drop→xz,map_set→xB,find?_cons→xC,eq_nil_or_concat→xD,concat_eq_append→xE,mem_reverse→xM,getLast?_eq_none_iff→xN,mem_or_eq_of_mem_set→xU,length_eq_one_iff→xV,filterMap_cons→FR,mem_filterMap→FT,of_mem_zip→FW,getElem?_take_of_lt→FX,append_assoc→FY,getElem?_cons_zero→FZ,getLast?_concat→F3,drop_eq_getElem_cons→F9,take_append_of_le_length→Gb,getLast_eq_getElem→Gi,getLast?_map→Gk,filter_append→Gm,getElem_cons_zero→Go,getElem_cons_succ→Gp,ext_getElem?→Gq,map_dropLast→Gr,reverse_append→Nf,take_succ_cons→Ni,drop_eq_nil_of_le→Nj,take_append_drop→Nk,getElem?_cons_succ→Nl,replicate_zero→Nm,getElem?_zipWith→No,drop_of_length_le→Nw,mem_iff_getElem?→Ny
open Nat renaming le_refl→am,zero_le→aI,le_trans→aP,gcd→bW,lt_of_lt_of_le→bZ,le_of_lt→b5,ne_of_lt→cJ,lt_of_le_of_lt→cZ,pow_add→dm,two_pow_pos→dX,mul_le_mul→eC,mul_le_mul_left→fh,pow_le_pow_right→fE,one_mul→fG,mul_le_mul_right→fS,le_mul_of_pos_left→gB,mul_comm→gI,add_mul→gM,lt_irrefl→ii,mul_pos→iO,pos_of_ne_zero→iQ,mul_assoc→jb,pow_succ→jC,sub_self→jJ,mod_lt→jK,lt_succ_self→ky,le_mul_of_pos_right→kz,lt_of_not_le→kC,pow_lt_pow_right→kF,lt_succ_of_lt→mj,le_of_dvd→mw,gcd_dvd_left→mB,gcd_dvd_right→mC,le_of_eq→rC,add_comm→rG,le_of_not_lt→rJ,min_eq_left→rS,dvd_gcd→rT,mul_one→rW,pow_le_pow_left→rX,zero_add→rZ,strongRecOn→xG,eq_zero_of_zero_dvd→xH,div_add_mod'→xO,gcd_comm→xP,eq_one_of_mul_eq_one_right→xT,pow_mul→xW,ne_of_gt→FS,le_succ→FV,le_succ_of_le→F1,sub_zero→F8,mul_lt_mul_of_pos_left→Gd,mul_succ→Ge,eq_zero_or_pos→Gf,lt_or_ge→Gg,dvd_antisymm→Gh,add_le_add_right→Gn,mul_lt_mul_of_pos_right→Ng,div_lt_iff_lt_mul→Np,div_le_div_right→Nq,eq_of_mul_eq_mul_left→Nu,gcd_pos_of_pos_left→Nv,eq_one_of_mul_eq_one_left→Nx
open Int renaming natAbs_mul→bV,mul_zero→c_,mul_assoc→di,natAbs_natCast→dB,toNat_natCast→dU,mul_comm→dY,dvd_trans→fj,one_mul→fH,zero_add→f_,mul_le_mul_of_nonneg_left→gL,natCast_dvd_natCast→im,natCast_mul→iq,mul_eq_zero→iN,natAbs_pos→iP,dvd_mul_right→i9,mul_left_comm→i_,mul_add→jE,dvd_zero→jF,pow_succ→jH,dvd_mul_left→kD,natAbs_add_le→mo,natAbs_dvd_natAbs→mv,mul_fdiv_cancel_left→my,eq_of_mul_eq_mul_left→mE,ofNat_dvd_left→mI,mul_neg→rL,zero_mul→rM,natAbs_dvd→rN,lt_or_gt_of_ne→rV,mul_ne_zero→rY,mul_one→xu,fdiv_eq_ediv_of_nonneg→xv,mul_sub→xF,dvd_add→xI,zero_dvd→xJ,le_of_lt→xK,mul_le_mul_of_nonneg_right→xL,dvd_natAbs→xQ,natCast_pow→xS,add_zero→F4,mul_ediv_cancel'→F5,mul_dvd_mul_left→F6,add_mul→F7,dvd_refl→F_,natAbs_pow→Ga,mul_pos→Gj,dvd_of_mul_dvd_mul_left→Nh,fmod_nonneg_of_pos→Nr,pos_of_mul_pos_right→Nt
open Option renaming map_eq_some_iff→cO,getD_some→dr,isSome_iff_exists→Nd
namespace My
open PySem PySem.Spec PyProof.Rows PySem.W
noncomputable def top (i:Nat):Stmt:=PySem.Challenge.pw_sumcraft_k21_a_relation_made.main.body.getD i (.Pass ⟨0,0,0,0⟩)
def cn (s:Stmt)(j:Nat):Stmt:=match s with
 | .ClassDef _ _ _ b _ _ _ _ _ _ _=>b.getD j (.Pass ⟨0,0,0,0⟩)
 | _=>.Pass ⟨0,0,0,0⟩
abbrev r_:Stmt:=top 4
abbrev sd:Stmt:=top 5
abbrev sf:Stmt:=top 6
abbrev si:Stmt:=top 7
abbrev sj:Stmt:=top 8
abbrev sk:Stmt:=top 12
abbrev so:Stmt:=top 13
abbrev sr:Stmt:=top 15
abbrev su:Stmt:=top 16
abbrev sw:Stmt:=top 17
abbrev sB:Stmt:=top 18
abbrev sC:Stmt:=top 19
abbrev sD:Stmt:=top 20
abbrev sE:Stmt:=top 21
abbrev sF:Stmt:=top 22
abbrev sI:Stmt:=top 25
abbrev sJ:Stmt:=top 26
abbrev sK:Stmt:=top 27
abbrev sL:Stmt:=top 28
abbrev sM:Stmt:=top 29
abbrev sO:Stmt:=top 31
abbrev sR:Stmt:=top 33
abbrev sS:Stmt:=top 34
abbrev sT:Stmt:=top 35
abbrev sU:Stmt:=top 36
abbrev sV:Stmt:=top 37
abbrev sW:Stmt:=top 38
abbrev sX:Stmt:=top 39
abbrev sY:Stmt:=top 40
abbrev sZ:Stmt:=top 41
abbrev s_:Stmt:=cn (top 30) 0
abbrev tf:Stmt:=cn (top 30) 1
abbrev tj:Stmt:=cn (top 30) 2
abbrev tm:Stmt:=cn (top 30) 3
abbrev tq:Stmt:=cn (top 30) 4
abbrev tu:Stmt:=cn (top 30) 5
abbrev tD:Stmt:=cn (top 30) 6
abbrev tE:Stmt:=cn (top 30) 7
abbrev tF:Stmt:=cn (top 30) 8
noncomputable def kE (P:Params) (x:String) (n:Nat) (v:Value):DictEntry:=⟨PyData.keyHash P (Str.ofString x),.str (Str.ofString x) n,v⟩
noncomputable def kM (x q:Str) (s:Stmt) (m:Str) (k c:Nat):Obj:=match s with
 | .FunctionDef _ a b _ _ _ sc _ _ _=>⟨.type "function",none,.func (fnOf x q a b sc .none .none .none (.str m k) none (.ref c) .none),#[]⟩
 | _=>⟨.none,none,.plain,#[]⟩
def kN (x q:Str)(s:Stmt):Obj:=match s with
 | .FunctionDef _ a b _ _ _ sc _ _ _=>⟨.none,none,.func { name:=x,qualname:=q,params:=a,body:=.stmts b,scope:=sc,globals:=0,closure:=[],defaults:=.none,kwdefaults:=.none },#[]⟩
 | _=>⟨.none,none,.plain,#[]⟩
noncomputable def oT (x:Array Value):Obj:={ cls:=.type "tuple",data:=Data.seq x }
noncomputable def oF (x:Array Value):Obj:={ cls:=.none,data:=Data.fields x }
noncomputable def oK (x:Array Value):Obj:={ cls:=.type "code",data:=Data.fields x }
noncomputable def oB (x:Array Value):Obj:={ cls:=.type "builtin_function_or_method",data:=Data.fields x }
def cp (n:Nat):Value:=.str "/claim/cut.py" n
def tG:Obj:=oT #[]
def Gs:Obj:=oF #[]
def tH:Obj:=oK #[.str "<module>" 182,.str "<module>" 183,cp 184,.int 1 0,.int 0 0,.int 0 0,.int 0 0,.int 0 0,.ref 11,.bool false,.int 181 0,.ref 12,.none,.none,.none,.none,.int 185 0,.int 1 0,cp 186]
def tI:Obj:={ cls:=.type "frame",slots:=#[some (.ref 13),some (.ref 3),some (.ref 3),none,some (.str "__main__" 164),none,some (.ref 0)] }
def ob3 (P:Params):Obj:={ cls:=.type "dict",data:=Data.dict #[kE P "__name__" 165 (.str "sumcraft.spans" 382),kE P "__doc__" 166 (.none),kE P "__package__" 167 (.none),kE P "__loader__" 168 (.builtin "__main__.__loader__#opaque"),kE P "__spec__" 169 (.none),kE P "__annotations__" 170 (.ref 6),kE P "__builtins__" 171 (.ref 4),kE P "__file__" 173 (cp 172),kE P "__cached__" 174 (.none),kE P "SumError" 206 (.ref 24),kE P "NoNumber" 222 (.ref 37),kE P "trimmed" 232 (.ref 46),kE P "poly_plus" 243 (.ref 53),kE P "poly_times" 256 (.ref 60),kE P "poly_value" 266 (.ref 67),kE P "quotient" 282 (.ref 74),kE P "LONG" 286 (.int 4000 285),kE P "WINDOW" 288 (.int 300 287),kE P "shortened" 305 (.ref 81),kE P "divisor" 317 (.ref 88),kE P "content" 328 (.ref 95),kE P "over" 334 (.ref 100),kE P "upright" 340 (.ref 105),kE P "spread" 350 (.ref 112),kE P "greatest_size" 356 (.ref 117),kE P "bare_common" 366 (.ref 124),kE P "common" 372 (.ref 129),kE P "common_of" 381 (.ref 136),kE P "START" 385 (.int 97 384),kE P "lowered" 391 (.ref 141),kE P "through" 403 (.ref 148),kE P "greatest_degree" 409 (.ref 153),kE P "degree_bound" 415 (.ref 158),kE P "cleared" 421 (.ref 163),kE P "Span" 528 (.ref 235)] 35 }
def Gt:Obj:=oF #[.int 2 0,.int 0 0,.ref 20,.int 4 0,.int 0 0,.ref 33,.int 7 0,.int 0 0,.ref 45,.int 12 0,.int 0 0,.ref 52,.int 17 0,.int 0 0,.ref 59,.int 25 0,.int 0 0,.ref 66,.int 30 0,.int 0 0,.ref 73,.int 50 0,.int 0 0,.ref 80,.int 66 0,.int 0 0,.ref 87,.int 79 0,.int 0 0,.ref 94,.int 84 0,.int 0 0,.ref 99,.int 86 0,.int 0 0,.ref 104,.int 90 0,.int 0 0,.ref 111,.int 99 0,.int 0 0,.ref 116,.int 101 0,.int 0 0,.ref 123,.int 109 0,.int 0 0,.ref 128,.int 118 0,.int 0 0,.ref 135,.int 125 0,.int 0 0,.ref 140,.int 133 0,.int 0 0,.ref 147,.int 142 0,.int 0 0,.ref 152,.int 144 0,.int 0 0,.ref 157,.int 148 0,.int 0 0,.ref 162,.int 153 0,.int 0 0,.ref 169]
def xX:Obj:=oT #[.type "ValueError"]
def xY:Obj:=oB #[.builtin "type.__prepare__",.type "type"]
def tJ (P:Params):Obj:={ cls:=.type "dict",data:=Data.dict #[kE P "__module__" 196 (.str "sumcraft.errors" 187),kE P "__qualname__" 198 (.str "SumError" 197),kE P "__firstlineno__" 200 (.int 2 199),kE P "__static_attributes__" 201 (.ref 22)] 4 }
def xZ:Obj:=oT #[]
def x6:Obj:=oF #[]
def x8:Obj:=oK #[.str "SumError" 191,.str "SumError" 192,cp 193,.int 2 0,.int 0 0,.int 0 0,.int 0 0,.int 0 0,.ref 18,.bool false,.int 181 0,.ref 19,.none,.none,.none,.none,.int 194 0,.int 2 0,cp 195]
def x9:Obj:={ cls:=.type "frame",slots:=#[some (.ref 20),some (.ref 3),some (.ref 17),none,some (.str "sumcraft.errors" 187),none,some (.ref 0)] }
def x_:Obj:=oT #[]
def tK (P:Params):Obj:={ cls:=.type "dict",data:=Data.dict #[kE P "__module__" 196 (.str "sumcraft.errors" 187),kE P "__firstlineno__" 200 (.int 2 199),kE P "__static_attributes__" 201 (.ref 22),kE P "__weakref__" 203 (.ref 25),kE P "__doc__" 204 (.none)] 3 }
def tL:Obj:={ cls:=.type "type",data:=Data.cls { name := "SumError",bases:=[.type "ValueError"],mro:=[.ref 24,.type "ValueError",.type "Exception",.type "BaseException",.type "object"],ns:=23,qualname := "SumError",subclasses:=[.ref 37] },slots:=#[some (.ref 15),none,some (.str "SumError" 189),some (.str "SumError" 197),some (.builtin "ValueError.__new__"),some (.bool true)] }
def ya:Obj:={ cls:=.type "getset_descriptor",data:=Data.fields #[.str "__weakref__" 202,.ref 24,.builtin "ExceptionGroup.__weakref__",.none] }
def yd:Obj:={ cls:=.type "super",data:=Data.fields #[.ref 24,.ref 24,.ref 24] }
def ye:Obj:=oB #[.builtin "object.__init_subclass__",.ref 24]
def yf:Obj:=oT #[.ref 24]
def yh:Obj:=oB #[.builtin "type.__prepare__",.type "type"]
def tO (P:Params):Obj:={ cls:=.type "dict",data:=Data.dict #[kE P "__module__" 214 (.str "sumcraft.errors" 187),kE P "__qualname__" 216 (.str "NoNumber" 215),kE P "__firstlineno__" 218 (.int 4 217),kE P "__static_attributes__" 219 (.ref 35)] 4 }
def yi:Obj:=oT #[]
def yj:Obj:=oF #[]
def yk:Obj:=oK #[.str "NoNumber" 209,.str "NoNumber" 210,cp 211,.int 4 0,.int 0 0,.int 0 0,.int 0 0,.int 0 0,.ref 31,.bool false,.int 181 0,.ref 32,.none,.none,.none,.none,.int 212 0,.int 4 0,cp 213]
def yl:Obj:={ cls:=.type "frame",slots:=#[some (.ref 33),some (.ref 3),some (.ref 30),none,some (.str "sumcraft.errors" 187),none,some (.ref 0)] }
def ym:Obj:=oT #[]
def tQ (P:Params):Obj:={ cls:=.type "dict",data:=Data.dict #[kE P "__module__" 214 (.str "sumcraft.errors" 187),kE P "__firstlineno__" 218 (.int 4 217),kE P "__static_attributes__" 219 (.ref 35),kE P "__doc__" 220 (.none)] 2 }
def tR:Obj:={ cls:=.type "type",data:=Data.cls { name := "NoNumber",bases:=[.ref 24],mro:=[.ref 37,.ref 24,.type "ValueError",.type "Exception",.type "BaseException",.type "object"],ns:=36,qualname := "NoNumber" },slots:=#[some (.ref 28),none,some (.str "NoNumber" 207),some (.str "NoNumber" 215),some (.builtin "ValueError.__new__"),some (.bool true)] }
def yn:Obj:={ cls:=.type "super",data:=Data.fields #[.ref 37,.ref 37,.ref 37] }
def yo:Obj:=oB #[.builtin "object.__init_subclass__",.ref 37]
def yp:Obj:=oT #[]
def yq:Obj:=oF #[]
def yr:Obj:=oT #[.str "numbers" 228,.str "size" 229]
def yt:Obj:=oT #[]
def yu:Obj:=kN "trimmed" "trimmed" (top 4)
def tS:Obj:=oK #[.str "trimmed" 225,.str "trimmed" 226,cp 227,.int 7 0,.int 1 0,.int 0 0,.int 0 0,.int 3 0,.ref 40,.bool true,.int 181 0,.ref 41,.none,.ref 42,.ref 43,.ref 44,.int 230 0,.int 7 0,cp 231]
def tT:Obj:=kM "trimmed" "trimmed" (top 4) "sumcraft.polys" 223 45
def yw:Obj:=oT #[]
def yy:Obj:=oF #[]
def yz:Obj:=oT #[.str "one" 236,.str "other" 237,.str "answer" 238,.str "place" 239,.str "number" 240]
def yB:Obj:=oT #[]
def yC:Obj:=kN "poly_plus" "poly_plus" (top 5)
def tU:Obj:=oK #[.str "poly_plus" 233,.str "poly_plus" 234,cp 235,.int 12 0,.int 2 0,.int 0 0,.int 0 0,.int 3 0,.ref 47,.bool true,.int 181 0,.ref 48,.none,.ref 49,.ref 50,.ref 51,.int 241 0,.int 12 0,cp 242]
def tV:Obj:=kM "poly_plus" "poly_plus" (top 5) "sumcraft.polys" 223 52
def yD:Obj:=oT #[]
def yE:Obj:=oF #[]
def yF:Obj:=oT #[.str "one" 247,.str "other" 248,.str "answer" 249,.str "low" 250,.str "number" 251,.str "place" 252,.str "factor" 253]
def yG:Obj:=oT #[]
def yH:Obj:=kN "poly_times" "poly_times" (top 6)
def tW:Obj:=oK #[.str "poly_times" 244,.str "poly_times" 245,cp 246,.int 17 0,.int 2 0,.int 0 0,.int 0 0,.int 3 0,.ref 54,.bool true,.int 181 0,.ref 55,.none,.ref 56,.ref 57,.ref 58,.int 254 0,.int 17 0,cp 255]
def tX:Obj:=kM "poly_times" "poly_times" (top 6) "sumcraft.polys" 223 59
def yI:Obj:=oT #[]
def yJ:Obj:=oF #[]
def yK:Obj:=oT #[.str "poly" 260,.str "n" 261,.str "answer" 262,.str "number" 263]
def yL:Obj:=oT #[]
def yM:Obj:=kN "poly_value" "poly_value" (top 7)
def tY:Obj:=oK #[.str "poly_value" 257,.str "poly_value" 258,cp 259,.int 25 0,.int 2 0,.int 0 0,.int 0 0,.int 3 0,.ref 61,.bool true,.int 181 0,.ref 62,.none,.ref 63,.ref 64,.ref 65,.int 264 0,.int 25 0,cp 265]
def tZ:Obj:=kM "poly_value" "poly_value" (top 7) "sumcraft.polys" 223 66
def yN:Obj:=oT #[]
def yO:Obj:=oF #[]
def yP:Obj:=oT #[.str "one" 270,.str "other" 271,.str "rest" 272,.str "steps" 273,.str "answer" 274,.str "low" 275,.str "top" 276,.str "factor" 277,.str "place" 278,.str "number" 279]
def yQ:Obj:=oT #[]
def yS:Obj:=kN "quotient" "quotient" (top 8)
def t9:Obj:=oK #[.str "quotient" 267,.str "quotient" 268,cp 269,.int 30 0,.int 2 0,.int 0 0,.int 0 0,.int 3 0,.ref 68,.bool true,.int 181 0,.ref 69,.none,.ref 70,.ref 71,.ref 72,.int 280 0,.int 30 0,cp 281]
def t_:Obj:=kM "quotient" "quotient" (top 8) "sumcraft.polys" 223 73
def yT:Obj:=oT #[]
def yU:Obj:=oF #[]
def yV:Obj:=oT #[.str "big" 292,.str "small" 293,.str "cut" 294,.str "ahead" 295,.str "behind" 296,.str "half" 297,.str "upper" 298,.str "lower" 299,.str "times" 300,.str "rest" 301,.str "further" 302]
def yW:Obj:=oT #[]
def yX:Obj:=kN "shortened" "shortened" (top 12)
def ua:Obj:=oK #[.str "shortened" 289,.str "shortened" 290,cp 291,.int 50 0,.int 2 0,.int 0 0,.int 0 0,.int 3 0,.ref 75,.bool true,.int 181 0,.ref 76,.none,.ref 77,.ref 78,.ref 79,.int 303 0,.int 50 0,cp 304]
def ub:Obj:=kM "shortened" "shortened" (top 12) "sumcraft.ratios" 283 80
def yY:Obj:=oT #[]
def yZ:Obj:=oF #[]
def y0:Obj:=oT #[.str "one" 309,.str "other" 310,.str "big" 311,.str "small" 312,.str "pair" 313,.str "rest" 314]
def y3:Obj:=oT #[]
def y4:Obj:=kN "divisor" "divisor" (top 13)
def uc:Obj:=oK #[.str "divisor" 306,.str "divisor" 307,cp 308,.int 66 0,.int 2 0,.int 0 0,.int 0 0,.int 3 0,.ref 82,.bool true,.int 181 0,.ref 83,.none,.ref 84,.ref 85,.ref 86,.int 315 0,.int 66 0,cp 316]
def ud:Obj:=kM "divisor" "divisor" (top 13) "sumcraft.ratios" 283 87
def y6:Obj:=oT #[]
def y8:Obj:=oF #[]
def y9:Obj:=oT #[.str "poly" 323,.str "answer" 324,.str "number" 325]
def y_:Obj:=oT #[]
def za:Obj:=kN "content" "content" (top 15)
def ue:Obj:=oK #[.str "content" 320,.str "content" 321,cp 322,.int 79 0,.int 1 0,.int 0 0,.int 0 0,.int 3 0,.ref 89,.bool true,.int 181 0,.ref 90,.none,.ref 91,.ref 92,.ref 93,.int 326 0,.int 79 0,cp 327]
def uf:Obj:=kM "content" "content" (top 15) "sumcraft.reaches" 318 94
def zb:Obj:=oT #[]
def zd:Obj:=oF #[]
def ze:Obj:=kN "over" "over" (top 16)
def ug:Obj:=oK #[.str "over" 329,.str "over" 330,cp 331,.int 84 0,.int 2 0,.int 0 0,.int 0 0,.int 3 0,.ref 96,.bool true,.int 181 0,.ref 97,.none,.none,.none,.ref 98,.int 332 0,.int 84 0,cp 333]
def uh:Obj:=kM "over" "over" (top 16) "sumcraft.reaches" 318 99
def zf:Obj:=oT #[]
def zg:Obj:=oF #[]
def zh:Obj:=kN "upright" "upright" (top 17)
def ui:Obj:=oK #[.str "upright" 335,.str "upright" 336,cp 337,.int 86 0,.int 1 0,.int 0 0,.int 0 0,.int 3 0,.ref 101,.bool true,.int 181 0,.ref 102,.none,.none,.none,.ref 103,.int 338 0,.int 86 0,cp 339]
def uj:Obj:=kM "upright" "upright" (top 17) "sumcraft.reaches" 318 104
def zi:Obj:=oT #[]
def zj:Obj:=oF #[]
def zk:Obj:=oT #[.str "number" 344,.str "base" 345,.str "answer" 346,.str "low" 347]
def zl:Obj:=oT #[]
def zm:Obj:=kN "spread" "spread" (top 18)
def uk:Obj:=oK #[.str "spread" 341,.str "spread" 342,cp 343,.int 90 0,.int 2 0,.int 0 0,.int 0 0,.int 3 0,.ref 106,.bool true,.int 181 0,.ref 107,.none,.ref 108,.ref 109,.ref 110,.int 348 0,.int 90 0,cp 349]
def um:Obj:=kM "spread" "spread" (top 18) "sumcraft.reaches" 318 111
def zn:Obj:=oT #[]
def zo:Obj:=oF #[]
def zp:Obj:=kN "greatest_size" "greatest_size" (top 19)
def uo:Obj:=oK #[.str "greatest_size" 351,.str "greatest_size" 352,cp 353,.int 99 0,.int 1 0,.int 0 0,.int 0 0,.int 3 0,.ref 113,.bool true,.int 181 0,.ref 114,.none,.none,.none,.ref 115,.int 354 0,.int 99 0,cp 355]
def uq:Obj:=kM "greatest_size" "greatest_size" (top 19) "sumcraft.reaches" 318 116
def zq:Obj:=oT #[]
def zr:Obj:=oF #[]
def zt:Obj:=oT #[.str "one" 360,.str "other" 361,.str "place" 362,.str "found" 363]
def zu:Obj:=oT #[]
def zw:Obj:=kN "bare_common" "bare_common" (top 20)
def ur:Obj:=oK #[.str "bare_common" 357,.str "bare_common" 358,cp 359,.int 101 0,.int 2 0,.int 0 0,.int 0 0,.int 3 0,.ref 118,.bool true,.int 181 0,.ref 119,.none,.ref 120,.ref 121,.ref 122,.int 364 0,.int 101 0,cp 365]
def uu:Obj:=kM "bare_common" "bare_common" (top 20) "sumcraft.reaches" 318 123
def zx:Obj:=oT #[]
def zA:Obj:=oF #[]
def zB:Obj:=kN "common" "common" (top 21)
def uv:Obj:=oK #[.str "common" 367,.str "common" 368,cp 369,.int 109 0,.int 2 0,.int 0 0,.int 0 0,.int 3 0,.ref 125,.bool true,.int 181 0,.ref 126,.none,.none,.none,.ref 127,.int 370 0,.int 109 0,cp 371]
def uw:Obj:=kM "common" "common" (top 21) "sumcraft.reaches" 318 128
def zC:Obj:=oT #[]
def zD:Obj:=oF #[]
def zE:Obj:=oT #[.str "polys" 376,.str "answer" 377,.str "poly" 378]
def zF:Obj:=oT #[]
def zG:Obj:=kN "common_of" "common_of" (top 22)
def ux:Obj:=oK #[.str "common_of" 373,.str "common_of" 374,cp 375,.int 118 0,.int 1 0,.int 0 0,.int 0 0,.int 3 0,.ref 130,.bool true,.int 181 0,.ref 131,.none,.ref 132,.ref 133,.ref 134,.int 379 0,.int 118 0,cp 380]
def uy:Obj:=kM "common_of" "common_of" (top 22) "sumcraft.reaches" 318 135
def zH:Obj:=oT #[]
def zI:Obj:=oF #[]
def zJ:Obj:=kN "lowered" "lowered" (top 25)
def uz:Obj:=oK #[.str "lowered" 386,.str "lowered" 387,cp 388,.int 125 0,.int 3 0,.int 0 0,.int 0 0,.int 3 0,.ref 137,.bool true,.int 181 0,.ref 138,.none,.none,.none,.ref 139,.int 389 0,.int 125 0,cp 390]
def uA:Obj:=kM "lowered" "lowered" (top 25) "sumcraft.spans" 382 140
def zK:Obj:=oT #[]
def zL:Obj:=oF #[]
def zM:Obj:=oT #[.str "places" 395,.str "values" 396,.str "steps" 397,.str "gap" 398,.str "place" 399,.str "answer" 400]
def zN:Obj:=oT #[]
def zO:Obj:=kN "through" "through" (top 26)
def uB:Obj:=oK #[.str "through" 392,.str "through" 393,cp 394,.int 133 0,.int 2 0,.int 0 0,.int 0 0,.int 3 0,.ref 142,.bool true,.int 181 0,.ref 143,.none,.ref 144,.ref 145,.ref 146,.int 401 0,.int 133 0,cp 402]
def uC:Obj:=kM "through" "through" (top 26) "sumcraft.spans" 382 147
def zP:Obj:=oT #[]
def zQ:Obj:=oF #[]
def zR:Obj:=kN "greatest_degree" "greatest_degree" (top 27)
def uD:Obj:=oK #[.str "greatest_degree" 404,.str "greatest_degree" 405,cp 406,.int 142 0,.int 1 0,.int 0 0,.int 0 0,.int 3 0,.ref 149,.bool true,.int 181 0,.ref 150,.none,.none,.none,.ref 151,.int 407 0,.int 142 0,cp 408]
def uE:Obj:=kM "greatest_degree" "greatest_degree" (top 27) "sumcraft.spans" 382 152
def zS:Obj:=oT #[]
def zT:Obj:=oF #[]
def zU:Obj:=kN "degree_bound" "degree_bound" (top 28)
def uF:Obj:=oK #[.str "degree_bound" 410,.str "degree_bound" 411,cp 412,.int 144 0,.int 2 0,.int 0 0,.int 0 0,.int 3 0,.ref 154,.bool true,.int 181 0,.ref 155,.none,.none,.none,.ref 156,.int 413 0,.int 144 0,cp 414]
def uG:Obj:=kM "degree_bound" "degree_bound" (top 28) "sumcraft.spans" 382 157
def zV:Obj:=oT #[]
def zW:Obj:=oF #[]
def zX:Obj:=kN "cleared" "cleared" (top 29)
def uH:Obj:=oK #[.str "cleared" 416,.str "cleared" 417,cp 418,.int 148 0,.int 1 0,.int 0 0,.int 0 0,.int 3 0,.ref 159,.bool true,.int 181 0,.ref 160,.none,.none,.none,.ref 161,.int 419 0,.int 148 0,cp 420]
def uI:Obj:=kM "cleared" "cleared" (top 29) "sumcraft.spans" 382 162
def zY:Obj:=oT #[]
def zZ:Obj:=oB #[.builtin "type.__prepare__",.type "type"]
def uJ (P:Params):Obj:={ cls:=.type "dict",data:=Data.dict #[kE P "__module__" 429 (.str "sumcraft.spans" 382),kE P "__qualname__" 431 (.str "Span" 430),kE P "__firstlineno__" 433 (.int 153 432),kE P "__init__" 441 (.ref 177),kE P "row_at" 447 (.ref 182),kE P "table_at" 458 (.ref 189),kE P "lowered_at" 468 (.ref 196),kE P "only_choice" 474 (.ref 201),kE P "failing_column" 487 (.ref 208),kE P "keep" 496 (.ref 215),kE P "by_few" 502 (.ref 220),kE P "take" 508 (.ref 225),kE P "apart" 515 (.ref 232),kE P "__static_attributes__" 521 (.ref 233)] 14 }
def z4:Obj:=oT #[]
def z6:Obj:=oF #[.int 155 0,.int 4 0,.ref 176,.int 162 0,.int 4 0,.ref 181,.int 166 0,.int 4 0,.ref 188,.int 176 0,.int 4 0,.ref 195,.int 182 0,.int 4 0,.ref 200,.int 195 0,.int 4 0,.ref 207,.int 206 0,.int 4 0,.ref 214,.int 212 0,.int 4 0,.ref 219,.int 224 0,.int 4 0,.ref 224,.int 242 0,.int 4 0,.ref 231]
def z7:Obj:=oK #[.str "Span" 424,.str "Span" 425,cp 426,.int 153 0,.int 0 0,.int 0 0,.int 0 0,.int 0 0,.ref 167,.bool false,.int 181 0,.ref 168,.none,.none,.none,.none,.int 427 0,.int 153 0,cp 428]
def z8:Obj:={ cls:=.type "frame",slots:=#[some (.ref 169),some (.ref 3),some (.ref 166),none,some (.str "sumcraft.spans" 382),none,some (.ref 0)] }
def z9:Obj:=oT #[]
def z_:Obj:=oF #[]
def Aa:Obj:=oT #[.str "self" 437,.str "width" 438]
def Ab:Obj:=oT #[]
def Ac:Obj:=kN "__init__" "Span.__init__" (cn (top 30) 0)
def uK:Obj:=oK #[.str "__init__" 434,.str "Span.__init__" 435,cp 436,.int 155 0,.int 2 0,.int 0 0,.int 0 0,.int 3 0,.ref 171,.bool true,.int 181 0,.ref 172,.none,.ref 173,.ref 174,.ref 175,.int 439 0,.int 155 0,cp 440]
def uL:Obj:=kM "__init__" "Span.__init__" (cn (top 30) 0) "sumcraft.spans" 382 176
def Ad:Obj:=oT #[]
def Ae:Obj:=oF #[]
def Af:Obj:=kN "row_at" "Span.row_at" (cn (top 30) 1)
def uM:Obj:=oK #[.str "row_at" 442,.str "Span.row_at" 443,cp 444,.int 162 0,.int 4 0,.int 0 0,.int 0 0,.int 3 0,.ref 178,.bool true,.int 181 0,.ref 179,.none,.none,.none,.ref 180,.int 445 0,.int 162 0,cp 446]
def uN:Obj:=kM "row_at" "Span.row_at" (cn (top 30) 1) "sumcraft.spans" 382 181
def Ag:Obj:=oT #[]
def Ah:Obj:=oF #[]
def Ai:Obj:=oT #[.str "self" 451,.str "place" 452,.str "table" 453,.str "number" 454,.str "row" 455]
def Aj:Obj:=oT #[]
def Ak:Obj:=kN "table_at" "Span.table_at" (cn (top 30) 2)
def uO:Obj:=oK #[.str "table_at" 448,.str "Span.table_at" 449,cp 450,.int 166 0,.int 2 0,.int 0 0,.int 0 0,.int 3 0,.ref 183,.bool true,.int 181 0,.ref 184,.none,.ref 185,.ref 186,.ref 187,.int 456 0,.int 166 0,cp 457]
def uP:Obj:=kM "table_at" "Span.table_at" (cn (top 30) 2) "sumcraft.spans" 382 188
def Al:Obj:=oT #[]
def Am:Obj:=oF #[]
def Ao:Obj:=oT #[.str "self" 462,.str "vector" 463,.str "place" 464,.str "table" 465]
def Ap:Obj:=oT #[]
def Aq:Obj:=kN "lowered_at" "Span.lowered_at" (cn (top 30) 3)
def uQ:Obj:=oK #[.str "lowered_at" 459,.str "Span.lowered_at" 460,cp 461,.int 176 0,.int 3 0,.int 0 0,.int 0 0,.int 3 0,.ref 190,.bool true,.int 181 0,.ref 191,.none,.ref 192,.ref 193,.ref 194,.int 466 0,.int 176 0,cp 467]
def uR:Obj:=kM "lowered_at" "Span.lowered_at" (cn (top 30) 3) "sumcraft.spans" 382 195
def Ar:Obj:=oT #[]
def As:Obj:=oF #[]
def At:Obj:=kN "only_choice" "Span.only_choice" (cn (top 30) 4)
def uS:Obj:=oK #[.str "only_choice" 469,.str "Span.only_choice" 470,cp 471,.int 182 0,.int 2 0,.int 0 0,.int 0 0,.int 3 0,.ref 197,.bool true,.int 181 0,.ref 198,.none,.none,.none,.ref 199,.int 472 0,.int 182 0,cp 473]
def uT:Obj:=kM "only_choice" "Span.only_choice" (cn (top 30) 4) "sumcraft.spans" 382 200
def Au:Obj:=oT #[]
def Av:Obj:=oF #[]
def Aw:Obj:=oT #[.str "self" 478,.str "vector" 479,.str "weights" 480,.str "column" 481,.str "answer" 482,.str "other" 483,.str "weight" 484]
def Ax:Obj:=oT #[]
def Ay:Obj:=kN "failing_column" "Span.failing_column" (cn (top 30) 5)
def uU:Obj:=oK #[.str "failing_column" 475,.str "Span.failing_column" 476,cp 477,.int 195 0,.int 3 0,.int 0 0,.int 0 0,.int 3 0,.ref 202,.bool true,.int 181 0,.ref 203,.none,.ref 204,.ref 205,.ref 206,.int 485 0,.int 195 0,cp 486]
def uV:Obj:=kM "failing_column" "Span.failing_column" (cn (top 30) 5) "sumcraft.spans" 382 207
def Az:Obj:=oT #[]
def AA:Obj:=oF #[]
def AB:Obj:=oT #[.str "self" 491,.str "vector" 492,.str "column" 493]
def AC:Obj:=oT #[]
def AD:Obj:=kN "keep" "Span.keep" (cn (top 30) 6)
def uW:Obj:=oK #[.str "keep" 488,.str "Span.keep" 489,cp 490,.int 206 0,.int 3 0,.int 0 0,.int 0 0,.int 3 0,.ref 209,.bool true,.int 181 0,.ref 210,.none,.ref 211,.ref 212,.ref 213,.int 494 0,.int 206 0,cp 495]
def uX:Obj:=kM "keep" "Span.keep" (cn (top 30) 6) "sumcraft.spans" 382 214
def AE:Obj:=oT #[]
def AF:Obj:=oF #[]
def AG:Obj:=kN "by_few" "Span.by_few" (cn (top 30) 7)
def uY:Obj:=oK #[.str "by_few" 497,.str "Span.by_few" 498,cp 499,.int 212 0,.int 3 0,.int 0 0,.int 0 0,.int 3 0,.ref 216,.bool true,.int 181 0,.ref 217,.none,.none,.none,.ref 218,.int 500 0,.int 212 0,cp 501]
def uZ:Obj:=kM "by_few" "Span.by_few" (cn (top 30) 7) "sumcraft.spans" 382 219
def AH:Obj:=oT #[]
def AI:Obj:=oF #[]
def AJ:Obj:=kN "take" "Span.take" (cn (top 30) 8)
def u4:Obj:=oK #[.str "take" 503,.str "Span.take" 504,cp 505,.int 224 0,.int 2 0,.int 0 0,.int 0 0,.int 3 0,.ref 221,.bool true,.int 181 0,.ref 222,.none,.none,.none,.ref 223,.int 506 0,.int 224 0,cp 507]
def u7:Obj:=kM "take" "Span.take" (cn (top 30) 8) "sumcraft.spans" 382 224
def AK:Obj:=oT #[]
def AL:Obj:=oF #[]
def AM:Obj:=oT #[.str "self" 512]
def AN:Obj:=oT #[]
def AO:Obj:=kN "apart" "Span.apart" (cn (top 30) 9)
def AQ:Obj:=oK #[.str "apart" 509,.str "Span.apart" 510,cp 511,.int 242 0,.int 1 0,.int 0 0,.int 0 0,.int 3 0,.ref 226,.bool true,.int 181 0,.ref 227,.none,.ref 228,.ref 229,.ref 230,.int 513 0,.int 242 0,cp 514]
def AR:Obj:=kM "apart" "Span.apart" (cn (top 30) 9) "sumcraft.spans" 382 231
def AS:Obj:=oT #[.str "columns" 516,.str "kept" 517,.str "place" 518,.str "tables" 519,.str "width" 520]
def u8 (P:Params):Obj:={ cls:=.type "dict",data:=Data.dict #[kE P "__module__" 429 (.str "sumcraft.spans" 382),kE P "__firstlineno__" 433 (.int 153 432),kE P "__init__" 441 (.ref 177),kE P "row_at" 447 (.ref 182),kE P "table_at" 458 (.ref 189),kE P "lowered_at" 468 (.ref 196),kE P "only_choice" 474 (.ref 201),kE P "failing_column" 487 (.ref 208),kE P "keep" 496 (.ref 215),kE P "by_few" 502 (.ref 220),kE P "take" 508 (.ref 225),kE P "apart" 515 (.ref 232),kE P "__static_attributes__" 521 (.ref 233),kE P "__dict__" 523 (.ref 236),kE P "__weakref__" 525 (.ref 237),kE P "__doc__" 526 (.none)] 4 }
def u9:Obj:={ cls:=.type "type",data:=Data.cls { name := "Span",bases:=[.type "object"],mro:=[.ref 235,.type "object"],ns:=234,qualname := "Span" },slots:=#[none,none,some (.str "Span" 422),some (.str "Span" 430),some (.builtin "object.__new__"),some (.bool true)] }
def AT:Obj:={ cls:=.type "getset_descriptor",data:=Data.fields #[.str "__dict__" 522,.ref 235,.builtin "function.__dict__",.builtin "function.__dict__#set"] }
def AU:Obj:={ cls:=.type "getset_descriptor",data:=Data.fields #[.str "__weakref__" 524,.ref 235,.builtin "ExceptionGroup.__weakref__",.none] }
def AV:Obj:={ cls:=.type "super",data:=Data.fields #[.ref 235,.ref 235,.ref 235] }
def AW:Obj:=oB #[.builtin "object.__init_subclass__",.ref 235]
def AX (P:Params):Obj:={ cls:=.type "dict",data:=Data.dict #[kE P "__name__" 165 (.str "law_sumcraft_k21_a_relation_made" 539),kE P "__doc__" 166 (.none),kE P "__package__" 167 (.none),kE P "__loader__" 168 (.builtin "__main__.__loader__#opaque"),kE P "__spec__" 169 (.none),kE P "__annotations__" 170 (.ref 6),kE P "__builtins__" 171 (.ref 4),kE P "__file__" 173 (cp 172),kE P "__cached__" 174 (.none),kE P "SumError" 206 (.ref 24),kE P "NoNumber" 222 (.ref 37),kE P "trimmed" 232 (.ref 46),kE P "poly_plus" 243 (.ref 53),kE P "poly_times" 256 (.ref 60),kE P "poly_value" 266 (.ref 67),kE P "quotient" 282 (.ref 74),kE P "LONG" 286 (.int 4000 285),kE P "WINDOW" 288 (.int 300 287),kE P "shortened" 305 (.ref 81),kE P "divisor" 317 (.ref 88),kE P "content" 328 (.ref 95),kE P "over" 334 (.ref 100),kE P "upright" 340 (.ref 105),kE P "spread" 350 (.ref 112),kE P "greatest_size" 356 (.ref 117),kE P "bare_common" 366 (.ref 124),kE P "common" 372 (.ref 129),kE P "common_of" 381 (.ref 136),kE P "START" 385 (.int 97 384),kE P "lowered" 391 (.ref 141),kE P "through" 403 (.ref 148),kE P "greatest_degree" 409 (.ref 153),kE P "degree_bound" 415 (.ref 158),kE P "cleared" 421 (.ref 163),kE P "Span" 528 (.ref 235),kE P "relation" 538 (.ref 246),kE P "_law_cell_at" 548 (.ref 253),kE P "_law_poly" 559 (.ref 260),kE P "_law_some" 567 (.ref 267),kE P "_law_product" 578 (.ref 274),kE P "_law_sum" 588 (.ref 281),kE P "_law_vectors" 603 (.ref 288),kE P "_law_factors" 609 (.ref 293),kE P "_law_is" 620 (.ref 300),kE P "law" 626 (.ref 305)] 45 }
def Gu:Obj:=oF #[.int 2 0,.int 0 0,.ref 20,.int 4 0,.int 0 0,.ref 33,.int 7 0,.int 0 0,.ref 45,.int 12 0,.int 0 0,.ref 52,.int 17 0,.int 0 0,.ref 59,.int 25 0,.int 0 0,.ref 66,.int 30 0,.int 0 0,.ref 73,.int 50 0,.int 0 0,.ref 80,.int 66 0,.int 0 0,.ref 87,.int 79 0,.int 0 0,.ref 94,.int 84 0,.int 0 0,.ref 99,.int 86 0,.int 0 0,.ref 104,.int 90 0,.int 0 0,.ref 111,.int 99 0,.int 0 0,.ref 116,.int 101 0,.int 0 0,.ref 123,.int 109 0,.int 0 0,.ref 128,.int 118 0,.int 0 0,.ref 135,.int 125 0,.int 0 0,.ref 140,.int 133 0,.int 0 0,.ref 147,.int 142 0,.int 0 0,.ref 152,.int 144 0,.int 0 0,.ref 157,.int 148 0,.int 0 0,.ref 162,.int 153 0,.int 0 0,.ref 169,.int 244 0,.int 0 0,.ref 245,.int 254 0,.int 0 0,.ref 252,.int 258 0,.int 0 0,.ref 259,.int 269 0,.int 0 0,.ref 266,.int 274 0,.int 0 0,.ref 273,.int 282 0,.int 0 0,.ref 280,.int 291 0,.int 0 0,.ref 287,.int 304 0,.int 0 0,.ref 292,.int 309 0,.int 0 0,.ref 299,.int 319 0,.int 0 0,.ref 304]
def Gv:Obj:=oT #[]
def Gw:Obj:=oF #[]
def Gx:Obj:=oT #[.str "vectors" 532,.str "span" 533,.str "vector" 534,.str "found" 535]
def Gy:Obj:=oT #[]
def Gz:Obj:=kN "relation" "relation" (top 31)
def AY:Obj:=oK #[.str "relation" 529,.str "relation" 530,cp 531,.int 244 0,.int 1 0,.int 0 0,.int 0 0,.int 3 0,.ref 240,.bool true,.int 181 0,.ref 241,.none,.ref 242,.ref 243,.ref 244,.int 536 0,.int 244 0,cp 537]
def AZ:Obj:=kM "relation" "relation" (top 31) "sumcraft.spans" 382 245
def GA:Obj:=oT #[]
def GB:Obj:=oF #[]
def GC:Obj:=oT #[.str "_law_script" 544,.str "_law_k" 545]
def GD:Obj:=oT #[]
def GE:Obj:=kN "_law_cell_at" "_law_cell_at" (top 33)
def A2:Obj:=oK #[.str "_law_cell_at" 541,.str "_law_cell_at" 542,cp 543,.int 254 0,.int 2 0,.int 0 0,.int 0 0,.int 3 0,.ref 247,.bool true,.int 181 0,.ref 248,.none,.ref 249,.ref 250,.ref 251,.int 546 0,.int 254 0,cp 547]
def A3:Obj:=kM "_law_cell_at" "_law_cell_at" (top 33) "law_sumcraft_k21_a_relation_made" 539 252
def GF:Obj:=oT #[]
def GG:Obj:=oF #[]
def GH:Obj:=oT #[.str "_law_cell" 552,.str "_law_found" 553,.str "_law_mixed" 554,.str "_law_k" 555,.str "_law_number" 556]
def GI:Obj:=oT #[]
def GJ:Obj:=kN "_law_poly" "_law_poly" (top 34)
def A4:Obj:=oK #[.str "_law_poly" 549,.str "_law_poly" 550,cp 551,.int 258 0,.int 1 0,.int 0 0,.int 0 0,.int 3 0,.ref 254,.bool true,.int 181 0,.ref 255,.none,.ref 256,.ref 257,.ref 258,.int 557 0,.int 258 0,cp 558]
def A6:Obj:=kM "_law_poly" "_law_poly" (top 34) "law_sumcraft_k21_a_relation_made" 539 259
def GK:Obj:=oT #[]
def GL:Obj:=oF #[]
def GM:Obj:=oT #[.str "_law_cell" 563,.str "_law_found" 564]
def GN:Obj:=oT #[]
def GO:Obj:=kN "_law_some" "_law_some" (top 35)
def A7:Obj:=oK #[.str "_law_some" 560,.str "_law_some" 561,cp 562,.int 269 0,.int 1 0,.int 0 0,.int 0 0,.int 3 0,.ref 261,.bool true,.int 181 0,.ref 262,.none,.ref 263,.ref 264,.ref 265,.int 565 0,.int 269 0,cp 566]
def A8:Obj:=kM "_law_some" "_law_some" (top 35) "law_sumcraft_k21_a_relation_made" 539 266
def GP:Obj:=oT #[]
def GQ:Obj:=oF #[]
def GR:Obj:=oT #[.str "_law_one" 571,.str "_law_other" 572,.str "_law_found" 573,.str "_law_i" 574,.str "_law_j" 575]
def GS:Obj:=oT #[]
def GT:Obj:=kN "_law_product" "_law_product" (top 36)
def A9:Obj:=oK #[.str "_law_product" 568,.str "_law_product" 569,cp 570,.int 274 0,.int 2 0,.int 0 0,.int 0 0,.int 3 0,.ref 268,.bool true,.int 181 0,.ref 269,.none,.ref 270,.ref 271,.ref 272,.int 576 0,.int 274 0,cp 577]
def A_:Obj:=kM "_law_product" "_law_product" (top 36) "law_sumcraft_k21_a_relation_made" 539 273
def GU:Obj:=oT #[]
def GV:Obj:=oF #[]
def GW:Obj:=oT #[.str "_law_one" 582,.str "_law_other" 583,.str "_law_found" 584,.str "_law_k" 585]
def GX:Obj:=oT #[]
def GY:Obj:=kN "_law_sum" "_law_sum" (top 37)
def Ba:Obj:=oK #[.str "_law_sum" 579,.str "_law_sum" 580,cp 581,.int 282 0,.int 2 0,.int 0 0,.int 0 0,.int 3 0,.ref 275,.bool true,.int 181 0,.ref 276,.none,.ref 277,.ref 278,.ref 279,.int 586 0,.int 282 0,cp 587]
def Bc:Obj:=kM "_law_sum" "_law_sum" (top 37) "law_sumcraft_k21_a_relation_made" 539 280
def GZ:Obj:=oT #[]
def G0:Obj:=oF #[]
def G5:Obj:=oT #[.str "_law_script" 592,.str "_law_many" 593,.str "_law_width" 594,.str "_law_turn" 595,.str "_law_found" 596,.str "_law_t" 597,.str "_law_vector" 598,.str "_law_c" 599,.str "_law_cell" 600]
def G6:Obj:=oT #[]
def G7:Obj:=kN "_law_vectors" "_law_vectors" (top 38)
def Be:Obj:=oK #[.str "_law_vectors" 589,.str "_law_vectors" 590,cp 591,.int 291 0,.int 3 0,.int 0 0,.int 0 0,.int 3 0,.ref 282,.bool true,.int 181 0,.ref 283,.none,.ref 284,.ref 285,.ref 286,.int 601 0,.int 291 0,cp 602]
def Bf:Obj:=kM "_law_vectors" "_law_vectors" (top 38) "law_sumcraft_k21_a_relation_made" 539 287
def G8:Obj:=oT #[]
def G9:Obj:=oF #[]
def G_:Obj:=kN "_law_factors" "_law_factors" (top 39)
def Bg:Obj:=oK #[.str "_law_factors" 604,.str "_law_factors" 605,cp 606,.int 304 0,.int 3 0,.int 0 0,.int 0 0,.int 3 0,.ref 289,.bool true,.int 181 0,.ref 290,.none,.none,.none,.ref 291,.int 607 0,.int 304 0,cp 608]
def Bh:Obj:=kM "_law_factors" "_law_factors" (top 39) "law_sumcraft_k21_a_relation_made" 539 292
def Ha:Obj:=oT #[]
def Hc:Obj:=oF #[]
def Hd:Obj:=oT #[.str "_law_found" 613,.str "_law_due" 614,.str "_law_poly_here" 615,.str "_law_right" 616,.str "_law_k" 617]
def He:Obj:=oT #[]
def Hf:Obj:=kN "_law_is" "_law_is" (top 40)
def Bi:Obj:=oK #[.str "_law_is" 610,.str "_law_is" 611,cp 612,.int 309 0,.int 2 0,.int 0 0,.int 0 0,.int 3 0,.ref 294,.bool true,.int 181 0,.ref 295,.none,.ref 296,.ref 297,.ref 298,.int 618 0,.int 309 0,cp 619]
def Bj:Obj:=kM "_law_is" "_law_is" (top 40) "law_sumcraft_k21_a_relation_made" 539 299
def Hg:Obj:=oT #[]
def Hi:Obj:=oF #[]
def Hj:Obj:=kN "law" "law" (top 41)
def Bk:Obj:=oK #[.str "law" 621,.str "law" 622,cp 623,.int 319 0,.int 1 0,.int 0 0,.int 0 0,.int 3 0,.ref 301,.bool true,.int 181 0,.ref 302,.none,.none,.none,.ref 303,.int 624 0,.int 319 0,cp 625]
def Bl:Obj:=kM "law" "law" (top 41) "law_sumcraft_k21_a_relation_made" 539 304
def env0:Env:={ scope:=PySem.Challenge.pw_sumcraft_k21_a_relation_made.main.scope,locals:=mainNs,globals:=mainNs,cells:=[],code:=.ref 13,frame:=some 14 }
def cd0:Code:=.body (behindTheImports PySem.Challenge.pw_sumcraft_k21_a_relation_made) env0
def fr0:List Frame:=[topFrame { line:=0,col:=0,endLine:=0,endCol:=0 }]
noncomputable def hp1 (P:Params):Heap:=⟨⟨[boot_o_0 P,boot_o_1 P,boot_o_2 P,boot_o_3 P,boot_o_4 P,boot_o_5 P,boot_o_6 P,boot_o_7 P,boot_o_8 P,boot_o_9 P,boot_o_10 P,tG,Gs,tH,tI]⟩,{}⟩
noncomputable def hp3 (P:Params):Heap:=⟨⟨[boot_o_0 P,boot_o_1 P,boot_o_2 P,ob3 P,boot_o_4 P,boot_o_5 P,boot_o_6 P,boot_o_7 P,boot_o_8 P,boot_o_9 P,boot_o_10 P,tG,Gt,tH,tI,xX,xY,tJ P,xZ,x6,x8,x9,x_,tK P,tL,ya,yd,ye,yf,yh,tO P,yi,yj,yk,yl,ym,tQ P,tR,yn,yo,yp,yq,yr,yt,yu,tS,tT,yw,yy,yz,yB,yC,tU,tV,yD,yE,yF,yG,yH,tW,tX,yI,yJ,yK,yL,yM,tY,tZ,yN,yO,yP,yQ,yS,t9,t_,yT,yU,yV,yW,yX,ua,ub,yY,yZ,y0,y3,y4,uc,ud,y6,y8,y9,y_,za,ue,uf,zb,zd,ze,ug,uh,zf,zg,zh,ui,uj,zi,zj,zk,zl,zm,uk,um,zn,zo,zp,uo,uq,zq,zr,zt,zu,zw,ur,uu,zx,zA,zB,uv,uw,zC,zD,zE,zF,zG,ux,uy,zH,zI,zJ,uz,uA,zK,zL,zM,zN,zO,uB,uC,zP,zQ,zR,uD,uE,zS,zT,zU,uF,uG,zV,zW,zX,uH,uI,zY,zZ,uJ P,z4,z6,z7,z8,z9,z_,Aa,Ab,Ac,uK,uL,Ad,Ae,Af,uM,uN,Ag,Ah,Ai,Aj,Ak,uO,uP,Al,Am,Ao,Ap,Aq,uQ,uR,Ar,As,At,uS,uT,Au,Av,Aw,Ax,Ay,uU,uV,Az,AA,AB,AC,AD,uW,uX,AE,AF,AG,uY,uZ,AH,AI,AJ,u4,u7,AK,AL,AM,AN,AO,AQ,AR,AS,u8 P,u9,AT,AU,AV,AW]⟩,{}⟩
noncomputable def hp4 (P:Params):Heap:=⟨⟨[boot_o_0 P,boot_o_1 P,boot_o_2 P,AX P,boot_o_4 P,boot_o_5 P,boot_o_6 P,boot_o_7 P,boot_o_8 P,boot_o_9 P,boot_o_10 P,tG,Gu,tH,tI,xX,xY,tJ P,xZ,x6,x8,x9,x_,tK P,tL,ya,yd,ye,yf,yh,tO P,yi,yj,yk,yl,ym,tQ P,tR,yn,yo,yp,yq,yr,yt,yu,tS,tT,yw,yy,yz,yB,yC,tU,tV,yD,yE,yF,yG,yH,tW,tX,yI,yJ,yK,yL,yM,tY,tZ,yN,yO,yP,yQ,yS,t9,t_,yT,yU,yV,yW,yX,ua,ub,yY,yZ,y0,y3,y4,uc,ud,y6,y8,y9,y_,za,ue,uf,zb,zd,ze,ug,uh,zf,zg,zh,ui,uj,zi,zj,zk,zl,zm,uk,um,zn,zo,zp,uo,uq,zq,zr,zt,zu,zw,ur,uu,zx,zA,zB,uv,uw,zC,zD,zE,zF,zG,ux,uy,zH,zI,zJ,uz,uA,zK,zL,zM,zN,zO,uB,uC,zP,zQ,zR,uD,uE,zS,zT,zU,uF,uG,zV,zW,zX,uH,uI,zY,zZ,uJ P,z4,z6,z7,z8,z9,z_,Aa,Ab,Ac,uK,uL,Ad,Ae,Af,uM,uN,Ag,Ah,Ai,Aj,Ak,uO,uP,Al,Am,Ao,Ap,Aq,uQ,uR,Ar,As,At,uS,uT,Au,Av,Aw,Ax,Ay,uU,uV,Az,AA,AB,AC,AD,uW,uX,AE,AF,AG,uY,uZ,AH,AI,AJ,u4,u7,AK,AL,AM,AN,AO,AQ,AR,AS,u8 P,u9,AT,AU,AV,AW,Gv,Gw,Gx,Gy,Gz,AY,AZ,GA,GB,GC,GD,GE,A2,A3,GF,GG,GH,GI,GJ,A4,A6,GK,GL,GM,GN,GO,A7,A8,GP,GQ,GR,GS,GT,A9,A_,GU,GV,GW,GX,GY,Ba,Bc,GZ,G0,G5,G6,G7,Be,Bf,G8,G9,G_,Bg,Bh,Ha,Hc,Hd,He,Hf,Bi,Bj,Hg,Hi,Hj,Bk,Bl]⟩,{}⟩
set_option maxHeartbeats 0 in
theorem Hk (w:World)(os:OsState):topGo treeTable PySem.Challenge.pw_sumcraft_k21_a_relation_made w 11 (some (.ref 6)) 12 (⟨boot_heap w.params,Array.mk [],boot_drawn,boot_toks,os⟩:Shared) (topStub PySem.Challenge.pw_sumcraft_k21_a_relation_made)=some ((⟨hp1 w.params,#[],{},187,os⟩:Shared),⟨denote treeTable cd0,cd0,{ line:=0,col:=0,endLine:=0,endCol:=0 },fr0⟩):=by kernel_rfl
set_option maxHeartbeats 0 in
theorem Hl (w:World)(os:OsState):segRun treeTable PySem.Challenge.pw_sumcraft_k21_a_relation_made w 11 (some (.ref 6)) 1 1 (⟨hp1 w.params,#[],{},187,os⟩:Shared) (blockOf (behindTheImports PySem.Challenge.pw_sumcraft_k21_a_relation_made) env0 cd0 { line:=0,col:=0,endLine:=0,endCol:=0 } fr0)=some (.next,(⟨hp1 w.params,#[],{},187,os⟩:Shared),cd0,{ line:=0,col:=0,endLine:=0,endCol:=0 }):=by kernel_rfl
noncomputable def gl3:List Stmt:=[top 0,top 1,top 2,top 3,top 4,top 5,top 6,top 7,top 8,top 9,top 10,top 11,top 12,top 13,top 14,top 15,top 16,top 17,top 18,top 19,top 20,top 21,top 22,top 23,top 24,top 25,top 26,top 27,top 28,top 29,top 30]
set_option maxHeartbeats 0 in
theorem pc3 (w:World)(os:OsState):segRun treeTable PySem.Challenge.pw_sumcraft_k21_a_relation_made w 11 (some (.ref 6)) 1 1589 (⟨hp1 w.params,#[],{},187,os⟩:Shared) (piecesOf gl3 env0 cd0 { line:=0,col:=0,endLine:=0,endCol:=0 } fr0)=some (.next,(⟨hp3 w.params,#[],{},529,os⟩:Shared),cd0,{ line:=153,col:=0,endLine:=243,endCol:=47 }):=by kernel_rfl
noncomputable def gl4:List Stmt:=[top 31,top 32,top 33,top 34,top 35,top 36,top 37,top 38,top 39,top 40,top 41]
set_option maxHeartbeats 0 in
theorem pc4 (w:World)(os:OsState):segRun treeTable PySem.Challenge.pw_sumcraft_k21_a_relation_made w 11 (some (.ref 6)) 1 322 (⟨hp3 w.params,#[],{},529,os⟩:Shared) (piecesOf gl4 env0 cd0 { line:=153,col:=0,endLine:=243,endCol:=47 } fr0)=some (.next,(⟨hp4 w.params,#[],{},627,os⟩:Shared),cd0,{ line:=319,col:=0,endLine:=341,endCol:=125 }):=by kernel_rfl
set_option maxHeartbeats 0 in
theorem Hm (w:World)(os:OsState):topRun treeTable PySem.Challenge.pw_sumcraft_k21_a_relation_made w 11 (some (.ref 6)) 2 (⟨hp4 w.params,#[],{},627,os⟩:Shared) ⟨doneF .next,cd0,{ line:=319,col:=0,endLine:=341,endCol:=125 },fr0⟩=some (⟨hp4 w.params,#[],{},627,os⟩:Shared):=by kernel_rfl
theorem Hn:behindTheImports PySem.Challenge.pw_sumcraft_k21_a_relation_made=gl3++(gl4++[]):=by kernel_rfl
theorem Ho (w:World)(os:OsState):topRun treeTable PySem.Challenge.pw_sumcraft_k21_a_relation_made w 11 (some (.ref 6)) (12+(1+(1589+(322+2)))) (⟨boot_heap w.params,Array.mk [],boot_drawn,boot_toks,os⟩:Shared) (topStub PySem.Challenge.pw_sumcraft_k21_a_relation_made)=some (⟨hp4 w.params,#[],{},627,os⟩:Shared):=
 go_top (Hk w os) (piece_block (Hl w os) (by
  rw[Hn];exact piece_app (pc3 w os) (piece_app (pc4 w os) (piece_nil (Hm w os)))))
noncomputable def KK (P:Params):Frag:=[(3,AX P),(17,tJ P),(23,tK P),(24,tL),(30,tO P),(36,tQ P),(37,tR),(45,tS),(46,tT),(52,tU),(53,tV),(59,tW),(60,tX),(66,tY),(67,tZ),(73,t9),(74,t_),(80,ua),(81,ub),(87,uc),(88,ud),(94,ue),(95,uf),(99,ug),(100,uh),(104,ui),(105,uj),(111,uk),(112,um),(116,uo),(117,uq),(123,ur),(124,uu),(128,uv),(129,uw),(135,ux),(136,uy),(140,uz),(141,uA),(147,uB),(148,uC),(152,uD),(153,uE),(157,uF),(158,uG),(162,uH),(163,uI),(166,uJ P),(176,uK),(177,uL),(181,uM),(182,uN),(188,uO),(189,uP),(195,uQ),(196,uR),(200,uS),(201,uT),(207,uU),(208,uV),(214,uW),(215,uX),(219,uY),(220,uZ),(224,u4),(225,u7),(234,u8 P),(235,u9),(245,AY),(246,AZ),(252,A2),(253,A3),(259,A4),(260,A6),(266,A7),(267,A8),(273,A9),(274,A_),(280,Ba),(281,Bc),(287,Be),(288,Bf),(292,Bg),(293,Bh),(299,Bi),(300,Bj),(304,Bk),(305,Bl)]
noncomputable def KA:List Addr:=[3,17,23,24,30,36,37,45,46,52,53,59,60,66,67,73,74,80,81,87,88,94,95,99,100,104,105,111,112,116,117,123,124,128,129,135,136,140,141,147,148,152,153,157,158,162,163,166,176,177,181,182,188,189,195,196,200,201,207,208,214,215,219,220,224,225,234,235,245,246,252,253,259,260,266,267,273,274,280,281,287,288,292,293,299,300,304,305]
noncomputable def qv:Program:=view PySem.Challenge.pw_sumcraft_k21_a_relation_made [1,2,4,5,6,7,8,10,11,12,13,15,16,17,18,19,20,21,22,24,25,26,27,28,29,30,31,33,34,35,36,37,38,39,40,41]
def xt (s:Shared):Bool:=xlAt qv [] s && recOk (PySem.Challenge.rw_sumcraft_k21_a_relation_made.row.toRowW).records s
def hk:Hook:=kHook KK KA λ_=>rfl
set_option maxHeartbeats 0 in
theorem Hq:LeftO PySem.Challenge.pw_sumcraft_k21_a_relation_made qv [] xt hk.obs hk.val 3944:=
 LeftO.of_pieces (H₀:=boot_heap) (H₁:=hp4) (gs₁:=#[]) (d₁:={}) (k₁:=627)
  (boot_open (by kernel_rfl) rfl λs=>by kernel_rfl)
  (λw=>by kernel_rfl) Ho (by kernel_rfl)
  λw=>by kernel_rfl
set_option maxHeartbeats 0 in
theorem Hr:PySem.Challenge.rw_sumcraft_k21_a_relation_made.wellSaid=true:=by kernel_rfl
set_option maxHeartbeats 0 in
theorem Hs:PySem.Challenge.rw_sumcraft_k21_a_relation_made.row.prog.bare:=⟨rfl,rfl,rfl,rfl,rfl,by decide +kernel⟩
end My
namespace L2
open PySem PySem.Spec PyProof.Rows
abbrev Key:=Sum Int Str
def jM:Key->Value->Bool
 | .inl k,v=>Value.isInt k v
 | .inr x,v=>Value.isStrOf x v
def Ht (w:World):Key->Int
 | .inl k=>hashInt k
 | .inr x=>hashStr w x
theorem iu:∀{k:Key}{v:Value},jM k v=true->(∃i t,k=Sum.inl i∧v=Value.int i t)∨(∃x t,k=Sum.inr x∧v=Value.str x t)
 | .inl i,v,h=>by
  obtain⟨t,e⟩:=Value.isInt_shape (k:=i) (v:=v) h;exact .inl ⟨i,t,rfl,e⟩
 | .inr x,v,h=>by
  obtain⟨t,e⟩:=Value.isStrOf_shape (x:=x) (v:=v) h;exact .inr ⟨x,t,rfl,e⟩
theorem Hu (i:Int)(t:Tok):jM (.inl i) (.int i t)=true:=by simp[jM,Value.isInt]
theorem Hv (x:Str)(t:Tok):jM (.inr x) (.str x t)=true:=by simp[jM,Value.isStrOf]
theorem Hw (a b:Int):decide ((Sum.inl a:Key)=Sum.inl b)=(a == b):=by
 by_cases e:a=b
 ·subst e;simp
 ·have h:¬(Sum.inl a:Key)=Sum.inl b:=λq=>e (Sum.inl.inj q);rw[decide_eq_false h];exact (beq_eq_false_iff_ne.mpr e).symm
theorem HB (a b:Str):decide ((Sum.inr a:Key)=Sum.inr b)=decide (a=b):=by
 by_cases e:a=b
 ·subst e;simp
 ·have h:¬(Sum.inr a:Key)=Sum.inr b:=λq=>e (Sum.inr.inj q);rw[decide_eq_false h,decide_eq_false e]
theorem HC (a:Int)(b:Str):decide ((Sum.inl a:Key)=Sum.inr b)=false:=decide_eq_false (λq=>nomatch q)
theorem HD (a:Str)(b:Int):decide ((Sum.inr a:Key)=Sum.inl b)=false:=decide_eq_false (λq=>nomatch q)
def iw (prog:Program)(w:World):PySem.KeyKind prog w Key where
 is:=jM
 hash:=Ht w
 inj:=λv a b ha hb=>by
  rcases iu ha with ⟨i,t,rfl,rfl⟩|⟨x,t,rfl,rfl⟩
  ·rcases iu hb with ⟨j,u,rfl,e⟩|⟨y,u,rfl,e⟩
   ·injection e with e1 _;rw[e1]
   ·exact nomatch e
  ·rcases iu hb with ⟨j,u,rfl,e⟩|⟨y,u,rfl,e⟩
   ·exact nomatch e
   ·injection e with e1 _;rw[e1]
 byValue:=λk v h=>by
  rcases iu h with ⟨i,t,rfl,rfl⟩|⟨x,t,rfl,rfl⟩ <;> rfl
 pyHash:=λhv h=>by
  rcases iu hv with ⟨i,t,rfl,rfl⟩|⟨x,t,rfl,rfl⟩
  ·exact wpAny_pyHash_int h
  ·exact wpAny_pyHash_str h
 eqBool:=λhu hv h=>by
  rcases iu hu with ⟨i,t,rfl,rfl⟩|⟨x,t,rfl,rfl⟩
  ·rcases iu hv with ⟨j,u,rfl,rfl⟩|⟨y,u,rfl,rfl⟩
   ·rw[Hw]at h;exact wpAny_eqBool_int h
   ·rw[HC]at h;exact SeqAt.EqAt.int_str i t y u _ _ _ _ h
  ·rcases iu hv with ⟨j,u,rfl,rfl⟩|⟨y,u,rfl,rfl⟩
   ·rw[HD]at h;exact SeqAt.EqAt.str_int x t j u _ _ _ _ h
   ·rw[HB]at h;exact wpAny_eqBool_str h
 «strs»:=λk x t v h=>by
  rcases iu h with ⟨i,u,rfl,e⟩|⟨y,u,rfl,e⟩
  ·exact nomatch e
  ·injection e with e1 _;subst e1
   cases v <;> rfl
theorem HE (prog:Program)(w:World)(i:Int)(t:Tok):(iw prog w).is (.inl i) (.int i t)=true:=Hu i t
theorem HF (prog:Program)(w:World)(x:Str)(t:Tok):(iw prog w).is (.inr x) (.str x t)=true:=Hv x t
end L2
namespace L2
open PySem PySem.Spec PyProof.Rows
inductive V where
 | non|bl (b:Bool)|int (i:Int)|str (x:Str)|byt (b:Array UInt8)|flt (b:UInt64)|ref (a:Addr)|ty (n:String)
 deriving DecidableEq
def RelV:V->Value->Prop
 | .non,u=>u=Value.none
 | .bl b,u=>u=Value.bool b
 | .int i,u=>∃t,u=Value.int i t
 | .str x,u=>∃t,u=Value.str x t
 | .byt b,u=>∃t,u=Value.bytes b t
 | .flt b,u=>∃t,u=Value.float b t
 | .ref a,u=>u=Value.ref a
 | .ty n,u=>u=Value.type n
abbrev Vals:List V->List Value->Prop:=Paired RelV
theorem Vals.length {xs:List V}{us:List Value}(r:Vals xs us):xs.length=us.length:=Paired.length r
theorem Vals.get:∀{xs:List V}{us:List Value}{i:Nat}{x:V},Vals xs us->xs[i]?=some x->∃u,us[i]?=some u∧RelV x u
 | _,_,_,_,.nil,e=>by simp at e
 | _,_,0,_,.cons r _,e=>by simp at e;subst e;exact⟨_,rfl,r⟩
 | _,_,i+1,x,.cons _ t,e=>by
  obtain⟨u,h1,h2⟩:=Vals.get (i:=i) (x:=x) t (by simpa using e);exact⟨u,by simpa using h1,h2⟩
theorem Vals.set {x:V}{u:Value}(r:RelV x u):∀{xs:List V}{us:List Value}(i:Nat),Vals xs us->Vals (xs.set i x) (us.set i u)
 | _,_,_,.nil=>.nil
 | _,_,0,.cons _ t=>.cons r t
 | _,_,i+1,.cons q t=>.cons q (Vals.set r i t)
theorem Vals.append:∀{xs ys:List V}{us ws:List Value},Vals xs us->Vals ys ws->Vals (xs++ys) (us++ws)
 | _,_,_,_,.nil,s=>s
 | _,_,_,_,.cons r t,s=>.cons r (Vals.append t s)
theorem Vals.take:∀{xs:List V}{us:List Value}(n:Nat),Vals xs us->Vals (xs.take n) (us.take n)
 | _,_,0,_=>.nil
 | _,_,_+1,.nil=>.nil
 | _,_,n+1,.cons r t=>.cons r (Vals.take n t)
theorem Vals.drop:∀{xs:List V}{us:List Value}(n:Nat),Vals xs us->Vals (xs.drop n) (us.drop n)
 | _,_,0,r=>r
 | _,_,_+1,.nil=>.nil
 | _,_,n+1,.cons _ t=>Vals.drop n t
def RelO:Option V->Option Value->Prop
 | some v,some u=>RelV v u
 | none,none=>True
 | _,_=>False
def KV {κ:Type}:List (κ×V)->List (κ×Value)->Prop:=Paired λ(p:κ×V) (q:κ×Value)=>p.1=q.1∧RelV p.2 q.2
def kV:Key->V
 | .inl i=>.int i
 | .inr x=>.str x
inductive HO where
  | lst (xs:List V)
  | tup (xs:List V)
  | dK (kvs:List (Key×V))|dT (kvs:List (List Key×V))
  | set (S:Int->Bool) (n:Nat)
  | ins (C dx:Addr) (fs:List (Str×V))
  | own (x:Addr)
  | xd (fs:List (Str×V))
  | met (f x:Addr)
  | rng (lo hi:Int)
  | frz (o:Obj) (u:HO)
  | tbl (ps:Array Value)
  | ext (φ:Heap->Prop)
abbrev Hp:=Addr->Option HO
def upd (H:Hp)(a:Addr)(o:HO):Hp:=λb=>if b=a then some o else H b
theorem ag {H:Hp}{a:Addr}{o:HO}:upd H a o a=some o:=by unfold upd;rw[if_pos rfl]
theorem ar {H:Hp}{a b:Addr}{o:HO}(h:b≠a):upd H a o b=H b:=by unfold upd;rw[if_neg h]
theorem HG {H:Hp}{a b:Addr}{o u:HO}(h:H a=some o)(h':H b=some u)(d:o≠u):a≠b:=by
 intro e;subst e;rw[h]at h';exact d (Option.some.inj h')
theorem dG {H:Hp}{a b:Addr}{o:HO}(h:H a=some o)(h':H b=none):a≠b:=by
 intro e;subst e;rw[h]at h';cases h'
section
variable (P:Program)(w:World)
def ObjOk (H:Hp)(h:Heap)(a:Addr):HO->Prop
 | .lst xs=>xs.length<=sizeLine∧∃(its:List Value) (n:Nat),Vals xs its∧h.get? a=some { cls:=.type "list",data:=.seq its.toArray n }
 | .tup xs=>xs.length<=sizeLine∧∃its:List Value,Vals xs its∧IsTup h a its.toArray
 | .dK kvs=>kvs.length<=sizeLine∧(a == sysModules)=false∧∃vs,KV kvs vs∧h.DictOf (iw P w) a vs
 | .dT kvs=>kvs.length<=sizeLine∧(a == sysModules)=false∧∃xs:List (List Key×Addr×Value),
   Paired (λ(p:List Key×V) (q:List Key×Addr×Value)=>p.1=q.1∧H q.2.1=some (.tup (p.1.map kV))∧RelV p.2 q.2.2) kvs xs∧
   ∃o es ep,h.get? a=some o∧o.ExactDict∧o.data=.dict es ep∧es.toList=xs.map (entryOfKey (tupleKind (iw P w)))∧(xs.map (·.1)).Nodup
 | .set S n=>h.SetOf (intKind P w) a S n
 | .ins C dx fs=>H dx=some (.own a)∧fs.length<=1000∧dx≠a∧h.get? a=some (PySem.W.instObj C dx)∧
   ∃mA,h.Ns1 dx mA∧(∀f,RelO (fs.lookup f) (mA f))∧PySem.Within mA (fs.map (·.1))
 | .own _=>∃o,h.get? a=some o
 | .xd fs=>∃mA,h.Ns1 a mA∧∀f,RelO (fs.lookup f) (mA f)
 | .rng lo hi=>∃t u v,h.get? a=some { cls:=.type "range",data:=.fields #[.int lo t,.int hi u,.int 1 v] }
 | .frz o u=>h.get? a=some o∧ObjOk H h a u
 | .tbl ps=>h.get? a=some { cls:=.none,data:=.fields ps }
 | .met f x=>h.get? a=some (PySem.W.methodObj (.ref f) (.ref x))
 | .ext φ=>φ h∧(∃o,h.get? a=some o)∧∀h1 h2:Heap,φ h1->(∀o,h1.get? a=some o->h2.get? a=some o)->φ h2
def HOk (H:Hp)(h:Heap):Prop:=∀a o,H a=some o->ObjOk P w H h a o
end
section
variable {P:Program}{w:World}{H H':Hp}{h h':Heap}{a:Addr}{o:HO}
theorem ObjOk.lt (x:ObjOk P w H h a o):a<h.objs.size:=by
 cases o with
 | lst xs=>obtain⟨_,_,_,_,e⟩:=x;exact Heap.lt_size e
 | tup xs=>obtain⟨_,_,_,p⟩:=x;exact p.lt
 | dK kvs=>obtain⟨_,_,_,_,o,_,_,e,_⟩:=x;exact Heap.lt_size e
 | dT kvs=>obtain⟨_,_,_,_,o,_,_,e,_⟩:=x;exact Heap.lt_size e
 | set S n=>obtain⟨o,_,_,_,e,_⟩:=x;exact Heap.lt_size e
 | ins C dx fs=>obtain⟨_,_,_,e,_⟩:=x;exact Heap.lt_size e
 | own y=>obtain⟨_,e⟩:=x;exact Heap.lt_size e
 | xd fs=>obtain⟨_,⟨_,_,_,e,_⟩,_⟩:=x;exact Heap.lt_size e
 | rng lo hi=>obtain⟨_,_,_,e⟩:=x;exact Heap.lt_size e
 | frz ob u=>obtain⟨e,_⟩:=x;exact Heap.lt_size e
 | tbl ps=>exact Heap.lt_size (show h.get? a=some _ from x)
 | met f y=>exact Heap.lt_size (show h.get? a=some _ from x)
 | ext φ=>obtain⟨_,⟨_,e⟩,_⟩:=x;exact Heap.lt_size e
theorem Paired.mapP {α β:Type}{F G:α->β->Prop}:∀{l₁:List α}{l₂:List β},Paired F l₁ l₂->(∀a b,F a b->G a b)->Paired G l₁ l₂
 | _,_,.nil,_=>.nil
 | _,_,.cons r t,f=>.cons (f _ _ r) (Paired.mapP t f)
theorem ObjOk.stay (x:ObjOk P w H h a o) (k:∀b u,(b=a∨H b=some (.own a))->h.get? b=some u->h'.get? b=some u)
  (ho:∀b,H b=some (.own a)->H' b=some (.own a)) (ht:∀b xs,H b=some (.tup xs)->H' b=some (.tup xs)):ObjOk P w H' h' a o:=by
 induction o with
 | lst xs=>obtain⟨z,its,n,r,e⟩:=x;exact⟨z,its,n,r,k _ _ (.inl rfl) e⟩
 | tup xs=>obtain⟨z,its,r,ob,e,c⟩:=x;exact⟨z,its,r,ob,k _ _ (.inl rfl) e,c⟩
 | dK kvs=>obtain⟨z,y,vs,r,ob,es,ep,e,c⟩:=x;exact⟨z,y,vs,r,ob,es,ep,k _ _ (.inl rfl) e,c⟩
 | dT kvs=>
  obtain⟨z,y,xs,r,ob,es,ep,e,c⟩:=x;exact⟨z,y,xs,Paired.mapP r λp q z=>⟨z.1,ht _ _ z.2.1,z.2.2⟩,ob,es,ep,k _ _ (.inl rfl) e,c⟩
 | set S n=>obtain⟨ob,es,ep,t,e,c⟩:=x;exact⟨ob,es,ep,t,k _ _ (.inl rfl) e,c⟩
 | ins C dx fs=>
  obtain⟨d,z,ne,e,mA,⟨od,es,ep,e2,c⟩,r⟩:=x;exact⟨ho _ d,z,ne,k _ _ (.inl rfl) e,mA,⟨od,es,ep,k _ _ (.inr d) e2,c⟩,r⟩
 | own y=>obtain⟨ob,e⟩:=x;exact⟨ob,k _ _ (.inl rfl) e⟩
 | xd fs=>obtain⟨mA,⟨od,es,ep,e,c⟩,r⟩:=x;exact⟨mA,⟨od,es,ep,k _ _ (.inl rfl) e,c⟩,r⟩
 | rng lo hi=>obtain⟨t,u,v,e⟩:=x;exact⟨t,u,v,k _ _ (.inl rfl) e⟩
 | frz ob u ih=>obtain⟨e,q⟩:=x;exact⟨k _ _ (.inl rfl) e,ih q⟩
 | tbl ps=>
  have e:h.get? a=some { cls:=.none,data:=.fields ps }:=x;show h'.get? a=some { cls:=.none,data:=.fields ps };exact k a _ (.inl rfl) e
 | met f y=>
  have e:h.get? a=some (PySem.W.methodObj (.ref f) (.ref y)):=x;show h'.get? a=some (PySem.W.methodObj (.ref f) (.ref y));exact k a _ (.inl rfl) e
 | ext φ=>obtain⟨p,⟨o,e⟩,st⟩:=x;exact⟨st _ _ p λo q=>k _ _ (.inl rfl) q,⟨o,k _ _ (.inl rfl) e⟩,st⟩
theorem HOk.lt (x:HOk P w H h)(e:H a=some o):a<h.objs.size:=(x a o e).lt
theorem HOk.fresh (x:HOk P w H h)(e:h.objs.size<=a):H a=none:=by
 cases q:H a with
 | none=>rfl
 | some u=>exact absurd (bZ (x.lt q) e) (ii _)
theorem HOk.kept (x:HOk P w H h)(k:∀b u,h.get? b=some u->h'.get? b=some u):HOk P w H h':=λa o e=>
 (x a o e).stay (λb u _ q=>k b u q) (λ_ q=>q) λ_ _ q=>q
theorem HOk.laid (x:HOk P w H h)(k:∀b u,h.get? b=some u->h'.get? b=some u)(hp:h.objs.size<=a)(new:ObjOk P w (upd H a o) h' a o):HOk P w (upd H a o) h':=λb u e=>by
 have hn:=x.fresh hp;by_cases hb:b=a
 ·subst hb;rw[ag]at e;cases e;exact new
 ·rw[ar hb]at e;exact (x b u e).stay (λc v _ q=>k c v q) (λc q=>by rw[ar (dG q hn)];exact q) λc xs q=>by rw[ar (dG q hn)];exact q
end
def Rd (H:Hp)(a:Addr)(u:HO):Prop:=H a=some u∨∃o,H a=some (.frz o u)
theorem Rd.ok {P:Program}{w:World}{H:Hp}{h:Heap}{a:Addr}{u:HO}(r:Rd H a u)(x:HOk P w H h):ObjOk P w H h a u:=by
 rcases r with r|⟨o,r⟩
 ·exact x a u r
 ·obtain⟨_,q⟩:=x a _ r;exact q
def Mut:Option HO->Prop
 | some (.lst _)=>True
 | some (.dK _)=>True
 | some (.dT _)=>True
 | some (.set _ _)=>True
 | some (.ins _ _ _)=>True
 | some (.ext _)=>True
 | _=>False
section
variable {P:Program}{w:World}{H:Hp}{h h':Heap}{x e:Addr}{o':HO}
theorem HOk.write (ok:HOk P w H h) (mu:Mut (H x)) (he:e=x∨H e=some (.own x)) (k:∀b u,b≠e->h.get? b=some u->h'.get? b=some u) (heo:∃u,h'.get? e=some u)
  (new:ObjOk P w (upd H x o') h' x o'):HOk P w (upd H x o') h':=λb u q=>by
 have nown:∀c y,H c=some (.own y)->c≠x:=λc y r z=>by subst z;rw[r]at mu;exact mu
 have ntup:∀c xs,H c=some (.tup xs)->c≠x:=λc xs r z=>by subst z;rw[r]at mu;exact mu
 by_cases hb:b=x
 ·subst hb;rw[ag]at q;cases q;exact new
 ·rw[ar hb]at q;by_cases hbe:b=e
  ·have q':H b=some (.own x):=by
    rcases he with z|z
    ·exact absurd (hbe.trans z) hb
    ·rw[hbe];exact z
   rw[q]at q';cases q';obtain⟨v,hv⟩:=heo;exact⟨v,by rw[hbe];exact hv⟩
  ·refine (ok b u q).stay (λc v hc r=>k c v ?_ r) (λc r=>by rw[ar (nown c b r)];exact r) λc xs r=>by rw[ar (ntup c xs r)];exact r
   rcases hc with rfl|hc
   ·exact hbe
   ·rintro rfl
    rcases he with z|z
    ·exact nown c b hc z
    ·rw[hc]at z;cases z;exact hb rfl
end
structure Un (fs ex:List Addr)(H H':Hp)(h h':Heap):Prop where
 keep:∀b o,h.get? b=some o->H b=none->b∉fs->b∉ex->h'.get? b=some o
 slot:∀b o,h.get? b=some o->H b=none->b∈fs->b∉ex->∃sl,h'.get? b=some { o with slots:=sl }
 free:∀b o,h.get? b=some o->H b=none->b∉ex->H' b=none
 there:∀b o,h.get? b=some o->b∉ex->∃o',h'.get? b=some o'
 tups:∀b xs,H b=some (.tup xs)->H' b=some (.tup xs)
 frzs:∀b o u,H b=some (.frz o u)->H' b=some (.frz o u)
 tbls:∀b ps,H b=some (.tbl ps)->∃more,H' b=some (.tbl (ps++more))
section
variable {fs fs' ex ex':List Addr}{H H1 H2:Hp}{h h1 h2 h':Heap}{a x e:Addr}{o:HO}
theorem Un.any (u:Un fs ex H H1 h h1){b:Addr}{ob:Obj}(q:h.get? b=some ob)(n:H b=none)(hx:b∉ex):∃sl,h1.get? b=some { ob with slots:=sl }:=by
 by_cases hb:b∈fs
 ·exact u.slot b ob q n hb hx
 ·exact⟨ob.slots,u.keep b ob q n hb hx⟩
theorem Un.trans (a:Un fs ex H H1 h h1)(b:Un fs ex H1 H2 h1 h2):Un fs ex H H2 h h2 where
 keep:=λc ob q n hc hx=>b.keep c ob (a.keep c ob q n hc hx) (a.free c ob q n hx) hc hx
 slot:=λc ob q n hc hx=>by
  obtain⟨sl,e1⟩:=a.slot c ob q n hc hx;obtain⟨sl',e2⟩:=b.slot c _ e1 (a.free c ob q n hx) hc hx;exact⟨sl',e2⟩
 free:=λc ob q n hx=>by
  obtain⟨o',e1⟩:=a.there c ob q hx;exact b.free c o' e1 (a.free c ob q n hx) hx
 there:=λc ob q hx=>by
  obtain⟨o',e1⟩:=a.there c ob q hx;exact b.there c o' e1 hx
 tups:=λc xs q=>b.tups c xs (a.tups c xs q)
 frzs:=λc ob xs q=>b.frzs c ob xs (a.frzs c ob xs q)
 tbls:=λc ps q=>by
  obtain⟨m1,e1⟩:=a.tbls c ps q;obtain⟨m2,e2⟩:=b.tbls c _ e1;exact⟨m1++m2,by rw[e2,Array.append_assoc]⟩
theorem Un.kept (k:∀b u,h.get? b=some u->h'.get? b=some u):Un fs ex H H h h':=
 ⟨λb ob q _ _ _=>k b ob q,λb ob q _ _ _=>⟨ob.slots,k b ob q⟩,λ_ _ _ n _=>n,λb ob q _=>⟨ob,k b ob q⟩,λ_ _ q=>q,λ_ _ _ q=>q,λ_ ps q=>⟨#[],by rw[q];simp⟩⟩
theorem Un.refl:Un fs ex H H h h:=Un.kept λ_ _ q=>q
theorem Un.laid (k:∀b u,h.get? b=some u->h'.get? b=some u)(hp:h.objs.size<=a)(hn:H a=none):Un fs ex H (upd H a o) h h' where
 keep:=λb u q _ _ _=>k b u q
 slot:=λb u q _ _ _=>⟨u.slots,k b u q⟩
 free:=λb u q n _=>by rw[ar (cJ (bZ (Heap.lt_size q) hp))];exact n
 there:=λb u q _=>⟨u,k b u q⟩
 tups:=λb xs q=>by rw[ar (dG q hn)];exact q
 frzs:=λb u xs q=>by rw[ar (dG q hn)];exact q
 tbls:=λb ps q=>⟨#[],by rw[ar (dG q hn),q];simp⟩
theorem Un.write (mu:Mut (H x))(he:e=x∨H e=some (.own x))(k:∀b u,b≠e->h.get? b=some u->h'.get? b=some u)(heo:∃u,h'.get? e=some u):Un fs ex H (upd H x o) h h':=by
 have hx:∀b,H b=none->b≠x:=λb n z=>by subst z;rw[n]at mu;exact mu
 have hb:∀b,H b=none->b≠e:=λb n z=>by
  subst z;rcases he with r|r
  ·exact hx b n r
  ·rw[n]at r;cases r
 have hm:∀b u,H b=some u->¬Mut (some u)->b≠x:=λb u q nm z=>by subst z;rw[q]at mu;exact nm mu
 refine⟨λb u q n _ _=>k b u (hb b n) q,λb u q n _ _=>⟨u.slots,k b u (hb b n) q⟩,λb u q n _=>by rw[ar (hx b n)];exact n,λb u q _=>?_,
  λb xs q=>by rw[ar (hm b _ q λz=>z)];exact q,λb u xs q=>by rw[ar (hm b _ q λz=>z)];exact q,λb ps q=>⟨#[],by rw[ar (hm b _ q λz=>z),q];simp⟩⟩
 by_cases hbe:b=e
 ·subst hbe;exact heo
 ·exact⟨u,k b u hbe q⟩
end
def trk (h:Heap)(H:Hp):List Addr:=(aD h.objs.size).filter λa=>(H a).isSome
def iy (h:Heap)(H:Hp):Heap:=PySem.W.hideAll h (trk h H)
theorem HH (h:Heap)(H:Hp):(iy h H).objs.size=h.objs.size:=PySem.W.hideAll_size _ _
theorem HI {h:Heap}{H:Hp}{b:Addr}{o:Obj}(e:h.get? b=some o)(n:H b=none):(iy h H).get? b=some o:=
 PySem.W.hideAll_get _ e λhm=>by
  have q:(H b).isSome=true:=(rB.mp hm).2;rw[n]at q;simp at q
theorem HJ {h:Heap}{H:Hp}{b:Addr}{o:Obj}(e:(iy h H).get? b=some o):h.get? b=some o∧H b=none:=by
 have e':h.get? b=some o:=PySem.W.of_hideAll (trk h H) e;refine⟨e',?_⟩
 cases q:H b with
 | none=>rfl
 | some x=>
  have hm:b∈trk h H:=rB.mpr ⟨dS.mpr (Heap.lt_size e'),by simp[q]⟩;have z:(iy h H).get? b=none:=PySem.W.hideAll_none (trk h H) hm;rw[z]at e;cases e
def HK (g h:Heap)(L:Addr):List (Addr×Obj):=(aD h.objs.size).filterMap λa=>if a=L∨(g.get? a).isSome=true then none else (h.get? a).map λo=>(a,o)
def rest (g h:Heap)(L d:Addr):List (Addr×Obj):=(HK g h L).filter λp=>decide (p.1≠d)
end L2
namespace L2
open PySem PySem.Spec PyProof.Rows
structure Mod (K:PySem.W.Frag)(mg:Str->Option Value)(base:Heap):Prop where
 kin:K.In base
 glob:base.Ns mainGlobals mg
 blt:∃mb,base.Ns builtinsNs mb∧∀x:Str,x ≠ "__name__" -> mb x=bootBuiltins x
 nolimit:base.NoLimit
structure Cx where
 prog:Program
 w:World
 K:PySem.W.Frag
 mg:Str->Option Value
 base:Heap
 A:Around
 N:List Str
 s₀:Shared
 H₀:Hp
 env:Env
 outer:List Env
 stack:List Env
 ex:List Addr
 fn:Str->Bool
 calm:Bool
 pn:List (Addr×Obj)
 xe:Value->Shared->Prop
def frs (l:List Env):List Addr:=l.filterMap (·.frame)
abbrev Cx.fs (X:Cx):List Addr:=frs X.outer
def Vis (sc:Scope)(x:Str):Prop:=sc.names.lookup x=some .local∨sc.names.lookup x=some .cell∨sc.names.lookup x=some .free
def Loc (sc:Scope)(x:Str):Prop:=sc.names.lookup x=some .local∨sc.names.lookup x=some .cell
def HL (env:Env)(h:Heap)(m:Str->Option Value)(x:Str)(u:Value):Prop:=
 (env.kindOf x=some .local∧m x=some u)∨((env.kindOf x=some .cell∨env.kindOf x=some .free)∧∃c,env.cells.lookup x=some c∧h.IsCell c (some u))
structure Cx.Ok (X:Cx):Prop where
 mod:Mod X.K X.mg X.base
 kind:X.env.scope.kind=.function
 glob:X.env.globals=mainGlobals
 blt:X.env.builtins=builtinsNs
 above:X.s₀.heap.objs.size<=X.env.locals
 inj:∀x y c,X.env.cells.lookup x=some c->X.env.cells.lookup y=some c->x=y
 has:∀x,(X.env.kindOf x=some .cell∨X.env.kindOf x=some .free)->∃c,X.env.cells.lookup x=some c
 cab:∀x c,X.fn x=true->X.env.cells.lookup x=some c->X.s₀.heap.objs.size<=c
 hd:X.calm=true->X.A.handled=none
 frames:X.A.frames=some X.stack
 stk:X.stack=X.outer∨(X.stack=X.env :: X.outer∧X.env.frame=some X.env.locals)
 exf:∀b∈X.ex,b≠X.env.locals∧∀x c,X.env.cells.lookup x=some c->c≠b
 bs:∀b o,X.base.get? b=some o->X.s₀.heap.get? b=some o∧X.H₀ b=none
 bsz:X.base.objs.size<=X.s₀.heap.objs.size
 noex:∀b o,X.base.get? b=some o->b∉X.ex
 exfs:∀b∈X.ex,b∉X.fs
 funs:X.s₀.heap.FunFrames X.base X.outer
 frf:∀b∈X.fs,X.H₀ b=none
structure Inv (X:Cx)(RQ:List (Addr×Obj))(σ:List (Option V))(H:Hp)(s:Shared):Prop where
 ok:X.Ok
 os:s.os=X.s₀.os
 bare:AllBare s.gens
 base:Un X.fs X.ex X.H₀ H X.s₀.heap s.heap
 loc:∃m,s.heap.Ns X.env.locals m∧∀(i:Nat) (x:Str) (v:V),X.N[i]?=some x->σ[i]?=some (some v)->Vis X.env.scope x->∃u,RelV v u∧HL X.env s.heap m x u
 cell:∀x c,X.env.cells.lookup x=some c->∃v,s.heap.IsCell c v
 free:H X.env.locals=none
 freeC:∀x c,X.env.cells.lookup x=some c->H c=none
 pin:∀p∈X.pn++RQ,s.heap.get? p.1=some p.2∧H p.1=none∧p.1≠X.env.locals∧p.1∉X.fs∧∀v,p.2.data≠.cell v
 hok:HOk X.prog X.w H s.heap
 len:σ.length=X.N.length
section
variable {X:Cx}{RQ:List (Addr×Obj)}{σ:List (Option V)}{H H':Hp}{s:Shared}{h':Heap}
theorem Cx.Ok.nofr (ok:X.Ok){b:Addr}{o:Obj}(e:X.base.get? b=some o):b∉X.fs:=λhb=>by
 have:=(ok.funs.mem hb).1;rw[e]at this;cases this
theorem Inv.bs (I:Inv X RQ σ H s):∀b o,X.base.get? b=some o->s.heap.get? b=some o∧H b=none:=λb o e=>
 ⟨I.base.keep b o (I.ok.bs b o e).1 (I.ok.bs b o e).2 (I.ok.nofr e) (I.ok.noex b o e),I.base.free b o (I.ok.bs b o e).1 (I.ok.bs b o e).2 (I.ok.noex b o e)⟩
theorem Inv.bk (I:Inv X RQ σ H s):∀b o,X.base.get? b=some o->s.heap.get? b=some o:=λb o e=>(I.bs b o e).1
theorem Inv.mod (I:Inv X RQ σ H s):Mod X.K X.mg X.base:=I.ok.mod
theorem Inv.kIn (I:Inv X RQ σ H s):X.K.In s.heap:=I.ok.mod.kin.keeps I.bk
theorem Inv.lt (I:Inv X RQ σ H s):X.env.locals<s.heap.objs.size:=let ⟨_,hn,_⟩:=I.loc;hn.lt
theorem Inv.sz (I:Inv X RQ σ H s):X.s₀.heap.objs.size<=s.heap.objs.size:=aP I.ok.above (b5 I.lt)
theorem Inv.nofs (I:Inv X RQ σ H s){a:Addr}(h:s.heap.objs.size<=a):a∉X.fs:=λhb=>by
 obtain⟨_,o,ho,_⟩:=I.ok.funs.mem hb;exact absurd (bZ (Heap.lt_size ho) (aP I.sz h)) (ii _)
theorem Inv.cne (I:Inv X RQ σ H s):∀x c,X.env.cells.lookup x=some c->c≠X.env.locals:=λx c e z=>by
 obtain⟨v,o,ho,hd⟩:=I.cell x c e;obtain⟨m,⟨o',es,ep,ho',hd',_⟩,_⟩:=I.loc;rw[z,ho']at ho;cases ho;rw[hd']at hd;cases hd
theorem Inv.funs (I:Inv X RQ σ H s):s.heap.FunFrames X.base X.outer:=by
 have all:∀(l:List Env),(∀b∈frs l,b∈X.fs)->X.s₀.heap.FunFrames X.base l->s.heap.FunFrames X.base l:=by
  intro l
  induction l with
  | nil=>intro _ _;trivial
  | cons env r ih=>
   intro hs hl;obtain⟨hk,⟨L,o,hf,hn,ho,hd⟩,hr⟩:=hl;have hL:L∈X.fs:=hs L (by unfold frs;rw[FR,hf];exact dw);obtain⟨sl,e⟩:=I.base.slot L o ho (I.ok.frf L hL) hL λz=>I.ok.exfs L z hL;exact⟨hk,⟨L,_,hf,hn,e,hd⟩,ih (λb hb=>hs b (by unfold frs;rw[FR,hf];exact cT _ hb)) hr⟩
 exact all X.outer (λ_ hb=>hb) I.ok.funs
theorem Inv.stack (I:Inv X RQ σ H s):s.heap.FunFrames X.base X.stack:=by
 rcases I.ok.stk with e|⟨e,hf⟩
 ·rw[e];exact I.funs
 ·rw[e];obtain⟨m,hn,_⟩:=I.loc;refine .cons (by rw[I.ok.kind];decide) hf hn ?_ I.funs;exact Heap.get?_none_of_le (aP I.ok.bsz I.ok.above)
theorem Inv.stkSub (I:Inv X RQ σ H s):∀b∈frs X.stack,b∈X.env.locals :: X.fs:=λb hb=>by
 rcases I.ok.stk with e|⟨e,hf⟩
 ·rw[e]at hb;exact cT _ hb
 ·rw[e]at hb;unfold frs at hb;rw[FR,hf]at hb;exact hb
theorem Inv.stkFree (I:Inv X RQ σ H s):∀b∈frs X.stack,H b=none:=λb hb=>by
 rcases a_.mp (I.stkSub b hb) with e|hb
 ·rw[e];exact I.free
 ·obtain⟨_,o,ho,_⟩:=I.ok.funs.mem hb;exact I.base.free b o ho (I.ok.frf b hb) λz=>I.ok.exfs b z hb
theorem Inv.step {g':Array GenState}{t':Nat}{d':Drawn}{ch:List Addr}(I:Inv X RQ σ H s)
  (hch:∀b∈ch,(b∈X.ex∨X.s₀.heap.objs.size<=b)∧b≠X.env.locals∧(∀x c,X.env.cells.lookup x=some c->c≠b)∧∀p∈X.pn++RQ,p.1≠b)
  (keep:∀b o,b≠X.env.locals->b∉X.fs->b∉ch->s.heap.get? b=some o->H b=none->h'.get? b=some o)
  (slot:∀b o,b≠X.env.locals->b∈X.fs->b∉ch->s.heap.get? b=some o->H b=none->∃sl,h'.get? b=some { o with slots:=sl }) (free:∀b o,b∉ch->s.heap.get? b=some o->H b=none->H' b=none)
  (there:∀b o,b∉ch->s.heap.get? b=some o->∃o',h'.get? b=some o')
  (tups:∀b xs,H b=some (.tup xs)->H' b=some (.tup xs)) (frzs:∀b o u,H b=some (.frz o u)->H' b=some (.frz o u)) (tbls:∀b ps,H b=some (.tbl ps)->∃more,H' b=some (.tbl (ps++more)))
  (ns:∀m,s.heap.Ns X.env.locals m->h'.Ns X.env.locals m) (hok:HOk X.prog X.w H' h') (hg:AllBare g'):
  Inv X RQ σ H' { s with heap:=h',gens:=g',drawn:=d',toks:=t' }:=by
 have neL:∀b o,X.s₀.heap.get? b=some o->b≠X.env.locals:=λb o e=>cJ (bZ (Heap.lt_size e) I.ok.above);have neC:∀b o,X.s₀.heap.get? b=some o->b∉X.ex->b∉ch:=λb o e hx hb=>by
  rcases (hch b hb).1 with z|z
  ·exact hx z
  ·exact absurd (bZ (Heap.lt_size e) z) (ii _)
 have cellK:∀x c,X.env.cells.lookup x=some c->∀v,s.heap.IsCell c v->h'.IsCell c v:=λx c e v ⟨o,ho,hd⟩=>by
  have nch:c∉ch:=λz=>(hch c z).2.2.1 x c e rfl;by_cases hc:c∈X.fs
  ·obtain⟨sl,q⟩:=slot c o (I.cne x c e) hc nch ho (I.freeC x c e);exact⟨_,q,hd⟩
  ·exact⟨o,keep c o (I.cne x c e) hc nch ho (I.freeC x c e),hd⟩
 refine⟨I.ok,I.os,hg,⟨λb o e n hb hx=>?_,λb o e n hb hx=>?_,λb o e n hx=>?_,λb o e hx=>?_,λb xs e=>tups b xs (I.base.tups b xs e),λb o xs e=>frzs b o xs (I.base.frzs b o xs e),λb ps e=>?_⟩,?_,λx c e=>?_,?_,λx c e=>?_,λp hp=>?_,hok,I.len⟩
 ·exact keep b o (neL b o e) hb (neC b o e hx) (I.base.keep b o e n hb hx) (I.base.free b o e n hx)
 ·obtain⟨sl,e1⟩:=I.base.slot b o e n hb hx;obtain⟨sl',e2⟩:=slot b _ (neL b o e) hb (neC b o e hx) e1 (I.base.free b o e n hx);exact⟨sl',e2⟩
 ·obtain⟨o',e1⟩:=I.base.there b o e hx;exact free b o' (neC b o e hx) e1 (I.base.free b o e n hx)
 ·obtain⟨o',e1⟩:=I.base.there b o e hx;exact there b o' (neC b o e hx) e1
 ·obtain⟨m1,e1⟩:=I.base.tbls b ps e;obtain⟨m2,e2⟩:=tbls b _ e1;exact⟨m1++m2,by rw[e2,Array.append_assoc]⟩
 ·obtain⟨m,hn,hl⟩:=I.loc;refine⟨m,ns m hn,λi x v e1 e2 e3=>?_⟩;obtain⟨u,r,l⟩:=hl i x v e1 e2 e3;refine⟨u,r,?_⟩;rcases l with l|⟨k,c,e,z⟩
  ·exact .inl l
  ·exact .inr ⟨k,c,e,cellK x c e _ z⟩
 ·obtain⟨v,z⟩:=I.cell x c e;exact⟨v,cellK x c e v z⟩
 ·obtain⟨m,⟨o,_,_,ho,_⟩,_⟩:=I.loc;exact free _ o (λz=>(hch _ z).2.1 rfl) ho I.free
 ·obtain⟨v,o,ho,hd⟩:=I.cell x c e;exact free c o (λz=>(hch c z).2.2.1 x c e rfl) ho (I.freeC x c e)
 ·obtain⟨e,n,ne,nf,d⟩:=I.pin p hp;have nch:p.1∉ch:=λz=>(hch p.1 z).2.2.2 p hp rfl;exact⟨keep p.1 p.2 ne nf nch e n,free p.1 p.2 nch e n,ne,nf,d⟩
theorem Inv.un {t':Nat}(I:Inv X RQ σ H s)(u:Un X.fs [] H H' s.heap h')(hok:HOk X.prog X.w H' h'):Inv X RQ σ H' { s with heap:=h',toks:=t' }:=by
 obtain⟨m,⟨o,es,ep,ho,r⟩,_⟩:=id I.loc;obtain⟨sl,hL⟩:=u.any ho I.free (by simp);exact I.step (g':=s.gens) (d':=s.drawn) (ch:=[]) (λ_ z=>nomatch z) (λb o _ hb _ e n=>u.keep b o e n hb (by simp)) (λb o _ hb _ e n=>u.slot b o e n hb (by simp)) (λb o _ e n=>u.free b o e n (by simp)) (λb o _ e=>u.there b o e (by simp)) u.tups u.frzs u.tbls (λm' hm=>by
  obtain⟨o',es',ep',ho',r'⟩:=hm;rw[ho]at ho';cases ho';exact⟨_,es',ep',hL,r'⟩) hok I.bare
theorem Inv.call {g':Array GenState}{t':Nat}{d':Drawn}{ch:List Addr}(I:Inv X RQ σ H s) (u:Un (frs X.stack) ch H H' s.heap h') (hok:HOk X.prog X.w H' h') (hg:AllBare g')
  (hch:∀b∈ch,(b∈X.ex∨X.s₀.heap.objs.size<=b)∧b≠X.env.locals∧(∀x c,X.env.cells.lookup x=some c->c≠b)∧∀p∈X.pn++RQ,p.1≠b):
  Inv X RQ σ H' { s with heap:=h',gens:=g',drawn:=d',toks:=t' }:=by
 obtain⟨m,⟨o,es,ep,ho,r⟩,_⟩:=id I.loc;obtain⟨sl,hL⟩:=u.any ho I.free λz=>(hch _ z).2.1 rfl;exact I.step (ch:=ch) hch (λb o hL hb hc e n=>u.keep b o e n (λz=>(a_.mp (I.stkSub b z)).elim hL hb) hc) (λb o _ _ hc e n=>u.any e n hc) (λb o hc e n=>u.free b o e n hc) (λb o hc e=>u.there b o e hc) u.tups u.frzs u.tbls (λm' hm=>by
  obtain⟨o',es',ep',ho',r'⟩:=hm;rw[ho]at ho';cases ho';exact⟨_,es',ep',hL,r'⟩) hok hg
theorem Inv.turned {t':Nat}{it:Addr}(I:Inv X RQ σ H s) (k:∀b o,b≠it->s.heap.get? b=some o->h'.get? b=some o) (hn:H it=none) (hL:it≠X.env.locals)
  (h1:it∈X.ex∨X.s₀.heap.objs.size<=it) (h2:∀x c,X.env.cells.lookup x=some c->c≠it) (h3:∀p∈X.pn++RQ,p.1≠it):Inv X RQ σ H { s with heap:=h',toks:=t' }:=by
 have nit:∀b u,H b=some u->b≠it:=λb u e z=>by rw[z,hn]at e;cases e
 refine I.step (g':=s.gens) (d':=s.drawn) (ch:=[it]) (λb hb=>?_) (λb o _ _ hc e _=>k b o (λz=>hc (by simp[z])) e) (λb o _ _ hc e _=>⟨o.slots,k b o (λz=>hc (by simp[z])) e⟩) (λ_ _ _ _ n=>n)
  (λb o hc e=>⟨o,k b o (λz=>hc (by simp[z])) e⟩) (λ_ _ e=>e) (λ_ _ _ e=>e) (λb ps e=>⟨#[],by rw[e];simp⟩) (λm hm=>?_) (λb u e=>?_) I.bare
 ·have e:b=it:=by simpa using hb
  subst e;exact⟨h1,hL,h2,h3⟩
 ·obtain⟨o,es,ep,ho,r⟩:=hm;exact⟨o,es,ep,k _ o (Ne.symm hL) ho,r⟩
 ·refine (I.hok b u e).stay (λc v hc q=>k c v ?_ q) (λ_ q=>q) λ_ _ q=>q;rcases hc with z|z
  ·rw[z];exact nit b u e
  ·exact nit c _ z
theorem Inv.tok (I:Inv X RQ σ H s)(t:Nat):Inv X RQ σ H { s with toks:=t }:=I.un (h':=s.heap) (t':=t) Un.refl I.hok
theorem Inv.kept {t':Nat}(I:Inv X RQ σ H s)(k:∀b u,s.heap.get? b=some u->h'.get? b=some u):Inv X RQ σ H { s with heap:=h',toks:=t' }:=I.un (Un.kept k) (I.hok.kept k)
theorem Inv.laid {a:Addr}{o:HO}{t':Nat}(I:Inv X RQ σ H s)(k:∀b u,s.heap.get? b=some u->h'.get? b=some u)(hp:s.heap.objs.size<=a)(new:ObjOk X.prog X.w (upd H a o) h' a o):
  Inv X RQ σ (upd H a o) { s with heap:=h',toks:=t' }:=I.un (Un.laid k hp (I.hok.fresh hp)) (I.hok.laid k hp new)
theorem Inv.write {x e:Addr}{o:HO}{t':Nat}(I:Inv X RQ σ H s) (mu:Mut (H x)) (he:e=x∨H e=some (.own x)) (k:∀b u,b≠e->s.heap.get? b=some u->h'.get? b=some u) (heo:∃u,h'.get? e=some u)
  (new:ObjOk X.prog X.w (upd H x o) h' x o):Inv X RQ σ (upd H x o) { s with heap:=h',toks:=t' }:=I.un (Un.write mu he k heo) (I.hok.write mu he k heo new)
theorem Inv.pins_of {pins':List (Addr×Obj)}(I:Inv X RQ σ H s)(h:∀p∈pins',s.heap.get? p.1=some p.2∧H p.1=none∧p.1≠X.env.locals∧p.1∉X.fs∧∀v,p.2.data≠.cell v):Inv X pins' σ H s:=
 ⟨I.ok,I.os,I.bare,I.base,I.loc,I.cell,I.free,I.freeC,λp hp=>(bj.mp hp).elim (λz=>I.pin p (l_ _ z)) (h p),I.hok,I.len⟩
theorem Bm {N:List Str}(hN:N.Nodup){i j:Nat}{x:Str}(a:N[i]?=some x)(b:N[j]?=some x):i=j:=by
 obtain⟨h1,e1⟩:=aU.mp a;obtain⟨h2,e2⟩:=aU.mp b;exact (List.getElem_inj hN).mp (e1.trans e2.symm)
theorem kH {M:Model}{A:Around}{E:Value->Shared->Prop}{i:Nat}{x:Str}{v:V}{u:Value}{Q:Unit->Shared->Prop}(I:Inv X RQ σ H s) (hN:X.N.Nodup) (hi:X.N[i]?=some x) (hx:Loc X.env.scope x) (r:RelV v u)
  (h:∀s',Inv X RQ (σ.set i (some v)) H s'->(∃a,Heap.SameBut a s.heap s'.heap∧(a=X.env.locals∨X.env.cells.lookup x=some a))->Q () s') (hf:X.fn x=true∨X.env.scope.names.lookup x=some .local:=by first|exact .inl rfl|exact .inr rfl|assumption):wpAny M A (storeName X.env x u) Q E s:=by
 obtain⟨m,hn,hl⟩:=id I.loc;have hcls:(X.env.scope.kind == .class || (X.env.scope.kind == .module && X.env.locals != X.env.globals))=false:=by rw[I.ok.kind];rfl
 have hiσ:i < σ.length:=by rw[I.len];exact (aU.mp hi).1
 have cne:=I.cne;have tracked:∀{a:Addr}{h':Heap},(∃o,s.heap.get? a=some o∧H a=none)->Heap.SameBut a s.heap h'->HOk X.prog X.w H h':=λ{a h'} ha hs b ob e=>by
  obtain⟨_,_,hfree⟩:=ha;refine (I.hok b ob e).stay (λc w' hc q=>(hs.2 c ?_).trans q) (λ_ q=>q) λ_ _ q=>q
  rintro rfl
  rcases hc with rfl|hc
  ·rw[hfree]at e;cases e
  ·rw[hfree]at hc;cases hc
 rcases hx with hk|hk
 ·refine wpAny_storeName_local hk hn (λh' hn' hs=>?_) hcls;obtain⟨oL,_,_,hoL,_⟩:=id hn;refine h _ ⟨I.ok,I.os,I.bare,⟨λb o e n hb hx=>?_,λb o e n hb hx=>?_,I.base.free,λb o e hx=>?_,I.base.tups,I.base.frzs,I.base.tbls⟩,⟨_,hn',λj y v' e1 e2 e3=>?_⟩,λy c e=>?_,I.free,I.freeC,λp hp=>?_,tracked ⟨oL,hoL,I.free⟩ hs,by simpa using I.len⟩ ⟨_,hs,.inl rfl⟩
  ·exact (hs.2 b (cJ (bZ (Heap.lt_size e) I.ok.above))).trans (I.base.keep b o e n hb hx)
  ·obtain⟨sl,e1⟩:=I.base.slot b o e n hb hx;exact⟨sl,(hs.2 b (cJ (bZ (Heap.lt_size e) I.ok.above))).trans e1⟩
  ·obtain⟨o',e1⟩:=I.base.there b o e hx;exact⟨o',(hs.2 b (cJ (bZ (Heap.lt_size e) I.ok.above))).trans e1⟩
  ·by_cases hj:j=i
   ·subst hj;rw[hi]at e1;cases e1;rw[kr hiσ]at e2
    cases e2
    exact⟨u,r,.inl ⟨hk,by simp⟩⟩
   ·rw[i4 (Ne.symm hj)]at e2;obtain⟨u',r',q⟩:=hl j y v' e1 e2 e3;refine⟨u',r',?_⟩;rcases q with ⟨k,e⟩|⟨k,c,e,z⟩
    ·refine .inl ⟨k,?_⟩;have:y≠x:=λe=>hj (Bm hN e1 (e ▸ hi));simp[this,e]
    ·exact .inr ⟨k,c,e,z.sameBut hs (cne y c e)⟩
  ·obtain⟨w',z⟩:=I.cell y c e;exact⟨w',z.sameBut hs (cne y c e)⟩
  ·obtain⟨e,n,ne,nf,d⟩:=I.pin p hp;exact⟨(hs.2 p.1 ne).trans e,n,ne,nf,d⟩
 ·have hfn:X.fn x=true:=by
   rcases hf with z|z
   ·exact z
   ·rw[z]at hk;cases hk
  obtain⟨c,hc⟩:=I.ok.has x (.inl hk);obtain⟨w',z⟩:=I.cell x c hc;refine wpAny_storeName_cell I.ok.kind hk hc z (λh' hc' hs=>?_);obtain⟨oc,hoc,hocd⟩:=id z;refine h { s with heap:=h' } ⟨I.ok,I.os,I.bare,⟨λb o e n hb hx=>?_,λb o e n hb hx=>?_,I.base.free,λb o e hx=>?_,I.base.tups,I.base.frzs,I.base.tbls⟩,⟨m,hn.sameBut hs (Ne.symm (cne x c hc)),λj y v' e1 e2 e3=>?_⟩,λy c' e=>?_,I.free,I.freeC,λp hp=>?_,tracked ⟨oc,hoc,I.freeC x c hc⟩ hs,by simpa using I.len⟩ ⟨c,hs,.inr hc⟩
  ·exact (hs.2 b (cJ (bZ (Heap.lt_size e) (I.ok.cab x c hfn hc)))).trans (I.base.keep b o e n hb hx)
  ·obtain⟨sl,e1⟩:=I.base.slot b o e n hb hx;exact⟨sl,(hs.2 b (cJ (bZ (Heap.lt_size e) (I.ok.cab x c hfn hc)))).trans e1⟩
  ·obtain⟨o',e1⟩:=I.base.there b o e hx;exact⟨o',(hs.2 b (cJ (bZ (Heap.lt_size e) (I.ok.cab x c hfn hc)))).trans e1⟩
  ·by_cases hj:j=i
   ·subst hj;rw[hi]at e1;cases e1;rw[kr hiσ]at e2
    cases e2
    exact⟨u,r,.inr ⟨.inl hk,c,hc,hc'⟩⟩
   ·rw[i4 (Ne.symm hj)]at e2;obtain⟨u',r',q⟩:=hl j y v' e1 e2 e3;refine⟨u',r',?_⟩;rcases q with q|⟨k,c',e,z'⟩
    ·exact .inl q
    ·refine .inr ⟨k,c',e,z'.sameBut hs ?_⟩
     rintro rfl
     exact hj (Bm hN e1 (I.ok.inj _ _ _ e hc ▸ hi))
  ·by_cases hcc:c'=c
   ·subst hcc;exact⟨_,hc'⟩
   ·obtain⟨w2,z2⟩:=I.cell y c' e;exact⟨w2,z2.sameBut hs hcc⟩
  ·obtain⟨e,n,ne,nf,d⟩:=I.pin p hp;refine⟨(hs.2 p.1 ?_).trans e,n,ne,nf,d⟩;intro q;rw[q,hoc]at e;have q':oc=p.2:=Option.some.inj e;exact d w' (by rw[←q'];exact hocd)
theorem mJ {M:Model}{A:Around}{E:Value->Shared->Prop}{i:Nat}{x:Str}{v:V}{u:Value}{Q:Unit->Shared->Prop}(I:Inv X RQ σ H s) (hN:X.N.Nodup) (hi:X.N[i]?=some x) (hx:Loc X.env.scope x) (r:RelV v u)
  (h:∀s',Inv X RQ (σ.set i (some v)) H s'->Q () s') (hf:X.fn x=true∨X.env.scope.names.lookup x=some .local:=by first|exact .inl rfl|exact .inr rfl|assumption):wpAny M A (storeName X.env x u) Q E s:=
 kH I hN hi hx r (λs' I' _=>h s' I') hf
theorem Inv.call' {s':Shared}{ch:List Addr}(I:Inv X RQ σ H s) (ho:s'.os=s.os) (u:Un (frs X.stack) ch H H' s.heap s'.heap) (hok:HOk X.prog X.w H' s'.heap) (hg:AllBare s'.gens)
  (hch:∀b∈ch,(b∈X.ex∨X.s₀.heap.objs.size<=b)∧b≠X.env.locals∧(∀x c,X.env.cells.lookup x=some c->c≠b)∧∀p∈X.pn++RQ,p.1≠b):Inv X RQ σ H' s':=by
 obtain⟨h',g',d',t',o'⟩:=s';have e:o'=s.os:=ho;subst e;exact I.call (g':=g') (t':=t') (d':=d') u hok hg hch
end
abbrev XK:=Value->Option Addr->Hp->Prop
abbrev St:=List (Option V)
abbrev VK:=V->Hp->Prop
abbrev TE:=St->Hp->VK->Prop
abbrev TT:=St->Hp->(Bool->Hp->Prop)->Prop
abbrev TA:=St->Hp->(List V->Hp->Prop)->Prop
structure Ends where
 nx:St->Hp->Prop
 rt:VK
 bk:St->Hp->Prop:=λ_ _=>False
 ct:St->Hp->Prop:=λ_ _=>False
abbrev TS:=Ends->St->Hp->Prop
def EP (X:Cx)(RQ:List (Addr×Obj))(σ:St)(Q:VK)(u:Value)(s':Shared):Prop:=∃v H',Inv X RQ σ H' s'∧RelV v u∧Q v H'
def TP (X:Cx)(RQ:List (Addr×Obj))(σ:St)(Q:Bool->Hp->Prop)(b:Bool)(s':Shared):Prop:=∃H',Inv X RQ σ H' s'∧Q b H'
def AP (X:Cx)(RQ:List (Addr×Obj))(σ:St)(Q:List V->Hp->Prop)(us:List Value)(s':Shared):Prop:=∃vs H',Inv X RQ σ H' s'∧Vals vs us∧Q vs H'
def SP (X:Cx)(RQ:List (Addr×Obj))(D:Ends)(f:Flow)(s':Shared):Prop:=
 match f with
 | .next=>∃σ' H',Inv X RQ σ' H' s'∧D.nx σ' H'
 | .brk=>∃σ' H',Inv X RQ σ' H' s'∧D.bk σ' H'
 | .cont=>∃σ' H',Inv X RQ σ' H' s'∧D.ct σ' H'
 | .ret u=>∃v σ' H',Inv X RQ σ' H' s'∧RelV v u∧D.rt v H'
def PE (X:Cx)(e:Expr)(t:TE):Prop:=
 ∀(RQ:List (Addr×Obj)) (s:Shared) (σ:St) (H:Hp) (Q:VK),Inv X RQ σ H s->t σ H Q->wpAny (model X.prog X.w) X.A (eval e X.env) (EP X RQ σ Q) X.xe s
def PT (X:Cx)(e:Expr)(t:TT):Prop:=
 ∀(RQ:List (Addr×Obj)) (s:Shared) (σ:St) (H:Hp) (Q:Bool->Hp->Prop),Inv X RQ σ H s->t σ H Q->wpAny (model X.prog X.w) X.A (isTrue e X.env (eval e X.env)) (TP X RQ σ Q) X.xe s
def PW (X:Cx)(e:Expr)(t:TT):Prop:=
 ∀(whole:Sem Value) (RQ:List (Addr×Obj)) (s:Shared) (σ:St) (H:Hp) (Q:Bool->Hp->Prop),Inv X RQ σ H s->t σ H Q->wpAny (model X.prog X.w) X.A (isTrue e X.env whole) (TP X RQ σ Q) X.xe s
theorem PW.pt {X:Cx}{e:Expr}{t:TT}(h:PW X e t):PT X e t:=h _
def PA (X:Cx)(es:List Expr)(t:TA):Prop:=
 ∀(pos:Pos) (RQ:List (Addr×Obj)) (s:Shared) (σ:St) (H:Hp) (Q:List V->Hp->Prop),Inv X RQ σ H s->t σ H Q->wpAny (model X.prog X.w) X.A (spliced (backTo pos (starEach es X.env))) (AP X RQ σ Q) X.xe s
def PS (X:Cx)(st:Stmt)(t:TS):Prop:=
 ∀(RQ:List (Addr×Obj)) (s:Shared) (σ:St) (H:Hp) (D:Ends),Inv X RQ σ H s->t D σ H->wpAny (model X.prog X.w) X.A (exec st X.env) (SP X RQ D) X.xe s
def PSs (X:Cx)(st:List Stmt)(t:TS):Prop:=
 ∀(RQ:List (Addr×Obj)) (s:Shared) (σ:St) (H:Hp) (D:Ends),Inv X RQ σ H s->t D σ H->wpAny (model X.prog X.w) X.A (execs st X.env) (SP X RQ D) X.xe s
theorem thn {α:Type}{t:Sem α}{Q Q':α->Shared->Prop}{M:Model}{A:Around}{E:Value->Shared->Prop}{s:Shared}(h:wpAny M A t Q E s)(hQ:∀a s,Q a s->Q' a s):wpAny M A t Q' E s:=wpAny_mono h hQ λ_ _ x=>x
end L2
namespace L2
open PySem PySem.Spec PyProof.Rows
section
variable {X:Cx}
theorem bin {a b:Expr}{ta tb:TE}(ha:PE X a ta) (hb:PE X b tb){RQ:List (Addr×Obj)}{s:Shared}{σ:St}{H:Hp}{R:V->V->Hp->Prop}(I:Inv X RQ σ H s) (h:ta σ H λx H1=>tb σ H1 λy H2=>R x y H2)
  {α:Type}{Q:α->Shared->Prop}{f:Value->Value->Sem α}
  (hf:∀v u s2 x y H2,Inv X RQ σ H2 s2->RelV x v->RelV y u->R x y H2->wpAny (model X.prog X.w) X.A (f v u) Q X.xe s2):
  wpAny (model X.prog X.w) X.A (eval a X.env) (λv s₁=>wpAny (model X.prog X.w) X.A (eval b X.env) (λu s₂=>wpAny (model X.prog X.w) X.A (f v u) Q X.xe s₂) X.xe s₁) X.xe s:=by
 refine thn (ha RQ s σ H _ I h) λv s1 ⟨x,H1,I1,r1,q1⟩=>?_;refine thn (hb RQ s1 σ H1 _ I1 q1) λu s2 ⟨y,H2,I2,r2,q2⟩=>?_;exact hf v u s2 x y H2 I2 r1 r2 q2
def u_ (i:Nat):TE:=λσ H Q=>∃v,σ[i]?=some (some v)∧Q v H
def tC (v:V):TE:=λ_ H Q=>Q v H
theorem HM {i:Nat}{x:Str}{pos:Pos}(hN:X.N[i]?=some x) (hv:Vis X.env.scope x) (hd:(x == ("__debug__" : Str))=false:=by decide) (hcd:(x == ("__classdict__" : Str))=false:=by decide):PE X (.Name x pos) (u_ i):=by
 intro RQ s σ H Q I h;obtain⟨v,e,h⟩:=h;obtain⟨m,hn,hl⟩:=I.loc;obtain⟨u,r,l⟩:=hl i x v hN e hv;have fin:EP X RQ σ Q u s:=⟨v,H,I,r,h⟩
 rcases l with ⟨hk,hm⟩|⟨hk,c,hc,hcell⟩
 ·exact wpAny_Name (wpAny_loadName_local I.ok.kind hk hn hm fin) hd
 ·rcases hk with hk|hk
  ·exact wpAny_Name (wpAny_loadName_cell I.ok.kind hk hc hcell fin) hd
  ·exact wpAny_Name (wpAny_loadName_free I.ok.kind hk hc hcell fin hcd) hd
theorem ai {i j pos}:PE X (.Constant (.int i) j pos) (tC (.int i)):=λ_ _ _ H _ I h=>wpAny_Constant_int ⟨.int i,H,I.tok _,⟨_,rfl⟩,h⟩
theorem jN {b j pos}:PE X (.Constant (.bool b) j pos) (tC (.bl b)):=λ_ _ _ H _ I h=>Constant_bool ⟨.bl b,H,I,rfl,h⟩
theorem df {j pos}:PE X (.Constant .none j pos) (tC .non):=λ_ _ _ H _ I h=>Constant_none ⟨.non,H,I,rfl,h⟩
theorem HN {x j pos}:PE X (.Constant (.str x) j pos) (tC (.str x)):=λ_ _ _ H _ I h=>Calls.Constant_str ⟨.str x,H,I.tok _,⟨_,rfl⟩,h⟩
def Gl (X:Cx)(x:Str):Prop:=X.env.kindOf x=some .globalImplicit
theorem mK {E:Value->Shared->Prop}{RQ:List (Addr×Obj)}{s:Shared}{σ:St}{H:Hp}{x:Str}{u:Value}{pos:Pos}{Q:Value->Shared->Prop}(I:Inv X RQ σ H s) (hg:Gl X x) (hm:X.mg x=some u) (h:Q u s)
  (hd:(x == ("__debug__" : Str))=false:=by decide):wpAny (model X.prog X.w) X.A (eval (.Name x pos) X.env) Q E s:=
 Calls.Name_function_global I.ok.kind hg (Calls.loadGlobal_global (by rw[I.ok.glob];exact I.mod.glob.keeps I.bk) hm h) hd
theorem gO {E:Value->Shared->Prop}{RQ:List (Addr×Obj)}{s:Shared}{σ:St}{H:Hp}{x:Str}{u:Value}{pos:Pos}{Q:Value->Shared->Prop}(I:Inv X RQ σ H s) (hg:Gl X x) (hm:X.mg x=none) (hv:bootBuiltins x=some u) (h:Q u s)
  (hn:x ≠ "__name__" := by decide) (hd:(x == ("__debug__" : Str))=false:=by decide):wpAny (model X.prog X.w) X.A (eval (.Name x pos) X.env) Q E s:=by
 obtain⟨mb,h1,h2⟩:=I.mod.blt;exact Calls.Name_function_global I.ok.kind hg (Calls.loadGlobal_builtin (by rw[I.ok.glob];exact I.mod.glob.keeps I.bk) hm (by rw[I.ok.blt];exact h1.keeps I.bk) ((h2 x hn).trans hv) h) hd
theorem mL {x:Str}{v:V}{u:Value}{pos:Pos}(hg:Gl X x) (hm:X.mg x=some u) (r:RelV v u) (hd:(x == ("__debug__" : Str))=false:=by decide):PE X (.Name x pos) (tC v):=
 λ_ _ _ H _ I h=>mK I hg hm ⟨v,H,I,r,h⟩ hd
theorem mO {x:Str}{v:V}{u:Value}{pos:Pos}(hg:Gl X x) (hm:X.mg x=none) (hv:bootBuiltins x=some u) (r:RelV v u) (hn:x ≠ "__name__" := by decide) (hd:(x == ("__debug__" : Str))=false:=by decide):PE X (.Name x pos) (tC v):=
 λ_ _ _ H _ I h=>gO I hg hm hv ⟨v,H,I,r,h⟩ hn hd
variable {a b:Expr}{ta tb:TE}{pos:Pos}
def PC (X:Cx)(op:CmpOp)(a b:Expr)(t:TE):Prop:=
 ∀(RQ:List (Addr×Obj)) (s:Shared) (σ:St) (H:Hp) (Q:VK),Inv X RQ σ H s->t σ H Q->
  wpAny (model X.prog X.w) X.A (eval a X.env) (λv s₁=>wpAny (model X.prog X.w) X.A (eval b X.env) (λu s₂=>wpAny (model X.prog X.w) X.A (compareOp op v u) (EP X RQ σ Q) X.xe s₂) X.xe s₁) X.xe s
theorem HP (b:Expr){op:CmpOp}(h:op≠.In)(h2:op≠.NotIn):behindInMarks op b=false:=by
 have e1:(op == CmpOp.In)=false:=by cases op <;> first|rfl|exact absurd rfl h
 have e2:(op == CmpOp.NotIn)=false:=by cases op <;> first|rfl|exact absurd rfl h2
 cases b <;> simp[behindInMarks,e1,e2]
def tB (t:TE):TT:=λσ H Q=>t σ H λx H1=>∃c,x=.bl c∧Q c H1
theorem Nz {op:CmpOp}{t:TE}(h:PC X op a b t)(h1:behindInMarks op b=false:=by first|exact HP _ (by decide) (by decide)|rfl):PT X (.Compare a [op] [b] pos) (tB t):=by
 intro RQ s σ H Q I hw;refine wpAny_isTrue_Compare1 (thn (h RQ s σ H _ I hw) λv s1 h1=>thn h1 λu s2 h2=>thn h2 λc s3 ⟨x,H1,I1,r1,q1⟩=>?_) h1;obtain⟨d,rfl,q⟩:=q1
 cases r1
 exact wpAny_truthy_bool ⟨H1,I1,q⟩
theorem jO {e:Expr}{t:TE}(h:PE X e t)(he:∀whole,isTrue e X.env whole=(do let v ←whole;standAt e.pos;holding [v] (truthy v)):=by intro _;rfl):PT X e (tB t):=by
 intro RQ s σ H Q I hw;refine isTrue_plain (thn (h RQ s σ H _ I hw) λv s1 ⟨x,H1,I1,r1,q1⟩=>?_) (he _);obtain⟨d,rfl,q⟩:=q1
 cases r1
 exact wpAny_truthy_bool ⟨H1,I1,q⟩
variable {tA tB':TT}{rest:List Expr}
def Bn (t u:TT):TT:=λσ H Q=>t σ H λc H1=>if c=true then u σ H1 Q else Q false H1
def tOr (t u:TT):TT:=λσ H Q=>t σ H λc H1=>if c=true then Q true H1 else u σ H1 Q
def Bo (t:TT):TT:=λσ H Q=>t σ H λc H1=>Q (!c) H1
theorem jP (ha:PT X a tA):PW X (.BoolOp .And [a] pos) tA:=by
 intro wh RQ s σ H Q I h;refine isTrue_and (thn (ha RQ s σ H Q I h) λc s1 e=>?_)
 cases c with
 | true=>exact isTrue_and_nil e
 | false=>exact e
theorem jQ (ha:PT X a tA):PW X (.BoolOp .Or [a] pos) tA:=by
 intro wh RQ s σ H Q I h;refine isTrue_or (thn (ha RQ s σ H Q I h) λc s1 e=>?_)
 cases c with
 | false=>exact isTrue_or_nil e
 | true=>exact e
theorem jR (ha:PT X a tA)(hb:PW X (.BoolOp .And (b :: rest) pos) tB'):PW X (.BoolOp .And (a :: b :: rest) pos) (Bn tA tB'):=by
 intro wh RQ s σ H Q I h;refine isTrue_and (thn (ha RQ s σ H _ I h) λc s1 ⟨H1,I1,q1⟩=>?_)
 cases c with
 | true=>exact hb wh RQ s1 σ H1 Q I1 q1
 | false=>exact⟨H1,I1,q1⟩
theorem jf (ha:PT X a tA)(hb:PW X (.BoolOp .Or (b :: rest) pos) tB'):PW X (.BoolOp .Or (a :: b :: rest) pos) (tOr tA tB'):=by
 intro wh RQ s σ H Q I h;refine isTrue_or (thn (ha RQ s σ H _ I h) λc s1 ⟨H1,I1,q1⟩=>?_)
 cases c with
 | true=>exact⟨H1,I1,q1⟩
 | false=>exact hb wh RQ s1 σ H1 Q I1 q1
theorem mQ (ha:PT X a tA):PT X (.UnaryOp .Not a pos) (Bo tA):=by
 intro RQ s σ H Q I h;exact isTrue_not (ha RQ s σ H (λc H1=>Q (!c) H1) I h)
def Br (ta tb:TE):TE:=λσ H Q=>ta σ H λx H1=>∃c,x=.bl c∧if c=true then tb σ H1 Q else Q (.bl false) H1
def HQ (ta tb:TE):TE:=λσ H Q=>ta σ H λx H1=>∃c,x=.bl c∧if c=true then Q (.bl true) H1 else tb σ H1 Q
def HR (ta:TE):TE:=λσ H Q=>ta σ H λx H1=>∃c,x=.bl c∧Q (.bl (!c)) H1
theorem HS {op}{t:TE}(h:PE X a t):PE X (.BoolOp op [a] pos) t:=λRQ s σ H Q I hw=>BoolOp_one (h RQ s σ H Q I hw)
theorem Bs (ha:PE X a ta)(hb:PE X (.BoolOp .And (b :: rest) pos) tb):PE X (.BoolOp .And (a :: b :: rest) pos) (Br ta tb):=by
 intro RQ s σ H Q I h;refine BoolOp_and (thn (ha RQ s σ H _ I h) λv s1 ⟨x,H1,I1,r1,q1⟩=>?_);obtain⟨c,rfl,q1⟩:=q1
 cases r1
 refine wpAny_truthy_bool ?_
 cases c with
 | true=>exact hb RQ s1 σ H1 Q I1 q1
 | false=>exact⟨.bl false,H1,I1,rfl,q1⟩
def tIf (t:TT)(ta tb:TE):TE:=λσ H Q=>t σ H λc H1=>if c=true then ta σ H1 Q else tb σ H1 Q
theorem Bt {c:Expr}(hc:PT X c tA)(ha:PE X a ta)(hb:PE X b tb):PE X (.IfExp c a b pos) (tIf tA ta tb):=by
 intro RQ s σ H Q I h;refine wpAny_IfExp (thn (hc RQ s σ H _ I h) λd s1 ⟨H1,I1,q1⟩=>?_)
 cases d with
 | true=>exact ha RQ s1 σ H1 Q I1 q1
 | false=>exact hb RQ s1 σ H1 Q I1 q1
end
end L2
namespace L2
open PySem PySem.Spec PyProof.Rows
def SqL (K:PySem.W.Frag)(H:Hp)(a:Addr)(xs:List V):Prop:=
 Rd H a (.lst xs)∨
  ∃(o:Obj) (its:Array Value) (n:Nat),K.lookup a=some o∧o.cls=.type "list" ∧ o.dict=none∧o.data=.seq its n∧its.size<=sizeLine∧Vals xs its.toList
def SqT (K:PySem.W.Frag)(H:Hp)(a:Addr)(xs:List V):Prop:=
 Rd H a (.tup xs)∨
  ∃(o:Obj) (its:Array Value) (n:Nat),K.lookup a=some o∧o.cls=.type "tuple" ∧ o.data=.seq its n∧its.size<=sizeLine∧Vals xs its.toList
def HU:Value->Option V
 | .none=>some .non
 | .bool b=>some (.bl b)
 | .int i _=>some (.int i)
 | .str x _=>some (.str x)
 | .bytes b _=>some (.byt b)
 | .float b _=>some (.flt b)
 | .ref a=>some (.ref a)
 | .type n=>some (.ty n)
 | _=>none
theorem RelV.abs {x:V}{u:Value}(r:RelV x u):HU u=some x:=by
 cases x with
 | non=>cases r;rfl
 | bl _=>cases r;rfl
 | int _=>obtain⟨t,rfl⟩:=r;rfl
 | str _=>obtain⟨t,rfl⟩:=r;rfl
 | byt _=>obtain⟨t,rfl⟩:=r;rfl
 | flt _=>obtain⟨t,rfl⟩:=r;rfl
 | ref _=>cases r;rfl
 | ty _=>cases r;rfl
theorem RelV.inj {x y:V}{u:Value}(r:RelV x u)(q:RelV y u):x=y:=Option.some.inj (r.abs.symm.trans q.abs)
theorem Vals.inj:∀{xs ys:List V}{us:List Value},Vals xs us->Vals ys us->xs=ys
 | _,_,_,.nil,.nil=>rfl
 | _,_,_,.cons r t,.cons r' t'=>by rw[r.inj r',Vals.inj t t']
section
variable {X:Cx}{RQ:List (Addr×Obj)}{σ:St}{H:Hp}{s:Shared}{a:Addr}{xs ys:List V}
theorem SqL.of {K:PySem.W.Frag}(h:H a=some (.lst xs)):SqL K H a xs:=.inl (.inl h)
theorem SqT.of {K:PySem.W.Frag}(h:H a=some (.tup xs)):SqT K H a xs:=.inl (.inl h)
theorem Inv.list (I:Inv X RQ σ H s)(h:SqL X.K H a xs):∃its:List Value,Vals xs its∧PlainL s.heap a its.toArray∧xs.length<=sizeLine:=by
 rcases h with h|⟨o,its,n,hk,hc,hd,hs,hz,r⟩
 ·obtain⟨z,its,n,r,e⟩:=h.ok I.hok;exact⟨its,r,⟨_,n,e,rfl,rfl,rfl⟩,z⟩
 ·refine⟨its.toList,r,⟨o,n,I.kIn a o hk,hc,hd,by simpa using hs⟩,?_⟩;have e:=r.length;simp only[Array.length_toList]at e;omega
theorem Inv.tuple (I:Inv X RQ σ H s)(h:SqT X.K H a xs):∃its:List Value,Vals xs its∧IsTup s.heap a its.toArray∧xs.length<=sizeLine:=by
 rcases h with h|⟨o,its,n,hk,hc,hs,hz,r⟩
 ·obtain⟨z,its,r,p⟩:=h.ok I.hok;exact⟨its,r,p,z⟩
 ·refine⟨its.toList,r,⟨o,I.kIn a o hk,hc,n,by simpa using hs⟩,?_⟩;have e:=r.length;simp only[Array.length_toList]at e;omega
theorem Inv.list_inj (I:Inv X RQ σ H s)(h:SqL X.K H a xs)(h':SqL X.K H a ys):xs=ys:=by
 obtain⟨its,r,⟨o,n,e,_,_,d⟩,_⟩:=I.list h;obtain⟨its',r',⟨o',n',e',_,_,d'⟩,_⟩:=I.list h';rw[e]at e';cases e';rw[d]at d';injection d' with d1 _;have:its=its':=by simpa using congrArg Array.toList d1
 subst this;exact r.inj r'
end
abbrev Cx.wish (X:Cx) (E:Value->Shared->Prop):Cx:={ X with xe:=E }
abbrev Cx.nox (X:Cx):Cx:=X.wish λ_ _=>False
theorem Cx.Ok.wish {X:Cx}(ok:X.Ok)(E:Value->Shared->Prop):(X.wish E).Ok:=
 ⟨ok.mod,ok.kind,ok.glob,ok.blt,ok.above,ok.inj,ok.has,ok.cab,ok.hd,ok.frames,ok.stk,ok.exf,ok.bs,ok.bsz,ok.noex,ok.exfs,ok.funs,ok.frf⟩
theorem Cx.Ok.unwish {X:Cx}{E:Value->Shared->Prop}(ok:(X.wish E).Ok):X.Ok:=
 ⟨ok.mod,ok.kind,ok.glob,ok.blt,ok.above,ok.inj,ok.has,ok.cab,ok.hd,ok.frames,ok.stk,ok.exf,ok.bs,ok.bsz,ok.noex,ok.exfs,ok.funs,ok.frf⟩
section
variable {X:Cx}{RQ:List (Addr×Obj)}{σ:St}{H:Hp}{s:Shared}{E:Value->Shared->Prop}
theorem Inv.wish (I:Inv X RQ σ H s)(E:Value->Shared->Prop):Inv (X.wish E) RQ σ H s:=⟨I.ok.wish E,I.os,I.bare,I.base,I.loc,I.cell,I.free,I.freeC,I.pin,I.hok,I.len⟩
theorem Inv.unwish (I:Inv (X.wish E) RQ σ H s):Inv X RQ σ H s:=⟨I.ok.unwish,I.os,I.bare,I.base,I.loc,I.cell,I.free,I.freeC,I.pin,I.hok,I.len⟩
theorem SP.unwish {D:Ends}{f:Flow}{s':Shared}(h:SP (X.wish E) RQ D f s'):SP X RQ D f s':=by
 cases f with
 | next=>obtain⟨σ',H',I,q⟩:=h;exact⟨σ',H',I.unwish,q⟩
 | brk=>obtain⟨σ',H',I,q⟩:=h;exact⟨σ',H',I.unwish,q⟩
 | cont=>obtain⟨σ',H',I,q⟩:=h;exact⟨σ',H',I.unwish,q⟩
 | ret u=>obtain⟨v,σ',H',I,r,q⟩:=h;exact⟨v,σ',H',I.unwish,r,q⟩
theorem PT.nox {e:Expr}{t:TT}(h:PT X.nox e t):PT X e t:=λRQ s σ H Q I hw=>
 wpAny_mono (h RQ s σ H Q (I.wish _) hw) (λ_ _ ⟨H',I',q⟩=>⟨H',I'.unwish,q⟩) λ_ _ z=>False.elim z
theorem PSs.nox {st:List Stmt}{t:TS}(h:PSs X.nox st t):PSs X st t:=λRQ s σ H D I hw=>
 wpAny_mono (h RQ s σ H D (I.wish _) hw) (λ_ _ q=>q.unwish) λ_ _ z=>False.elim z
end
section
variable {X:Cx}{st:Stmt}{rest:List Stmt}{t u:TS}{e:Expr}{te:TE}{pos:Pos}
def Bu:TS:=λD σ H=>D.nx σ H
def Bv (t u:TS):TS:=λD σ H=>t { D with nx:=u D } σ H
theorem b4:PSs X [] Bu:=λ_ _ σ H _ I h=>wpAny_execs_nil ⟨σ,H,I,h⟩
theorem ah (h1:PS X st t)(h2:PSs X rest u):PSs X (st :: rest) (Bv t u):=by
 intro RQ s σ H D I h;refine wpAny_execs_cons (thn (h1 RQ s σ H { D with nx:=u D } I h) λf s1 q=>?_)
 cases f with
 | next=>
  obtain⟨σ',H',I',q⟩:=q;exact h2 RQ s1 σ' H' D I' q
 | ret v=>exact q
 | brk=>exact q
 | cont=>exact q
theorem ao (h1:PS X st t):PSs X [st] t:=by
 intro RQ s σ H D I h;refine wpAny_execs_cons (thn (h1 RQ s σ H D I h) λf s1 q=>?_)
 cases f with
 | next=>exact wpAny_execs_nil q
 | ret v=>exact q
 | brk=>exact q
 | cont=>exact q
def HV:TS:=λD σ H=>D.bk σ H
def Bw:TS:=λD σ H=>D.ct σ H
theorem HW:PS X (.Continue pos) Bw:=λ_ _ σ H _ I h=>wpAny_Continue ⟨σ,H,I,h⟩
theorem Inv.quiet {RQ:List (Addr×Obj)}{σ:St}{H:Hp}{s:Shared}(I:Inv X RQ σ H s):interactive X.env=false:=by simp[interactive,I.ok.kind]
def Bx (te:TE):TS:=λD σ H=>te σ H λ_ H1=>D.nx σ H1
theorem e7 (he:PE X e te)(hs:swapsWith e none pos.line X.env=pure false:=by rfl):PS X (.Expr e pos) (Bx te):=by
 intro RQ s σ H D I h;exact wpAny_Expr_any (thn (he RQ s σ H _ I h) λv s1 ⟨x,H1,I1,r1,q1⟩=>⟨σ,H1,I1,q1⟩) I.quiet hs
def By (te:TE):TS:=λD σ H=>te σ H D.rt
theorem aM (he:PE X e te):PS X (.Return (some e) pos) (By te):=by
 intro RQ s σ H D I h;exact wpAny_Return_some (thn (he RQ s σ H _ I h) λv s1 ⟨x,H1,I1,r1,q1⟩=>⟨x,σ,H1,I1,r1,q1⟩)
def HX:TS:=λD _ H=>D.rt .non H
def Bz (c:TT)(t u:TS):TS:=λD σ H=>c σ H λb H1=>if b=true then t D σ H1 else u D σ H1
theorem bY {c:Expr}{a b:List Stmt}{tc:TT}(hc:PT X c tc)(ha:PSs X a t)(hb:PSs X b u):PS X (.If c a b pos) (Bz tc t u):=by
 intro RQ s σ H D I h;refine wpAny_If (thn (hc RQ s σ H _ I h) λd s1 ⟨H1,I1,q1⟩=>?_)
 cases d with
 | true=>exact ha RQ s1 σ H1 D I1 q1
 | false=>exact hb RQ s1 σ H1 D I1 q1
end
abbrev TG:=V->St->Hp->(St->Hp->Prop)->Prop
abbrev TGs:=List V->St->Hp->(St->Hp->Prop)->Prop
def PG (X:Cx)(target:Expr)(t:TG):Prop:=
 ∀(RQ:List (Addr×Obj)) (s:Shared) (σ:St) (H:Hp) (v:V) (u:Value) (Q:St->Hp->Prop),Inv X RQ σ H s->RelV v u->t v σ H Q->
  wpAny (model X.prog X.w) X.A (assign target X.env u) (λ_ s'=>∃σ' H',Inv X RQ σ' H' s'∧Q σ' H') X.xe s
def PGs (X:Cx)(ts:List Expr)(t:TGs):Prop:=
 ∀(RQ:List (Addr×Obj)) (s:Shared) (σ:St) (H:Hp) (vs:List V) (us:List Value) (Q:St->Hp->Prop),Inv X RQ σ H s->Vals vs us->t vs σ H Q->
  wpAny (model X.prog X.w) X.A (assignInOrder ((assignEach ts X.env).map (·.2)) us) (λ_ s'=>∃σ' H',Inv X RQ σ' H' s'∧Q σ' H') X.xe s
abbrev jg:=V->V->V->Hp->(Hp->Prop)->Prop
def vc (X:Cx)(t:jg):Prop:=
 ∀(RQ:List (Addr×Obj)) (s:Shared) (σ:St) (H:Hp) (o i v:V) (ov iv u:Value) (Q:Hp->Prop),Inv X RQ σ H s->RelV o ov->RelV i iv->RelV v u->t o i v H Q->
  wpAny (model X.prog X.w) X.A (setItem ov iv u) (λ_ s'=>∃H',Inv X RQ σ H' s'∧Q H') X.xe s
abbrev TIp:=V->V->Hp->VK->Prop
def PIp (X:Cx)(op:Operator)(t:TIp):Prop:=
 ∀(RQ:List (Addr×Obj)) (s:Shared) (σ:St) (H:Hp) (x y:V) (v u:Value) (Q:VK),Inv X RQ σ H s->RelV x v->RelV y u->t x y H Q->
  wpAny (model X.prog X.w) X.A (inplaceOp op v u) (EP X RQ σ Q) X.xe s
section
variable {X:Cx}{pos:Pos}
def fU (i:Nat):TG:=λv σ H Q=>Q (σ.set i (some v)) H
theorem bN {i:Nat}{x:Str}(hN:X.N.Nodup)(hi:X.N[i]?=some x)(hx:Loc X.env.scope x)(hf:X.fn x=true∨X.env.scope.names.lookup x=some .local:=by first|exact .inl rfl|exact .inr rfl|assumption):PG X (.Name x pos) (fU i):=by
 intro RQ s σ H v u Q I r h;exact wpAny_assign_Name (mJ I hN hi hx r (λs' I'=>⟨_,H,I',h⟩) hf)
def ve:TGs:=λvs σ H Q=>vs=[]∧Q σ H
def mR (t:TG)(u:TGs):TGs:=λvs σ H Q=>∃v r,vs=v :: r∧t v σ H λσ' H'=>u r σ' H' Q
theorem gQ:PGs X [] ve:=by
 intro RQ s σ H vs us Q I r h;obtain⟨e,h⟩:=h;subst e
 cases r
 exact assignInOrder_nil ⟨σ,H,I,h⟩
theorem dZ {e:Expr}{es:List Expr}{t:TG}{u:TGs}(h1:PG X e t) (h2:PGs X es u)
  (hs:(assignEach (e :: es) X.env).map (·.2)=assign e X.env :: (assignEach es X.env).map (·.2):=by rfl):PGs X (e :: es) (mR t u):=by
 intro RQ s σ H vs us Q I r h;obtain⟨v,vr,e1,h⟩:=h;subst e1
 cases r with
 | cons r rr=>
  rw[hs];refine assignInOrder_cons (thn (h1 RQ s σ H _ _ _ I r h) λ_ s1 ⟨σ1,H1,I1,q1⟩=>?_);exact h2 RQ s1 σ1 H1 _ _ Q I1 rr q1
def vg (K:PySem.W.Frag)(n:Nat)(t:TGs):TG:=λv σ H Q=>∃a xs,v=.ref a∧SqT K H a xs∧xs.length=n∧t xs σ H Q
theorem gS {es:List Expr}{k:Nat}{t:TGs}{n:Nat}(hc:X.calm=true) (h:PGs X es t)
  (hn:(assignEach es X.env).length=n:=by rfl) (hst:(assignEach es X.env).findIdx? (·.1)=none:=by rfl):PG X (.Tuple es k pos) (vg X.K n t):=by
 intro RQ s σ H v u Q I r hw;obtain⟨a,xs,e1,hq,hl,hw⟩:=hw;subst e1
 cases r
 obtain⟨its,rv,ht,hz⟩:=I.tuple hq;refine assign_Tuple_tuple (I.ok.hd hc) ht (by simp[hn,←hl,rv.length]) hst λh' hx=>?_;have I1:Inv X RQ σ H { s with heap:=h' }:=I.kept (t':=s.toks) λb o e=>hx b o (cJ (Heap.lt_size e)) e;exact h RQ _ σ H xs _ Q I1 (by simpa using rv) hw
def BA (to ti:TE)(t:jg):TG:=λv σ H Q=>to σ H λo H1=>ti σ H1 λi H2=>t o i v H2 λH3=>Q σ H3
theorem iz {o i:Expr}{to ti:TE}{t:jg}(ho:PE X o to) (hi:PE X i ti) (hs:vc X t)
  (ha:∀v,assign (.Subscript o i pos) X.env v=(do
   let ov ←holding [v] (eval o X.env)
   let iv ←holding [v,ov] (eval i X.env)
   standAt pos
   holding [v,ov,iv] (setItem ov iv v)
   release [v,ov,iv] []):=by intro _;rfl):PG X (.Subscript o i pos) (BA to ti t):=by
 intro RQ s σ H v u Q I r h;rw[ha];refine wpAny_bind (wpAny_holding (thn (ho RQ s σ H _ I h) λov s1 ⟨x,H1,I1,r1,q1⟩=>?_));refine wpAny_bind (wpAny_holding (thn (hi RQ s1 σ H1 _ I1 q1) λiv s2 ⟨y,H2,I2,r2,q2⟩=>?_));refine wpAny_bind (wpAny_standAt (wpAny_bind (wpAny_holding (thn (hs RQ s2 σ H2 x y v ov iv u _ I2 r1 r2 r q2) λ_ s3 ⟨H3,I3,q3⟩=>?_))));exact wpAny_release ⟨σ,H3,I3,q3⟩
def jh (te:TE)(g:TG):TS:=λD σ H=>te σ H λx H1=>g x σ H1 D.nx
theorem iA {tg e:Expr}{te:TE}{g:TG}(he:PE X e te) (hg:PG X tg g) (hs:swapsWithSole [tg] e pos.line X.env=pure false:=by rfl) (hw:swappedStores [tg] e X.env=pure none:=by rfl)
  (h1:(assignEach [tg] X.env).map (·.2)=[assign tg X.env]:=by rfl):PS X (.Assign [tg] e pos) (jh te g):=by
 intro RQ s σ H D I h;refine wpAny_Assign_stores (thn (he RQ s σ H _ I h) λv s1 ⟨x,H1,I1,r1,q1⟩=>?_) hs hw;rw[h1];exact thn (hg RQ s1 σ H1 x v _ I1 r1 q1) λ_ s2 q=>q
theorem ax {i:Nat}{x:Str}{e:Expr}{te:TE}{pos':Pos}(hN:X.N.Nodup)(hi:X.N[i]?=some x)(hx:Loc X.env.scope x)(he:PE X e te)(hs:swapsWith e (some (.Name x pos')) pos.line X.env=pure false:=by rfl)(hf:X.fn x=true∨X.env.scope.names.lookup x=some .local:=by first|exact .inl rfl|exact .inr rfl|assumption):
  PS X (.Assign [.Name x pos'] e pos) (jh te (fU i)):=by
 intro RQ s σ H D I h;refine wpAny_Assign_Name (thn (he RQ s σ H _ I h) λv s1 ⟨y,H1,I1,r1,q1⟩=>?_) hs;exact mJ I1 hN hi hx r1 (λs2 I2=>⟨_,H1,I2,q1⟩) hf
def BB (i:Nat)(te:TE)(ti:TIp):TS:=λD σ H=>∃x,σ[i]?=some (some x)∧te σ H λy H1=>ti x y H1 λz H2=>D.nx (σ.set i (some z)) H2
theorem vi {i:Nat}{x:Str}{e:Expr}{te:TE}{op:Operator}{ti:TIp}{pos':Pos}(hN:X.N.Nodup)(hi:X.N[i]?=some x)(hx:Loc X.env.scope x)(he:PE X e te)(ho:PIp X op ti)(hf:X.fn x=true∨X.env.scope.names.lookup x=some .local:=by first|exact .inl rfl|exact .inr rfl|assumption):
  PS X (.AugAssign (.Name x pos') op e pos) (BB i te ti):=by
 intro RQ s σ H D I h;obtain⟨v,e1,h⟩:=h;obtain⟨m,hn,hl⟩:=I.loc;have vis:Vis X.env.scope x:=by rcases hx with k|k;exact .inl k;exact .inr (.inl k)
 obtain⟨u,r,l⟩:=hl i x v hi e1 vis;refine wpAny_AugAssign_Name ?_;have go:wpAny (model X.prog X.w) X.A (eval e X.env) (λw s₂=>wpAny (model X.prog X.w) X.A (inplaceOp op u w) (λr s₃=>wpAny (model X.prog X.w) X.A (storeName X.env x r) (λ_=>SP X RQ D .next) X.xe s₃) X.xe s₂) X.xe s:=by
  refine thn (he RQ s σ H _ I h) λw s1 ⟨y,H1,I1,r1,q1⟩=>?_;refine thn (ho RQ s1 σ H1 v y u w _ I1 r r1 q1) λz s2 ⟨zv,H2,I2,r2,q2⟩=>?_;exact mJ I2 hN hi hx r2 (λs3 I3=>⟨_,H2,I3,q2⟩) hf
 rcases l with ⟨hk,hm⟩|⟨hk,c,hc,hcell⟩
 ·exact wpAny_loadName_local I.ok.kind hk hn hm go
 ·rcases hk with hk|hk
  ·exact wpAny_loadName_cell I.ok.kind hk hc hcell go
  ·rcases hx with k|k
   ·have:X.env.scope.names.lookup x=some .free:=hk;rw[k]at this;cases this
   ·have:X.env.scope.names.lookup x=some .free:=hk;rw[k]at this;cases this
def BC (to ti te:TE)(tget:V->V->Hp->VK->Prop)(tip:TIp)(tset:jg):TS:=λD σ H=>to σ H λo H1=>ti σ H1 λi H2=>tget o i H2 λx H3=>te σ H3 λy H4=>tip x y H4 λz H5=>tset o i z H5 λH6=>D.nx σ H6
def BD (X:Cx)(t:V->V->Hp->VK->Prop):Prop:=
 ∀(RQ:List (Addr×Obj)) (s:Shared) (σ:St) (H:Hp) (o i:V) (ov iv:Value) (Q:VK),Inv X RQ σ H s->RelV o ov->RelV i iv->t o i H Q->
  wpAny (model X.prog X.w) X.A (getItem ov iv) (EP X RQ σ Q) X.xe s
theorem vj {o i e:Expr}{to ti te:TE}{tget:V->V->Hp->VK->Prop}{tip:TIp}{tset:jg}{op:Operator}{tpos:Pos}(ho:PE X o to) (hi:PE X i ti) (hg:BD X tget) (he:PE X e te) (hp:PIp X op tip) (hs:vc X tset)
  (ha:∀ov iv new,augStore i ov iv new=(do holding [new,ov,iv] (setItem ov iv new);release [new,ov,iv] [];pure .next):=by intros;rfl):PS X (.AugAssign (.Subscript o i tpos) op e pos) (BC to ti te tget tip tset):=by
 intro RQ s σ H D I h;refine wpAny_AugAssign_SubscriptAny (thn (ho RQ s σ H _ I h) λov s1 ⟨x1,H1,I1,r1,q1⟩=>?_) ha;refine thn (hi RQ s1 σ H1 _ I1 q1) λiv s2 ⟨x2,H2,I2,r2,q2⟩=>?_;refine thn (hg RQ s2 σ H2 x1 x2 ov iv _ I2 r1 r2 q2) λold s3 ⟨x3,H3,I3,r3,q3⟩=>?_;refine thn (he RQ s3 σ H3 _ I3 q3) λv s4 ⟨x4,H4,I4,r4,q4⟩=>?_;refine thn (hp RQ s4 σ H4 x3 x4 old v _ I4 r3 r4 q4) λnew s5 ⟨x5,H5,I5,r5,q5⟩=>?_;exact thn (hs RQ s5 σ H5 x1 x2 x5 ov iv new _ I5 r1 r2 r5 q5) λ_ s6 ⟨H6,I6,q6⟩=>⟨σ,H6,I6,q6⟩
def ipI (f:Int->Int->Int):TIp:=λx y H Q=>∃i j,x=.int i∧y=.int j∧Q (.int (f i j)) H
theorem vm:PIp X .Add (ipI λi j=>i+j):=by
 intro RQ s σ H x y v u Q I r1 r2 h;obtain⟨i,j,e1,e2,q⟩:=h;subst e1;subst e2;obtain⟨t,rfl⟩:=r1;obtain⟨t',rfl⟩:=r2;exact iadd_int ⟨.int _,H,I.tok _,⟨_,rfl⟩,q⟩
theorem vn:PIp X .Sub (ipI λi j=>i-j):=by
 intro RQ s σ H x y v u Q I r1 r2 h;obtain⟨i,j,e1,e2,q⟩:=h;subst e1;subst e2;obtain⟨t,rfl⟩:=r1;obtain⟨t',rfl⟩:=r2;exact isub_int ⟨.int _,H,I.tok _,⟨_,rfl⟩,q⟩
end
section
variable {X:Cx}{pos:Pos}
def BE (c:TT)(tb:TS):TS:=λD σ H=>∃W:Nat->St->Hp->Prop,(∃m,W m σ H)∧∀m σ H,W m σ H->
 c σ H λb H1=>if b=true then ∃N:St->Hp->Prop,(∀σ' H',N σ' H'->∃m',m'<m∧W m' σ' H')∧tb { D with nx:=N,ct:=N,bk:=D.nx } σ H1 else D.nx σ H1
theorem ga {c:Expr}{body:List Stmt}{tc:TT}{tb:TS}(hp:PassesOwn (model X.prog X.w) X.A X.env X.xe)(hc:PT X c tc)(hb:PSs X body tb):PS X (.While c body [] pos) (BE tc tb):=by
 intro RQ s σ H D I h;obtain⟨W,⟨m0,w0⟩,turn⟩:=h;refine wpAny_While (codeAny_whileLoop (λn s'=>∃σ' H',Inv X RQ σ' H' s'∧W n σ' H') ?_ m0 ⟨σ,H,I,w0⟩)
 rintro n s1 ⟨σ1,H1,I1,w1⟩
 refine wpAny_passesOwn hp (thn (hc RQ s1 σ1 H1 _ I1 (turn n σ1 H1 w1)) λb s2 ⟨H2,I2,q2⟩=>?_)
 cases b with
 | true=>
  obtain⟨N,hN,q2⟩:=q2;rw[if_pos rfl];refine wpAny_passesOwn hp (thn (hb RQ s2 σ1 H2 _ I2 q2) λf s3 q3=>?_)
  cases f with
  | next=>
   obtain⟨σ3,H3,I3,n3⟩:=q3;obtain⟨m',hm,w3⟩:=hN σ3 H3 n3;exact⟨m',hm,σ3,H3,I3,w3⟩
  | cont=>
   obtain⟨σ3,H3,I3,n3⟩:=q3;obtain⟨m',hm,w3⟩:=hN σ3 H3 n3;exact⟨m',hm,σ3,H3,I3,w3⟩
  | brk=>exact q3
  | ret v=>exact q3
 | false=>
  rw[if_neg Bool.false_ne_true];exact wpAny_execs_nil ⟨σ1,H2,I2,q2⟩
end
structure It where
 go:Nat->Hp->Prop
 yld:Nat->Hp->V->Hp->Prop
 stop:Nat->Hp->Prop
def cL (X:Cx)(RQ:List (Addr×Obj))(H:Hp)(b:Addr):Prop:=
 H b=none∧b≠X.env.locals∧b∉X.fs∧(b∈X.ex∨X.s₀.heap.objs.size<=b)∧(∀x c,X.env.cells.lookup x=some c->c≠b)∧∀p∈X.pn++RQ,p.1≠b
theorem Inv.fpOk {X:Cx}{RQ:List (Addr×Obj)}{σ:St}{H H':Hp}{s:Shared}{b:Addr}(I:Inv X RQ σ H s)(hb:s.heap.objs.size<=b)(hn:H' b=none):cL X RQ H' b:=by
 refine⟨hn,FS (bZ I.lt hb),I.nofs hb,.inr (aP I.sz hb),λx c e z=>?_,λp hp z=>?_⟩
 ·obtain⟨v,q⟩:=I.cell x c e;exact absurd (bZ q.lt (by rw[z];exact hb)) (ii _)
 ·exact absurd (bZ (Heap.lt_size (I.pin p hp).1) (by rw[z];exact hb)) (ii _)
structure Turn (P:Program)(w:World)(K:PySem.W.Frag)(tg:Expr)(J:It)(fp:List Addr)(it:Addr)(tn:Nat->Heap->Prop):Prop where
 mem:it∈fp
 obj:∀i h,tn i h->∀b∈fp,∃o,h.get? b=some o∧∀v,o.data≠.cell v
 keep:∀i h h',tn i h->(∀b∈fp,∀o,h.get? b=some o->h'.get? b=some o)->tn i h'
 item:∀(X:Cx),X.prog=P->X.w=w->X.K=K->X.calm=true->∀(i:Nat) (RQ:List (Addr×Obj)) (s:Shared) (σ:St) (H:Hp) (E:Value->Shared->Prop),Inv X RQ σ H s->(∀b∈fp,cL X RQ H b)->tn i s.heap->J.go i H->
  wpAny (model P w) X.A (pyNext (.ref it)) (λr s1=>∃u,r=some u∧
   wpAny (model P w) X.A (letOwnedTupleGo tg (.ref it) u) (λ_ s2=>∃x H',Inv X RQ σ H' s2∧RelV x u∧J.yld i H x H'∧tn (i+1) s2.heap∧∀b∈fp,H' b=none) E s1) E s
 done:∀(X:Cx),X.prog=P->X.w=w->X.K=K->X.calm=true->∀(i:Nat) (RQ:List (Addr×Obj)) (s:Shared) (σ:St) (H:Hp) (E:Value->Shared->Prop),Inv X RQ σ H s->(∀b∈fp,cL X RQ H b)->tn i s.heap->J.stop i H->
  wpAny (model P w) X.A (pyNext (.ref it)) (λr s1=>r=none∧Inv X RQ σ H s1) E s
 self:∀(A:Around) (i:Nat) (s:Shared) (Q:Value->Shared->Prop) (E:Value->Shared->Prop),tn i s.heap->Q (.ref it) s->wpAny (model P w) A (pyIter (.ref it)) Q E s
abbrev TI:=St->Hp->(It->Hp->Prop)->Prop
def PIE (X:Cx)(RQ:List (Addr×Obj))(σ:St)(tg:Expr)(R:It->Hp->Prop)(itv:Value)(s2:Shared):Prop:=
 ∃(it:Addr) (fp:List Addr) (tn:Nat->Heap->Prop) (J:It) (H':Hp),itv=.ref it∧Inv X RQ σ H' s2∧Turn X.prog X.w X.K tg J fp it tn∧tn 0 s2.heap∧(∀b∈fp,cL X RQ H' b)∧R J H'
def PI (X:Cx)(tg iter:Expr)(wi:TI):Prop:=
 ∀(RQ:List (Addr×Obj)) (s:Shared) (σ:St) (H:Hp) (R:It->Hp->Prop),Inv X RQ σ H s->wi σ H R->
  wpAny (model X.prog X.w) X.A (eval iter X.env) (λv s1=>wpAny (model X.prog X.w) X.A (pyIter v) (PIE X RQ σ tg R) X.xe s1) X.xe s
theorem mS {M:Model}{A:Around}{E:Value->Shared->Prop}{s:Shared}{tg:Expr}{it:Addr}{u:Value}{o:Obj}{n:String}{vs:Array Value}{Q:Unit->Shared->Prop}(ho:s.heap.get? it=some o) (hc:o.cls=.type n) (hd:o.data=.fields vs)
  (hn:["enumerate","zip","dict_itemiterator","dict_reverseitemiterator","odict_iterator","itertools.zip_longest","itertools.pairwise"].contains n=false) (hQ:Q () s):wpAny M A (letOwnedTupleGo tg (.ref it) u) Q E s:=by
 unfold letOwnedTupleGo
 cases tg <;> first
  | exact wpAny_pure hQ
  |(cases u <;> first
    | exact wpAny_pure hQ
    |(refine wpAny_bind (wpAny_load ho ?_)
      rw[hc,hd];show wpAny M A (if (["enumerate","zip","dict_itemiterator","dict_reverseitemiterator","odict_iterator","itertools.zip_longest","itertools.pairwise"].contains n && vs[0]? == some (rawInt _))=true then _ else _) Q E s;rw[if_neg (by intro h;rw[hn,Bool.false_and]at h;cases h)];exact wpAny_pure hQ))
def Itl (K:PySem.W.Frag)(a:Addr):It:=
 ⟨λi H=>∃xs x,SqL K H a xs∧xs[i]?=some x,λi H x H'=>H'=H∧∀xs,SqL K H a xs->xs[i]?=some x,λi H=>∃xs,SqL K H a xs∧xs.length<=i⟩
def Itt (K:PySem.W.Frag)(a:Addr):It:=
 ⟨λi H=>∃xs x,SqT K H a xs∧xs[i]?=some x,λi H x H'=>H'=H∧∀xs,SqT K H a xs->xs[i]?=some x,λi H=>∃xs,SqT K H a xs∧xs.length<=i⟩
def Itr (lo:Int)(n:Nat):It:=⟨λi _=>i<n,λi H x H'=>H'=H∧x=.int (lo+i),λi _=>n<=i⟩
theorem HY {P:Program}{w:World}{K:PySem.W.Frag}{tg:Expr}(a it:Addr):Turn P w K tg (Itl K a) [it] it (λi h=>h.IsListIter it a i) where
 mem:=by simp
 obj:=λi h st b hb=>by
  have e:b=it:=by simpa using hb
  subst e;obtain⟨o,e,c,d⟩:=st;exact⟨o,e,λv z=>by rw[d]at z;cases z⟩
 keep:=λi h h' st k=>st.at λo e=>k it (by simp) o e
 item:=by
  intro X hP hw hK hc i RQ s σ H E I hf st hg;subst hP hw hK;obtain⟨xs,x,hq,hx⟩:=hg;obtain⟨its,rv,p,hz⟩:=I.list hq;obtain⟨u,hu,ru⟩:=rv.get hx;obtain⟨f0,f1,f2,f3,f4,f5⟩:=hf it (by simp);refine wpAny_pyNext_list_item st p.isList (x:=u) (by simpa using hu) λh' st' sb=>?_;have I1:Inv X RQ σ H { s with heap:=h' }:=I.turned (t':=s.toks) (λb o hb e=>(sb.2 b hb).trans e) f0 f1 f3 f4 f5;obtain⟨o,e,c,d⟩:=id st';exact⟨u,rfl,mS (s:={ s with heap:=h' }) e c d (by decide) ⟨x,H,I1,ru,⟨rfl,λys hy=>by rw[I.list_inj hy hq];exact hx⟩,st',λb hb=>(hf b hb).1⟩⟩
 done:=by
  intro X hP hw hK hc i RQ s σ H E I hf st hg;subst hP hw hK;obtain⟨xs,hq,hx⟩:=hg;obtain⟨its,rv,p,hz⟩:=I.list hq;obtain⟨f0,f1,f2,f3,f4,f5⟩:=hf it (by simp);have hl:=rv.length;exact wpAny_pyNext_list_end (I.ok.hd hc) st p.isList (by simp;omega) λh' eb=>⟨rfl,I.turned (t':=s.toks) (λb o hb e=>eb b o hb e) f0 f1 f3 f4 f5⟩
 self:=λ_ _ _ _ _ st h=>wpAny_pyIter_listiter st h
theorem HZ {P:Program}{w:World}{K:PySem.W.Frag}{tg:Expr}(it:Addr)(lo:Int)(n:Nat):Turn P w K tg (Itr lo n) [it] it (λi h=>IsRangeIter h it (lo+(i:Nat)*1) ((n:Int)-(i:Nat)) 1) where
 mem:=by simp
 obj:=λi h st b hb=>by
  have e:b=it:=by simpa using hb
  subst e;exact⟨_,st,λv z=>by
   have z':Data.fields _=Data.cell v:=z
   cases z'⟩
 keep:=λi h h' st k=>k it (by simp) _ st
 item:=by
  intro X hP hw hK hc i RQ s σ H E I hf st hg;subst hP hw hK;obtain⟨f0,f1,f2,f3,f4,f5⟩:=hf it (by simp);have W:=Walks.range (prog:=X.prog) (w:=X.w) (I.ok.hd hc) it lo 1 n;refine W.item i s _ _ hg st λv h' tk hv st' kk=>?_;obtain⟨t,rfl⟩:=hv;have I1:Inv X RQ σ H { s with heap:=h',toks:=tk }:=I.turned (λb o hb e=>kk b o (by simpa using hb) e) f0 f1 f3 f4 f5;refine⟨_,rfl,mS (s:={ s with heap:=h',toks:=tk }) (n := "range_iterator") st' rfl rfl (by decide) ⟨.int (lo+i),H,I1,⟨t,?_⟩,⟨rfl,rfl⟩,st',λb hb=>(hf b hb).1⟩⟩;rw[xu]
 done:=by
  intro X hP hw hK hc i RQ s σ H E I hf st hg;subst hP hw hK;obtain⟨f0,f1,f2,f3,f4,f5⟩:=hf it (by simp);exact wpAny_pyNext_range_end (I.ok.hd hc) st (by have:n<=i:=hg;omega) λh' eb=>⟨rfl,I.turned (t':=s.toks) (λb o hb e=>eb b o hb e) f0 f1 f3 f4 f5⟩
 self:=λ_ _ _ _ _ st h=>wpAny_pyIter_rangeiter st h
end L2
namespace L2
open PySem PySem.Spec PyProof.Rows
section
variable {X:Cx}{tg:Expr}
def vo (K:PySem.W.Frag)(tl:TE):TI:=λσ H R=>tl σ H λx H1=>∃a,x=.ref a∧(∃xs,SqL K H1 a xs)∧R (Itl K a) H1
def H_ (K:PySem.W.Frag)(tl:TE):TI:=λσ H R=>tl σ H λx H1=>∃a,x=.ref a∧(∃xs,SqT K H1 a xs)∧R (Itt K a) H1
theorem dC {l:Expr}{tl:TE}(hl:PE X l tl):PI X tg l (vo X.K tl):=by
 intro RQ s σ H R I h;refine thn (hl RQ s σ H _ I h) λv s1 ⟨x,H1,I1,r1,q1⟩=>?_;obtain⟨a,e,⟨xs,hq⟩,q⟩:=q1;subst e
 cases r1
 obtain⟨its,rv,p,hz⟩:=I1.list hq;refine wpAny_pyIter_list p.isList ?_;refine⟨s1.heap.objs.size,[s1.heap.objs.size],_,_,H1,rfl,I1.kept (t':=s1.toks) λb o e=>Heap.get?_push_of_some _ e,HY a _,⟨_,Heap.get?_push_size _ rfl,rfl,rfl⟩,λb hb=>?_,q⟩;have e:b=s1.heap.objs.size:=by simpa using hb
 subst e;exact I1.fpOk (am _) (I1.hok.fresh (am _))
theorem BF {RQ:List (Addr×Obj)}{σ:St}{H:Hp}{s:Shared}{R:It->Hp->Prop}{E:Value->Shared->Prop}{lo hi:Int}{t u v:Tok}{tk:Nat}(I:Inv X RQ σ H s) (h1:-(2 ^ 62)<=lo) (h2:lo<2 ^ 62) (h3:-(2 ^ 62)<=hi) (h4:hi<2 ^ 62)
  (q:R (Itr lo (hi-lo).toNat) H):wpAny (model X.prog X.w) X.A (pyIter (.ref s.heap.objs.size)) (PIE X RQ σ tg R) E { s with heap:=s.heap.push { cls:=.type "range",data:=.fields #[.int lo t,.int hi u,.int 1 v] },toks:=tk }:=by
 refine wpAny_pyIter_range (IsRange.new ..) (small_one h1 h2 h3 h4) ?_;have I1:Inv X RQ σ H { s with heap:=s.heap.push { cls:=.type "range",data:=.fields #[.int lo t,.int hi u,.int 1 v] },toks:=tk }:=I.kept λb o e=>Heap.get?_push_of_some _ e;refine⟨(s.heap.push { cls:=.type "range",data:=.fields #[.int lo t,.int hi u,.int 1 v] }).objs.size,[(s.heap.push { cls:=.type "range",data:=.fields #[.int lo t,.int hi u,.int 1 v] }).objs.size],_,_,H,rfl,
  I1.kept (t':=tk) λb o e=>Heap.get?_push_of_some _ e,HZ _ lo (hi-lo).toNat,?_,λb hb=>?_,q⟩
 ·have e1:lo+((0:Nat):Int)*1=lo:=by simp
  have e2:(((hi-lo).toNat:Nat):Int)-((0:Nat):Int)=Builtin.Range.rangeSize lo hi 1:=by rw[rangeSize_one];split <;> omega
  show IsRangeIter _ _ (lo+((0:Nat):Int)*1) ((((hi-lo).toNat:Nat):Int)-((0:Nat):Int)) 1;rw[e1,e2];exact Heap.get?_push_size _ rfl
 ·have e:b=(s.heap.push { cls:=.type "range",data:=.fields #[.int lo t,.int hi u,.int 1 v] }).objs.size:=by simpa using hb
  subst e;exact I1.fpOk (am _) (I1.hok.fresh (am _))
def BG (ta:TA):TI:=λσ H R=>ta σ H λvs H1=>∃j:Int,vs=[.int j]∧-(2 ^ 62)<=j∧j<2 ^ 62∧R (Itr 0 j.toNat) H1
def BH (ta:TA):TI:=λσ H R=>ta σ H λvs H1=>∃i j:Int,vs=[.int i,.int j]∧(-(2 ^ 62)<=i∧i<2 ^ 62∧-(2 ^ 62)<=j∧j<2 ^ 62)∧R (Itr i (j-i).toNat) H1
theorem fo {a:Expr}{ta:TA}{p pos:Pos}(hg:Gl X "range") (hm:X.mg "range" = none) (ha:PA X [a] ta) (hs:starEach [a] X.env=[(false,eval a X.env)]:=by rfl):PI X tg (.Call (.Name "range" p) [a] [] pos) (BG ta):=by
 intro RQ s σ H R I h;refine Call_ (gO I hg hm boot_range (PyProof.Rows.callWith_type1 (thn (ha pos RQ s σ H _ I h) λus s1 ⟨vs,H1,I1,r1,q1⟩=>?_) hs rfl));obtain⟨j,e,q1,q2,q⟩:=q1;subst e
 cases r1 with
 | cons r rr=>
  cases rr
  obtain⟨t,rfl⟩:=r;exact call_range_1 (BF I1 (by omega) (by omega) q1 q2 (by simpa using q))
theorem Ia {a b:Expr}{ta:TA}{p pos:Pos}(hg:Gl X "range") (hm:X.mg "range" = none) (ha:PA X [a,b] ta) (hs:starEach [a,b] X.env=[(false,eval a X.env),(false,eval b X.env)]:=by rfl) (hs2:starEach [b] X.env=[(false,eval b X.env)]:=by rfl):
  PI X tg (.Call (.Name "range" p) [a,b] [] pos) (BH ta):=by
 intro RQ s σ H R I h;refine Call_ (gO I hg hm boot_range (PyProof.Rows.callWith_type1 (thn (ha pos RQ s σ H _ I h) λus s1 ⟨vs,H1,I1,r1,q1⟩=>?_) (by rw[hs,hs2]) (by rw[hs2];rfl)));obtain⟨i,j,e,⟨q1,q2,q3,q4⟩,q⟩:=q1;subst e
 cases r1 with
 | cons r rr=>
  cases rr with
  | cons r' rr=>
   cases rr
   obtain⟨t,rfl⟩:=r;obtain⟨t',rfl⟩:=r';exact call_range_2 (BF I1 q1 q2 q3 q4 q)
def BI (wi:TI)(g:TG)(tb:TS):TS:=λD σ H=>wi σ H λJ H1=>∃W:Nat->Nat->St->Hp->Prop,(∃m,W 0 m σ H1)∧∀i m σ H,W i m σ H->
 (J.stop i H∧D.nx σ H)∨(J.go i H∧∃N:St->Hp->Prop,(∀σ' H',N σ' H'->∃m',m'<m∧W (i+1) m' σ' H')∧∀x H',J.yld i H x H'->g x σ H' λσ2 H2=>tb { D with nx:=N,ct:=N,bk:=D.nx } σ2 H2)
def mU (fp:List Addr)(h:Heap):List (Addr×Obj):=fp.filterMap λb=>(h.get? b).map λo=>(b,o)
theorem gd {fp:List Addr}{h:Heap}{b:Addr}{o:Obj}(hb:b∈fp)(e:h.get? b=some o):(b,o)∈mU fp h:=FT.mpr ⟨b,hb,by rw[e];rfl⟩
theorem Ic {fp:List Addr}{h:Heap}{p:Addr×Obj}(hp:p∈mU fp h):p.1∈fp∧h.get? p.1=some p.2:=by
 obtain⟨b,hb,e⟩:=FT.mp hp
 cases q:h.get? b with
 | none=>rw[q]at e;cases e
 | some o=>
  rw[q]at e;have e':(b,o)=p:=Option.some.inj e;subst e';exact⟨hb,q⟩
theorem Inv.pinned {RQ:List (Addr×Obj)}{σ:St}{H:Hp}{s:Shared}{fp:List Addr}(I:Inv X RQ σ H s)(hf:∀b∈fp,cL X RQ H b)(ho:∀b∈fp,∃o,s.heap.get? b=some o∧∀v,o.data≠.cell v):Inv X (RQ++mU fp s.heap) σ H s:=
 I.pins_of λp hp=>(bj.mp hp).elim (λz=>I.pin p (cX _ z)) λz=>by
  obtain⟨hb,e⟩:=Ic z;obtain⟨f0,f1,f2,_⟩:=hf p.1 hb;obtain⟨o,e',d⟩:=ho p.1 hb;rw[e]at e';cases e';exact⟨e,f0,f1,f2,d⟩
theorem Inv.unpinned {RQ pl:List (Addr×Obj)}{σ:St}{H:Hp}{s:Shared}(I:Inv X (RQ++pl) σ H s):Inv X RQ σ H s:=I.pins_of λp hp=>I.pin p (cX _ (l_ _ hp))
theorem cy {iter:Expr}{body:List Stmt}{wi:TI}{g:TG}{tb:TS}{pos:Pos}(hp:PassesOwn (model X.prog X.w) X.A X.env X.xe) (hc:X.calm=true) (hi:PI X tg iter wi) (hg:PG X tg g) (hb:PSs X body tb)
  (hs:∀x,foldedSetIterable iter X.env x=pure x:=by intro _;rfl):PS X (.For tg iter body [] pos) (BI wi g tb):=by
 intro RQ s σ H D I h;refine wpAny_For (thn (hi RQ s σ H _ I h) λv s1 h1=>thn h1 λitv s2 h2=>?_) hs;obtain⟨it,fp,tn,J,H2,e,I2,T,st2,f2,W,⟨m0,w0⟩,turn⟩:=h2;subst e;have stat:∀{H':Hp},(∀b∈fp,H' b=none)->∀b∈fp,cL X RQ H' b:=λhn b hb=>⟨hn b hb,(f2 b hb).2⟩
 refine codeAny_forLoop_any (λn s'=>∃i σ' H',Inv X RQ σ' H' s'∧tn i s'.heap∧(∀b∈fp,H' b=none)∧W i n σ' H') ?_ m0 ⟨0,σ,H2,I2,st2,λb hb=>(f2 b hb).1,w0⟩
 rintro n s3 ⟨i,σ3,H3,I3,st3,fr3,w3⟩
 rcases turn i n σ3 H3 w3 with ⟨stop,qn⟩|⟨go,N,hN,step⟩
 ·refine wpAny_passesOwn hp (thn (T.done X rfl rfl rfl hc i RQ s3 σ3 H3 X.xe I3 (stat fr3) st3 stop) λr s4 ⟨hr,I4⟩=>?_);subst hr;exact wpAny_execs_nil ⟨σ3,H3,I4,qn⟩
 ·refine wpAny_passesOwn hp (thn (T.item X rfl rfl rfl hc i RQ s3 σ3 H3 X.xe I3 (stat fr3) st3 go) λr s4 ⟨u,hr,h4⟩=>?_);subst hr;refine wpAny_passesOwn hp (thn h4 λ_ s5 ⟨x,H5,I5,r5,y5,st5,fr5⟩=>?_);have I5':=I5.pinned (stat fr5) (T.obj _ _ st5);refine wpAny_passesOwn hp (thn (hg _ s5 σ3 H5 x u _ I5' r5 (step x H5 y5)) λ_ s6 ⟨σ6,H6,I6,q6⟩=>?_);refine wpAny_passesOwn hp (thn (hb _ s6 σ6 H6 _ I6 q6) λf s7 q7=>?_);have again:∀{σ7:St}{H7:Hp},Inv X (RQ++mU fp s5.heap) σ7 H7 s7->N σ7 H7->∃m,m<n∧∃i σ' H',Inv X RQ σ' H' s7∧tn i s7.heap∧(∀b∈fp,H' b=none)∧W i m σ' H':=λ{σ7 H7} I7 n7=>by
   obtain⟨m',hm,w7⟩:=hN σ7 H7 n7;refine⟨m',hm,i+1,σ7,H7,I7.unpinned,T.keep _ _ _ st5 λb hb o e=>(I7.pin (b,o) (cX _ (cX _ (gd hb e)))).1,λb hb=>?_,w7⟩;obtain⟨o,e,d⟩:=T.obj _ _ st5 b hb;exact (I7.pin (b,o) (cX _ (cX _ (gd hb e)))).2.1
  cases f with
  | next=>obtain⟨σ7,H7,I7,n7⟩:=q7;exact again I7 n7
  | cont=>obtain⟨σ7,H7,I7,n7⟩:=q7;exact again I7 n7
  | brk=>obtain⟨σ7,H7,I7,q7⟩:=q7;exact⟨σ7,H7,I7.unpinned,q7⟩
  | ret v=>obtain⟨x7,σ7,H7,I7,r7,q7⟩:=q7;exact⟨x7,σ7,H7,I7.unpinned,r7,q7⟩
end
theorem Ie {K:PySem.W.Frag}{a:Addr}{xs:List V}{g:TG}{tb:TS}{D:Ends}{σ:St}{H:Hp}(Pv:Nat->St->Hp->Prop) (h0:Pv 0 σ H) (hl:∀i σ H,i<=xs.length->Pv i σ H->SqL K H a xs)
  (hs:∀i x σ H,xs[i]?=some x->Pv i σ H->g x σ H λσ2 H2=>tb { D with nx:=Pv (i+1),ct:=Pv (i+1),bk:=D.nx } σ2 H2) (hd:∀σ H,Pv xs.length σ H->D.nx σ H):
  ∃W:Nat->Nat->St->Hp->Prop,(∃m,W 0 m σ H)∧∀i m σ H,W i m σ H->
   ((Itl K a).stop i H∧D.nx σ H)∨((Itl K a).go i H∧∃N:St->Hp->Prop,(∀σ' H',N σ' H'->∃m',m'<m∧W (i+1) m' σ' H')∧∀x H',(Itl K a).yld i H x H'->g x σ H' λσ2 H2=>tb { D with nx:=N,ct:=N,bk:=D.nx } σ2 H2):=by
 refine⟨λi m σ H=>m=xs.length-i∧i<=xs.length∧Pv i σ H,⟨xs.length,by simp,aI _,h0⟩,?_⟩
 rintro i m σ H ⟨rfl,hi,p⟩
 have q:=hl i σ H hi p;by_cases hlt:i<xs.length
 ·refine .inr ⟨⟨xs,xs[i],q,by simp[hlt]⟩,Pv (i+1),λσ' H' p'=>⟨xs.length-(i+1),by omega,rfl,hlt,p'⟩,λx H' y=>?_⟩;obtain⟨e,y⟩:=y;subst e;exact hs i x σ _ (y xs q) p
 ·have e:i=xs.length:=by omega
  subst e;exact .inl ⟨⟨xs,q,am _⟩,hd σ H p⟩
theorem If {lo:Int}{n:Nat}{g:TG}{tb:TS}{D:Ends}{σ:St}{H:Hp}(Pv:Nat->St->Hp->Prop) (h0:Pv 0 σ H)
  (hs:∀i σ H,i<n->Pv i σ H->g (.int (lo+i)) σ H λσ2 H2=>tb { D with nx:=Pv (i+1),ct:=Pv (i+1),bk:=D.nx } σ2 H2) (hd:∀σ H,Pv n σ H->D.nx σ H):
  ∃W:Nat->Nat->St->Hp->Prop,(∃m,W 0 m σ H)∧∀i m σ H,W i m σ H->
   ((Itr lo n).stop i H∧D.nx σ H)∨((Itr lo n).go i H∧∃N:St->Hp->Prop,(∀σ' H',N σ' H'->∃m',m'<m∧W (i+1) m' σ' H')∧∀x H',(Itr lo n).yld i H x H'->g x σ H' λσ2 H2=>tb { D with nx:=N,ct:=N,bk:=D.nx } σ2 H2):=by
 refine⟨λi m σ H=>m=n-i∧i<=n∧Pv i σ H,⟨n,by simp,aI _,h0⟩,?_⟩
 rintro i m σ H ⟨rfl,hi,p⟩
 by_cases hlt:i<n
 ·refine .inr ⟨hlt,Pv (i+1),λσ' H' p'=>⟨n-(i+1),by omega,rfl,hlt,p'⟩,λx H' y=>?_⟩;obtain⟨e,y⟩:=y;subst e y;exact hs i σ _ hlt p
 ·have e:i=n:=by omega
  subst e;exact .inl ⟨am _,hd σ H p⟩
end L2
namespace L2
open PySem PySem.Spec PyProof.Rows
abbrev R2:=V->V->Hp->VK->Prop
def OpR (X:Cx)(f:Value->Value->Sem Value)(r:R2):Prop:=
 ∀(RQ:List (Addr×Obj)) (s:Shared) (σ:St) (H:Hp) (x y:V) (v u:Value) (Q:VK),Inv X RQ σ H s->RelV x v->RelV y u->r x y H Q->
  wpAny (model X.prog X.w) X.A (f v u) (EP X RQ σ Q) X.xe s
def UnR (X:Cx)(f:Value->Sem Value)(r:V->Hp->VK->Prop):Prop:=
 ∀(RQ:List (Addr×Obj)) (s:Shared) (σ:St) (H:Hp) (x:V) (v:Value) (Q:VK),Inv X RQ σ H s->RelV x v->r x H Q->
  wpAny (model X.prog X.w) X.A (f v) (EP X RQ σ Q) X.xe s
def fJ (X:Cx)(f:Value)(r:List V->Hp->VK->Prop):Prop:=
 ∀(RQ:List (Addr×Obj)) (s:Shared) (σ:St) (H:Hp) (xs:List V) (us:List Value) (Q:VK),Inv X RQ σ H s->Vals xs us->r xs H Q->
  wpAny (model X.prog X.w) X.A (call f us) (EP X RQ σ Q) X.xe s
def tOp (r:R2)(ta tb:TE):TE:=λσ H Q=>ta σ H λx H1=>tb σ H1 λy H2=>r x y H2 Q
def tUn (r:V->Hp->VK->Prop)(ta:TE):TE:=λσ H Q=>ta σ H λx H1=>r x H1 Q
def rI (C:Int->Int->Prop)(g:Int->Int->V):R2:=λx y H Q=>∃i j,x=.int i∧y=.int j∧C i j∧Q (g i j) H
def rI0 (g:Int->Int->V):R2:=λx y H Q=>∃i j,x=.int i∧y=.int j∧Q (g i j) H
def rU (g:Int->V):V->Hp->VK->Prop:=λx H Q=>∃i,x=.int i∧Q (g i) H
section
variable {X:Cx}{a b c:Expr}{ta tb tc:TE}{pos:Pos}
theorem vt (ha:PE X a ta) (hb:PE X b tb){RQ:List (Addr×Obj)}{s:Shared}{σ:St}{H:Hp}{R:V->V->Hp->Prop}(I:Inv X RQ σ H s)
  (h:ta σ H λx H1=>tb σ H1 λy H2=>R x y H2){Q:Value->Shared->Prop}{f:Value->Value->Sem Value}
  (hf:∀v u s2 x y H2,Inv X RQ σ H2 s2->RelV x v->RelV y u->R x y H2->wpAny (model X.prog X.w) X.A (f v u) Q X.xe s2):
  wpAny (model X.prog X.w) X.A (eval a X.env) (λv s₁=>wpAny (model X.prog X.w) X.A (eval b X.env) (λu s₂=>wpAny (model X.prog X.w) X.A (f v u) Q X.xe s₂) X.xe s₁) X.xe s:=by
 refine thn (ha RQ s σ H _ I h) λv s1 ⟨x,H1,I1,r1,q1⟩=>?_;refine thn (hb RQ s1 σ H1 _ I1 q1) λu s2 ⟨y,H2,I2,r2,q2⟩=>?_;exact hf v u s2 x y H2 I2 r1 r2 q2
theorem ak {op:Operator}{r:R2}(ho:OpR X (binaryOp op) r)(ha:PE X a ta)(hb:PE X b tb):PE X (.BinOp a op b pos) (tOp r ta tb):=by
 intro RQ s σ H Q I h;exact wpAny_BinOp (vt ha hb I h λv u s2 x y H2 I2 rx ry q=>ho RQ s2 σ H2 x y v u Q I2 rx ry q)
theorem d8 {op:UnaryOp}{r:V->Hp->VK->Prop}(ho:UnR X (unaryOp op) r)(ha:PE X a ta):PE X (.UnaryOp op a pos) (tUn r ta):=by
 intro RQ s σ H Q I h;exact UnaryOp_ (thn (ha RQ s σ H _ I h) λv s1 ⟨x,H1,I1,r1,q1⟩=>ho RQ s1 σ H1 x v Q I1 r1 q1)
theorem opI {f:Value->Value->Sem Value}{C:Int->Int->Prop}{g:Int->Int->Int}
  (rule:∀(i j:Int) (t u:Tok) (s:Shared) (Q:Value->Shared->Prop) (E:Value->Shared->Prop),C i j->Q (.int (g i j) s.toks) { s with toks:=s.toks+1 }->wpAny (model X.prog X.w) X.A (f (.int i t) (.int j u)) Q E s):
  OpR X f (rI C λi j=>.int (g i j)):=by
 intro RQ s σ H x y v u Q I rx ry h;obtain⟨i,j,rfl,rfl,hc,q⟩:=h;obtain⟨t,rfl⟩:=rx;obtain⟨t',rfl⟩:=ry;exact rule i j t t' s _ _ hc ⟨.int (g i j),H,I.tok _,⟨_,rfl⟩,q⟩
theorem BJ {f:Value->Value->Sem Value}{g:Int->Int->Int}
  (rule:∀(i j:Int) (t u:Tok) (s:Shared) (Q:Value->Shared->Prop) (E:Value->Shared->Prop),Q (.int (g i j) s.toks) { s with toks:=s.toks+1 }->wpAny (model X.prog X.w) X.A (f (.int i t) (.int j u)) Q E s):
  OpR X f (rI0 λi j=>.int (g i j)):=by
 intro RQ s σ H x y v u Q I rx ry h;obtain⟨i,j,rfl,rfl,q⟩:=h;obtain⟨t,rfl⟩:=rx;obtain⟨t',rfl⟩:=ry;exact rule i j t t' s _ _ ⟨.int (g i j),H,I.tok _,⟨_,rfl⟩,q⟩
theorem vv {f:Value->Value->Sem Value}{g:Int->Int->Bool}
  (rule:∀(i j:Int) (t u:Tok) (s:Shared) (Q:Value->Shared->Prop) (E:Value->Shared->Prop),Q (.bool (g i j)) s->wpAny (model X.prog X.w) X.A (f (.int i t) (.int j u)) Q E s):
  OpR X f (rI0 λi j=>.bl (g i j)):=by
 intro RQ s σ H x y v u Q I rx ry h;obtain⟨i,j,rfl,rfl,q⟩:=h;obtain⟨t,rfl⟩:=rx;obtain⟨t',rfl⟩:=ry;exact rule i j t t' s _ _ ⟨.bl (g i j),H,I,rfl,q⟩
def Ig (i j:Int):Prop:=0<j∧j<1073741824
def BK (i j:Int):Prop:=0<=j∧j<=1000000∧i.natAbs<2 ^ 64
def CMul (i j:Int):Prop:=(-(2 ^ 64)<i∧i<2 ^ 64)∨(-(2 ^ 64)<j∧j<2 ^ 64)
theorem CMul.ok {i j:Int}(h:CMul i j):IntMulOk i j:=by
 rcases h with ⟨h1,h2⟩|⟨h1,h2⟩
 ·exact .of_left (intBits_le_64 h1 h2)
 ·exact .of_right (intBits_le_64 h1 h2)
theorem Ih (k:Nat):(0:Int)<=2 ^ k:=by
 rw[two_pow_cast];exact Int.natCast_nonneg _
theorem ci:OpR X (binaryOp .Add) (rI0 λi j=>.int (i+j)):=BJ λ_ _ _ _ _ _ _ q=>add_int q
theorem dg:OpR X (binaryOp .Sub) (rI0 λi j=>.int (i-j)):=BJ λ_ _ _ _ _ _ _ q=>sub_int q
theorem iB:OpR X (binaryOp .Mult) (rI CMul λi j=>.int (i*j)):=opI λ_ _ _ _ _ _ _ hc q=>mul_int q hc.ok
theorem ji:OpR X (binaryOp .FloorDiv) (rI Ig λi j=>.int (i / j)):=opI λi j _ _ _ _ _ hc q=>by
 have h1:(0:Int)<j:=hc.1;have h2:j<1073741824:=hc.2;exact floordiv_int (by omega) (by rw[xv i (by omega)];exact q) (.inl (PyProof.noPylong_small (by omega)))
theorem fK:OpR X (binaryOp .Mod) (rI (λ_ j=>0<j) λi j=>.int (i % j)):=opI λi j _ _ _ _ _ hc q=>by
 have h1:(0:Int)<j:=hc;exact mod_int' (by omega) (by rw[Int.fmod_eq_emod_of_nonneg i (by omega)];exact q)
theorem Ii:OpR X (binaryOp .Pow) (rI BK λi j=>.int (i ^ j.toNat)):=opI λ_ _ _ _ _ _ _ hc q=>pow_int_small hc.1 hc.2.1 hc.2.2 q
theorem Ij:OpR X (binaryOp .LShift) (rI BK λi j=>.int (i*2 ^ j.toNat)):=opI λ_ _ _ _ _ _ _ hc q=>lshift_int_small hc.1 hc.2.1 hc.2.2 q
theorem BL:OpR X (binaryOp .RShift) (rI (λ_ j=>0<=j) λi j=>.int (i / 2 ^ j.toNat)):=opI λi j _ _ _ _ _ hc q=>
 rshift_int hc (by rw[xv i (Ih _)];exact q)
theorem unI {f:Value->Sem Value}{g:Int->Int}
  (rule:∀(i:Int) (t:Tok) (s:Shared) (Q:Value->Shared->Prop) (E:Value->Shared->Prop),Q (.int (g i) s.toks) { s with toks:=s.toks+1 }->wpAny (model X.prog X.w) X.A (f (.int i t)) Q E s):
  UnR X f (rU λi=>.int (g i)):=by
 intro RQ s σ H x v Q I rx h;obtain⟨i,rfl,q⟩:=h;obtain⟨t,rfl⟩:=rx;exact rule i t s _ _ ⟨.int (g i),H,I.tok _,⟨_,rfl⟩,q⟩
theorem d9:UnR X (unaryOp .USub) (rU λi=>.int (-i)):=unI λ_ _ _ _ _ q=>neg_int q
end
def vw:V->V->Bool
 | .non,.non=>true | .non,.int _=>true | .int _,.non=>true | .non,.bl _=>true | .bl _,.non=>true | .non,.str _=>true | .str _,.non=>true
 | .int _,.int _=>true | .bl _,.bl _=>true | .str _,.str _=>true | .byt _,.byt _=>true
 | .int _,.str _=>true | .str _,.int _=>true | .bl _,.str _=>true | .str _,.bl _=>true
 | _,_=>false
def rEq:R2:=λx y H Q=>vw x y=true∧Q (.bl (decide (x=y))) H
def rNe:R2:=λx y H Q=>vw x y=true∧Q (.bl (!decide (x=y))) H
theorem mV {i j:Int}:decide (V.int i=V.int j)=(i == j):=by
 rw[Bool.eq_iff_iff];simp
theorem BM {i j:Bool}:decide (V.bl i=V.bl j)=(i == j):=by
 rw[Bool.eq_iff_iff];simp
theorem BN {i j:Str}:decide (V.str i=V.str j)=(i == j):=by
 rw[Bool.eq_iff_iff];simp
theorem BO {i j:Array UInt8}:decide (V.byt i=V.byt j)=(i.toList == j.toList):=by
 rw[Bool.eq_iff_iff]
 cases i
 cases j
 simp
section
variable {X:Cx}{a b c:Expr}{ta tb tc:TE}{pos:Pos}
theorem b7 {RQ:List (Addr×Obj)}{σ:St}{H:Hp}{s:Shared}{Q:VK}{k k':Bool}(I:Inv X RQ σ H s)(q:Q (.bl k) H)(e:k=k'):EP X RQ σ Q (.bool k') s:=by
 subst e;exact⟨.bl k,H,I,rfl,q⟩
theorem e9:OpR X (compareOp .Eq) rEq:=by
 intro RQ s σ H x y v u Q I rx ry h;obtain⟨hs,q⟩:=h
 cases x with
 | non=>
  cases rx
  cases y with
  | non=>cases ry;exact PySem.EqNone.eq_none_none (b7 I q (by simp))
  | bl j=>cases ry;exact PySem.EqNone.eq_none_bool (b7 I q (by simp))
  | int j=>obtain⟨t',rfl⟩:=ry;exact PySem.EqNone.eq_none_int (b7 I q (by simp))
  | str j=>obtain⟨t',rfl⟩:=ry;exact PySem.EqNone.eq_none_str (b7 I q (by simp))
  | _=>exact absurd (show false=true from hs) Bool.false_ne_true
 | bl i=>
  cases rx
  cases y with
  | non=>cases ry;exact PySem.EqNone.eq_bool_none (b7 I q (by simp))
  | bl j=>cases ry;exact eq_bool (b7 I q BM)
  | str j=>obtain⟨t',rfl⟩:=ry;exact PySem.EqMixed.eq_bool_str (b7 I q (by simp))
  | _=>exact absurd (show false=true from hs) Bool.false_ne_true
 | int i=>
  obtain⟨t,rfl⟩:=rx
  cases y with
  | non=>cases ry;exact PySem.EqNone.eq_int_none (b7 I q (by simp))
  | int j=>obtain⟨t',rfl⟩:=ry;exact eq_int (b7 I q mV)
  | str j=>obtain⟨t',rfl⟩:=ry;exact PySem.EqMixed.eq_int_str (b7 I q (by simp))
  | _=>exact absurd (show false=true from hs) Bool.false_ne_true
 | str i=>
  obtain⟨t,rfl⟩:=rx
  cases y with
  | non=>cases ry;exact PySem.EqNone.eq_str_none (b7 I q (by simp))
  | bl j=>cases ry;exact PySem.EqMixed.eq_str_bool (b7 I q (by simp))
  | int j=>obtain⟨t',rfl⟩:=ry;exact PySem.EqMixed.eq_str_int (b7 I q (by simp))
  | str j=>obtain⟨t',rfl⟩:=ry;exact eq_str (b7 I q BN)
  | _=>exact absurd (show false=true from hs) Bool.false_ne_true
 | byt i=>
  obtain⟨t,rfl⟩:=rx
  cases y with
  | byt j=>obtain⟨t',rfl⟩:=ry;exact PySem.W.eq_bytes (b7 I q BO)
  | _=>exact absurd (show false=true from hs) Bool.false_ne_true
 | _=>cases y <;> exact absurd (show false=true from hs) Bool.false_ne_true
theorem iS:OpR X (compareOp .NotEq) rNe:=by
 intro RQ s σ H x y v u Q I rx ry h;obtain⟨hs,q⟩:=h
 cases x with
 | non=>
  cases rx
  cases y with
  | non=>cases ry;exact PySem.EqNone.ne_none_none (b7 I q (by simp))
  | bl j=>cases ry;exact PySem.EqNone.ne_none_bool (b7 I q (by simp))
  | int j=>obtain⟨t',rfl⟩:=ry;exact PySem.EqNone.ne_none_int (b7 I q (by simp))
  | str j=>obtain⟨t',rfl⟩:=ry;exact PySem.EqNone.ne_none_str (b7 I q (by simp))
  | _=>exact absurd (show false=true from hs) Bool.false_ne_true
 | bl i=>
  cases rx
  cases y with
  | non=>cases ry;exact PySem.EqNone.ne_bool_none (b7 I q (by simp))
  | bl j=>cases ry;exact ne_bool (b7 I q (congrArg not BM))
  | str j=>obtain⟨t',rfl⟩:=ry;exact PySem.EqMixed.ne_bool_str (b7 I q (by simp))
  | _=>exact absurd (show false=true from hs) Bool.false_ne_true
 | int i=>
  obtain⟨t,rfl⟩:=rx
  cases y with
  | non=>cases ry;exact PySem.EqNone.ne_int_none (b7 I q (by simp))
  | int j=>obtain⟨t',rfl⟩:=ry;exact ne_int (b7 I q (congrArg not mV))
  | str j=>obtain⟨t',rfl⟩:=ry;exact PySem.EqMixed.ne_int_str (b7 I q (by simp))
  | _=>exact absurd (show false=true from hs) Bool.false_ne_true
 | str i=>
  obtain⟨t,rfl⟩:=rx
  cases y with
  | non=>cases ry;exact PySem.EqNone.ne_str_none (b7 I q (by simp))
  | bl j=>cases ry;exact PySem.EqMixed.ne_str_bool (b7 I q (by simp))
  | int j=>obtain⟨t',rfl⟩:=ry;exact PySem.EqMixed.ne_str_int (b7 I q (by simp))
  | str j=>obtain⟨t',rfl⟩:=ry;exact ne_str (b7 I q (congrArg not BN))
  | _=>exact absurd (show false=true from hs) Bool.false_ne_true
 | byt i=>
  obtain⟨t,rfl⟩:=rx
  cases y with
  | byt j=>obtain⟨t',rfl⟩:=ry;exact PySem.W.ne_bytes (b7 I q (congrArg not BO))
  | _=>exact absurd (show false=true from hs) Bool.false_ne_true
 | _=>cases y <;> exact absurd (show false=true from hs) Bool.false_ne_true
theorem iT:OpR X (compareOp .Lt) (rI0 λi j=>.bl (decide (i<j))):=vv λ_ _ _ _ _ _ _ q=>lt_int q
theorem gT:OpR X (compareOp .Gt) (rI0 λi j=>.bl (decide (j<i))):=vv λ_ _ _ _ _ _ _ q=>gt_int q
theorem BP:OpR X (compareOp .GtE) (rI0 λi j=>.bl (decide (j<=i))):=vv λ_ _ _ _ _ _ _ q=>ge_int q
theorem jS:OpR X (compareOp .Is) (λx y H Q=>y=.non∧Q (.bl (decide (x=.non))) H):=by
 intro RQ s σ H x y v u Q I rx ry h;obtain⟨rfl,q⟩:=h
 cases ry
 refine is_none_gen (b7 I q ?_)
 cases x <;> first
  |(cases rx;rfl)
  |(obtain⟨t,rfl⟩:=rx;rfl)
theorem jT:OpR X (compareOp .IsNot) (λx y H Q=>y=.non∧Q (.bl (!decide (x=.non))) H):=by
 intro RQ s σ H x y v u Q I rx ry h;obtain⟨rfl,q⟩:=h
 cases ry
 refine isnot_none_gen (b7 I q ?_)
 cases x <;> first
  |(cases rx;rfl)
  |(obtain⟨t,rfl⟩:=rx;rfl)
theorem aN (b:Expr){op:CmpOp}(h:op≠.In:=by decide)(h2:op≠.NotIn:=by decide):behindInMarks op b=false:=by
 have e1:(op == CmpOp.In)=false:=by cases op <;> first|rfl|exact absurd rfl h
 have e2:(op == CmpOp.NotIn)=false:=by cases op <;> first|rfl|exact absurd rfl h2
 cases b <;> simp[behindInMarks,e1,e2]
theorem vB {op:CmpOp}{r:R2}(ho:OpR X (compareOp op) r)(ha:PE X a ta)(hb:PE X b tb)(hm:behindInMarks op b=false):PE X (.Compare a [op] [b] pos) (tOp r ta tb):=by
 intro RQ s σ H Q I h;exact wpAny_Compare1 (vt ha hb I h λv u s2 x y H2 I2 rx ry q=>ho RQ s2 σ H2 x y v u Q I2 rx ry q) hm
def BQ (t:TE):TT:=λσ H Q=>t σ H λx H'=>∃k,x=.bl k∧Q k H'
theorem aO {op:CmpOp}{r:R2}(ho:OpR X (compareOp op) r)(ha:PE X a ta)(hb:PE X b tb)(hm:behindInMarks op b=false):PT X (.Compare a [op] [b] pos) (BQ (tOp r ta tb)):=by
 intro RQ s σ H Q I h;refine wpAny_isTrue_Compare1 (thn (ha RQ s σ H _ I h) λv s1 ⟨x,H1,I1,r1,q1⟩=>thn (hb RQ s1 σ H1 _ I1 q1) λu s2 ⟨y,H2,I2,r2,q2⟩=>
  thn (ho RQ s2 σ H2 x y v u _ I2 r1 r2 q2) λc s3 ⟨z,H3,I3,r3,k,e,q3⟩=>?_) hm
 subst e
 cases r3
 exact wpAny_truthy_bool ⟨H3,I3,q3⟩
def Ik (r r':R2)(ta tb tc:TE):TE:=λσ H Q=>ta σ H λx H1=>tb σ H1 λy H2=>r x y H2 λz H3=>∃k,z=.bl k∧
 (if k=true then tc σ H3 λw' H4=>r' y w' H4 Q else Q (.bl false) H3)
theorem kI:(sizeLine:Nat)<2 ^ 63:=by rw[sizeLine_eq];decide
theorem gU {x:V}{us:List Value}(r:Vals [x] us):∃u,us=[u]∧RelV x u:=by
 cases r with
 | cons r1 r2=>cases r2;exact⟨_,rfl,r1⟩
theorem BR {x y:V}{us:List Value}(r:Vals [x,y] us):∃u w',us=[u,w']∧RelV x u∧RelV y w':=by
 cases r with
 | cons r1 r2=>
  cases r2 with
  | cons r3 r4=>cases r4;exact⟨_,_,rfl,r1,r3⟩
theorem kJ:fJ X (.builtin "abs") (λxs H Q=>∃i,xs=[.int i]∧Q (.int (if i<0 then -i else i)) H):=by
 intro RQ s σ H xs us Q I r h;obtain⟨i,rfl,q⟩:=h;obtain⟨u,rfl,t,rfl⟩:=gU r;exact call_abs_int λu tk=>⟨.int (if i<0 then -i else i),H,I.tok _,⟨_,rfl⟩,q⟩
theorem mW (hc:X.calm=true):fJ X (.builtin "max") (λxs H Q=>∃i j,xs=[.int i,.int j]∧Q (.int (if j > i then j else i)) H):=by
 intro RQ s σ H xs us Q I r h;obtain⟨i,j,rfl,q⟩:=h;obtain⟨u,w',rfl,⟨t,rfl⟩,⟨t',rfl⟩⟩:=BR r;refine max_two_ints (I.ok.hd hc) λh' tk k=>⟨_,H,I.kept k,?_,q⟩
 by_cases hj:j > i
 ·rw[if_pos hj,if_pos hj];exact⟨_,rfl⟩
 ·rw[if_neg hj,if_neg hj];exact⟨_,rfl⟩
theorem BS (hc:X.calm=true):fJ X (.builtin "min") (λxs H Q=>∃i j,xs=[.int i,.int j]∧Q (.int (if j<i then j else i)) H):=by
 intro RQ s σ H xs us Q I r h;obtain⟨i,j,rfl,q⟩:=h;obtain⟨u,w',rfl,⟨t,rfl⟩,⟨t',rfl⟩⟩:=BR r;refine min_two_ints (I.ok.hd hc) λh' tk k=>⟨_,H,I.kept k,?_,q⟩
 by_cases hj:j<i
 ·rw[if_pos hj,if_pos hj];exact⟨_,rfl⟩
 ·rw[if_neg hj,if_neg hj];exact⟨_,rfl⟩
theorem Il:fJ X (.type "int") (λxs H Q=>(∃i,xs=[.int i]∧Q (.int i) H)∨∃k,xs=[.bl k]∧Q (.int (if k then 1 else 0)) H):=by
 intro RQ s σ H xs us Q I r h;rcases h with ⟨i,rfl,q⟩|⟨k,rfl,q⟩
 ·obtain⟨u,rfl,t,rfl⟩:=gU r;exact call_int_int ⟨.int i,H,I,⟨_,rfl⟩,q⟩
 ·obtain⟨u,rfl,r1⟩:=gU r
  cases r1
  exact call_int_bool ⟨.int (if k then 1 else 0),H,I.tok _,⟨_,rfl⟩,q⟩
end
end L2
namespace L2
open PySem PySem.Spec PyProof.Rows
structure ObjM (h:Heap)(x dx C:Addr)(mA:Str->Option Value):Prop where
 obj:h.get? x=some (PySem.W.instObj C dx)
 ns:h.Ns1 dx mA
 ne:dx≠x
theorem Im {h:Heap}{dx:Addr}{mA:Str->Option Value}(n:h.Ns1 dx mA):∃od,h.get? dx=some od∧∀name,PySem.W.lookIn name od=some (mA name):=by
 obtain⟨o,es,ep,ho,hd,hk,_,hm⟩:=n;refine⟨o,ho,λname=>?_⟩;have e:=hm name;unfold nsFind findBy at e;rw[←Array.find?_toList]at e;unfold PySem.W.lookIn;rw[hd];dsimp only
 split
 ·rename_i y q;rw[q]at e;exact congrArg some e
 ·rename_i q;rw[q]at e;have a:es.toList.any (·.refKey)=false:=by
   rw[List.any_eq_false];intro y hy;obtain⟨z,t,hkey⟩:=hk y (Array.mem_toList_iff.mp hy);simp[DictEntry.refKey,hkey]
  have a':¬es.toList.any (·.refKey)=true:=by rw[a];exact Bool.false_ne_true
  rw[if_neg a'];exact congrArg some e
theorem ObjM.look {h:Heap}{x dx C:Addr}{mA:Str->Option Value}(I:ObjM h x dx C mA):∃od,PySem.W.InstAt h x (PySem.W.instObj C dx) C (some od)∧∀name,PySem.W.lookIn name od=some (mA name):=
 let ⟨od,ho,hl⟩:=Im I.ns
 ⟨od,⟨I.obj,rfl,rfl,ho⟩,hl⟩
section
variable {prog:Program}{w:World}{A:Around}{E:Value->Shared->Prop}{s:Shared}{K:PySem.W.Frag}{x dx C f:Addr}{mA:Str->Option Value}{name:Str}{v:Value}
theorem Io {expr:Bool}{Q:Value->Shared->Prop}(X:K.In s.heap) (I:ObjM s.heap x dx C mA) (hg:PySem.W.plainGet K C name=true) (hh:PySem.W.hasDictIn K C=true)
  (ha:PySem.W.findIn K (.ref C) name=some none) (hv:mA name=some v) (hv':PySem.W.handedIn v=true) (h:Q v { s with toks:=s.toks+1 }):
  wpAny (model prog w) A (getAttr (.ref x) name expr) Q E s:=by
 obtain⟨od,J,hl⟩:=I.look;exact PySem.W.get_value X J (PySem.W.plainGet_of hg).1 (PySem.W.findObj_own hh ha rfl (by rw[hl,hv])) hv' h
theorem Ip {pl:Sem Bool}{Q:Value×List Value->Shared->Prop}(X:K.In s.heap) (I:ObjM s.heap x dx C mA) (hg:PySem.W.plainGet K C name=true)
  (hf:PySem.W.findIn K (.ref C) name=some (some (.ref f))) (ht:PySem.W.isFn K (.ref f)=true) (hv:mA name=none) (h:Q (.ref f,[.ref x]) s):
  wpAny (model prog w) A (getMethod (.ref x) name pl) Q E s:=by
 obtain⟨od,J,hl⟩:=I.look;exact PySem.W.method_fn X J (PySem.W.plainGet_of hg).1 (PySem.W.plainGet_of hg).2 hf (beq_iff_eq.mp ht) (by show (PySem.W.lookIn name od).map (·.isSome)=some false;rw[hl,hv];rfl) h
theorem Iq {ns:List Str}{Q:Unit->Shared->Prop}(X:K.In s.heap) (I:ObjM s.heap x dx C mA)
  (hs:PySem.W.findIn K (.ref C) "__setattr__" = some (some (.builtin "object.__setattr__"))) (hp:PySem.W.plainOver K C=true) (ht:PySem.W.takerIn K C name=some none) (hh:PySem.W.hasDictIn K C=true)
  (hw:PySem.Within mA ns) (hsz:ns.length<=sizeLine)
  (h:∀h',ObjM h' x dx C (λy=>if y=name then some v else mA y)->Heap.SameBut dx s.heap h'->Q () { s with heap:=h',toks:=s.toks+2 }):
  wpAny (model prog w) A (setAttr (.ref x) name v) Q E s:=by
 obtain⟨od,J,hl⟩:=I.look;refine PySem.W.set_plain X J hs (PySem.W.osa_open (s:={ s with toks:=s.toks+1 }) (r:=none) X J hp ht λb=>?_);obtain⟨cd,hc,hd'⟩:=PySem.W.any_some hh;have hx:s.heap.get? x=some ⟨.ref C,some dx,.plain,#[]⟩:=I.obj;refine wpAny_bind (wpAny_pure (wpAny_bind (wpAny_bind (wpAny_loadPart hx (wpAny_bind (PySem.W.Looks.here (s:={ s with toks:=s.toks+1 }) (PySem.W.looks_clsIn X hc) ?_))))));rw[hd'];refine wpAny_pure (a:=some dx) (wpAny_bind (wpAny_pure (wpAny_bind ?_)));refine wpAny_nsSet1 (s:={ s with toks:=s.toks+1 }) I.ns λh' hn2 hs2=>?_;obtain⟨oD,esD,epD,hoD,hdD,hcD⟩:=hn2.count (PySem.Within.cons name v hw);refine wpAny_bind (wpAny_lookBehind hoD (by rw[hdD];exact pastItsLine_dict (aP hcD (by rw[ck];omega))) ?_);exact wpAny_pure (h _ ⟨(hs2.2 _ (Ne.symm I.ne)).trans I.obj,hn2,I.ne⟩ hs2)
theorem Ir {R:Result->Shared->Prop}{vs:List Value}{kw:List (Str×Value)}(X:K.In s.heap) (hm:PySem.W.makesIn K C=true)
  (hi:PySem.W.findIn K (.ref C) "__init__" = some (some (.ref f))) (hf:PySem.W.typeIn K (.ref f)=some (.type "function"))
  (h:codeAny (model prog w) (A.under (.builtin "type.__call__" ⟨.ref C :: vs,kw⟩)) (.call (.ref f) ⟨.ref (s.heap.objs.size+1) :: vs,kw⟩) (PySem.W.InitBack (s.heap.objs.size+1) R)
   { s with heap:=(s.heap.push PySem.W.emptyDict).push (PySem.W.instObj C s.heap.objs.size) }):
  codeAny (model prog w) A (.call (.ref C) ⟨vs,kw⟩) R s:=by
 obtain⟨hh,g,d,t,os⟩:=s;exact PySem.W.make_core (PySem.W.makes_of X hm) (PySem.W.looks_findIn X hi) (λself=>PySem.W.bind_fn X self hf) (.inl rfl) h
end
def aJ (f:Str)(v:V):List (Str×V)->List (Str×V)
 | []=>[(f,v)]
 |(g,x) :: r=>if g=f then (g,v) :: r else (g,x) :: aJ f v r
theorem BU (f g:Str)(v:V):∀fs:List (Str×V),(aJ f v fs).lookup g=if g=f then some v else fs.lookup g
 | []=>by
  show ku g [(f,v)]=_;by_cases h:g=f
  ·have hb:(g == f)=true:=beq_iff_eq.mpr h;simp only[ku,hb,if_pos h]
  ·have hb:(g == f)=false:=beq_eq_false_iff_ne.mpr h;simp only[ku,hb,if_neg h]
 |(k,x) :: r=>by
  have ih:=BU f g v r;rw[show aJ f v ((k,x) :: r)=(if k=f then (k,v) :: r else (k,x) :: aJ f v r) from rfl];by_cases hk:k=f
  ·rw[if_pos hk];by_cases h:g=k
   ·have hb:(g == k)=true:=beq_iff_eq.mpr h;simp only[ku,hb,if_pos (h.trans hk)]
   ·have hb:(g == k)=false:=beq_eq_false_iff_ne.mpr h;simp only[ku,hb,if_neg (λe:g=f=>h (e.trans hk.symm))]
  ·rw[if_neg hk];by_cases h:g=k
   ·have hb:(g == k)=true:=beq_iff_eq.mpr h;simp only[ku,hb,if_neg (λe:g=f=>hk (h.symm.trans e))]
   ·have hb:(g == k)=false:=beq_eq_false_iff_ne.mpr h;simp only[ku,hb];exact ih
theorem vC (f:Str)(v:V):∀fs:List (Str×V),f∈(aJ f v fs).map (·.1)∧∀g,g∈fs.map (·.1)->g∈(aJ f v fs).map (·.1)
 | []=>⟨by simp[aJ],λg h=>by simp at h⟩
 |(k,x) :: r=>by
  obtain⟨i1,i2⟩:=vC f v r;rw[show aJ f v ((k,x) :: r)=(if k=f then (k,v) :: r else (k,x) :: aJ f v r) from rfl];by_cases hk:k=f
  ·rw[if_pos hk];subst hk;exact⟨by simp,λg h=>by simpa using h⟩
  ·rw[if_neg hk];refine⟨?_,λg h=>?_⟩
   ·rw[dy];exact cT _ i1
   ·rw[dy]at h ⊢;rcases a_.mp h with e|e
    ·exact a_.mpr (.inl e)
    ·exact cT _ (i2 g e)
theorem BV (f:Str)(v:V):∀fs:List (Str×V),(aJ f v fs).length<=fs.length+1
 | []=>by simp[aJ]
 |(k,x) :: r=>by
  have ih:=BV f v r;rw[show aJ f v ((k,x) :: r)=(if k=f then (k,v) :: r else (k,x) :: aJ f v r) from rfl];by_cases hk:k=f
  ·rw[if_pos hk,ck,ck];omega
  ·rw[if_neg hk,ck,ck];omega
theorem RelO.some_of {v:V}{o:Option Value}(r:RelO (some v) o):∃u,o=some u∧RelV v u:=by
 cases o with
 | none=>exact (show False from r).elim
 | some u=>exact⟨u,rfl,r⟩
theorem RelO.none_of {o:Option Value}(r:RelO none o):o=none:=by
 cases o with
 | none=>rfl
 | some u=>exact (show False from r).elim
theorem Is {v:V}{u:Value}(r:RelV v u):PySem.W.handedIn u=true:=by
 cases v with
 | non=>cases (show u=Value.none from r);rfl
 | bl b=>cases (show u=Value.bool b from r);rfl
 | int i=>obtain⟨t,e⟩:=(show ∃t,u=Value.int i t from r);cases e;rfl
 | str x=>obtain⟨t,e⟩:=(show ∃t,u=Value.str x t from r);cases e;rfl
 | byt b=>obtain⟨t,e⟩:=(show ∃t,u=Value.bytes b t from r);cases e;rfl
 | flt b=>obtain⟨t,e⟩:=(show ∃t,u=Value.float b t from r);cases e;rfl
 | ref a=>cases (show u=Value.ref a from r);rfl
 | ty n=>cases (show u=Value.type n from r);rfl
section
variable {P:Program}{w:World}{H H':Hp}{h h':Heap}{a C dx:Addr}{fs fs':List (Str×V)}
theorem mX (hok:HOk P w H h)(e:H a=some (.ins C dx fs)):∃mA,ObjM h a dx C mA∧(∀f,RelO (fs.lookup f) (mA f))∧PySem.Within mA (fs.map (·.1))∧fs.length<=1000∧H dx=some (.own a):=by
 obtain⟨d,z,ne,ob,mA,n,r,q⟩:=(show ObjOk P w H h a (.ins C dx fs) from hok a _ e)
 exact⟨mA,⟨ob,n,ne⟩,r,q,z,d⟩
end
structure Cls (K:PySem.W.Frag)(C:Addr):Prop where
 pg:PySem.W.plainGet K C Str.empty=true
 hd:PySem.W.hasDictIn K C=true
 po:PySem.W.plainOver K C=true
 sa:PySem.W.findIn K (.ref C) "__setattr__" = some (some (.builtin "object.__setattr__"))
theorem Cls.get {K:PySem.W.Frag}{C:Addr}(c:Cls K C)(f:Str):PySem.W.plainGet K C f=true:=c.pg
def NoAttr (K:PySem.W.Frag)(C:Addr)(f:Str):Prop:=PySem.W.findIn K (.ref C) f=some none
theorem NoAttr.taker {K:PySem.W.Frag}{C:Addr}{f:Str}(n:NoAttr K C f):PySem.W.takerIn K C f=some none:=by
 unfold PySem.W.takerIn;rw[show PySem.W.findIn K (.ref C) f=some none from n];rfl
structure Meth (K:PySem.W.Frag)(C:Addr)(m:Str)(f:Addr):Prop where
 at_:PySem.W.findIn K (.ref C) m=some (some (.ref f))
 fn:PySem.W.isFn K (.ref f)=true
 kp:PySem.W.keepIn K (.ref f)=true
section
variable {X:Cx}{RQ:List (Addr×Obj)}{σ:St}{H:Hp}{s:Shared}{a C dx:Addr}{fs:List (Str×V)}{f:Str}{v:V}{A:Around}{E:Value->Shared->Prop}
theorem BW {b:Bool}{Q:Value->Shared->Prop}(I:Inv X RQ σ H s) (e:H a=some (.ins C dx fs)) (c:Cls X.K C) (n:NoAttr X.K C f) (l:fs.lookup f=some v)
  (h:∀u s',Inv X RQ σ H s'->RelV v u->Q u s'):wpAny (model X.prog X.w) A (getAttr (.ref a) f b) Q E s:=by
 obtain⟨mA,O,r,_,_,_⟩:=mX I.hok e;obtain⟨u,hu,ru⟩:=RelO.some_of (v:=v) (o:=mA f) (by rw[←l];exact r f);exact Io I.kIn O (c.get f) c.hd n hu (Is ru) (h u _ (I.tok _) ru)
theorem BX {m:Str}{g:Addr}{pl:Sem Bool}{Q:Value×List Value->Shared->Prop}(I:Inv X RQ σ H s) (e:H a=some (.ins C dx fs)) (c:Cls X.K C) (k:Meth X.K C m g) (l:fs.lookup m=none)
  (h:Q (.ref g,[.ref a]) s):wpAny (model X.prog X.w) A (getMethod (.ref a) m pl) Q E s:=by
 obtain⟨mA,O,r,_,_,_⟩:=mX I.hok e;have hn:mA m=none:=RelO.none_of (by rw[←l];exact r m);exact Ip I.kIn O (c.get m) k.at_ k.fn hn h
theorem BY {y:V}{u:Value}{Q:Unit->Shared->Prop}(I:Inv X RQ σ H s) (e:H a=some (.ins C dx fs)) (c:Cls X.K C) (n:NoAttr X.K C f) (hl:fs.length<1000) (ry:RelV y u)
  (h:∀s',Inv X RQ σ (upd H a (.ins C dx (aJ f y fs))) s'->Q () s'):wpAny (model X.prog X.w) A (setAttr (.ref a) f u) Q E s:=by
 obtain⟨mA,O,r,wi,_,ho⟩:=mX I.hok e;have hz:(fs.map (·.1)).length<=sizeLine:=by rw[ac,sizeLine_eq];omega
 refine Iq I.kIn O c.sa c.po n.taker c.hd wi hz λh' O' sb=>h _ ?_;have hd:∃o,h'.get? dx=some o:=let ⟨o,_,_,e',_⟩:=O'.ns;⟨o,e'⟩
 refine I.write (x:=a) (e:=dx) (by rw[e];exact True.intro) (.inr ho) (λb q hb z=>(sb.2 b hb).trans z) hd ?_;refine⟨by rw[ar O.ne];exact ho,?_,O.ne,O'.obj,_,O'.ns,λg=>?_,λg hg=>?_⟩
 ·have:=BV f y fs;omega
 ·show RelO ((aJ f y fs).lookup g) (if g=f then some u else mA g);rw[BU];by_cases q:g=f
  ·rw[if_pos q,if_pos q];exact ry
  ·rw[if_neg q,if_neg q];exact r g
 ·by_cases q:g=f
  ·rw[q];exact (vC f y fs).1
  ·refine (vC f y fs).2 g (wi g λz=>hg ?_);show (if g=f then some u else mA g)=none;rw[if_neg q];exact z
theorem Inv.made (I:Inv X RQ σ H s):Inv X RQ σ (upd (upd H s.heap.objs.size (.own (s.heap.objs.size+1))) (s.heap.objs.size+1) (.ins C s.heap.objs.size []))
  { s with heap:=(s.heap.push PySem.W.emptyDict).push (PySem.W.instObj C s.heap.objs.size) }:=by
 have e1:(s.heap.push PySem.W.emptyDict).get? s.heap.objs.size=some PySem.W.emptyDict:=Heap.get?_push_size s.heap rfl;have e2:((s.heap.push PySem.W.emptyDict).push (PySem.W.instObj C s.heap.objs.size)).get? (s.heap.objs.size+1)=some (PySem.W.instObj C s.heap.objs.size):=by
  have:=Heap.get?_push_size (s.heap.push PySem.W.emptyDict) (o:=PySem.W.instObj C s.heap.objs.size) rfl
  rwa [Heap.size_push]at this
 have e3:(s.heap.push PySem.W.emptyDict).Ns s.heap.objs.size (λ_=>none):=⟨PySem.W.emptyDict,#[],_,e1,rfl,(λe he=>absurd he (by simp)),λ_=>rfl⟩
 have I1:=I.laid (a:=s.heap.objs.size) (o:=.own (s.heap.objs.size+1)) (h':=s.heap.push PySem.W.emptyDict) (t':=s.toks) (λb u q=>Heap.get?_push_of_some _ q) (am _) ⟨_,e1⟩;refine I1.laid (a:=s.heap.objs.size+1) (o:=.ins C s.heap.objs.size []) (t':=s.toks) (λb u q=>Heap.get?_push_of_some _ q) (rC (Heap.size_push _ _)) ?_;have ne:s.heap.objs.size≠s.heap.objs.size+1:=cJ (ky _);refine⟨by rw[ar ne,ag],aI _,ne,e2,λ_=>none,(Heap.Ns1.of_empty e3).at λo q=>Heap.get?_push_of_some _ q,λ_=>True.intro,λy hy=>absurd rfl hy⟩
theorem Iu {prog:Program}{w:World}{env:Env}{e:Expr}{f:Str}{pos:Pos}{s:Shared}{Q:Value->Shared->Prop}(hb:attributeBase e f env (eval e env)=eval e env)
  (h:wpAny (model prog w) A (eval e env) (λo s₁=>wpAny (model prog w) A (getAttr o f true) Q E s₁) E s):wpAny (model prog w) A (eval (.Attribute e f pos) env) Q E s:=
 Attribute_any_ h (by rw[arm_eval_Attribute,hb])
end
def vD (K:PySem.W.Frag)(ta:TE)(f:Str):TE:=λσ H Q=>ta σ H λx H1=>∃a C dx fs v,x=.ref a∧H1 a=some (.ins C dx fs)∧Cls K C∧NoAttr K C f∧fs.lookup f=some v∧Q v H1
def BZ (K:PySem.W.Frag)(ta tv:TE)(f:Str):TS:=λD σ H=>tv σ H λy H1=>ta σ H1 λx H2=>∃a C dx fs,x=.ref a∧H2 a=some (.ins C dx fs)∧Cls K C∧NoAttr K C f∧fs.length<1000∧
 D.nx σ (upd H2 a (.ins C dx (aJ f y fs)))
def B2 (X:Cx)(op:Operator)(rd:V->V->Hp->VK->Prop):Prop:=
 ∀(RQ:List (Addr×Obj)) (s:Shared) (σ:St) (H:Hp) (x y:V) (u v:Value) (Q:VK),Inv X RQ σ H s->RelV x u->RelV y v->rd x y H Q->wpAny (model X.prog X.w) X.A (inplaceOp op u v) (EP X RQ σ Q) X.xe s
def B3 (K:PySem.W.Frag)(ta tv:TE)(rd:V->V->Hp->VK->Prop)(f:Str):TS:=λD σ H=>ta σ H λx H1=>∃a C dx fs v,x=.ref a∧H1 a=some (.ins C dx fs)∧Cls K C∧NoAttr K C f∧fs.lookup f=some v∧
 tv σ H1 λy H2=>rd v y H2 λz H3=>∃dx' fs',H3 a=some (.ins C dx' fs')∧fs'.length<1000∧D.nx σ (upd H3 a (.ins C dx' (aJ f z fs')))
section
variable {X:Cx}{o e value:Expr}{f:Str}{pos pos' tpos:Pos}{ta tv:TE}
theorem cU (he:PE X e ta)(hb:attributeBase e f X.env (eval e X.env)=eval e X.env):PE X (.Attribute e f pos) (vD X.K ta f):=by
 intro RQ s σ H Q I h;refine Iu hb (thn (he RQ s σ H _ I h) λu s1 ⟨x,H1,I1,rx,a,C,dx,fs,v,ex,ea,c,n,l,q⟩=>?_);subst ex;obtain rfl:u=Value.ref a:=rx;exact BW I1 ea c n l λu' s2 I2 ru=>⟨v,H1,I2,ru,q⟩
theorem kK (ha:PE X o ta)(hv:PE X value tv)(hs:swapsWith value (some (.Attribute o f pos')) pos.line X.env=pure false):PS X (.Assign [.Attribute o f pos'] value pos) (BZ X.K ta tv f):=by
 intro RQ s σ H D I h;refine plainObj_wpAny_Assign_Attribute (thn (hv RQ s σ H _ I h) λu s1 ⟨y,H1,I1,ry,q⟩=>thn (ha RQ s1 σ H1 _ I1 q) λov s2 ⟨x,H2,I2,rx,a,C,dx,fs,ex,ea,c,n,l,q2⟩=>?_) hs;subst ex;obtain rfl:ov=Value.ref a:=rx;exact BY I2 ea c n l ry λs3 I3=>⟨σ,_,I3,q2⟩
theorem Iv {op:Operator}{rd:V->V->Hp->VK->Prop}(ha:PE X o ta)(hv:PE X value tv)(hop:B2 X op rd):PS X (.AugAssign (.Attribute o f tpos) op value pos) (B3 X.K ta tv rd f):=by
 intro RQ s σ H D I h;refine wpAny_AugAssign_AttributeAny (thn (ha RQ s σ H _ I h) λov s1 ⟨x,H1,I1,rx,a,C,dx,fs,v,ex,ea,c,n,l,q⟩=>?_);subst ex;obtain rfl:ov=Value.ref a:=rx;refine BW I1 ea c n l λu s2 I2 ru=>thn (hv RQ s2 σ H1 _ I2 q) λw3 s3 ⟨y,H2,I3,ry,q3⟩=>thn (hop RQ s3 σ H2 v y u w3 _ I3 ru ry q3) λw4 s4 ⟨z,H3,I4,rz,dx',fs',ea',l',q4⟩=>?_;exact BY I4 ea' c n l' rz λs5 I5=>⟨σ,_,I5,q4⟩
def B4:V->V->Hp->VK->Prop:=λx y H Q=>∃i j,x=.int i∧y=.int j∧Q (.int (i+j)) H
theorem Iw:B2 X .Add B4:=by
 rintro RQ s σ H x y u v Q I rx ry ⟨i,j,rfl,rfl,q⟩
 obtain⟨t,rfl⟩:=(show ∃t,u=Value.int i t from rx)
 obtain⟨t',rfl⟩:=(show ∃t',v=Value.int j t' from ry)
 exact PyProof.Rows.iadd_int ⟨.int (i+j),H,I.tok _,⟨_,rfl⟩,q⟩
theorem NA {pl:Sem Bool}{m:Str}{apos:Pos}{args:List Expr}{RQ:List (Addr×Obj)}{s:Shared}{σ:St}{H:Hp}{Q:Value->Shared->Prop}{te:TE}(he:PE X e te) (I:Inv X RQ σ H s)
  (h:te σ H λx H1=>∃a C dx fs g,x=.ref a∧H1 a=some (.ins C dx fs)∧Cls X.K C∧Meth X.K C m g∧fs.lookup m=none∧
   ∀s1,Inv X RQ σ H1 s1->wpAny (model X.prog X.w) X.A (callWith pos (.ref g) [.ref a] (backTo pos (starEach args X.env)) (backToKw pos (keywordEach [] X.env))) Q X.xe s1)
  (ht:eval (.Call (.Attribute e m apos) args [] pos) X.env=(do
   let ov ←eval e X.env
   standAt apos.atName
   let (f,first) ←holding [ov] (getMethod ov m pl)
   callWith pos f first (backTo pos (starEach args X.env)) (backToKw pos (keywordEach [] X.env)))):
  wpAny (model X.prog X.w) X.A (eval (.Call (.Attribute e m apos) args [] pos) X.env) Q X.xe s:=by
 refine PySem.W.methodCall_KW (pl:=pl) (thn (he RQ s σ H _ I h) λu s1 ⟨x,H1,I1,rx,a,C,dx,fs,g,ex,ea,c,k,l,q⟩=>?_) ht;subst ex;obtain rfl:u=Value.ref a:=rx;exact BX I1 ea c k l (q s1 I1)
end
section
variable {X:Cx}{RQ:List (Addr×Obj)}{σ:St}{H:Hp}{s:Shared}{A:Around}{E:Value->Shared->Prop}{Q:Value->Shared->Prop}{c:Value}{b:Bool}
inductive TyOf (K:PySem.W.Frag) (H:Hp):V->Value->Prop where
 | non:TyOf K H .non (.type "NoneType")
 | bl (x:Bool):TyOf K H (.bl x) (.type "bool")
 | int (i:Int):TyOf K H (.int i) (.type "int")
 | str (x:Str):TyOf K H (.str x) (.type "str")
 | flt (x:UInt64):TyOf K H (.flt x) (.type "float")
 | lst {a:Addr}{xs:List V}(e:H a=some (.lst xs)):TyOf K H (.ref a) (.type "list")
 | frz {a:Addr}{o:Obj}{xs:List V}(e:H a=some (.frz o (.lst xs))):TyOf K H (.ref a) (.type "list")
 | tup {a:Addr}{xs:List V}(e:H a=some (.tup xs)):TyOf K H (.ref a) (.type "tuple")
 | dK {a:Addr}{kvs:List (Key×V)}(e:H a=some (.dK kvs)):TyOf K H (.ref a) (.type "dict")
 | dT {a:Addr}{kvs:List (List Key×V)}(e:H a=some (.dT kvs)):TyOf K H (.ref a) (.type "dict")
 | ins {a C dx:Addr}{fs:List (Str×V)}(e:H a=some (.ins C dx fs)) (cl:Cls K C) (ha:PySem.W.findIn K (.ref C) "__class__" = some (some (.builtin "object.__class__")))
   (hn:PySem.W.specialIn K (.builtin "object.__class__") "__get__" = some (some (.builtin "getset_descriptor.__get__"))) (htk:PySem.W.takesIn K (.builtin "object.__class__")=some true)
   (hm:PySem.W.mroIn K C (.type "object")=some true):TyOf K H (.ref a) (.ref C)
theorem Ix {x:V}{u t:Value}(I:Inv X RQ σ H s)(rx:RelV x u)(ty:TyOf X.K H x t)(e:PySem.W.kitOne X.K t c=some b)(h:∀tk,Q (.bool b) { s with toks:=tk }):
  wpAny (model X.prog X.w) A (call (.builtin "isinstance") [u,c]) Q E s:=by
 cases ty with
 | non=>cases (show u=Value.none from rx);exact PySem.W.kia_one PySem.W.kitx_none I.kIn True.intro e (λz=>nomatch z) h
 | bl y=>cases (show u=Value.bool y from rx);exact PySem.W.kia_one PySem.W.kitx_bool I.kIn True.intro e (λz=>nomatch z) h
 | int i=>obtain⟨t,q⟩:=(show ∃t,u=Value.int i t from rx);cases q;exact PySem.W.kia_one PySem.W.kitx_int I.kIn True.intro e (λz=>nomatch z) h
 | str y=>obtain⟨t,q⟩:=(show ∃t,u=Value.str y t from rx);cases q;exact PySem.W.kia_one PySem.W.kitx_str I.kIn True.intro e (λz=>nomatch z) h
 | flt y=>obtain⟨t,q⟩:=(show ∃t,u=Value.float y t from rx);cases q;exact PySem.W.kia_one PySem.W.kitx_float I.kIn True.intro e (λz=>nomatch z) h
 | @lst a xs ea=>
  cases (show u=Value.ref a from rx)
  obtain⟨_,_,n,_,h1⟩:=(show ObjOk X.prog X.w H s.heap a (.lst xs) from I.hok a _ ea)
  exact PySem.W.kia_one PySem.W.kitx_list I.kIn ⟨_,h1,rfl⟩ e (λz=>nomatch z) h
 | @frz a ob xs ea=>
  cases (show u=Value.ref a from rx)
  obtain⟨_,_,_,n,_,h1⟩:=(show ObjOk X.prog X.w H s.heap a (.frz ob (.lst xs)) from I.hok a _ ea)
  exact PySem.W.kia_one PySem.W.kitx_list I.kIn ⟨_,h1,rfl⟩ e (λz=>nomatch z) h
 | @tup a xs ea=>
  cases (show u=Value.ref a from rx)
  obtain⟨_,_,_,p⟩:=(show ObjOk X.prog X.w H s.heap a (.tup xs) from I.hok a _ ea)
  obtain⟨o,h1,h2,_⟩:=p;exact PySem.W.kia_one PySem.W.kitx_tuple I.kIn ⟨o,h1,h2⟩ e (λz=>nomatch z) h
 | @dK a kvs ea=>
  cases (show u=Value.ref a from rx)
  obtain⟨_,_,vs,_,p⟩:=(show ObjOk X.prog X.w H s.heap a (.dK kvs) from I.hok a _ ea)
  obtain⟨o,es,ep,h1,h2,_⟩:=p;exact PySem.W.kia_one PySem.W.kitx_dict I.kIn ⟨o,h1,h2.1⟩ e (λz=>nomatch z) h
 | @dT a kvs ea=>
  cases (show u=Value.ref a from rx)
  obtain⟨_,_,xs,_,o,es,ep,h1,h2,_⟩:=(show ObjOk X.prog X.w H s.heap a (.dT kvs) from I.hok a _ ea)
  exact PySem.W.kia_one PySem.W.kitx_dict I.kIn ⟨o,h1,h2.1⟩ e (λz=>nomatch z) h
 | @ins a C dx fs ea cl ha hn htk hm=>
  cases (show u=Value.ref a from rx)
  obtain⟨mA,O,_⟩:=mX I.hok ea;obtain⟨od,J,_⟩:=O.look;exact PySem.W.kia_one (PySem.W.kitx_own (cl.get _) cl.hd ha hn htk hm) I.kIn J e (λz=>nomatch z) h
end
end L2
namespace L2
open PySem PySem.Spec PyProof.Rows
structure Room (k:Nat)(A:Around):Prop where
 hd:A.handled=none
 dp:A.depth+3*k+5<recursionLimit
 un:A.units+16*k+200<cLine
theorem Room.mono {j k:Nat}{A:Around}(r:Room k A)(h:j<=k):Room j A:=⟨r.hd,by have:=r.dp;omega,by have:=r.un;omega⟩
theorem Room.deeper {k:Nat}{A:Around}(r:Room (k+1) A)(env:Env):Room k (A.deeper env):=
 ⟨r.hd,by have:=r.dp;show A.depth+1+3*k+5<_;omega,by have:=r.un;show A.units+3+16*k+200<_;omega⟩
theorem Iy {A:Around}{C:Addr}{us:List Value}{kw:List (Str×Value)}:(A.under (.builtin "type.__call__" ⟨.ref C :: us,kw⟩)).depth=A.depth+1:=by
 first|rfl|simp[Around.under,Code.weight,Code.isCreation,Code.isGuard,Code.isCaller,Code.frames,Code.isFrame,guardIds]
theorem Iz {A:Around}{C:Addr}{us:List Value}{kw:List (Str×Value)}:(A.under (.builtin "type.__call__" ⟨.ref C :: us,kw⟩)).units=A.units+1:=by
 first|rfl|simp[Around.under,Code.cUnits,Code.frames,Code.isFrame]
theorem Room.make {k:Nat}{A:Around}(r:Room (k+1) A)(C:Addr)(us:List Value)(kw:List (Str×Value)):Room k (A.under (.builtin "type.__call__" ⟨.ref C :: us,kw⟩)):=
 ⟨r.hd,by have:=r.dp;rw[Iy];omega,by have:=r.un;rw[Iz];omega⟩
theorem Room.depth {k:Nat}{A:Around}(r:Room k A):A.depth<recursionLimit:=by have:=r.dp;omega
theorem Room.units {k:Nat}{A:Around}(r:Room k A):A.units+64<cLine:=by have:=r.un;omega
def vE:TA:=λ_ H Q=>Q [] H
def vG (ta:TE)(tr:TA):TA:=λσ H Q=>ta σ H λx H1=>tr σ H1 λxs H2=>Q (x :: xs) H2
section
variable {X:Cx}{e:Expr}{es:List Expr}{te:TE}{t:TA}{pos:Pos}
theorem ae:PA X [] vE:=λ_ _ _ _ H Q I h=>Calls.spliced_nil ⟨[],H,I,.nil,h⟩
theorem aa (ha:PE X e te)(hr:PA X es t)(hs:starEach (e :: es) X.env=(false,eval e X.env) :: starEach es X.env:=by rfl):PA X (e :: es) (vG te t):=by
 intro pos RQ s σ H Q I h;rw[hs];show wpAny _ _ (spliced ((false,eval e X.env) :: backTo pos (starEach es X.env))) _ _ s;refine Calls.spliced_cons (thn (ha RQ s σ H _ I h) λu s1 ⟨x,H1,I1,r1,q1⟩=>?_);exact thn (hr pos RQ s1 σ H1 _ I1 q1) λus s2 ⟨xs,H2,I2,r2,q2⟩=>⟨x :: xs,H2,I2,.cons r1 r2,q2⟩
def B5 (t:TA):TE:=λσ H Q=>t σ H λxs H1=>xs.length<=sizeLine∧∀p,H1 p=none->Q (.ref p) (upd H1 p (.tup xs))
def B6 (t:TA):TE:=λσ H Q=>t σ H λxs H1=>xs.length<=sizeLine∧∀p,H1 p=none->Q (.ref p) (upd H1 p (.lst xs))
theorem mY {x1}(h:PA X es t):PE X (.Tuple es x1 pos) (B5 t):=by
 intro RQ s σ H Q I hq;refine wpAny_Tuple_spliced (thn (h pos RQ s σ H _ I hq) λus s1 ⟨xs,H1,I1,r,z,q⟩=>⟨by rw[←r.length];exact z,?_⟩);have hf:H1 s1.heap.objs.size=none:=I1.hok.fresh (am _);refine⟨.ref s1.heap.objs.size,upd H1 s1.heap.objs.size (.tup xs),I1.laid (t':=s1.toks) (λb u e=>Heap.get?_push_of_some _ e) (am _) ?_,rfl,q _ hf⟩;exact⟨z,us,r,⟨_,Heap.get?_push_size _ rfl,rfl,_,rfl⟩⟩
theorem bU (h:PA X es t):PE X (.List es pos) (B6 t):=by
 intro RQ s σ H Q I hq;refine wpAny_List_spliced (thn (h pos RQ s σ H _ I hq) λus s1 ⟨xs,H1,I1,r,z,q⟩=>⟨by rw[←r.length];exact z,?_⟩);have hf:H1 s1.heap.objs.size=none:=I1.hok.fresh (am _);refine⟨.ref s1.heap.objs.size,upd H1 s1.heap.objs.size (.lst xs),I1.laid (t':=s1.toks) (λb u e=>Heap.get?_push_of_some _ e) (am _) ?_,rfl,q _ hf⟩;exact⟨z,us,0,r,Heap.get?_push_size _ rfl⟩
end
abbrev Sp:=List V->Hp->VK->XK->Prop
abbrev CXT:=List Env->Hp->Shared->XK->Value->Shared->Prop
structure Env0 (P:Program)(w:World)(K:PySem.W.Frag)(mg:Str->Option Value)(base:Heap)(A:Around)(outer:List Env)(s:Shared)(H:Hp):Prop where
 frames:A.frames=some outer
 mod:Mod K mg base
 bs:∀b o,base.get? b=some o->s.heap.get? b=some o∧H b=none
 bsz:base.objs.size<=s.heap.objs.size
 funs:s.heap.FunFrames base outer
 frf:∀b∈frs outer,H b=none
 hok:HOk P w H s.heap
 bare:AllBare s.gens
def CE (outer:List Env)(P:Program)(w:World)(H:Hp)(s:Shared)(Q:VK)(u:Value)(s':Shared):Prop:=
 ∃v H',s'.os=s.os∧AllBare s'.gens∧Un (frs outer) [] H H' s.heap s'.heap∧HOk P w H' s'.heap∧RelV v u∧Q v H'
def CR (CX:CXT)(outer:List Env)(P:Program)(w:World)(H:Hp)(s:Shared)(Q:VK)(E:XK)(r:Result)(s':Shared):Prop:=
 match r with
 | .ok (.ret u)=>CE outer P w H s Q u s'
 | .ok _=>False
 | .error e=>CX outer H s E e s'
structure FnOk (P:Program)(w:World)(K:PySem.W.Frag)(mg:Str->Option Value)(base:Heap)(CX:CXT)(k:Nat)(f:Addr)(fd:FuncData)(ps:List Str)(sp:Sp):Prop where
 len:∀vs H Q E,sp vs H Q E->vs.length=ps.length
 run:∀(A:Around) (outer:List Env) (s:Shared) (H:Hp) (args:Args) (us:List Value) (vs:List V) (Q:VK) (E:XK),Room k A->Env0 P w K mg base A outer s H->BindsTo s fd args (ps.zip us)->Vals vs us->sp vs H Q E->
  codeAny (model P w) A (.call (.ref f) args) (CR CX outer P w H s Q E) s
theorem FnOk.mono {P:Program}{w:World}{K:PySem.W.Frag}{mg:Str->Option Value}{base:Heap}{CX:CXT}{j k:Nat}{f:Addr}{fd:FuncData}{ps:List Str}{sp:Sp}(F:FnOk P w K mg base CX j f fd ps sp)(h:j<=k):
  FnOk P w K mg base CX k f fd ps sp:=⟨F.len,λA outer s H args us vs Q E hr=>F.run A outer s H args us vs Q E (hr.mono h)⟩
theorem Env0.make {P:Program}{w:World}{K:PySem.W.Frag}{mg:Str->Option Value}{base:Heap}{A:Around}{outer:List Env}{s:Shared}{H:Hp}(e:Env0 P w K mg base A outer s H)(C:Addr)(us:List Value)(kw:List (Str×Value)):
  Env0 P w K mg base (A.under (.builtin "type.__call__" ⟨.ref C :: us,kw⟩)) outer s H:=⟨by first|exact e.frames|(simpa [Around.under,Code.envs,Code.isFrame,pushEnvs] using e.frames),e.mod,e.bs,e.bsz,e.funs,e.frf,e.hok,e.bare⟩
section
variable {X:Cx}{RQ:List (Addr×Obj)}{σ:St}{H:Hp}{s s':Shared}
theorem Inv.env0 (I:Inv X RQ σ H s):Env0 X.prog X.w X.K X.mg X.base X.A X.stack s H:=
 ⟨I.ok.frames,I.ok.mod,I.bs,aP I.ok.bsz I.sz,I.stack,I.stkFree,I.hok,I.bare⟩
theorem Inv.after {Q:VK}{u:Value}(I:Inv X RQ σ H s)(h:CE X.stack X.prog X.w H s Q u s'):EP X RQ σ Q u s':=by
 obtain⟨v,H',os,bare,un,hok,r,q⟩:=h;obtain⟨hh,g,d,t,os'⟩:=s';obtain rfl:os'=s.os:=os;exact⟨v,H',I.call (h':=hh) (g':=g) (d':=d) (t':=t) (ch:=[]) un hok bare (λb z=>absurd z (by simp)),r,q⟩
end
def B7 (sp:Sp)(dvs:List V)(E:XK)(t:TA):TE:=λσ H Q=>t σ H λvs H1=>sp (vs++dvs) H1 Q E
def B8 (C:Addr)(m:Str)(sp:Sp)(dvs:List V)(E:XK)(ta:TE)(t:TA):TE:=λσ H Q=>ta σ H λx H1=>∃a dx fs,x=.ref a∧H1 a=some (.ins C dx fs)∧fs.lookup m=none∧
 t σ H1 λvs H2=>sp (x :: (vs++dvs)) H2 Q E
def B9 (C:Addr)(sp:Sp)(dvs:List V)(E:XK)(t:TA):TE:=λσ H Q=>t σ H λvs H1=>∀x dx,H1 x=none->H1 dx=none->dx≠x->
 sp (.ref x :: (vs++dvs)) (upd (upd H1 dx (.own x)) x (.ins C dx [])) (λv H2=>v=.non∧Q (.ref x) H2) E
def Binds (K:PySem.W.Frag)(fd:FuncData)(ps:List Str)(ds:List Value):Prop:=
 ∀(s:Shared) (us:List Value),K.In s.heap->(us++ds).length=ps.length->BindsTo s fd ⟨us,[]⟩ (ps.zip (us++ds))
theorem Binds.all {K:PySem.W.Frag}{fd:FuncData}{ps:List Str}(h:∀us:List Value,us.length=ps.length->bindArgs fd ⟨us,[]⟩=pure (ps.zip us)):Binds K fd ps []:=λs us _ hl=>by
 rw[rD]at hl ⊢;exact .of_eq (h us hl)
def jj (CX:CXT)(X:Cx)(E:XK):Prop:=∀(RQ:List (Addr×Obj)) (σ:St) (H:Hp) (s:Shared) (e:Value) (s':Shared),Inv X RQ σ H s->CX X.stack H s E e s'->X.xe e s'
section
variable {X:Cx}{CX:CXT}{k:Nat}{f C:Addr}{fd:FuncData}{ps:List Str}{sp:Sp}{dvs:List V}{ds:List Value}{E:XK}{x m:Str}{p pos apos:Pos}{e o:Expr}{es:List Expr}{ta:TE}{t:TA}
theorem B_ {RQ:List (Addr×Obj)}{σ:St}{H:Hp}{s:Shared}{Q:VK}{us:List Value}{vs:List V}(F:FnOk X.prog X.w X.K X.mg X.base CX k f fd ps sp) (hr:Room k X.A) (hb:Binds X.K fd ps ds) (hd:Vals dvs ds) (hx:jj CX X E)
  (I:Inv X RQ σ H s) (r:Vals vs us) (h:sp (vs++dvs) H Q E):wpAny (model X.prog X.w) X.A (call (.ref f) us) (EP X RQ σ Q) X.xe s:=by
 have r2:Vals (vs++dvs) (us++ds):=r.append hd;have hl:(us++ds).length=ps.length:=by rw[←r2.length];exact F.len _ _ _ _ h
 refine wpAny_call (codeAny_mono (F.run X.A X.stack s H ⟨us,[]⟩ (us++ds) (vs++dvs) Q E hr I.env0 (hb s us I.kIn hl) r2 h) λr s' hq=>?_)
 cases r with
 | error e=>exact hx RQ σ H s e s' I hq
 | ok fl=>
  cases fl with
  | ret u=>exact I.after hq
  | next=>exact False.elim hq
  | brk=>exact False.elim hq
  | cont=>exact False.elim hq
theorem aK (F:FnOk X.prog X.w X.K X.mg X.base CX k f fd ps sp) (hr:Room k X.A) (hg:Gl X x) (hm:X.mg x=some (.ref f)) (hk:PySem.W.keepIn X.K (.ref f)=true) (hb:Binds X.K fd ps ds) (hd:Vals dvs ds) (hx:jj CX X E)
  (ha:PA X (e :: es) t) (hdb:(x == ("__debug__" : Str))=false:=by decide) (he:starEach (e :: es) X.env=(false,eval e X.env) :: starEach es X.env:=by rfl) (hpl:(backTo pos (starEach es X.env)).any (·.1)=false:=by rfl):
  PE X (.Call (.Name x p) (e :: es) [] pos) (B7 sp dvs E t):=by
 intro RQ s σ H Q I h;refine wpAny_Call_Name_kw (mK I hg hm ?_ hdb);refine PySem.W.callWith_K (h₀:=X.base) I.ok.mod.kin hk (thn (ha pos RQ s σ H _ I h) λus s1 ⟨vs,H1,I1,r,q⟩=>⟨I1.kIn,?_⟩) he hpl;exact B_ F hr hb hd hx I1 r q
theorem fq {pl:Sem Bool}(he:PE X o ta) (c:Cls X.K C) (hm:Meth X.K C m f) (F:FnOk X.prog X.w X.K X.mg X.base CX k f fd ps sp) (hr:Room k X.A) (hb:Binds X.K fd ps ds) (hd:Vals dvs ds) (hx:jj CX X E) (ha:PA X (e :: es) t)
  (hst:starEach (e :: es) X.env=(false,eval e X.env) :: starEach es X.env:=by rfl) (hpl:(backTo pos (starEach es X.env)).any (·.1)=false:=by rfl)
  (ht:eval (.Call (.Attribute o m apos) (e :: es) [] pos) X.env=(do
   let ov ←eval o X.env
   standAt apos.atName
   let (f,first) ←holding [ov] (getMethod ov m pl)
   callWith pos f first (backTo pos (starEach (e :: es) X.env)) (backToKw pos (keywordEach [] X.env))):=by rfl):
  PE X (.Call (.Attribute o m apos) (e :: es) [] pos) (B8 C m sp dvs E ta t):=by
 intro RQ s σ H Q I h;refine PySem.W.methodCall_KW (pl:=pl) (thn (he RQ s σ H _ I h) λu s1 ⟨x,H1,I1,rx,a,dx,fs,ex,ea,l,q⟩=>?_) ht;subst ex;obtain rfl:u=Value.ref a:=rx;refine BX I1 ea c hm l ?_;refine PySem.W.callWith_K (first:=[.ref a]) (h₀:=X.base) I.ok.mod.kin hm.kp (thn (ha pos RQ s1 σ H1 _ I1 q) λus s2 ⟨vs,H2,I2,r,q2⟩=>⟨I2.kIn,?_⟩) hst hpl;exact B_ (us:=.ref a :: us) (vs:=.ref a :: vs) F hr hb hd hx I2 (.cons rfl r) q2
structure Mk (K:PySem.W.Frag)(C f:Addr):Prop where
 makes:PySem.W.makesIn K C=true
 init:PySem.W.findIn K (.ref C) "__init__" = some (some (.ref f))
 fn:PySem.W.isFn K (.ref f)=true
 kp:PySem.W.keepIn K (.ref C)=true
theorem IA {RQ:List (Addr×Obj)}{σ:St}{H:Hp}{s:Shared}{Q:VK}{us:List Value}{vs:List V}(M:Mk X.K C f) (F:FnOk X.prog X.w X.K X.mg X.base CX k f fd ps sp) (hr:Room (k+1) X.A) (hb:Binds X.K fd ps ds) (hd:Vals dvs ds)
  (hx:jj CX X E) (I:Inv X RQ σ H s) (r:Vals vs us)
  (h:∀x dx,H x=none->H dx=none->dx≠x->sp (.ref x :: (vs++dvs)) (upd (upd H dx (.own x)) x (.ins C dx [])) (λv H2=>v=.non∧Q (.ref x) H2) E):
  wpAny (model X.prog X.w) X.A (call (.ref C) us) (EP X RQ σ Q) X.xe s:=by
 have hq:=h (s.heap.objs.size+1) s.heap.objs.size (I.hok.fresh (FV _)) (I.hok.fresh (am _)) (cJ (ky _));have I2:=Inv.made (C:=C) I;have r2:Vals (V.ref (s.heap.objs.size+1) :: (vs++dvs)) (Value.ref (s.heap.objs.size+1) :: (us++ds)):=.cons rfl (r.append hd);have hl:(Value.ref (s.heap.objs.size+1) :: us++ds).length=ps.length:=by
  have e:=r2.length;rw[F.len _ _ _ _ hq]at e;exact e.symm
 refine wpAny_call (Ir (f:=f) I.kIn M.makes M.init (beq_iff_eq.mp M.fn) (codeAny_mono (F.run _ X.stack _ _ ⟨Value.ref (s.heap.objs.size+1) :: us,[]⟩ (Value.ref (s.heap.objs.size+1) :: (us++ds)) _ _ E (hr.make C us [])
  (I2.env0.make C us []) (hb _ (Value.ref (s.heap.objs.size+1) :: us) I2.kIn hl) r2 hq) λr s' hq'=>?_))
 cases r with
 | error e=>exact hx RQ σ _ _ e s' I2 hq'
 | ok fl=>
  cases fl with
  | ret u=>
   obtain⟨v,H',I3,rv,ev,q3⟩:=I2.after hq';subst ev;exact⟨rv,⟨V.ref (s.heap.objs.size+1),H',I3,rfl,q3⟩⟩
  | next=>exact False.elim hq'
  | brk=>exact False.elim hq'
  | cont=>exact False.elim hq'
theorem vH (M:Mk X.K C f) (F:FnOk X.prog X.w X.K X.mg X.base CX k f fd ps sp) (hr:Room (k+1) X.A) (hg:Gl X x) (hm:X.mg x=some (.ref C)) (hb:Binds X.K fd ps ds) (hd:Vals dvs ds) (hx:jj CX X E)
  (ha:PA X (e :: es) t) (hdb:(x == ("__debug__" : Str))=false:=by decide) (he:starEach (e :: es) X.env=(false,eval e X.env) :: starEach es X.env:=by rfl) (hpl:(backTo pos (starEach es X.env)).any (·.1)=false:=by rfl):
  PE X (.Call (.Name x p) (e :: es) [] pos) (B9 C sp dvs E t):=by
 intro RQ s σ H Q I h;refine wpAny_Call_Name_kw (mK I hg hm ?_ hdb);refine PySem.W.callWith_K (h₀:=X.base) I.ok.mod.kin M.kp (thn (ha pos RQ s σ H _ I h) λus s1 ⟨vs,H1,I1,r,q⟩=>⟨I1.kIn,?_⟩) he hpl;exact IA M F hr hb hd hx I1 r q
end
def PK (X:Cx)(kws:List Keyword)(t:TA):Prop:=
 ∀(pos:Pos) (RQ:List (Addr×Obj)) (s:Shared) (σ:St) (H:Hp) (Q:List V->Hp->Prop),Inv X RQ σ H s->t σ H Q->wpAny (model X.prog X.w) X.A (evalAll ((backToKw pos (keywordEach kws X.env)).map (·.2))) (AP X RQ σ Q) X.xe s
section
variable {X:Cx}{CX:CXT}{k:Nat}{f C:Addr}{fd:FuncData}{ps ks:List Str}{sp:Sp}{E:XK}{x m:Str}{p pos apos kpos:Pos}{e o:Expr}{es:List Expr}{kws:List Keyword}{te ta:TE}{t tk:TA}{nm:Option Str}
theorem IB:PK X [] vE:=λ_ _ _ _ H Q I h=>wpAny_evalAll_nil ⟨[],H,I,.nil,h⟩
theorem IC (ha:PE X e te)(hr:PK X kws t):PK X (⟨nm,e,kpos⟩ :: kws) (vG te t):=by
 intro pos RQ s σ H Q I h;show wpAny _ _ (evalAll ((do let v ←eval e X.env;standAt pos;pure v) :: (backToKw pos (keywordEach kws X.env)).map (·.2))) _ _ s;refine wpAny_evalAll_cons (wpAny_bind (thn (ha RQ s σ H _ I h) λu s1 ⟨x,H1,I1,r1,q1⟩=>wpAny_bind (wpAny_standAt (wpAny_pure ?_))));exact thn (hr pos RQ s1 σ H1 _ I1 q1) λus s2 ⟨xs,H2,I2,r2,q2⟩=>⟨x :: xs,H2,I2,.cons r1 r2,q2⟩
variable {g:List Value->List Value->List Value}{gV:List V->List V->List V}
end
structure FnScope (N P:List Str)(sc:Scope):Prop where
 kind:sc.kind=.function
 co:sc.isCoroutine=false
 gen:sc.isGenerator=false
 nd:N.Nodup
 pre:N.take P.length=P
 par:∀x∈P,sc.names.lookup x=some .local∨sc.names.lookup x=some .cell
 nofree:∀y∈sc.names,y.2≠.free
theorem Ca {kindOf:Str->Option NameKind}{x:Str}:∀{binds:List (Str×Value)}{m:Str->Option Value},(∀v,(x,v)∉binds)->bindL kindOf binds m x=m x
 | [],_,_=>rfl
 |(n,v) :: r,m,h=>by
  unfold bindL;rw[Ca λw hw=>h w (cT _ hw)]
  split
  ·have:x≠n:=by rintro rfl;exact h v dw
   simp[this]
  ·rfl
theorem Cb {kindOf:Str->Option NameKind}{x:Str}:∀{binds:List (Str×Value)}{m:Str->Option Value},(∀v,(x,v)∉binds)->bindC kindOf binds m x=m x
 | [],_,_=>rfl
 |(n,v) :: r,m,h=>by
  unfold bindC;rw[Cb λw hw=>h w (cT _ hw)]
  split
  ·rfl
  ·have:x≠n:=by rintro rfl;exact h v dw
   simp[this]
theorem Cc {kindOf:Str->Option NameKind}{x:Str}{v:Value}:∀{P:List Str}{vs:List Value}{i:Nat}{m:Str->Option Value},P.Nodup->P[i]?=some x->vs[i]?=some v->kindOf x=some .local->
  bindL kindOf (P.zip vs) m x=some v
 | [],_,_,_,_,h,_,_=>by simp at h
 | _ :: _,[],_,_,_,_,h,_=>by simp at h
 | p :: P,w :: vs,0,m,nd,h1,h2,hk=>by
  simp at h1 h2;subst h1;subst h2;show bindL kindOf ((p,w) :: P.zip vs) m p=_;unfold bindL;rw[Ca λv hv=>(md.mp nd).1 (FW hv).1,if_pos hk];simp
 | p :: P,w :: vs,i+1,m,nd,h1,h2,hk=>by
  show bindL kindOf ((p,w) :: P.zip vs) m x=_;unfold bindL;exact Cc (i:=i) (md.mp nd).2 (by simpa using h1) (by simpa using h2) hk
theorem Cd {kindOf:Str->Option NameKind}{x:Str}{v:Value}:∀{P:List Str}{vs:List Value}{i:Nat}{m:Str->Option Value},P.Nodup->P[i]?=some x->vs[i]?=some v->kindOf x≠some .local->
  bindC kindOf (P.zip vs) m x=some v
 | [],_,_,_,_,h,_,_=>by simp at h
 | _ :: _,[],_,_,_,_,h,_=>by simp at h
 | p :: P,w :: vs,0,m,nd,h1,h2,hk=>by
  simp at h1 h2;subst h1;subst h2;show bindC kindOf ((p,w) :: P.zip vs) m p=_;unfold bindC;rw[Cb λv hv=>(md.mp nd).1 (FW hv).1,if_neg hk];simp
 | p :: P,w :: vs,i+1,m,nd,h1,h2,hk=>by
  show bindC kindOf ((p,w) :: P.zip vs) m x=_;unfold bindC;exact Cd (i:=i) (md.mp nd).2 (by simpa using h1) (by simpa using h2) hk
def gC (N:List Str)(vs:List V):St:=vs.map some++aL (N.length-vs.length) none
noncomputable def fL (CX:CXT) (P:Program) (w:World) (K:PySem.W.Frag) (mg:Str->Option Value) (base:Heap) (N:List Str) (qual:Str) (scope:Scope) (f:Addr) (cd:Value) (A:Around) (outer:List Env) (s:Shared) (H:Hp) (E:XK):Cx where
 prog:=P
 w:=w
 K:=K
 mg:=mg
 base:=base
 A:=A.deeper (envOfC qual scope s.heap.objs.size f cd)
 N:=N
 s₀:=s
 H₀:=H
 env:=envOfC qual scope s.heap.objs.size f cd
 outer:=outer
 stack:=envOfC qual scope s.heap.objs.size f cd :: outer
 ex:=[]
 calm:=true
 fn:=λ_=>true
 pn:=[]
 xe:=λe s'=>wpAny (model P w) (A.deeper (envOfC qual scope s.heap.objs.size f cd)) (leaving (envOfC qual scope s.heap.objs.size f cd) e) (λ_ s''=>CX outer H s E e s'') (λe' s''=>CX outer H s E e' s'') s'
theorem Ce {sc:Scope}{n:Nat}{x:Str}(h:sc.names.lookup x=some .cell):∃c,(cellsFrom n sc.names []).lookup x=some c:=by
 have q:=PySem.W.cellsFrom_some sc.names n [] (.inl h);exact Nd.mp q
theorem ID {CX:CXT}{P:Program}{w:World}{K:PySem.W.Frag}{mg:Str->Option Value}{base:Heap}{N ps:List Str}{qual:Str}{scope:Scope}{f:Addr}{cd:Value}{A:Around}{outer:List Env}{s s1:Shared}{H:Hp}{E:XK}{us:List Value}{vs:List V}
  (S:FnScope N ps scope) (hd:A.handled=none) (e0:Env0 P w K mg base A outer s H) (hl:vs.length=ps.length) (r:Vals vs us)
  (x:InCallC s s.heap.objs.size (bindL (envOfC qual scope s.heap.objs.size f cd).kindOf (ps.zip us) λ_=>none) (cellsFrom (s.heap.objs.size+1) scope.names []) (bindC (envOfC qual scope s.heap.objs.size f cd).kindOf (ps.zip us) λ_=>none) s1):
  Inv (fL CX P w K mg base N qual scope f cd A outer s H E) [] (gC N vs) H s1:=by
 have hpl:ps.length<=N.length:=by have:=congrArg ij S.pre;rw[b6]at this;omega
 obtain⟨h1,tk,rfl,hk⟩:=x.done;have noA:∀b:Addr,b∉(fL CX P w K mg base N qual scope f cd A outer s H E).ex:=λb z=>absurd (show b∈([]:List Addr) from z) (by simp);refine⟨⟨e0.mod,S.kind,rfl,rfl,am _,λy z c h1 h2=>?_,λy hy=>?_,λy c _ h=>?_,λ_=>hd,Around.frames_deeper e0.frames,.inr ⟨rfl,rfl⟩,λb z=>absurd z (noA b),e0.bs,e0.bsz,λb _ _=>noA b,λb z=>absurd z (noA b),e0.funs,e0.frf⟩,
  rfl,e0.bare,Un.kept hk,⟨_,x.toInCall.ns,λi y v h1 h2 h3=>?_⟩,λy c h=>⟨_,x.cell y c h⟩,e0.hok.fresh (am _),λy c h=>?_,λp hp=>absurd (show p∈([]:List (Addr×Obj)) from hp) (by simp),e0.hok.kept hk,?_⟩
 ·exact name_of_addr x.apart (PySem.mem_of_lookup h1) (PySem.mem_of_lookup h2)
 ·have hy:scope.names.lookup y=some .cell∨scope.names.lookup y=some .free:=hy;rcases hy with hy|hy
  ·exact Ce hy
  ·exact absurd rfl (S.nofree _ (PySem.mem_of_lookup hy))
 ·exact b5 (x.above y c (PySem.mem_of_lookup h))
 ·have hi:i<vs.length:=by
   unfold gC at h2;by_cases hi:i<vs.length
   ·exact hi
   ·rw[dz (by simpa using hi)]at h2;rw[i5]at h2
    split at h2 <;> cases h2
  have ha:vs[i]?=some v:=by
   unfold gC at h2;rw[b_ (by simpa using hi),aA]at h2
   cases e:vs[i]? with
   | none=>rw[e]at h2;cases h2
   | some a=>rw[e]at h2;cases h2;rfl
  obtain⟨u,hu,rv⟩:=r.get ha;have hp:ps[i]?=some y:=by
   rw[←S.pre,FX (by omega)];exact h1
  have ndP:ps.Nodup:=by rw[←S.pre];exact S.nd.sublist (List.take_sublist _ _)
  refine⟨u,rv,?_⟩;rcases S.par y (bJ hp) with k|k
  ·exact .inl ⟨k,Cc ndP hp hu k⟩
  ·obtain⟨c,e⟩:=Ce (n:=s.heap.objs.size+1) k;refine .inr ⟨.inl k,c,e,?_⟩;have q:=x.cell y c e;rw[Cd ndP hp hu (by show scope.names.lookup y≠_;rw[k];decide)]at q;exact q
 ·exact e0.hok.fresh (b5 (x.above y c (PySem.mem_of_lookup h)))
 ·unfold gC;show _=N.length;rw[bM,ac,me];omega
theorem Cf {CX:CXT}{P:Program}{w:World}{K:PySem.W.Frag}{mg:Str->Option Value}{base:Heap}{k:Nat}{f:Addr}{name qual:Str}{params:Arguments}{body:List Stmt}{scope:Scope}{dV kV doc pm cdv ct oc:Value}{an od:Option Addr}
  {osl:Array (Option Value)}{N ps:List Str}{sp:Sp}(lk:K.lookup f=some ⟨oc,od,.func (PySem.W.fnOf name qual params body scope dV kV doc pm an cdv ct),osl⟩) (hcd:PySem.W.codeIn K cdv qual=true) (S:FnScope N ps scope)
  (len:∀vs H Q E,sp vs H Q E->vs.length=ps.length)
  (hbody:∀(A:Around) (outer:List Env) (s:Shared) (H:Hp) (vs:List V) (Q:VK) (E:XK),Room k (A.deeper (envOfC qual scope s.heap.objs.size f cdv))->sp vs H Q E->
   ∃t,PSs (fL CX P w K mg base N qual scope f cdv A outer s H E) body t∧t { nx:=λ_ H'=>Q .non H',rt:=Q } (gC N vs) H):
  FnOk P w K mg base CX (k+1) f (PySem.W.fnOf name qual params body scope dV kV doc pm an cdv ct) ps sp:=by
 refine⟨len,λA outer s H args us vs Q E hr e0 hb r hsp=>?_⟩;have hl:=len _ _ _ _ hsp;have KX:K.In s.heap:=e0.mod.kin.keeps λb o e=>(e0.bs b o e).1;have lim:s.heap.NoLimit:=e0.mod.nolimit.keeps λb o e=>(e0.bs b o e).1;have hkind:∀y∈ps.zip us,scope.names.lookup y.1=some .local∨(scope.names.lookup y.1=some .cell∧((cellsFrom (s.heap.objs.size+1) scope.names []).lookup y.1).isSome=true):=λ⟨n,v⟩ hy=>by
  rcases S.par n (FW hy).1 with q|q
  ·exact .inl q
  ·exact .inr ⟨q,PySem.W.cellsFrom_some _ _ _ (.inl q)⟩
 refine codeAny_call_function hr.depth (KX _ _ lk) rfl S.co S.gen rfl (PySem.W.codeRec_of KX hcd) (hb _ _ _ _ ?_);refine wpAny_newFunctionEnv_cells S.kind hkind λenv he s1 x=>?_;subst he;refine⟨lim.keeps x.toInCall.keep,codeAny_func ?_⟩;obtain⟨t,ht,hq⟩:=hbody A outer s H vs Q E (hr.deeper _) hsp;have I:Inv (fL CX P w K mg base N qual scope f cdv A outer s H E) [] (gC N vs) H s1:=ID S hr.hd e0 hl r x;refine wpAny_mono (ht [] s1 (gC N vs) H _ I hq) (λfl s' hs=>?_) λe s' hs=>hs;have fin:∀{σ':St}{H':Hp}{v:V}{u:Value},Inv (fL CX P w K mg base N qual scope f cdv A outer s H E) [] σ' H' s'->RelV v u->Q v H'->CE outer P w H s Q u s':=
  λ{σ' H' v u} J rv q=>⟨v,H',J.os,J.bare,J.base,J.hok,rv,q⟩
 cases fl with
 | ret u=>
  obtain⟨v,σ',H',J,rv,q⟩:=hs;exact fin J rv q
 | next=>
  obtain⟨σ',H',J,q⟩:=hs;exact fin (v:=V.non) (u:=Value.none) J rfl q
 | brk=>
  obtain⟨_,_,_,q⟩:=hs;exact False.elim q
 | cont=>
  obtain⟨_,_,_,q⟩:=hs;exact False.elim q
end L2
namespace L2
open PySem PySem.Spec PyProof.Rows
section
variable {X:Cx}{x:Str}{p pos:Pos}{e:Expr}{es:List Expr}{t:TA}{id T:String}{r:List V->Hp->VK->Prop}
def tCB (r:List V->Hp->VK->Prop)(t:TA):TE:=λσ H Q=>t σ H λvs H1=>r vs H1 Q
theorem aG (hc:fJ X (.builtin id) r) (hg:Gl X x) (hm:X.mg x=none) (hv:bootBuiltins x=some (.builtin id)) (ha:PA X (e :: es) t) (hn:x ≠ "__name__" := by decide) (hdb:(x == ("__debug__" : Str))=false:=by decide)
  (he:starEach (e :: es) X.env=(false,eval e X.env) :: starEach es X.env:=by rfl) (hpl:(backTo pos (starEach es X.env)).any (·.1)=false:=by rfl):PE X (.Call (.Name x p) (e :: es) [] pos) (tCB r t):=by
 intro RQ s σ H Q I h;refine wpAny_Call_Name_kw (gO I hg hm hv ?_ hn hdb);exact PyProof.Rows.callWith_builtin1 (thn (ha pos RQ s σ H _ I h) λus s1 ⟨vs,H1,I1,r1,q1⟩=>hc RQ s1 σ H1 vs us Q I1 r1 q1) he hpl
theorem iU (hc:fJ X (.type T) r) (hg:Gl X x) (hm:X.mg x=none) (hv:bootBuiltins x=some (.type T)) (ha:PA X (e :: es) t) (hn:x ≠ "__name__" := by decide) (hdb:(x == ("__debug__" : Str))=false:=by decide)
  (he:starEach (e :: es) X.env=(false,eval e X.env) :: starEach es X.env:=by rfl) (hpl:(backTo pos (starEach es X.env)).any (·.1)=false:=by rfl):PE X (.Call (.Name x p) (e :: es) [] pos) (tCB r t):=by
 intro RQ s σ H Q I h;refine wpAny_Call_Name_kw (gO I hg hm hv ?_ hn hdb);exact PyProof.Rows.callWith_type1 (thn (ha pos RQ s σ H _ I h) λus s1 ⟨vs,H1,I1,r1,q1⟩=>hc RQ s1 σ H1 vs us Q I1 r1 q1) he hpl
end
end L2
namespace HT
open PySem PyProof.Rows
section
variable {prog:Program}{w:World}{A:Around}{E:Value->Shared->Prop}{s:Shared}
def sIx (n d:Nat):Option Int->Nat
 | none=>d
 | some v=>if v<0 then (v+(n:Int)).toNat else min v.toNat n
theorem sIx_none (n d:Nat):sIx n d none=d:=rfl
theorem sIx_nat (n d k:Nat):sIx n d (some (k:Int))=min k n:=by
 show (if (k:Int)<0 then ((k:Int)+(n:Int)).toNat else min (k:Int).toNat n)=min k n;rw[if_neg (by omega),dU]
end
end HT
namespace L2
open PySem PySem.Spec PyProof.Rows
abbrev TO:=St->Hp->(Option Int->Hp->Prop)->Prop
def PO (X:Cx)(e:Option Expr)(t:TO):Prop:=
 ∀(RQ:List (Addr×Obj)) (s:Shared) (σ:St) (H:Hp) (Q:Option Int->Hp->Prop),Inv X RQ σ H s->t σ H Q->
  wpAny (model X.prog X.w) X.A (evalPart e X.env) (λu s'=>∃o H',Inv X RQ σ H' s'∧IsPart u o∧Q o H') X.xe s
def Cg:TO:=λ_ H Q=>Q none H
def Ch (t:TE):TO:=λσ H Q=>t σ H λx H1=>∃i,x=.int i∧Q (some i) H1
section
variable {X:Cx}{e:Expr}{te:TE}{lo hi:Option Expr}{tl th:TO}{pos p2:Pos}
theorem mZ:PO X none Cg:=by
 intro RQ s σ H Q I h;rw[evalPart_none];exact wpAny_pure ⟨none,H,I,.none,h⟩
theorem jU (h:PE X e te):PO X (some e) (Ch te):=by
 intro RQ s σ H Q I hw;rw[evalPart_some];refine thn (h RQ s σ H _ I hw) λu s1 ⟨x,H1,I1,r1,q1⟩=>?_;obtain⟨i,rfl,q⟩:=q1;obtain⟨t,rfl⟩:=r1;exact⟨some i,H1,I1,.int i t,q⟩
def SlR (X:Cx)(r:V->Option Int->Option Int->Hp->VK->Prop):Prop:=
 ∀(RQ:List (Addr×Obj)) (s:Shared) (σ:St) (H:Hp) (x:V) (v vl vu:Value) (lo hi:Option Int) (sl:Addr) (Q:VK),Inv X RQ σ H s->RelV x v->s.heap.IsSliceOf sl vl vu .none->IsPart vl lo->IsPart vu hi->r x lo hi H Q->
  ∃T id,typeLookup (.type T) "__getitem__" = pure (some (.builtin id))∧s.TypeIs v T∧wpAny (model X.prog X.w) X.A (getItem v (.ref sl)) (EP X RQ σ Q) X.xe s
def tSl (r:V->Option Int->Option Int->Hp->VK->Prop)(te:TE)(tl th:TO):TE:=λσ H Q=>te σ H λx H1=>tl σ H1 λl H2=>th σ H2 λu H3=>r x l u H3 Q
theorem kL {r:V->Option Int->Option Int->Hp->VK->Prop}(hr:SlR X r)(he:PE X e te)(hl:PO X lo tl)(hu:PO X hi th):PE X (.Subscript e (.Slice lo hi none p2) pos) (tSl r te tl th):=by
 intro RQ s σ H Q I h;refine Subscript_ (thn (he RQ s σ H _ I h) λv s1 ⟨x,H1,I1,r1,q1⟩=>?_);refine wpAny_Slice (thn (hl RQ s1 σ H1 _ I1 q1) λvl s2 ⟨l,H2,I2,pl,q2⟩=>thn (hu RQ s2 σ H2 _ I2 q2) λvu s3 ⟨u,H3,I3,pu,q3⟩=>?_);rw[evalPart_none];refine wpAny_pure ?_;have I4:Inv X RQ σ H3 { s3 with heap:=s3.heap.push { cls:=.type "slice",data:=.fields #[vl,vu,.none] } }:=I3.kept (t':=s3.toks) λb ob q=>Heap.get?_push_of_some _ q;obtain⟨T,id,hT,ht,hg⟩:=hr RQ { s3 with heap:=s3.heap.push { cls:=.type "slice",data:=.fields #[vl,vu,.none] } } σ H3 x v vl vu l u s3.heap.objs.size Q I4 r1 (Heap.IsSliceOf.new ..) pl pu q3;show wpAny (model X.prog X.w) X.A (subscriptTail e (.Slice lo hi none p2) v (.ref s3.heap.objs.size)) (EP X RQ σ Q) X.xe { s3 with heap:=s3.heap.push { cls:=.type "slice",data:=.fields #[vl,vu,.none] } };exact tail_any (ops:=[.ref s3.heap.objs.size,v]) ht hT hg (by with_unfolding_all rfl)
def dH (xs:List V)(lo hi:Option Int):List V:=(xs.drop (HT.sIx xs.length 0 lo)).take (HT.sIx xs.length xs.length hi-HT.sIx xs.length 0 lo)
theorem IE (xs:List V)(lo hi:Option Int):(dH xs lo hi).length<=xs.length:=by
 unfold dH;rw[b6,xw];omega
end
end L2
namespace L2
open PySem PySem.Spec PyProof.Rows
def ixN (n:Nat)(i:Int):Option Nat:=if 0<=i then (if i<n then some i.toNat else none) else if -(n:Int)<=i then some (i+n).toNat else none
def atI {α:Type}(xs:List α)(i:Int):Option α:=(ixN xs.length i).bind λj=>xs[j]?
theorem Ci {n:Nat}{i:Int}{j:Nat}(h:ixN n i=some j):seqIndex? i n=some j∧j<n∧-(n:Int)<=i∧i<n:=by
 unfold ixN at h;by_cases h0:0<=i
 ·rw[if_pos h0]at h;by_cases h1:i<n
  ·rw[if_pos h1]at h;have e:i.toNat=j:=Option.some.inj h;exact⟨by rw[seqIndex_of h0 h1,e],by omega,by omega,h1⟩
  ·rw[if_neg h1]at h;cases h
 ·rw[if_neg h0]at h;by_cases h1:-(n:Int)<=i
  ·rw[if_pos h1]at h;have e:(i+n).toNat=j:=Option.some.inj h;exact⟨by rw[seqIndex_neg (by omega) h1,e],by omega,h1,by omega⟩
  ·rw[if_neg h1]at h;cases h
theorem vI {α:Type}{xs:List α}{i:Int}{v:α}(h:atI xs i=some v):∃j,seqIndex? i xs.length=some j∧xs[j]?=some v∧j<xs.length∧-(xs.length:Int)<=i∧i<xs.length:=by
 unfold atI at h
 cases e:ixN xs.length i with
 | none=>rw[e]at h;cases h
 | some j=>
  rw[e]at h;obtain⟨h1,h2,h3,h4⟩:=Ci e;exact⟨j,h1,h,h2,h3,h4⟩
theorem gW {α:Type}{xs:List α}{j:Nat}{v:α}(h:xs[j]?=some v):atI xs (j:Int)=some v:=by
 have hj:j<xs.length:=(aU.mp h).1;have e:ixN xs.length (j:Int)=some j:=by
  unfold ixN;rw[if_pos (by omega),if_pos (by omega)];simp
 unfold atI;rw[e];exact h
theorem Cj {α:Type}(xs:List α)(v:α):atI (xs++[v]) (-1)=some v:=by
 have hl:(xs++[v]).length=xs.length+1:=by simp
 have e:ixN (xs++[v]).length (-1)=some xs.length:=by
  unfold ixN;rw[hl,if_neg (by decide),if_pos (by omega)];congr 1;omega
 unfold atI;rw[e];show (xs++[v])[xs.length]?=some v;simp
def IF (b:Expr):Prop:=∀o i,subscripted b false o i=operate [o,i] (getItem o i)
def IxR (X:Cx)(r:R2):Prop:=
 ∀(value slice:Expr) (RQ:List (Addr×Obj)) (s:Shared) (σ:St) (H:Hp) (x y:V) (v u:Value) (Q:VK),Inv X RQ σ H s->RelV x v->RelV y u->r x y H Q->
  subscripted slice false v u=operate [v,u] (getItem v u)->wpAny (model X.prog X.w) X.A (subscriptTail value slice v u) (EP X RQ σ Q) X.xe s
def MtR (X:Cx)(id:String)(r:V->List V->Hp->VK->Prop):Prop:=
 ∀(RQ:List (Addr×Obj)) (s:Shared) (σ:St) (H:Hp) (x:V) (xs:List V) (v:Value) (us:List Value) (Q:VK),Inv X RQ σ H s->RelV x v->Vals xs us->r x xs H Q->
  wpAny (model X.prog X.w) X.A (call (.builtin id) (v :: us)) (EP X RQ σ Q) X.xe s
section
variable {X:Cx}{a b:Expr}{ta tb:TE}{pos:Pos}
theorem aR {r:R2}(hr:IxR X r)(ha:PE X a ta)(hb:PE X b tb)(hs:IF b):PE X (.Subscript a b pos) (tOp r ta tb):=by
 intro RQ s σ H Q I h;exact Subscript_ (vt ha hb I h λv u s2 x y H2 I2 rx ry q=>hr a b RQ s2 σ H2 x y v u Q I2 rx ry q (hs _ _))
def m7 (K:PySem.W.Frag):R2:=λx y H Q=>∃p xs i v,x=.ref p∧y=.int i∧SqL K H p xs∧atI xs i=some v∧Q v H
def Ck (K:PySem.W.Frag):R2:=λx y H Q=>∃p xs i v,x=.ref p∧y=.int i∧SqT K H p xs∧atI xs i=some v∧Q v H
theorem bL:IxR X (m7 X.K):=by
 intro value slice RQ s σ H x y v u Q I rx ry h hs;obtain⟨p,xs,i,z,rfl,rfl,hq,he,q⟩:=h
 cases rx
 obtain⟨t,rfl⟩:=ry;obtain⟨its,r,pl,hz⟩:=I.list hq;obtain⟨j,h1,h2,h3,h4,h5⟩:=vI he;obtain⟨w,ew,rw'⟩:=r.get h2;have hl:=r.length;have hn:=kI;have fin:EP X RQ σ Q w s:=⟨z,H,I,rw',q⟩
 by_cases h0:0<=i
 ·have hj:i.toNat=j:=by
   rw[seqIndex_of h0 h5]at h1;exact Option.some.inj h1
  exact item_listR pl.isList h0 (by omega) (by rw[hj];simpa using ew) fin hs
 ·have hj:(i+(its.toArray.size:Int)).toNat=j:=by
   rw[seqIndex_neg (by omega) h4]at h1;rw[cY,←hl];exact Option.some.inj h1
  exact subscriptTail_builtinR (x:=w) pl.isList.typeIs slot_list_getitem.lookup
   (wpAny_getItem_list_neg (Q:=λr s'=>r=w∧EP X RQ σ Q r s') pl.isList (by omega) (by rw[cY] <;> omega) (by omega) (by rw[hj];simpa using ew) ⟨rfl,fin⟩) hs
theorem gX:IxR X (Ck X.K):=by
 intro value slice RQ s σ H x y v u Q I rx ry h hs;obtain⟨p,xs,i,z,rfl,rfl,hq,he,q⟩:=h
 cases rx
 obtain⟨t,rfl⟩:=ry;obtain⟨its,r,pl,hz⟩:=I.tuple hq;obtain⟨j,h1,h2,h3,h4,h5⟩:=vI he;obtain⟨w,ew,rw'⟩:=r.get h2;have hl:=r.length;have hn:=kI;have fin:EP X RQ σ Q w s:=⟨z,H,I,rw',q⟩
 exact subscriptTail_builtinR (x:=w) pl.typeIs slot_tuple_getitem.lookup
  (getItem_tuple (j:=j) (Q:=λr s'=>r=w∧EP X RQ σ Q r s') pl (by omega) (by omega) (by rw[cY,←hl];exact h1) (by simpa using ew) ⟨rfl,fin⟩) hs
theorem IG (its:List Value)(n j:Nat)(u:Value):Obj.mapSeq (·.setIfInBounds j u) { cls:=.type "list",data:=.seq its.toArray n }={ cls:=.type "list",data:=.seq (its.set j u).toArray n }:=by
 simp[Obj.mapSeq]
theorem Inv.lst {RQ:List (Addr×Obj)}{σ:St}{H:Hp}{s:Shared}{p:Addr}{xs:List V}(I:Inv X RQ σ H s)(h:H p=some (.lst xs)):
  ∃(its:List Value) (n:Nat),Vals xs its∧s.heap.get? p=some { cls:=.type "list",data:=.seq its.toArray n }∧xs.length<=sizeLine:=by
 obtain⟨z,its,n,r,e⟩:=I.hok p _ h;exact⟨its,n,r,e,z⟩
theorem Inv.lstUpd {RQ:List (Addr×Obj)}{σ:St}{H:Hp}{s:Shared}{p:Addr}{xs ys:List V}{its its':List Value}{n n':Nat}{f:Obj->Obj}(I:Inv X RQ σ H s) (h:H p=some (.lst xs))
  (ho:s.heap.get? p=some { cls:=.type "list",data:=.seq its.toArray n }) (hf:f { cls:=.type "list",data:=.seq its.toArray n }={ cls:=.type "list",data:=.seq its'.toArray n' }) (r:Vals ys its') (hz:ys.length<=sizeLine) (t:Nat):
  Inv X RQ σ (upd H p (.lst ys)) { s with heap:=s.heap.update p f,toks:=t }:=by
 have e:(s.heap.update p f).get? p=some { cls:=.type "list",data:=.seq its'.toArray n' }:=by
  rw[Heap.get?_update_self f ho (by rw[hf] <;> rfl),hf]
 refine I.write (x:=p) (e:=p) (by rw[h];trivial) (.inl rfl) (λb u hb q=>(Heap.get?_update_other _ _ (Ne.symm hb)).trans q) ⟨_,e⟩ ?_;exact⟨hz,its',n',r,e⟩
def Cm:V->V->V->Hp->(Hp->Prop)->Prop:=λo i v H Q=>∃p xs k j,o=.ref p∧i=.int k∧H p=some (.lst xs)∧ixN xs.length k=some j∧Q (upd H p (.lst (xs.set j v)))
theorem ge:vc X Cm:=by
 intro RQ s σ H o i v ov iv u Q I ro ri rv h;obtain⟨p,xs,k,j,rfl,rfl,hp,hj,q⟩:=h
 cases ro
 obtain⟨t,rfl⟩:=ri;obtain⟨its,n,r,ho,hz⟩:=I.lst hp;obtain⟨h1,h2,h3,h4⟩:=Ci hj;have hl:=r.length;have hn:=kI;have I':Inv X RQ σ (upd H p (.lst (xs.set j v))) { s with heap:=s.heap.update p (Obj.mapSeq (·.setIfInBounds j u)) }:=
  I.lstUpd hp ho (IG its n j u) (r.set rv j) (by rw[ik];exact hz) s.toks
 by_cases h0:0<=k
 ·have hk:k.toNat=j:=by
   rw[seqIndex_of h0 h4]at h1;exact Option.some.inj h1
  exact PySem.W.ki_setAt ho h0 (by omega) (by rw[cY,←hl];exact h4) (by rw[hk];exact⟨_,I',q⟩)
 ·have hk:(k+(its.toArray.size:Int)).toNat=j:=by
   rw[seqIndex_neg (by omega) h3]at h1;rw[cY,←hl];exact Option.some.inj h1
  exact PySem.W.ki_setBack ho (by omega) (by rw[cY,←hl];exact h3) (by omega) (by rw[hk];exact⟨_,I',q⟩)
theorem IH (lo hi:Option Int)(n:Nat):(sliceBounds lo hi none n).1=((HT.sIx n 0 lo:Nat):Int)∧(sliceBounds lo hi none n).2.1=((HT.sIx n n hi:Nat):Int)∧(sliceBounds lo hi none n).2.2=1:=by
 refine⟨?_,?_,rfl⟩
 ·cases lo with
  | none=>simp[sliceBounds,HT.sIx]
  | some i=>
   simp only[sliceBounds,HT.sIx,Option.getD_none,show (1:Int) > 0 by decide,if_true];by_cases h:i<0
   ·simp only[h,if_true] <;> omega
   ·simp only[h,if_false] <;> omega
 ·cases hi with
  | none=>simp[sliceBounds,HT.sIx]
  | some i=>
   simp only[sliceBounds,HT.sIx,Option.getD_none,show (1:Int) > 0 by decide,if_true];by_cases h:i<0
   ·simp only[h,if_true] <;> omega
   ·simp only[h,if_false] <;> omega
theorem II (its:List Value)(lo hi:Option Int):slicePick its.toArray lo hi none=((its.drop (HT.sIx its.length 0 lo)).take (HT.sIx its.length its.length hi-HT.sIx its.length 0 lo)).toArray:=by
 obtain⟨h1,h2,h3⟩:=IH lo hi its.toArray.size;unfold slicePick;rw[h1,h2,h3];simp only[sliceRange_one,pick_run,cY] <;> rfl
def Cn (K:PySem.W.Frag):V->Option Int->Option Int->Hp->VK->Prop:=λx lo hi H Q=>∃a xs,x=.ref a∧SqL K H a xs∧∀p,H p=none->Q (.ref p) (upd H p (.lst (dH xs lo hi)))
theorem kO:SlR X (Cn X.K):=by
 intro RQ s σ H x v vl vu lo hi sl Q I rx hs pl pu h;obtain⟨a,xs,rfl,hx,q⟩:=h
 cases rx
 obtain⟨its,r,ht,hz⟩:=I.list hx;have hlen:=r.length;refine⟨"list",_,slot_list_getitem.lookup,ht.isList.typeIs,?_⟩;refine wpAny_getItem_list_slice ht.isList hs pl pu .none (by simp) ?_ (by rw[cY] <;> omega);rw[II,←hlen];refine⟨.ref s.heap.objs.size,_,I.laid (t':=s.toks) (o:=.lst (dH xs lo hi)) (λb ob q=>Heap.get?_push_of_some _ q) (am _) ?_,rfl,q _ (I.hok.fresh (am _))⟩;exact⟨aP (IE xs lo hi) hz,_,0,(r.drop (HT.sIx xs.length 0 lo)).take (HT.sIx xs.length xs.length hi-HT.sIx xs.length 0 lo),Heap.get?_push_size _ rfl⟩
def gf:V->Bool
 | .non=>true
 | .bl _=>true
 | .int _=>true
 | .str _=>true
 | _=>false
def eqV:V->V->Bool
 | .non,.non=>true
 | .bl a,.bl b=>a == b
 | .bl a,.int b=>(if a then 1 else 0) == b
 | .int a,.bl b=>a == (if b then 1 else 0)
 | .int a,.int b=>a == b
 | .str a,.str b=>a == b
 | _,_=>false
theorem IJ {A:Around}{s:Shared}{y x:V}{u v:Value}(ry:RelV y u)(rx:RelV x v)(fy:gf y=true)(fx:gf x=true):SeqAt.EqAt A s u v (eqV y x):=by
 cases y with
 | non=>
  cases ry
  cases x with
  | non=>cases rx;exact SeqAt.EqAt.same _
  | bl b=>cases rx;exact SeqAt.EqAt.none_bool b
  | int b=>obtain⟨t,rfl⟩:=rx;exact SeqAt.EqAt.none_int b t
  | str b=>obtain⟨t,rfl⟩:=rx;exact SeqAt.EqAt.none_str b t
  | _=>exact absurd (show false=true from fx) Bool.false_ne_true
 | bl a=>
  cases ry
  cases x with
  | non=>cases rx;exact SeqAt.EqAt.bool_none a
  | bl b=>cases rx;exact SeqAt.EqAt.bool_bool a b
  | int b=>obtain⟨t,rfl⟩:=rx;exact SeqAt.EqAt.bool_int a b t
  | str b=>obtain⟨t,rfl⟩:=rx;exact SeqAt.EqAt.bool_str a b t
  | _=>exact absurd (show false=true from fx) Bool.false_ne_true
 | int a=>
  obtain⟨t',rfl⟩:=ry
  cases x with
  | non=>cases rx;exact SeqAt.EqAt.int_none a t'
  | bl b=>cases rx;exact SeqAt.EqAt.int_bool a t' b
  | int b=>obtain⟨t,rfl⟩:=rx;exact SeqAt.EqAt.int_int a t' b t
  | str b=>obtain⟨t,rfl⟩:=rx;exact SeqAt.EqAt.int_str a t' b t
  | _=>exact absurd (show false=true from fx) Bool.false_ne_true
 | str a=>
  obtain⟨t',rfl⟩:=ry
  cases x with
  | non=>cases rx;exact SeqAt.EqAt.str_none a t'
  | bl b=>cases rx;exact SeqAt.EqAt.str_bool a t' b
  | int b=>obtain⟨t,rfl⟩:=rx;exact SeqAt.EqAt.str_int a t' b t
  | str b=>obtain⟨t,rfl⟩:=rx;exact SeqAt.EqAt.str_str a t' b t
  | _=>exact absurd (show false=true from fx) Bool.false_ne_true
 | _=>exact absurd (show false=true from fy) Bool.false_ne_true
def eqU (x:V)(u:Value):Bool:=match u with
 | .none=>eqV .non x
 | .bool b=>eqV (.bl b) x
 | .int i _=>eqV (.int i) x
 | .str z _=>eqV (.str z) x
 | _=>false
theorem Co {x y:V}{u:Value}(r:RelV y u)(f:gf y=true):eqU x u=eqV y x:=by
 cases y with
 | non=>cases r;rfl
 | bl b=>cases r;rfl
 | int i=>obtain⟨t,rfl⟩:=r;rfl
 | str z=>obtain⟨t,rfl⟩:=r;rfl
 | _=>exact absurd (show false=true from f) Bool.false_ne_true
theorem vJ {x:V}:∀{xs:List V}{us:List Value},Vals xs us->xs.all gf=true->us.any (eqU x)=xs.any λy=>eqV y x
 | _,_,.nil,_=>rfl
 | y :: xs,u :: us,.cons r t,f=>by
  rw[List.all_cons,Bool.and_eq_true]at f;rw[rE,rE,Co r f.1,vJ t f.2]
theorem vK {A:Around}{s:Shared}{x:V}{v:Value}(rx:RelV x v)(fx:gf x=true):∀{xs:List V}{us:List Value},Vals xs us->xs.all gf=true->∀u∈us,SeqAt.EqAt A s u v (eqU x u)
 | _,_,.nil,_=>λu hu=>by cases hu
 | y :: xs,u :: us,.cons r t,f=>λu' hu=>by
  rw[List.all_cons,Bool.and_eq_true]at f;rcases a_.mp hu with rfl|hu
  ·rw[Co r f.1];exact IJ r rx f.1 fx
  ·exact vK rx fx t f.2 u' hu
def inV (x:V)(xs:List V):Bool:=xs.any λy=>eqV y x
def rIn (K:PySem.W.Frag)(neg:Bool):R2:=λx y H Q=>∃p xs,y=.ref p∧(SqL K H p xs∨SqT K H p xs)∧gf x=true∧xs.all gf=true∧Q (.bl (if neg then !inV x xs else inV x xs)) H
theorem IK:OpR X (compareOp .In) (rIn X.K false):=by
 intro RQ s σ H x y v u Q I rx ry h;obtain⟨p,xs,rfl,hq,fx,fs,q⟩:=h
 cases ry
 rcases hq with hq|hq
 ·obtain⟨its,r,pl,hz⟩:=I.list hq;refine SeqAt.in_listAt (eqU x) pl.isList (λw hw=>vK rx fx r fs w (by simpa using hw)) ⟨.bl _,H,I,rfl,?_⟩;rw[show its.toArray.any (eqU x)=its.any (eqU x) by simp,vJ r fs];exact q
 ·obtain⟨its,r,pl,hz⟩:=I.tuple hq;refine SeqAt.in_tupleAt (eqU x) pl (λw hw=>vK rx fx r fs w (by simpa using hw)) ⟨.bl _,H,I,rfl,?_⟩;rw[show its.toArray.any (eqU x)=its.any (eqU x) by simp,vJ r fs];exact q
theorem aX:fJ X (.builtin "len") (λxs H Q=>∃p ys,xs=[.ref p]∧(SqL X.K H p ys∨SqT X.K H p ys)∧Q (.int ys.length) H):=by
 intro RQ s σ H xs us Q I r h;obtain⟨p,ys,rfl,hq,q⟩:=h;obtain⟨u,rfl,rx⟩:=gU r
 cases rx
 have hn:=kI;rcases hq with hq|hq
 ·obtain⟨its,r',pl,hz⟩:=I.list hq;have hlen:=r'.length;exact Calls.call_len_list pl.isList (by simp only[cY] <;> omega) ⟨.int ys.length,H,I.tok _,⟨s.toks+1,by rw[cY,hlen]⟩,q⟩
 ·obtain⟨its,r',pl,hz⟩:=I.tuple hq;have hlen:=r'.length;exact len_tuple pl (by simp only[cY] <;> omega) ⟨.int ys.length,H,I.tok _,⟨s.toks+1,by rw[cY,hlen]⟩,q⟩
theorem jV:fJ X (.type "list") (λxs H Q=>∃p ys,xs=[.ref p]∧(SqL X.K H p ys∨SqT X.K H p ys)∧∀l,H l=none->Q (.ref l) (upd H l (.lst ys))):=by
 intro RQ s σ H xs us Q I r h;obtain⟨p,ys,rfl,hq,q⟩:=h;obtain⟨u,rfl,rx⟩:=gU r
 cases rx
 have fin:∀(its:List Value),Vals ys its->ys.length<=sizeLine->∀(h':Heap) (c':Nat),(∀b o',s.heap.get? b=some o'->h'.get? b=some o')->
   h'.get? s.heap.objs.size=some { cls:=.type "list",dict:=none,data:=.seq its.toArray c',slots:=#[] }->EP X RQ σ Q (.ref s.heap.objs.size) { s with heap:=h' }:=λits r' hz h' c' kp e=>
  ⟨.ref s.heap.objs.size,_,I.laid (t':=s.toks) kp (am _) (show ObjOk X.prog X.w _ h' _ (.lst ys) from ⟨hz,its,c',r',e⟩),rfl,q _ (I.hok.fresh (am _))⟩
 rcases hq with hq|hq
 ·obtain⟨its,r',pl,hz⟩:=I.list hq;have hlen:=r'.length;obtain⟨o,ho,hc,n,hd⟩:=pl.isList;exact call_list_seq p (.inl rfl) ho hc hd (λh' c' kp e=>fin its r' hz h' c' kp e) (by simp only[cY] <;> omega)
 ·obtain⟨its,r',pl,hz⟩:=I.tuple hq;have hlen:=r'.length;obtain⟨o,ho,hc,n,hd⟩:=pl;exact call_list_seq p (.inr rfl) ho hc hd (λh' c' kp e=>fin its r' hz h' c' kp e) (by simp only[cY] <;> omega)
def tyV (K:PySem.W.Frag)(T:String)(x:V)(H:Hp):Prop:=match x with
 | .str _=>T = "str"
 | .int _=>T = "int"
 | .ref p=>(T = "list" ∧ ∃xs,SqL K H p xs)∨(T = "tuple" ∧ ∃o,K.lookup p=some o∧o.cls=.type "tuple" ∧ o.dict=none)∨
   (T = "dict" ∧ ((∃kvs,H p=some (.dK kvs))∨∃kvs,H p=some (.dT kvs)))∨(T = "set" ∧ ∃S n,H p=some (.set S n))
 | _=>False
theorem Cp {RQ:List (Addr×Obj)}{σ:St}{H:Hp}{s:Shared}{T:String}{x:V}{v:Value}(I:Inv X RQ σ H s)(r:RelV x v)(ty:tyV X.K T x H):
  s.TypeIs v T∧∀a,v=.ref a->∃ob,s.heap.get? a=some ob∧ob.dict=none:=by
 cases x with
 | str z=>
  obtain⟨t,rfl⟩:=r
  cases (show T = "str" from ty)
  exact⟨typeIs_str s z t,λ_ e=>nomatch e⟩
 | int i=>
  obtain⟨t,rfl⟩:=r
  cases (show T = "int" from ty)
  exact⟨typeIs_int s i t,λ_ e=>nomatch e⟩
 | ref p=>
  cases r
  rcases ty with ⟨rfl,xs,hq⟩|⟨rfl,o,hk,hc,hd⟩|⟨rfl,hk⟩|⟨rfl,S,n,hk⟩
  ·obtain⟨its,_,pl,_⟩:=I.list hq;refine⟨pl.isList.typeIs,λa e=>?_⟩
   cases e
   obtain⟨o,n,e,c,hd,_⟩:=pl;exact⟨o,e,hd⟩
  ·refine⟨⟨o,I.kIn p o hk,hc⟩,λa e=>?_⟩
   cases e
   exact⟨o,I.kIn _ o hk,hd⟩
  ·have z:∃o,s.heap.get? p=some o∧o.ExactDict:=by
    rcases hk with ⟨kvs,hk⟩|⟨kvs,hk⟩
    ·obtain⟨_,_,_,_,o,_,_,e,ex,_⟩:=I.hok p _ hk;exact⟨o,e,ex⟩
    ·obtain⟨_,_,_,_,o,_,_,e,ex,_⟩:=I.hok p _ hk;exact⟨o,e,ex⟩
   obtain⟨o,e,ex⟩:=z;refine⟨⟨o,e,ex.1⟩,λa e2=>?_⟩
   cases e2
   exact⟨o,e,ex.2.1⟩
  ·obtain⟨o,_,_,_,e,ex,_⟩:=I.hok p _ hk;refine⟨⟨o,e,ex.1⟩,λa e2=>?_⟩
   cases e2
   exact⟨o,e,ex.2.1⟩
 | _=>exact False.elim ty
def Cq (K:PySem.W.Frag)(T:String)(r:V->List V->Hp->VK->Prop)(to:TE):TE:=λσ H Q=>to σ H λx H1=>tyV K T x H1∧r x [] H1 Q
def tBM (K:PySem.W.Frag)(T:String)(r:V->List V->Hp->VK->Prop)(to:TE)(t:TA):TE:=λσ H Q=>to σ H λx H1=>tyV K T x H1∧t σ H1 λxs H2=>r x xs H2 Q
variable {o e:Expr}{es:List Expr}{to:TE}{t:TA}{name:Str}{apos cpos:Pos}{T id:String}{r:V->List V->Hp->VK->Prop}
theorem kP (pa:PlainAttrs T) (slot:Slot T name id) (hty:typeOf (.builtin id)=pure (.type "method_descriptor")) (hm:MtR X id r) (ho:PE X o to)
  (hbase:attributeBase o name X.env (eval o X.env)=eval o X.env:=by rfl) (hline:(apos.endLine == cpos.line)=true:=by rfl):PE X (.Call (.Attribute o name apos) [] [] cpos) (Cq X.K T r to):=by
 intro RQ s σ H Q I h;refine wpAny_Call_method0_late hbase hline (thn (ho RQ s σ H _ I h) λv s1 ⟨x,H1,I1,r1,ty,q1⟩=>?_);obtain⟨h1,h2⟩:=Cp I1 r1 ty;exact⟨T,id,pa,slot,hty,h1,h2,Calls.callWith_builtin rfl (PySem.evalArgs_none (hm RQ s1 σ H1 x [] v [] Q I1 r1 .nil q1))⟩
theorem gD (pa:PlainAttrs T) (slot:Slot T name id) (hty:typeOf (.builtin id)=pure (.type "method_descriptor")) (hm:MtR X id r) (ho:PE X o to) (ha:PA X (e :: es) t)
  (hbase:attributeBase o name X.env (eval o X.env)=eval o X.env:=by rfl)
  (hfew:((backTo cpos (starEach (e :: es) X.env)).all (λx=>!x.1) && (backToKw cpos (keywordEach [] X.env)).all (λx=>x.1.isSome)
   && decide ((e :: es).length+([]:List Keyword).length+(if ([]:List Keyword).isEmpty then 0 else 1)<30))=true:=by rfl)
  (hline:(apos.endLine == cpos.line)=true:=by rfl) (hs:starEach (e :: es) X.env=(false,eval e X.env) :: starEach es X.env:=by rfl) (hplain:(backTo cpos (starEach es X.env)).any (·.1)=false:=by rfl):
  PE X (.Call (.Attribute o name apos) (e :: es) [] cpos) (tBM X.K T r to t):=by
 intro RQ s σ H Q I h;refine wpAny_Call_method_late hbase hfew hline rfl (thn (ho RQ s σ H _ I h) λv s1 ⟨x,H1,I1,r1,ty,q1⟩=>?_);obtain⟨h1,h2⟩:=Cp I1 r1 ty;refine⟨T,id,pa,slot,hty,h1,h2,?_⟩;have hA:=ha cpos RQ s1 σ H1 _ I1 q1;rw[hs]at hA ⊢;refine Calls.callWith_builtin (by show (false || (backTo cpos (starEach es X.env)).any (·.1))=false;rw[hplain] <;> rfl) (Calls.evalArgs_plain ?_);exact thn hA λus s2 ⟨vs,H2,I2,r2,q2⟩=>hm RQ s2 σ H2 x vs v us Q I2 r1 r2 q2
/- xs.append(e),list.index on a module's tuple .. are MtR facts of 06m -/
end
end L2
namespace L2
open PySem PySem.Spec PyProof.Rows
def MtM (X:Cx)(id:String)(r:V->List V->Hp->VK->Prop):Prop:=
 ∀(RQ:List (Addr×Obj)) (s:Shared) (σ:St) (H:Hp) (x:V) (xs:List V) (v:Value) (us:List Value) (Q:VK),Inv X RQ σ H s->RelV x v->Vals xs us->r x xs H Q->
  wpAny (model X.prog X.w) X.A (call (.builtin id) (v :: us)) (EP X RQ σ Q) X.xe s
theorem Vals.one:∀{x:V}{us:List Value},Vals [x] us->∃u,us=[u]∧RelV x u
 | _,_,.cons r .nil=>⟨_,rfl,r⟩
theorem Vals.zero:∀{us:List Value},Vals [] us->us=[]
 | _,.nil=>rfl
theorem Vals.dropLast {xs:List V}{us:List Value}(h:Vals xs us):Vals xs.dropLast us.dropLast:=by
 induction h with
 | nil=>exact .nil
 | cons r t ih=>
  cases t with
  | nil=>exact .nil
  | cons q t'=>exact .cons r ih
theorem Vals.rep {xs:List V}{us:List Value}(h:Vals xs us):∀k:Nat,Vals (aL k xs).flatten (aL k us).flatten
 | 0=>.nil
 | k+1=>by
  rw[gy,gy,mh,mh];exact Vals.append h (Vals.rep h k)
theorem IL {α:Type}(l:List α):l.eraseIdx (l.length-1)=l.dropLast:=by
 induction l with
 | nil=>rfl
 | cons a r ih=>
  cases r with
  | nil=>rfl
  | cons b r=>
   have e:(a :: b :: r).length-1=((b :: r).length-1)+1:=by
    have h1:(a :: b :: r).length=r.length+2:=rfl;have h2:(b :: r).length=r.length+1:=rfl;omega
   rw[e,List.eraseIdx_cons_succ,ih]
   all_goals rfl
theorem Cr (its:List Value):∀(k:Nat) (acc:List Value),
  List.foldl (λx1 x2=>x1++x2) acc.toArray (aL k its.toArray)=(acc++(aL k its).flatten).toArray
 | 0,acc=>by simp
 | k+1,acc=>by
  have e:acc.toArray++its.toArray=(acc++its).toArray:=by simp
  have e2:(acc++its)++(aL k its).flatten=acc++(aL (k+1) its).flatten:=by
   rw[gy,mh,FY]
  rw[←e2,←Cr its k (acc++its),←e,gy,List.foldl_cons]
section
variable {X:Cx}{RQ:List (Addr×Obj)}{σ:St}{H:Hp}{s:Shared}{l b:Addr}{xs ys zs:List V}
theorem Inv.lset {its its':List Value}{n:Nat}{f:Array Value->Array Value}{t':Nat}(I:Inv X RQ σ H s) (hH:H l=some (.lst xs))
  (e:s.heap.get? l=some { cls:=.type "list",data:=.seq its.toArray n }) (hf:f its.toArray=its'.toArray) (hv:Vals ys its') (hz:ys.length<=sizeLine):
  Inv X RQ σ (upd H l (.lst ys)) { s with heap:=s.heap.update l (Obj.mapSeq f),toks:=t' }:=by
 have q:=PySem.IsL.update e f;rw[hf]at q;refine I.write (x:=l) (e:=l) (by rw[hH];exact trivial) (.inl rfl) (λb' u hb hu=>(Heap.get?_update_other s.heap (Obj.mapSeq f) (Ne.symm hb)).trans hu) ⟨_,q⟩ ?_;exact⟨hz,its',_,hv,q⟩
theorem Inv.lnew {its:List Value}{t':Nat}(I:Inv X RQ σ H s)(hv:Vals ys its)(hz:ys.length<=sizeLine):
  Inv X RQ σ (upd H s.heap.objs.size (.lst ys)) { s with heap:=s.heap.push { cls:=.type "list",data:=.seq its.toArray },toks:=t' }:=
 I.laid (λ_ _ q=>Heap.get?_push_of_some _ q) (am _) ⟨hz,its,0,hv,Heap.get?_push_size _ rfl⟩
theorem Inv.fresh (I:Inv X RQ σ H s):H s.heap.objs.size=none:=I.hok.fresh (am _)
theorem Inv.lstM (I:Inv X RQ σ H s)(hH:H l=some (.lst xs)):xs.length<=sizeLine∧∃(its:List Value) (n:Nat),Vals xs its∧xs.length=its.length∧s.heap.get? l=some { cls:=.type "list",data:=.seq its.toArray n }:=by
 obtain⟨z,its,n,r,e⟩:=I.hok l _ hH;exact⟨z,its,n,r,r.length,e⟩
theorem Cs {n:Nat}(h:n<=sizeLine):Builtin.List.listTooLong n=false:=by
 unfold Builtin.List.listTooLong;exact decide_eq_false (by omega)
end
section
variable {X:Cx}
def Ct:V->List V->Hp->VK->Prop:=λx vs H Q=>∃l xs y,x=.ref l∧vs=[y]∧H l=some (.lst xs)∧xs.length<sizeLine∧Q .non (upd H l (.lst (xs++[y])))
theorem fM:MtM X "list.append" Ct:=by
 intro RQ s σ H x vs v us Q I rx rv h;obtain⟨l,xs,y,rfl,rfl,hH,hz,q⟩:=h
 cases rx
 obtain⟨u,rfl,ru⟩:=rv.one;obtain⟨z,its,n,r,hl,e⟩:=I.lstM hH;refine call_meets F.slot_list_append ⟨_,e,rfl⟩ F.entry_list_append (F.args_list_append_2 _ _) (PySem.list_append l its.toArray n u (by rw[cY];omega)) ⟨e,?_⟩;refine⟨.non,_,I.lset (its':=its++[u]) hH e (by simp) (r.append (.cons ru .nil)) ?_,rfl,q⟩;rw[bM,rF];omega
def Cu:V->List V->Hp->VK->Prop:=λx vs H Q=>∃l b xs zs,x=.ref l∧vs=[.ref b]∧H l=some (.lst xs)∧H b=some (.lst zs)∧xs.length+zs.length<=sizeLine∧Q .non (upd H l (.lst (xs++zs)))
theorem NB:MtM X "list.extend" Cu:=by
 intro RQ s σ H x vs v us Q I rx rv h;obtain⟨l,b,xs,zs,rfl,rfl,hH,hB,hz,q⟩:=h
 cases rx
 obtain⟨u,rfl,ru⟩:=rv.one
 cases ru
 obtain⟨z,its,n,r,hl,e⟩:=I.lstM hH;obtain⟨z2,its2,n2,r2,hl2,e2⟩:=I.lstM hB;have hsz:its.toArray.size+its2.toArray.size<=sizeLine:=by rw[cY,cY];omega
 have hlong:¬(!its.toArray.isEmpty && Builtin.List.listTooLong (its.toArray.size+its2.toArray.size))=true:=by
  rw[Cs hsz,Bool.and_false];exact Bool.false_ne_true
 refine call_meets F.slot_list_extend ⟨_,e,rfl⟩ F.entry_list_extend (F.args_list_extend_2 _ _)
  (AutoSeq1.list_extend_list_list_0 l its.toArray n b its2.toArray n2 hlong (by rw[cY];omega) (by omega)) ⟨e,e2,?_⟩
 refine⟨.non,_,I.lset (its':=its++its2) hH e (by simp) (r.append r2) ?_,rfl,q⟩;rw[bM];omega
def Cv:V->List V->Hp->VK->Prop:=λx vs H Q=>∃l xs y,x=.ref l∧vs=[]∧H l=some (.lst xs)∧xs[xs.length-1]?=some y∧Q y (upd H l (.lst xs.dropLast))
theorem vL:MtM X "list.pop" Cv:=by
 intro RQ s σ H x vs v us Q I rx rv h;obtain⟨l,xs,y,rfl,rfl,hH,hy,q⟩:=h
 cases rx
 have hus:=rv.zero;subst hus;obtain⟨z,its,n,r,hl,e⟩:=I.lstM hH;obtain⟨u,hu,ru⟩:=r.get hy;have hy':its.toArray[its.toArray.size-1]?=some u:=by
  show its.toArray[its.length-1]?=some u;rw[←Array.getElem?_toList,←hl];exact hu
 refine call_meets F.slot_list_pop ⟨_,e,rfl⟩ F.entry_list_pop (F.args_list_pop_1 _) (MeetsSeq.list_pop_last l its.toArray n u hy' (by rw[cY];omega)) ⟨e,?_⟩;refine⟨y,_,I.lset (its':=its.dropLast) hH e ?_ r.dropLast ?_,ru,q⟩
 ·show its.toArray.eraseIdxIfInBounds (its.toArray.size-1)=its.dropLast.toArray;rw[cY,List.eraseIdxIfInBounds_toArray,IL]
 ·rw[xx];omega
def IM:V->List V->Hp->VK->Prop:=λx vs H Q=>∃l xs,x=.ref l∧vs=[]∧H l=some (.lst xs)∧Q .non (upd H l (.lst []))
def Cw:R2:=λx y H Q=>∃l b xs zs,x=.ref l∧y=.ref b∧H l=some (.lst xs)∧H b=some (.lst zs)∧xs.length+zs.length<=sizeLine∧∀p,H p=none->Q (.ref p) (upd H p (.lst (xs++zs)))
theorem iV:OpR X (binaryOp .Add) Cw:=by
 intro RQ s σ H x y v u Q I rx ry h;obtain⟨l,b,xs,zs,rfl,rfl,hH,hB,hz,q⟩:=h
 cases rx
 cases ry
 obtain⟨z,its,n,r,hl,e⟩:=I.lstM hH;obtain⟨z2,its2,n2,r2,hl2,e2⟩:=I.lstM hB;refine PySem.P.add_list e e2 ?_ (by rw[cY,cY];omega);have ea:its.toArray++its2.toArray=(its++its2).toArray:=by simp
 rw[ea];exact⟨.ref _,_,I.lnew (t':=s.toks) (r.append r2) (by rw[bM];omega),rfl,q _ I.fresh⟩
def Cy:R2:=λx y H Q=>∃l k xs,x=.ref l∧y=.int k∧H l=some (.lst xs)∧-(2 ^ 63)<=k∧k<2 ^ 63∧xs.length*k.toNat<=sizeLine∧
 ∀p,H p=none->Q (.ref p) (upd H p (.lst (aL k.toNat xs).flatten))
theorem IN {α:Type}(xs:List α)(k:Nat):(aL k xs).flatten.length=k*xs.length:=by
 induction k with
 | zero=>simp
 | succ k ih=>rw[gy,mh,bM,ih,Nat.succ_mul,rG]
theorem jk:OpR X (binaryOp .Mult) Cy:=by
 intro RQ s σ H x y v u Q I rx ry h;obtain⟨l,k,xs,rfl,rfl,hH,h1,h2,hz,q⟩:=h
 cases rx
 obtain⟨t,rfl⟩:=ry;obtain⟨z,its,n,r,hl,e⟩:=I.lstM hH;have hlen:its.toArray.size*k.toNat<=sizeLine:=by rw[cY,←hl];exact hz
 have hcap:¬its.toArray.size*k.toNat > (2 ^ 63-1) / 8:=by
  have:(sizeLine:Nat)<=(2 ^ 63-1) / 8:=by decide
  omega
 have hfit:¬(!Builtin.List.listFitsIndex k)=true:=by
  rw[fitsIndex_both h1 h2];exact Bool.false_ne_true
 have hlong:¬Builtin.List.listTooLong (its.toArray.size*k.toNat)=true:=by
  rw[Cs hlen];exact Bool.false_ne_true
 have hnew:List.foldl (λx1 x2=>x1++x2) #[] (aL (if its.toArray.isEmpty=true then 0 else k.toNat) its.toArray)=(aL k.toNat its).flatten.toArray:=by
  have f0:∀m:Nat,List.foldl (λx1 x2=>x1++x2) #[] (aL m its.toArray)=(aL m its).flatten.toArray:=λm=>by
   have:=Cr its m [];rw[il]at this;exact this
  rw[f0]
  cases its with
  | nil=>simp
  | cons a r'=>rw[if_neg (by simp)]
 refine wpAny_binaryOp_repeat_ref (T := "list") (U := "int") (by decide) ⟨_,e,rfl⟩ (λs'=>typeIs_int s' k t) noFill_list_mul F.fills_int_mul F.slot_int_rmul repeat_list F.slot_int_index.lookup
  (call_meets F.slot_int_rmul (typeIs_int s k t) F.entry_int_rmul (F.args_int_rmul_2 _ _) (int___rmul___int_list k t l its.toArray n)
   ⟨e,rfl,⟨_,e,rfl⟩,call_meets F.slot_list_mul ⟨_,e,rfl⟩ F.entry_list_mul (F.args_list_mul_2 _ _) (AutoListH.list___mul___list_int_3 l its.toArray n k t hfit hcap hlong) ⟨e,?_⟩⟩)
 rw[hnew];exact⟨.ref _,_,I.lnew (t':=s.toks) (r.rep k.toNat) (by rw[IN,gI];exact hz),rfl,q _ I.fresh⟩
end
end L2
namespace Att
open PySem PySem.W PySem.Calls PyProof.Rows
theorem IP {P:Params}{h:Heap}:∀(ns:List Int) (vs:List Value),WellAll P h vs (ns.map WData.int)->IntsAre vs ns:=by
 intro ns
 induction ns with
 | nil=>
  intro vs w;rw[rH]at w
  cases w
  exact .nil
 | cons n ns ih=>
  intro vs w;rw[dy]at w
  cases w with
  | cons a b=>
   cases a
   exact .cons _ _ (ih _ b)
theorem IQ {l:OpenLaw}{n:Nat}(hn:l.most=some n){P:Params}{h:Heap}{args:List WData}{vals:List Value}
  (hpre:l.row.toRowW.claim.pre args=true) (hwl:WellAll P h vals args):
  ∃a vs ns,vals=[Value.ref a]∧args=[WData.list (ns.map WData.int)]∧h.get? a=some { cls:=.type "list",data:=.seq vs.toArray }∧IntsAre vs ns∧ns.length<=n:=by
 have hsh:WShape.hasAll [] args [.list .int]=true:=(pre_splitW hpre).1;have hc:l.pre.holds [] { args:=args }=true:=(pre_splitW hpre).2;obtain⟨d,r,rfl,h1,h2⟩:=hasAllW_cons hsh;obtain rfl:=hasAllW_nil h2;obtain⟨xs,rfl,h3⟩:=hasW_list h1;obtain⟨ns,rfl⟩:=items_int h3;have hlen:ns.length<=n:=by
  unfold OpenLaw.pre at hc;have h4:(WTm.not (.lt (.lit (.int (n:Int))) (.len (.arg 0)))).holds [] { args:=[.list (ns.map .int)] }=true:=by
   have h4:=(holds_andW hc).1;rw[hn]at h4;exact h4
  have h5:=condW_of h4 (w_not (w_lt w_lit (w_len_list (w_arg rfl))));rw[ac]at h5;refine rJ λq=>?_;have q':(n:Int)<((ns.length:Nat):Int):=by omega
  first
   |(rw[decide_eq_true q']at h5;exact absurd h5 (by decide))
   |(simp at h5;omega)
 cases hwl with
 | cons w1 w2=>
  cases w2
  cases w1 with
  | list ho hall=>exact⟨_,_,ns,rfl,rfl,ho,IP ns _ hall,hlen⟩
theorem IR (l:OpenLaw)(args:List WData):l.row.toRowW.claim.post args (.bool true) args=true:=
 postW_of (r:=l.row.toRowW) (X:=(true == true))
  (show WShape.has [] (.bool true) .bool=true by first|rfl|decide|simp[WShape.has,WShape.arms,WShape.armsAll])
  (show (WTm.eq .res (.lit (.bool true))).value [] { args:=args,res:=some (.bool true),after:=args }=some (.bool (true == true)) from w_eq_bool (w_res rfl) w_lit) rfl
theorem attach_call {l:OpenLaw}{n:Nat}{q:Program}{loose:List Str}{XP:(Str->Option Value)->Heap->Prop}{YP:World->Heap->Prop}{d:DefRec}
  (hn:l.most=some n) (hdf:d.params.defaults=[])
  (call:∀(w:World) (s₀ s₁:Shared) (mg mb:Str->Option Value) (fa:Addr) (o:Obj) (pm cd doc:Value) (a:Addr) (vs:List Value) (ns:List Int),
   Ground q loose [] XP w s₀ mg mb s₁.heap->YP w s₁.heap->
   s₁.heap.get? fa=some o->o.data=.func (docDef d.name d.params d.body d.scope pm cd doc)->s₁.heap.CodeRec cd d.name->mg d.name=some (.ref fa)->
   s₁.heap.get? a=some { cls:=.type "list",data:=.seq vs.toArray }->IntsAre vs ns->ns.length<=n->s₁.gens=#[]->
   codeAny (model l.prog w) callerA (.call (.ref fa) ⟨[.ref a],[]⟩) (λr s'=>r=.ok (.ret (.bool true))∧OldK s₁.heap s'.heap∧s'.os=s₁.os∧AllBare s'.gens) s₁):
  WalkO q loose XP YP l.row.toRowW d [] (λf vs=>PySem.call f vs):=by
 intro w s₀ s₁ mg mb G Y fa o pm cd doc dV kV ho hd hcd hD hmg hg args vals as hpre hlay hrd hwl hlo;obtain rfl:dV=.none:=Dflts.none hD hdf;obtain rfl:kV=.none:=Dflts.noKw hD;obtain⟨a,vs,ns,rfl,rfl,hobj,hints,hlen⟩:=IQ hn hpre hwl;refine enter_call (codeAny_mono (call w s₀ s₁ mg mb fa o pm cd doc a vs ns G Y ho (fd_plain hd) hcd hmg hobj hints hlen hg) λr s' hq=>?_);obtain⟨rfl,h2,h3,h4⟩:=hq;exact⟨.inl ⟨.bool true,.bool true,[],rfl,λ_=>rfl,.bool true,IR l _,λ_=>⟨List.Pairwise.nil,λ_ hm=>(nomatch hm)⟩⟩,h2,h3,h4⟩
section
variable {prog:Program}{w:World}{A:Around}{E:Value->Shared->Prop}{s:Shared}{K:Frag}
def NC (h:Heap)(L d:Addr):List (Addr×Obj):=(aD h.objs.size).filterMap λa=>if a=L∨a=d then none else (h.get? a).map λo=>(a,o)
end
end Att
namespace L2
open PySem PySem.Spec PyProof.Rows
theorem Cz:∀{vs:List Value}{ns:List Int},IntsAre vs ns->Vals (ns.map V.int) vs
 | _,_,.nil=>.nil
 | _,_,.cons n t h=>.cons ⟨t,rfl⟩ (Cz h)
def vM (H:Hp):Prop:=∀b,H b=none∨∃o xs,H b=some (.frz o (.lst xs))
theorem IS {P:Program}{w:World}{K:PySem.W.Frag}{mg mb:Str->Option Value}{CX:CXT}{k:Nat}{fa a:Addr}{fd:FuncData}{x:Str}{sp:Sp}{s₁:Shared}{vs:List Value}{ns:List Int}
  (KX:K.In s₁.heap) (hns:s₁.heap.Ns mainGlobals mg) (hb:s₁.heap.Ns builtinsNs mb) (hbb:∀x:Str,x ≠ "__name__" -> mb x=bootBuiltins x) (hlim:s₁.heap.NoLimit) (hg:s₁.gens=#[])
  (ha:s₁.heap.get? a=some { cls:=.type "list",data:=.seq vs.toArray }) (hi:IntsAre vs ns) (hl:ns.length<=sizeLine) (hr:Room k callerA)
  (F:∀base:Heap,K.In base->base.Ns mainGlobals mg->FnOk P w K mg base CX k fa fd [x] sp) (hbind:∀(s:Shared) (u:Value),BindsTo s fd ⟨[u],[]⟩ [(x,u)])
  (hsp:∀H:Hp,vM H->SqL K H a (ns.map V.int)->sp [.ref a] H (λv _=>v=.bl true) λ_ _ _=>False)
  (hCX:∀H e s',CX [] H s₁ (λ_ _ _=>False) e s'->False):
  codeAny (model P w) callerA (.call (.ref fa) ⟨[.ref a],[]⟩) (λr s'=>r=.ok (.ret (.bool true))∧OldK s₁.heap s'.heap∧s'.os=s₁.os∧AllBare s'.gens) s₁:=by
 have rv:=Cz hi;have lenV:=hi.length;have core:∀H:Hp,vM H->SqL K H a (ns.map V.int)->HOk P w H s₁.heap->(∀b,H b≠none->b=a)->(H a≠none->K.lookup a=none)->
   codeAny (model P w) callerA (.call (.ref fa) ⟨[.ref a],[]⟩) (λr s'=>r=.ok (.ret (.bool true))∧OldK s₁.heap s'.heap∧s'.os=s₁.os∧AllBare s'.gens) s₁:=by
  intro H hO hS hok hA hK;have base_of:∀{b:Addr}{o:Obj},s₁.heap.get? b=some o->H b=none->(iy s₁.heap H).get? b=some o:=λe n=>HI e n;have noA:∀{b:Addr}{o:Obj}{es:Array DictEntry}{ep:Nat},s₁.heap.get? b=some o->o.data=.dict es ep->H b=none:=λ{b o es ep} e d=>by
   cases q:H b with
   | none=>rfl
   | some u=>
    have e':b=a:=hA b (by rw[q];simp);subst e';rw[ha]at e;cases e;have d':Data.seq vs.toArray _=Data.dict es ep:=d
    cases d'
  have nsK:∀{b:Addr}{m:Str->Option Value},s₁.heap.Ns b m->(iy s₁.heap H).Ns b m:=λ{b m} ⟨o,es,ep,e,d,r⟩=>⟨o,es,ep,base_of e (noA e d),d,r⟩
  have hKb:K.In (iy s₁.heap H):=λb o e=>base_of (KX b o e) (by
   cases q:H b with
   | none=>rfl
   | some u=>
    have e':b=a:=hA b (by rw[q];simp);subst e';rw[hK (by rw[q];simp)]at e;cases e)
  have hM:Mod K mg (iy s₁.heap H):=⟨hKb,nsK hns,⟨mb,nsK hb,hbb⟩,let ⟨mc,h1,h2⟩:=hlim;⟨mc,nsK h1,h2⟩⟩
  have e0:Env0 P w K mg (iy s₁.heap H) callerA [] s₁ H:=⟨rfl,hM,λb o e=>HJ e,rC (HH _ _),trivial,λb hb=>absurd (show b∈([]:List Addr) from hb) (by simp),hok,.of_eq hg⟩
  refine codeAny_mono ((F _ hKb (nsK hns)).run callerA [] s₁ H ⟨[.ref a],[]⟩ [.ref a] [.ref a] _ _ hr e0 (hbind s₁ (.ref a)) (.cons rfl .nil) (hsp H hO hS)) λr s' h=>?_
  cases r with
  | error e=>exact (hCX H e s' h).elim
  | ok fl=>
   cases fl with
   | next=>exact False.elim h
   | brk=>exact False.elim h
   | cont=>exact False.elim h
   | ret u=>
    obtain⟨v,H',os,bare,un,hok',r',q⟩:=h;have q':v=.bl true:=q;subst q';obtain rfl:u=Value.bool true:=r';refine⟨rfl,OldK.of_keep λb o e=>?_,os,bare⟩
    cases q:H b with
    | none=>exact un.keep b o e q (by intro z;exact absurd (show b∈([]:List Addr) from z) (by simp)) (by simp)
    | some u=>
     rcases hO b with z|⟨ob,xs,z⟩
     ·rw[q]at z;cases z
     ·have z2:=un.frzs b ob _ z;obtain⟨e1,_⟩:=hok b _ z;obtain⟨e2,_⟩:=hok' b _ z2;rw[e]at e1;cases e1;exact e2
 cases hk:K.lookup a with
 | some o=>
  have e:=KX a o hk;rw[ha]at e
  cases e
  refine core (λ_=>none) (λ_=>.inl rfl) (.inr ⟨_,vs.toArray,_,hk,rfl,rfl,rfl,by rw[cY,lenV];exact hl,by simpa using rv⟩) (λb u z=>by have z':(none:Option HO)=some u:=z;cases z') (λb z=>absurd rfl z) λz=>absurd rfl z
 | none=>
  refine core (λb=>if b=a then some (.frz { cls:=.type "list",data:=.seq vs.toArray } (.lst (ns.map V.int))) else none) (λb=>?_) (.inl (.inr ⟨{ cls:=.type "list",data:=.seq vs.toArray },if_pos rfl⟩)) (λb u z=>?_) (λb z=>?_) λ_=>hk
  ·by_cases hb:b=a
   ·exact .inr ⟨_,_,if_pos hb⟩
   ·exact .inl (if_neg hb)
  ·by_cases hb:b=a
   ·have z':=(if_pos hb).symm.trans z
    cases z'
    subst hb;exact⟨ha,by rw[ac];exact hl,vs,_,rv,ha⟩
   ·have z':=(if_neg hb).symm.trans z
    cases z'
  ·by_cases hb:b=a
   ·exact hb
   ·exact absurd (if_neg hb) z
end L2
namespace L2
open PySem PySem.Spec PyProof.Rows
theorem IT {l:PySem.W.OpenLaw}{n k:Nat}{q:Program}{loose:List Str}{XP:(Str->Option Value)->Heap->Prop}{YP:World->Heap->Prop}{d:DefRec}{K:Params->PySem.W.Frag}{CX:World->CXT}{sp:World->Sp}{x:Str}
  (hn:l.most=some n) (hn2:n<=sizeLine) (hdf:d.params.defaults=[]) (hr:Room k callerA)
  (hY:∀(w:World) (h:Heap),YP w h->(K w.params).In h)
  (F:∀(w:World) (mg:Str->Option Value) (fa:Addr) (h:Heap),(K w.params).In h->h.Ns mainGlobals mg->mg d.name=some (.ref fa)->
   ∃fd:FuncData,(∀(s:Shared) (u:Value),BindsTo s fd ⟨[u],[]⟩ [(x,u)])∧
    ∀base:Heap,(K w.params).In base->base.Ns mainGlobals mg->FnOk l.prog w (K w.params) mg base (CX w) k fa fd [x] (sp w))
  (hsp:∀(w:World) (H:Hp) (a:Addr) (ns:List Int),ns.length<=n->vM H->SqL (K w.params) H a (ns.map V.int)->sp w [.ref a] H (λv _=>v=.bl true) λ_ _ _=>False)
  (hCX:∀(w:World) (H:Hp) (s:Shared) (e:Value) (s':Shared),CX w [] H s (λ_ _ _=>False) e s'->False):
  PySem.W.WalkO q loose XP YP l.row.toRowW d [] (λf vs=>PySem.call f vs):=by
 refine Att.attach_call hn hdf λw s₀ s₁ mg mb fa o pm cd doc a vs ns G Y ho hd hcd hmg hobj hints hlen hg=>?_;have KX:=hY w _ Y;obtain⟨fd,hb,hF⟩:=F w mg fa _ KX G.T.g hmg;exact IS KX G.T.g G.T.b G.T.builtins G.T.nolimit hg hobj hints (aP hlen hn2) hr hF hb (λH hO hS=>hsp w H a ns hlen hO hS) λH e s'=>hCX w H s₁ e s'
end L2
namespace L2
open PySem PySem.Spec PyProof.Rows
def kQ (s:Stmt):Arguments:=match s with
 | .FunctionDef _ a _ _ _ _ _ _ _ _=>a
 | _=>{ posonlyargs:=[],args:=[],vararg:=none,kwonlyargs:=[],kw_defaults:=[],kwarg:=none,defaults:=[] }
def jl (s:Stmt):List Stmt:=match s with
 | .FunctionDef _ _ b _ _ _ _ _ _ _=>b
 | _=>[]
def aY (s:Stmt):Scope:=match s with
 | .FunctionDef _ _ _ _ _ _ sc _ _ _=>sc
 | _=>{ kind:=.function,names:=[],isGenerator:=false,isCoroutine:=false }
abbrev CX0:CXT:=λ_ _ _ _ _ _=>False
abbrev E0:XK:=λ_ _ _=>False
theorem aB {X:Cx}:jj CX0 X E0:=λ_ _ _ _ _ _ _ h=>h.elim
structure Fun (K:PySem.W.Frag)(x qual:Str)(st:Stmt)(f:Addr)(fd:FuncData):Prop where
 ex:∃(oc:Value) (od:Option Addr) (kV doc pm:Value) (an:Option Addr) (cdv ct:Value) (osl:Array (Option Value)),
  fd=PySem.W.fnOf x qual (kQ st) (jl st) (aY st) .none kV doc pm an cdv ct∧K.lookup f=some ⟨oc,od,.func fd,osl⟩∧PySem.W.codeIn K cdv qual=true
 kp:PySem.W.keepIn K (.ref f)=true
section
variable {P:Program}{w:World}{K:PySem.W.Frag}{mg:Str->Option Value}{base:Heap}
theorem Fun.ok {x qual:Str}{st:Stmt}{f:Addr}{fd:FuncData}{N ps:List Str}{k:Nat}{sp:Sp}(F:Fun K x qual st f fd) (S:FnScope N ps (aY st)) (len:∀vs H Q E,sp vs H Q E->vs.length=ps.length)
  (hbody:∀(cdv:Value) (A:Around) (outer:List Env) (s:Shared) (H:Hp) (vs:List V) (Q:VK) (E:XK),Room k (A.deeper (envOfC qual (aY st) s.heap.objs.size f cdv))->sp vs H Q E->
   ∃t,PSs (fL CX0 P w K mg base N qual (aY st) f cdv A outer s H E).nox (jl st) t∧t { nx:=λ_ H'=>Q .non H',rt:=Q } (gC N vs) H):FnOk P w K mg base CX0 (k+1) f fd ps sp:=by
 obtain⟨oc,od,kV,doc,pm,an,cdv,ct,osl,rfl,lk,hcd⟩:=F.ex;refine Cf lk hcd S len λA outer s H vs Q E hr hsp=>?_;obtain⟨t,h,q⟩:=hbody cdv A outer s H vs Q E hr hsp;exact⟨t,h.nox,q⟩
theorem Fun.binds {x qual:Str}{st:Stmt}{f:Addr}{fd:FuncData}{ps:List Str}(F:Fun K x qual st f fd)
  (h:∀(kV doc pm:Value) (an:Option Addr) (cdv ct:Value) (us:List Value),us.length=ps.length->bindArgs (PySem.W.fnOf x qual (kQ st) (jl st) (aY st) .none kV doc pm an cdv ct) ⟨us,[]⟩=pure (ps.zip us)):Binds K fd ps []:=by
 obtain⟨oc,od,kV,doc,pm,an,cdv,ct,osl,rfl,lk,hcd⟩:=F.ex;exact .all (h kV doc pm an cdv ct)
theorem IU {x qual:Str}{st:Stmt}{f:Addr}{oc:Value}{od an:Option Addr}{osl:Array (Option Value)}{kV doc pm cdv ct:Value}(l:K.lookup f=some ⟨oc,od,.func (PySem.W.fnOf x qual (kQ st) (jl st) (aY st) .none kV doc pm an cdv ct),osl⟩)
  (c:PySem.W.codeIn K cdv qual=true) (k:PySem.W.keepIn K (.ref f)=true):Fun K x qual st f (PySem.W.fnOf x qual (kQ st) (jl st) (aY st) .none kV doc pm an cdv ct):=⟨⟨oc,od,kV,doc,pm,an,cdv,ct,osl,rfl,l,c⟩,k⟩
end
theorem bC {n:Nat}(h:n<=1000):n<sizeLine:=cZ h (by decide)
section
variable {X:Cx}
theorem pv (i:Nat){x:Str}{pos:Pos}(hN:X.N[i]?=some x:=by rfl) (hv:Vis X.env.scope x:=by first|exact Or.inl rfl|exact Or.inr (Or.inl rfl)|exact Or.inr (Or.inr rfl)) (hd:(x == ("__debug__" : Str))=false:=by decide)
  (hcd:(x == ("__classdict__" : Str))=false:=by decide):PE X (.Name x pos) (u_ i):=HM hN hv hd hcd
end
theorem bR {c A B:Prop}[Decidable c](h1:c->A)(h2:¬c->B):if c then A else B:=by
 by_cases h:c
 ·rw[if_pos h];exact h1 h
 ·rw[if_neg h];exact h2 h
def Same (H H':Hp):Prop:=∀b o,H b=some o->H' b=some o
theorem Same.refl (H:Hp):Same H H:=λ_ _ h=>h
theorem Same.trans {H H1 H2:Hp}(a:Same H H1)(b:Same H1 H2):Same H H2:=λc o h=>b c o (a c o h)
theorem Same.free {H H':Hp}(e:Same H H'){l:Addr}(h:H' l=Option.none):H l=Option.none:=by
 cases q:H l with
 | none=>rfl
 | some o=>
  rw[e l o q]at h
  cases h
theorem Same.seq {K:PySem.W.Frag}{H H':Hp}{a:Addr}{xs:List V}(e:Same H H')(h:SqL K H a xs):SqL K H' a xs:=by
 rcases h with (h|⟨o,h⟩)|h
 ·exact .inl (.inl (e _ _ h))
 ·exact .inl (.inr ⟨o,e _ _ h⟩)
 ·exact .inr h
end L2
namespace L2
open PySem PySem.Spec PyProof.Rows
@[reducible] def blk (X:Cx) (x:Str) (fv:List (Nat×Str)) (scope:Scope) (cl:List (Str×Addr)) (C:Addr) (s:Shared) (H:Hp) (fp:List Addr):Cx where
 prog:=X.prog
 w:=X.w
 K:=X.K
 mg:=X.mg
 base:=X.base
 A:=X.A
 N:=x :: fv.map (·.2)
 s₀:=s
 H₀:=H
 env:=compEnvC scope cl C X.env
 outer:=X.stack
 stack:=X.stack
 ex:=fp
 fn:=λ_=>false
 calm:=X.calm
 pn:=[]
 xe:=λ_ _=>False
def bst (fv:List (Nat×Str))(σ:St)(v:Option V):St:=v :: fv.map λp=>(σ[p.1]?).getD none
structure BlkOk (X:Cx)(x:Str)(fv:List (Nat×Str))(scope:Scope)(cl:List (Str×Addr)):Prop where
 clos:closureFor scope X.env=pure cl
 nocell:∀y∈scope.names,y.2≠.cell
 kind:scope.kind=.function
 names:∀y∈scope.names,y.2=.local->scope.names.lookup y.1=some .local
 here:scope.names.lookup x=some .local
 sub:∀y c,cl.lookup y=some c->X.env.cells.lookup y=some c
 has:∀y,((relabel scope X.env).names.lookup y=some .cell∨(relabel scope X.env).names.lookup y=some .free)->∃c,cl.lookup y=some c
 fvs:∀p∈fv,p.2≠x∧X.N[p.1]?=some p.2∧(X.env.scope.names.lookup p.2=some .cell∨X.env.scope.names.lookup p.2=some .free)∧
  ((relabel scope X.env).names.lookup p.2=some .cell∨(relabel scope X.env).names.lookup p.2=some .free)∧∃c,cl.lookup p.2=some c
theorem vN {prog:Program}{w:World}{A:Around}{R:Result->Shared->Prop}{s:Shared}{elt target iter:Expr}{scope:Scope}{pos:Pos}{it acc:Value}{env:Env}(I:Nat->Shared->Prop)
  (turn:∀n s (E:Value->Shared->Prop),I n s->wpAny (model prog w) A (pyNext it) (λr s₁=>match r with
   | none=>R (.ok .next) s₁
   | some v=>wpAny (model prog w) A (letOwnedTupleGo target it v) (λ_ s₂=>wpAny (model prog w) A (assign target env v) (λ_ s₃=>wpAny (model prog w) A (eval elt env) (λx s₄=>
     wpAny (model prog w) A (call (.builtin "list.append") [acc,x]) (λ_ s₅=>∃m,m<n∧I m s₅) E s₄) E s₃) E s₂) E s₁) E s)
  (n:Nat) (h:I n s):
  codeAny (model prog w) A (.compLoop (.ListComp elt [⟨target,iter,[],0⟩] scope pos) 0 it acc env) R s:=by
 refine codeAny_loop rfl I (λn s hI=>?_) n h;show wpAny _ _ ((compTurn (.ListComp elt [⟨target,iter,[],0⟩] scope pos) 0 it acc env).onRaise (λx=>do noteFrame x env;theTreesLotGoes x)) _ _ s;refine wpAny_noted ?_;rw[PySem.compTurn_list1];refine wpAny_bind (wpAny_standAt (wpAny_bind (wpAny_mono (turn n s _ hI) (λr s₁ h₁=>?_) λ_ _ h'=>h')))
 cases r with
 | none=>exact wpAny_pure h₁
 | some v=>
  exact wpAny_bind (thn h₁ λ_ s₂ h₂=>wpAny_bind (thn h₂ λ_ s₃ h₃=>wpAny_bind (wpAny_bind (thn h₃ λx s₄ h₄=>wpAny_bind (thn h₄ λ_ s₅ h₅=>wpAny_pure (wpAny_pure ⟨rfl,h₅⟩))))))
section
variable {X:Cx}{elt iter:Expr}{x:Str}{px:Pos}{fv:List (Nat×Str)}{scope:Scope}{cl:List (Str×Addr)}{pos:Pos}{te:TE}{wi:TI}
def kR (fv:List (Nat×Str))(wi:TI)(te:TE):TE:=λσ H Q=>wi σ H λJ H1=>∀D,H1 D=none->∃W:Nat->Nat->Hp->Prop,(∃m,W 0 m (upd H1 D (.lst [])))∧∀i m H,W i m H->
 (J.stop i H∧Q (.ref D) H)∨(J.go i H∧∃N:Hp->Prop,(∀H',N H'->∃m',m'<m∧W (i+1) m' H')∧∀v H',J.yld i H v H'->te (bst fv σ (some v)) H' λy H2=>∃ys,H2 D=some (.lst ys)∧ys.length<sizeLine∧N (upd H2 D (.lst (ys++[y]))))
theorem IV {RQ:List (Addr×Obj)}{σ:St}{H:Hp}{s:Shared}{fp:List Addr}{C:Addr}(B:BlkOk X x fv scope cl)(I:Inv X RQ σ H s)(hf:∀b∈fp,cL X RQ H b)(hC:s.heap.objs.size<=C)(hfC:∀b∈fp,b≠C):
  (blk X x fv scope cl C s H fp).Ok where
 mod:=I.ok.mod
 kind:=B.kind
 glob:=I.ok.glob
 blt:=I.ok.blt
 above:=hC
 inj:=λy z c h1 h2=>I.ok.inj y z c (B.sub y c h1) (B.sub z c h2)
 has:=λy hy=>B.has y hy
 cab:=λy c h=>nomatch h
 hd:=I.ok.hd
 frames:=I.ok.frames
 stk:=.inl rfl
 exf:=λb hb=>⟨hfC b hb,λy c e=>(hf b hb).2.2.2.2.1 y c (B.sub y c e)⟩
 bs:=I.bs
 bsz:=aP I.ok.bsz I.sz
 noex:=λb o e hb=>by
  obtain⟨_,_,_,f3,_⟩:=hf b hb;rcases f3 with z|z
  ·exact I.ok.noex b o e z
  ·exact absurd (bZ (Heap.lt_size e) (aP I.ok.bsz z)) (ii _)
 exfs:=λb hb hs=>by
  obtain⟨_,f1,f2,_⟩:=hf b hb;rcases a_.mp (I.stkSub b hs) with z|z
  ·exact f1 z
  ·exact f2 z
 funs:=I.stack
 frf:=I.stkFree
theorem vO {fv:List (Nat×Str)}{σ:St}{o:Option V}{j:Nat}{y:Str}{v:V}(h1:(x :: fv.map (·.2))[j+1]?=some y)(h2:(bst fv σ o)[j+1]?=some (some v)):∃p∈fv,p.2=y∧σ[p.1]?=some (some v):=by
 have e1:(fv.map (·.2))[j]?=some y:=by simpa using h1
 have e2:(fv.map λp=>(σ[p.1]?).getD none)[j]?=some (some v):=by simpa [bst] using h2
 rw[aA]at e1 e2
 cases q:fv[j]? with
 | none=>rw[q]at e1;cases e1
 | some p=>
  rw[q]at e1 e2;refine⟨p,bJ q,Option.some.inj e1,?_⟩;have e3:(σ[p.1]?).getD none=some v:=Option.some.inj e2
  cases r:σ[p.1]? with
  | none=>rw[r]at e3;cases e3
  | some w=>rw[r]at e3;exact congrArg some e3
theorem CA {RQ:List (Addr×Obj)}{σ:St}{H:Hp}{s s4:Shared}{fp:List Addr}{C:Addr}{m:Str->Option Value}(B:BlkOk X x fv scope cl) (I:Inv X RQ σ H s) (hf:∀b∈fp,cL X RQ H b) (hC:C=s.heap.objs.size)
  (hfC:∀b∈fp,b≠C) (os:s4.os=s.os) (gens:s4.gens=s.gens) (keep:∀b o,s.heap.get? b=some o->s4.heap.get? b=some o) (ns:s4.heap.Ns C m):
  Inv (blk X x fv scope cl C s H fp) [] (bst fv σ none) H s4:=by
 subst hC;refine⟨IV B I hf (am _) hfC,os,by rw[gens];exact I.bare,Un.kept keep,⟨m,ns,λi y v h1 h2 h3=>?_⟩,λy c e=>?_,I.hok.fresh (am _),λy c e=>I.freeC y c (B.sub y c e),λp hp=>absurd (show p∈([]:List (Addr×Obj)) from hp) (by simp),I.hok.kept keep,by simp[bst]⟩
 ·cases i with
  | zero=>simp[bst]at h2
  | succ j=>
   obtain⟨p,hp,rfl,hv⟩:=vO h1 h2;obtain⟨_,hN,hk,hk2,c,hc⟩:=B.fvs p hp;obtain⟨m0,_,hl⟩:=I.loc;have vis:Vis X.env.scope p.2:=hk.elim (λz=>.inr (.inl z)) λz=>.inr (.inr z);obtain⟨u,r,l⟩:=hl p.1 p.2 v hN hv vis;refine⟨u,r,.inr ⟨hk2,c,hc,?_⟩⟩;rcases l with ⟨z,_⟩|⟨_,c',hc',o,ho,hd⟩
   ·have z':X.env.scope.names.lookup p.2=some .local:=z;rcases hk with k|k <;> (rw[k]at z';cases z')
   ·have:=B.sub p.2 c hc;rw[hc']at this;cases this;exact⟨o,keep _ o ho,hd⟩
 ·obtain⟨v,o,ho,hd⟩:=I.cell y c (B.sub y c e);exact⟨v,o,keep c o ho,hd⟩
theorem CB {pins':List (Addr×Obj)}{σ:St}{H H0:Hp}{s s5:Shared}{fp:List Addr}{C:Addr}{o:Option V}{v:V}{u:Value}{E:Value->Shared->Prop}{Q:Unit->Shared->Prop}(B:BlkOk X x fv scope cl)
  (I:Inv (blk X x fv scope cl C s H0 fp) pins' (bst fv σ o) H s5) (r:RelV v u) (h:∀s6,Inv (blk X x fv scope cl C s H0 fp) pins' (bst fv σ (some v)) H s6->Q () s6):
  wpAny (model X.prog X.w) X.A (assign (.Name x px) (compEnvC scope cl C X.env) u) Q E s5:=by
 obtain⟨m,hn,hl⟩:=id I.loc;have hk:(relabel scope X.env).names.lookup x=some .local:=lookup_relabel_local B.here;have hcls:((compEnvC scope cl C X.env).scope.kind == .class || ((compEnvC scope cl C X.env).scope.kind == .module && (compEnvC scope cl C X.env).locals != (compEnvC scope cl C X.env).globals))=false:=by
  have:(compEnvC scope cl C X.env).scope.kind=.function:=B.kind;rw[this];rfl
 refine wpAny_assign_Name (wpAny_storeName_local hk hn (λh' hn' hs=>?_) hcls);have cne:=I.cne;obtain⟨oL,_,_,hoL,_⟩:=id hn;have tracked:HOk X.prog X.w H h':=λb ob e=>by
  refine (I.hok b ob e).stay (λc w' hc q=>(hs.2 c ?_).trans q) (λ_ q=>q) λ_ _ q=>q;intro z;have z':c=C:=z;have fr:H C=none:=I.free;rcases hc with hc|hc
  ·rw[←hc,z',fr]at e;cases e
  ·rw[z',fr]at hc;cases hc
 refine h _ ⟨I.ok,I.os,I.bare,⟨λb o e n hb hx=>?_,λb o e n hb hx=>?_,I.base.free,λb o e hx=>?_,I.base.tups,I.base.frzs,I.base.tbls⟩,⟨_,hn',λj y v' e1 e2 e3=>?_⟩,λy c e=>?_,I.free,I.freeC,λp hp=>?_,tracked,by simp[bst]⟩
 ·exact (hs.2 b (cJ (bZ (Heap.lt_size e) I.ok.above))).trans (I.base.keep b o e n hb hx)
 ·obtain⟨sl,e1⟩:=I.base.slot b o e n hb hx;exact⟨sl,(hs.2 b (cJ (bZ (Heap.lt_size e) I.ok.above))).trans e1⟩
 ·obtain⟨o',e1⟩:=I.base.there b o e hx;exact⟨o',(hs.2 b (cJ (bZ (Heap.lt_size e) I.ok.above))).trans e1⟩
 ·cases j with
  | zero=>
   have e1':x=y:=by simpa using e1
   subst e1';have e2':v=v':=by simpa [bst] using e2
   subst e2';exact⟨u,r,.inl ⟨hk,by simp⟩⟩
  | succ j=>
   have e2':(bst fv σ o)[j+1]?=some (some v'):=by simpa [bst] using e2
   obtain⟨u',r',q⟩:=hl (j+1) y v' e1 e2' e3;refine⟨u',r',?_⟩;obtain⟨p,hp,rfl,_⟩:=vO e1 e2;rcases q with ⟨k,e⟩|⟨k,c,e,z⟩
   ·exact .inl ⟨k,by simp[(B.fvs p hp).1,e]⟩
   ·exact .inr ⟨k,c,e,z.sameBut hs (cne _ c e)⟩
 ·obtain⟨w',z⟩:=I.cell y c e;exact⟨w',z.sameBut hs (cne y c e)⟩
 ·obtain⟨e,n,ne,nf,d⟩:=I.pin p hp;exact⟨(hs.2 p.1 ne).trans e,n,ne,nf,d⟩
theorem CC {RQ:List (Addr×Obj)}{σ:St}{H:Hp}{s2:Shared}{it:Addr}{fp:List Addr}{tn:Nat->Heap->Prop}{J:It}{Q:VK}{E:Value->Shared->Prop}{RR:Value->Addr->Result->Shared->Prop}
  (hc:X.calm=true) (B:BlkOk X x fv scope cl) (he:∀C s H fp,PE (blk X x fv scope cl C s H fp) elt te) (I:Inv X RQ σ H s2) (T:Turn X.prog X.w X.K (.Name x px) J fp it tn) (st:tn 0 s2.heap) (hf:∀b∈fp,cL X RQ H b)
  (rd:∀D,H D=none->∃W:Nat->Nat->Hp->Prop,(∃m,W 0 m (upd H D (.lst [])))∧∀i m H,W i m H->
   (J.stop i H∧Q (.ref D) H)∨(J.go i H∧∃N:Hp->Prop,(∀H',N H'->∃m',m'<m∧W (i+1) m' H')∧∀v H',J.yld i H v H'->te (bst fv σ (some v)) H' λy H2=>∃ys,H2 D=some (.lst ys)∧ys.length<sizeLine∧N (upd H2 D (.lst (ys++[y])))))
  (hRR:∀D C s' H' m',Inv X RQ σ H' s'->cL X RQ H' C->s'.heap.Ns C m'->Q (.ref D) H'->RR (.ref D) C (.ok .next) s'):
  wpAny (model X.prog X.w) X.A (newList []) (λacc s₃=>wpAny (model X.prog X.w) X.A (newFunctionEnv scope X.env.globals cl [] X.env.qual none .none (some X.env)) (λcenv s₄=>
   codeAny (model X.prog X.w) X.A (.compStart (.ListComp elt [⟨.Name x px,iter,[],0⟩] scope pos) 0 (.ref it) acc { cenv with scope:=relabel scope X.env }) (RR acc cenv.locals) s₄) E s₃) E s2:=by
 refine wpAny_newObj_type ?_ (by show 0<=sizeLine;exact aI _);have hD:H s2.heap.objs.size=none:=I.hok.fresh (am _);have I3:=I.lnew (ys:=[]) (its:=[]) (t':=s2.toks) .nil (aI _);generalize hs3:({ s2 with heap:=s2.heap.push { cls:=.type "list",data:=.seq ([]:List Value).toArray },toks:=s2.toks }:Shared)=s3 at I3;have sz3:s3.heap.objs.size=s2.heap.objs.size+1:=by rw[←hs3];exact Heap.size_push ..
 have up3:∀b o,s2.heap.get? b=some o->s3.heap.get? b=some o:=λb o e=>by rw[←hs3];exact Heap.get?_push_of_some _ e
 have hf3:∀b∈fp,cL X RQ (upd H s2.heap.objs.size (.lst [])) b:=λb hb=>by
  obtain⟨f0,r⟩:=hf b hb;refine⟨?_,r⟩;obtain⟨o,e,_⟩:=T.obj 0 _ st b hb;rw[ar (cJ (Heap.lt_size e))];exact f0
 have ltf:∀b∈fp,b<s2.heap.objs.size:=λb hb=>by
  obtain⟨o,e,_⟩:=T.obj 0 _ st b hb;exact Heap.lt_size e
 have st3:tn 0 s3.heap:=T.keep 0 _ _ st λb _ o e=>up3 b o e;obtain⟨W,⟨m0,w0⟩,turn⟩:=rd _ hD;refine wpAny_newFunctionEnv B.nocell (by intro y hy;simp at hy) (λh₁ hns₁ hsb₁=>?_) B.kind;have hfC:∀b∈fp,b≠s3.heap.objs.size:=λb hb=>cJ (by rw[sz3];exact mj (ltf b hb));have up4:∀b o,s3.heap.get? b=some o->h₁.get? b=some o:=λb o e=>hsb₁.extBut b o (cJ (Heap.lt_size e)) (Heap.get?_push_of_some _ e);generalize hs4:({ s3 with heap:=h₁,toks:=s3.toks+([]:List (Str×Value)).length }:Shared)=s4;have h4:s4.heap=h₁:=by rw[←hs4]
 have I4:Inv (blk X x fv scope cl s3.heap.objs.size s3 (upd H s2.heap.objs.size (.lst [])) fp) [] (bst fv σ none) (upd H s2.heap.objs.size (.lst [])) s4:=
  CA B I3 hf3 rfl hfC (by rw[←hs4]) (by rw[←hs4]) (λb o e=>by rw[h4];exact up4 b o e) (by rw[h4];exact hns₁)
 have st4:tn 0 s4.heap:=by rw[h4];exact T.keep 0 _ _ st3 λb _ o e=>up4 b o e
 have stat:∀{H':Hp},(∀b∈fp,H' b=none)->∀b∈fp,cL (blk X x fv scope cl s3.heap.objs.size s3 (upd H s2.heap.objs.size (.lst [])) fp) [] H' b:=λ{H'} hn b hb=>by
  obtain⟨_,f1,f2,f3,f4,f5⟩:=hf b hb;refine⟨hn b hb,hfC b hb,λz=>?_,.inl hb,λy c e=>f4 y c (B.sub y c e),λp hp=>absurd (show p∈([]:List (Addr×Obj)) from hp) (by simp)⟩;rcases a_.mp (I.stkSub b z) with q|q
  ·exact f1 q
  ·exact f2 q
 have loop:codeAny (model X.prog X.w) X.A (.compLoop (.ListComp elt [⟨.Name x px,iter,[],0⟩] scope pos) 0 (.ref it) (.ref s2.heap.objs.size) (compEnvC scope cl s3.heap.objs.size X.env)) (RR (.ref s2.heap.objs.size) s3.heap.objs.size) s4:=by
  refine vN (λn s'=>∃i H' o,Inv (blk X x fv scope cl s3.heap.objs.size s3 (upd H s2.heap.objs.size (.lst [])) fp) [] (bst fv σ o) H' s'∧tn i s'.heap∧(∀b∈fp,H' b=none)∧W i n H') ?_ m0
   ⟨0,_,none,I4,st4,λb hb=>(hf3 b hb).1,w0⟩
  rintro n s5 E' ⟨i,H5,o5,I5,st5,fr5,w5⟩
  rcases turn i n H5 w5 with ⟨stop,q⟩|⟨go,N,hN,step⟩
  ·refine thn (T.done (blk X x fv scope cl s3.heap.objs.size s3 (upd H s2.heap.objs.size (.lst [])) fp) rfl rfl rfl hc i [] s5 _ H5 _ I5 (stat fr5) st5 stop) λr s6 ⟨hr,I6⟩=>?_;subst hr;obtain⟨m6,hn6,_⟩:=I6.loc;have un:Un (frs X.stack) fp H H5 s2.heap s6.heap:=by
    have u1:Un (frs X.stack) fp H (upd H s2.heap.objs.size (.lst [])) s2.heap s3.heap:=Un.laid up3 (am _) hD;exact u1.trans I6.base
   have J6:Inv X RQ σ H5 s6:=by
    refine I.call' ?_ un I6.hok I6.bare λb hb=>?_
    ·have:=I6.os;rw[show (blk X x fv scope cl s3.heap.objs.size s3 (upd H s2.heap.objs.size (.lst [])) fp).s₀.os=s2.os by rw[←hs3]]at this;exact this
    ·obtain⟨_,f1,f2,f3,f4,f5⟩:=hf b hb;exact⟨f3,f1,f4,f5⟩
   refine hRR _ _ s6 H5 m6 J6 ?_ hn6 q;exact I3.fpOk (am _) I6.free
  ·refine thn (T.item (blk X x fv scope cl s3.heap.objs.size s3 (upd H s2.heap.objs.size (.lst [])) fp) rfl rfl rfl hc i [] s5 _ H5 _ I5 (stat fr5) st5 go) λr s6 ⟨u,hr,h6⟩=>?_;subst hr;refine thn h6 λ_ s7 ⟨v,H7,I7,r7,y7,st7,fr7⟩=>?_;have I7':=I7.pinned (stat fr7) (T.obj _ _ st7);refine CB B I7' r7 λs8 I8=>?_;have e8:=he _ _ _ _ _ s8 _ H7 _ I8 (step v H7 y7);refine wpAny_mono e8 (λy s9 ⟨yv,H9,I9,r9,ys,hD9,hz,n9⟩=>?_) λ_ _ z=>False.elim z;have a9:=fM (X:=blk X x fv scope cl s3.heap.objs.size s3 (upd H s2.heap.objs.size (.lst [])) fp) _ s9 _ H9 (.ref s2.heap.objs.size) [yv] (.ref s2.heap.objs.size) [y] (λ_ H10=>H10=upd H9 s2.heap.objs.size (.lst (ys++[yv]))) I9 rfl (.cons r9 .nil)
    ⟨_,ys,yv,rfl,rfl,hD9,hz,rfl⟩
   refine wpAny_mono a9 (λ_ s10 ⟨_,H10,I10,_,e10⟩=>?_) λ_ _ z=>False.elim z;subst e10;obtain⟨m',hm,w9⟩:=hN _ n9;refine⟨m',hm,i+1,_,some v,I10.unpinned,T.keep _ _ _ st7 λb hb o e=>(I10.pin (b,o) (cX _ (cX _ (gd hb e)))).1,λb hb=>?_,w9⟩;obtain⟨o,e,_⟩:=T.obj _ _ st7 b hb;exact (I10.pin (b,o) (cX _ (cX _ (gd hb e)))).2.1
 exact codeAny_compStart_list loop (T.self _ 0 _ _ _ st4 loop)
end
end L2
namespace L2
open PySem PySem.Spec PyProof.Rows
section
variable {X:Cx}{elt iter:Expr}{x:Str}{px:Pos}{fv:List (Nat×Str)}{scope:Scope}{cl:List (Str×Addr)}{pos:Pos}{te:TE}{wi:TI}
theorem e_ (hc:X.calm=true) (B:BlkOk X x fv scope cl) (hi:PI X (.Name x px) iter wi) (he:∀C s H fp,PE (blk X x fv scope cl C s H fp) elt te)
  (hs:∀v,foldedSetIterable iter X.env v=pure v:=by intro _;rfl):PE X (.ListComp elt [⟨.Name x px,iter,[],0⟩] scope pos) (kR fv wi te):=by
 intro RQ s σ H Q I h;rw[eval_ListComp];refine wpAny_comprehension_free (use:=none) rfl hs B.clos B.kind B.names (thn (hi RQ s σ H _ I h) λv s1 h1=>thn h1 λitv s2 h2=>?_);obtain⟨it,fp,tn,J,H2,e,I2,T,st2,f2,rd⟩:=h2;subst e;refine CC (RR:=λacc C=>compPost (model X.prog X.w) X.A X.xe none (EP X RQ σ Q) acc C) hc B he I2 T st2 f2 rd ?_;intro D C s' H' m' I' fC hn q;exact⟨m',hn,λh' sb=>⟨.ref D,H',I'.turned (t':=s'.toks) (λb o hb e=>(sb.2 b hb).trans e) fC.1 fC.2.1 fC.2.2.2.1 fC.2.2.2.2.1 fC.2.2.2.2.2,rfl,q⟩⟩
theorem kS {i:Nat}{y:Str}{py spos:Pos}(hc:X.calm=true) (B:BlkOk X x fv scope cl) (hi:PI X (.Name x px) iter wi) (he:∀C s H fp,PE (blk X x fv scope cl C s H fp) elt te)
  (hN:X.N.Nodup) (hiy:X.N[i]?=some y) (hy:X.env.scope.names.lookup y=some .local)
  (hsw:swapsWith (.ListComp elt [⟨.Name x px,iter,[],0⟩] scope pos) (some (.Name y py)) spos.line X.env=pure true:=by rfl)
  (hs:∀v,foldedSetIterable iter X.env v=pure v:=by intro _;rfl):
  PS X (.Assign [.Name y py] (.ListComp elt [⟨.Name x px,iter,[],0⟩] scope pos) spos) (jh (kR fv wi te) (fU i)):=by
 intro RQ s σ H D I h;rw[exec_Assign_Name_used _ _ _ _ hsw];refine wpAny_bind (wpAny_standAt (wpAny_bind ?_));show wpAny _ X.A (do let _ ←comprehension (.ListComp elt [⟨.Name x px,iter,[],0⟩] scope pos) scope X.env _ (newList []) false (eval iter X.env) (some (assign (.Name y py) X.env))) _ _ s;refine wpAny_bind (wpAny_mono (wpAny_comprehension_free (use:=some (assign (.Name y py) X.env)) (Q:=λ_ s'=>SP X RQ D .next s') rfl hs B.clos B.kind B.names
  (thn (hi RQ s σ H _ I h) λv s1 h1=>thn h1 λitv s2 h2=>?_)) (λ_ s' hq=>wpAny_pure (wpAny_pure hq)) λ_ _ e=>e)
 obtain⟨it,fp,tn,J,H2,e,I2,T,st2,f2,rd⟩:=h2;subst e;refine CC (Q:=λx H1=>fU i x σ H1 D.nx) (RR:=λacc C=>compPost (model X.prog X.w) X.A X.xe (some (assign (.Name y py) X.env)) (λ_ s'=>SP X RQ D .next s') acc C) hc B he I2 T st2 f2 rd ?_;intro Dl C s' H' m' I' fC hn q;show wpAny _ X.A (assign (.Name y py) X.env (.ref Dl)) _ _ _;refine wpAny_assign_Name (kH I' hN hiy (.inl hy) (v:=.ref Dl) rfl (λs'' I'' hab=>?_) (.inr hy));obtain⟨a,sb,ha⟩:=hab;have hCa:C≠a:=by
  rcases ha with rfl|e
  ·exact fC.2.1
  ·exact Ne.symm (fC.2.2.2.2.1 _ _ e)
 exact⟨m',hn.sameBut sb hCa,λh' sb'=>⟨_,H',I''.turned (t':=s''.toks) (λb o hb e=>(sb'.2 b hb).trans e) fC.1 fC.2.1 fC.2.2.2.1 fC.2.2.2.2.1 fC.2.2.2.2.2,q⟩⟩
end
def jm (lo c:Int)(n:Nat):It:=⟨λi _=>i<n,λi H x H'=>H'=H∧x=.int (lo+i*c),λi _=>n<=i⟩
theorem IW {P:Program}{w:World}{K:PySem.W.Frag}{tg:Expr}(it:Addr)(lo c:Int)(n:Nat):Turn P w K tg (jm lo c n) [it] it (λi h=>IsRangeIter h it (lo+(i:Nat)*c) ((n:Int)-(i:Nat)) c) where
 mem:=by simp
 obj:=λi h st b hb=>by
  have e:b=it:=by simpa using hb
  subst e;exact⟨_,st,λv z=>by
   have z':Data.fields _=Data.cell v:=z
   cases z'⟩
 keep:=λi h h' st k=>k it (by simp) _ st
 item:=by
  intro X hP hw hK hc i RQ s σ H E I hf st hg;subst hP hw hK;obtain⟨f0,f1,f2,f3,f4,f5⟩:=hf it (by simp);have W:=Walks.range (prog:=X.prog) (w:=X.w) (I.ok.hd hc) it lo c n;refine W.item i s _ _ hg st λv h' tk hv st' kk=>?_;obtain⟨t,rfl⟩:=hv;have I1:Inv X RQ σ H { s with heap:=h',toks:=tk }:=I.turned (λb o hb e=>kk b o (by simpa using hb) e) f0 f1 f3 f4 f5;exact⟨_,rfl,mS (s:={ s with heap:=h',toks:=tk }) (n := "range_iterator") st' rfl rfl (by decide) ⟨.int (lo+i*c),H,I1,⟨t,rfl⟩,⟨rfl,rfl⟩,st',λb hb=>(hf b hb).1⟩⟩
 done:=by
  intro X hP hw hK hc i RQ s σ H E I hf st hg;subst hP hw hK;obtain⟨f0,f1,f2,f3,f4,f5⟩:=hf it (by simp);exact wpAny_pyNext_range_end (I.ok.hd hc) st (by have:n<=i:=hg;omega) λh' eb=>⟨rfl,I.turned (t':=s.toks) (λb o hb e=>eb b o hb e) f0 f1 f3 f4 f5⟩
 self:=λ_ _ _ _ _ st h=>wpAny_pyIter_rangeiter st h
section
variable {X:Cx}{tg:Expr}
def CD (ta:TA):TI:=λσ H R=>ta σ H λvs H1=>∃(i j k:Int) (n:Nat),vs=[.int i,.int j,.int k]∧k≠0∧k.natAbs<1073741824∧Builtin.Range.small i j k=true∧Builtin.Range.rangeSize i j k=n∧R (jm i k n) H1
theorem vP {a b c:Expr}{ta:TA}{p pos:Pos}(hg:Gl X "range") (hm:X.mg "range" = none) (ha:PA X [a,b,c] ta) (hs:starEach [a,b,c] X.env=[(false,eval a X.env),(false,eval b X.env),(false,eval c X.env)]:=by rfl)
  (hs2:starEach [b,c] X.env=[(false,eval b X.env),(false,eval c X.env)]:=by rfl):PI X tg (.Call (.Name "range" p) [a,b,c] [] pos) (CD ta):=by
 intro RQ s σ H R I h;refine Call_ (gO I hg hm boot_range (PyProof.Rows.callWith_type1 (thn (ha pos RQ s σ H _ I h) λus s1 ⟨vs,H1,I1,r1,q1⟩=>?_) (by rw[hs,hs2]) (by rw[hs2];rfl)));obtain⟨i,j,k,n,e,hk,hk2,hsm,hn,q⟩:=q1;subst e
 cases r1 with
 | cons r rr=>
  cases rr with
  | cons r' rr=>
   cases rr with
   | cons r'' rr=>
    cases rr
    obtain⟨t,rfl⟩:=r;obtain⟨t',rfl⟩:=r';obtain⟨t'',rfl⟩:=r'';refine call_range_3 hk ?_ (.inl (PyProof.noPylong_small hk2));refine wpAny_pyIter_range (IsRange.new ..) hsm ?_;have I2:Inv X RQ σ H1 { s1 with heap:=s1.heap.push { cls:=.type "range",data:=.fields #[.int i t,.int j t',.int k t''] },toks:=s1.toks }:=I1.kept λb o e=>Heap.get?_push_of_some _ e;refine⟨(s1.heap.push { cls:=.type "range",data:=.fields #[.int i t,.int j t',.int k t''] }).objs.size,[(s1.heap.push { cls:=.type "range",data:=.fields #[.int i t,.int j t',.int k t''] }).objs.size],_,_,H1,rfl,
     I2.kept (t':=s1.toks) λb o e=>Heap.get?_push_of_some _ e,IW _ i k n,?_,λb hb=>?_,q⟩
    ·have e1:i+((0:Nat):Int)*k=i:=by simp
     have e2:((n:Nat):Int)-((0:Nat):Int)=Builtin.Range.rangeSize i j k:=by rw[hn];simp
     show IsRangeIter _ _ (i+((0:Nat):Int)*k) (((n:Nat):Int)-((0:Nat):Int)) k;rw[e1,e2];exact Heap.get?_push_size _ rfl
    ·have e:b=(s1.heap.push { cls:=.type "range",data:=.fields #[.int i t,.int j t',.int k t''] }).objs.size:=by simpa using hb
     subst e;exact I2.fpOk (am _) (I2.hok.fresh (am _))
end
theorem IX {lo c:Int}{n:Nat}{g:TG}{tb:TS}{D:Ends}{σ:St}{H:Hp}(Pv:Nat->St->Hp->Prop) (h0:Pv 0 σ H)
  (hs:∀i σ H,i<n->Pv i σ H->g (.int (lo+i*c)) σ H λσ2 H2=>tb { D with nx:=Pv (i+1),ct:=Pv (i+1),bk:=D.nx } σ2 H2) (hd:∀σ H,Pv n σ H->D.nx σ H):
  ∃W:Nat->Nat->St->Hp->Prop,(∃m,W 0 m σ H)∧∀i m σ H,W i m σ H->
   ((jm lo c n).stop i H∧D.nx σ H)∨((jm lo c n).go i H∧∃N:St->Hp->Prop,(∀σ' H',N σ' H'->∃m',m'<m∧W (i+1) m' σ' H')∧∀x H',(jm lo c n).yld i H x H'->g x σ H' λσ2 H2=>tb { D with nx:=N,ct:=N,bk:=D.nx } σ2 H2):=by
 refine⟨λi m σ H=>m=n-i∧i<=n∧Pv i σ H,⟨n,by simp,aI _,h0⟩,?_⟩
 rintro i m σ H ⟨rfl,hi,p⟩
 by_cases hlt:i<n
 ·refine .inr ⟨hlt,Pv (i+1),λσ' H' p'=>⟨n-(i+1),by omega,rfl,hlt,p'⟩,λx H' y=>?_⟩;obtain⟨e,y⟩:=y;subst e y;exact hs i σ _ hlt p
 ·have e:i=n:=by omega
  subst e;exact .inl ⟨am _,hd σ H p⟩
theorem IY {K:PySem.W.Frag}{a:Addr}{xs:List V}{fv:List (Nat×Str)}{te:TE}{Q:VK}{σ:St}{H1:Hp}{D:Addr}(Pv:Nat->Hp->Prop) (h0:Pv 0 (upd H1 D (.lst []))) (hl:∀i H,i<=xs.length->Pv i H->SqL K H a xs)
  (hs:∀i v H,xs[i]?=some v->Pv i H->te (bst fv σ (some v)) H λy H2=>∃ys,H2 D=some (.lst ys)∧ys.length<sizeLine∧Pv (i+1) (upd H2 D (.lst (ys++[y])))) (hd:∀H,Pv xs.length H->Q (.ref D) H):
  ∃W:Nat->Nat->Hp->Prop,(∃m,W 0 m (upd H1 D (.lst [])))∧∀i m H,W i m H->
   ((Itl K a).stop i H∧Q (.ref D) H)∨((Itl K a).go i H∧∃N:Hp->Prop,(∀H',N H'->∃m',m'<m∧W (i+1) m' H')∧∀v H',(Itl K a).yld i H v H'->te (bst fv σ (some v)) H' λy H2=>∃ys,H2 D=some (.lst ys)∧ys.length<sizeLine∧N (upd H2 D (.lst (ys++[y])))):=by
 refine⟨λi m H=>m=xs.length-i∧i<=xs.length∧Pv i H,⟨xs.length,by simp,aI _,h0⟩,?_⟩
 rintro i m H ⟨rfl,hi,p⟩
 have q:=hl i H hi p;by_cases hlt:i<xs.length
 ·refine .inr ⟨⟨xs,xs[i],q,aj hlt⟩,Pv (i+1),λH' p'=>⟨xs.length-(i+1),by omega,rfl,hlt,p'⟩,λv H' y=>?_⟩;obtain⟨e,y⟩:=y;subst e;exact hs i v _ (y xs q) p
 ·have e:i=xs.length:=by omega
  subst e;exact .inl ⟨⟨xs,q,am _⟩,hd H p⟩
theorem IZ {lo:Int}{n:Nat}{fv:List (Nat×Str)}{te:TE}{Q:VK}{σ:St}{H1:Hp}{D:Addr}(Pv:Nat->Hp->Prop) (h0:Pv 0 (upd H1 D (.lst [])))
  (hs:∀i H,i<n->Pv i H->te (bst fv σ (some (.int (lo+i)))) H λy H2=>∃ys,H2 D=some (.lst ys)∧ys.length<sizeLine∧Pv (i+1) (upd H2 D (.lst (ys++[y])))) (hd:∀H,Pv n H->Q (.ref D) H):
  ∃W:Nat->Nat->Hp->Prop,(∃m,W 0 m (upd H1 D (.lst [])))∧∀i m H,W i m H->
   ((Itr lo n).stop i H∧Q (.ref D) H)∨((Itr lo n).go i H∧∃N:Hp->Prop,(∀H',N H'->∃m',m'<m∧W (i+1) m' H')∧∀v H',(Itr lo n).yld i H v H'->te (bst fv σ (some v)) H' λy H2=>∃ys,H2 D=some (.lst ys)∧ys.length<sizeLine∧N (upd H2 D (.lst (ys++[y])))):=by
 refine⟨λi m H=>m=n-i∧i<=n∧Pv i H,⟨n,by simp,aI _,h0⟩,?_⟩
 rintro i m H ⟨rfl,hi,p⟩
 by_cases hlt:i<n
 ·refine .inr ⟨hlt,Pv (i+1),λH' p'=>⟨n-(i+1),by omega,rfl,hlt,p'⟩,λv H' y=>?_⟩;obtain⟨e,y⟩:=y;subst e y;exact hs i _ hlt p
 ·have e:i=n:=by omega
  subst e;exact .inl ⟨am _,hd H p⟩
theorem cM {cells:List (Str×Addr)}:∀y c,([]:List (Str×Addr)).lookup y=some c->cells.lookup y=some c:=λ_ _ h=>nomatch h
theorem dj {n:Str}{c0:Addr}{r cells:List (Str×Addr)}(h0:cells.lookup n=some c0)(h:∀y c,r.lookup y=some c->cells.lookup y=some c):∀y c,((n,c0) :: r).lookup y=some c->cells.lookup y=some c:=λy c q=>by
 rw[xy]at q
 cases e:y == n with
 | true=>
  rw[e]at q
  cases q
  rw[eq_of_beq e];exact h0
 | false=>
  rw[e]at q;exact h y c q
theorem vQ {l:List (Str×NameKind)}{cl:List (Str×Addr)}(h:(l.all λp=>(p.2 != .cell && p.2 != .free) || (cl.lookup p.1).isSome)=true):∀y,(l.lookup y=some .cell∨l.lookup y=some .free)->∃c,cl.lookup y=some c:=λy hy=>by
 have key:∀k,l.lookup y=some k->(k=.cell∨k=.free)->∃c,cl.lookup y=some c:=λk e hk=>by
  have q:=List.all_eq_true.mp h (y,k) (PySem.mem_of_lookup e);have z:(k != .cell && k != .free)=false:=by rcases hk with rfl|rfl <;> rfl
  rw[show ((y,k).2 != .cell && (y,k).2 != .free)=false from z,Bool.false_or]at q;exact Nd.mp q
 rcases hy with e|e
 ·exact key _ e (.inl rfl)
 ·exact key _ e (.inr rfl)
def kT (X:Cx)(x:Str)(scope:Scope)(cl:List (Str×Addr))(fv:List (Nat×Str)):Prop:=
 ∀p∈fv,p.2≠x∧X.N[p.1]?=some p.2∧(X.env.scope.names.lookup p.2=some .cell∨X.env.scope.names.lookup p.2=some .free)∧
  ((relabel scope X.env).names.lookup p.2=some .cell∨(relabel scope X.env).names.lookup p.2=some .free)∧∃c,cl.lookup p.2=some c
theorem cV {X:Cx}{x:Str}{scope:Scope}{cl:List (Str×Addr)}:kT X x scope cl []:=λ_ h=>nomatch h
theorem d_ {X:Cx}{x:Str}{scope:Scope}{cl:List (Str×Addr)}{fv:List (Nat×Str)}(i:Nat) (y:Str) (h1:y≠x) (h2:X.N[i]?=some y) (h3:X.env.scope.names.lookup y=some .cell∨X.env.scope.names.lookup y=some .free)
  (h4:(relabel scope X.env).names.lookup y=some .cell∨(relabel scope X.env).names.lookup y=some .free) (h5:∃c,cl.lookup y=some c) (r:kT X x scope cl fv):kT X x scope cl ((i,y) :: fv):=λp hp=>by
 rcases a_.mp hp with rfl|hp
 ·exact⟨h1,h2,h3,h4,h5⟩
 ·exact r p hp
theorem dD {X:Cx}{x:Str}{fv:List (Nat×Str)}{scope:Scope}{cl:List (Str×Addr)}(clos:closureFor scope X.env=pure cl) (sub:∀y c,cl.lookup y=some c->X.env.cells.lookup y=some c) (fvs:kT X x scope cl fv)
  (kind:scope.kind=.function:=by rfl) (here:scope.names.lookup x=some .local:=by rfl) (nocell:∀y∈scope.names,y.2≠.cell:=by decide +kernel)
  (names:∀y∈scope.names,y.2=.local->scope.names.lookup y.1=some .local:=by decide +kernel)
  (has:((relabel scope X.env).names.all λp=>(p.2 != .cell && p.2 != .free) || (cl.lookup p.1).isSome)=true:=by rfl):BlkOk X x fv scope cl:=
 ⟨clos,nocell,kind,names,here,sub,vQ has,fvs⟩
section
variable {X:Cx}
theorem m8:fJ X (.builtin "isinstance") (λxs H Q=>∃x n t b,xs=[x,.ty n]∧TyOf X.K H x t∧PySem.W.kitOne X.K t (.type n)=some b∧Q (.bl b) H):=by
 intro RQ s σ H xs us Q I rv h;obtain⟨x,n,t,b,rfl,ty,e,q⟩:=h
 cases rv with
 | cons r rr=>
  cases rr with
  | cons r' rr=>
   cases rr
   cases r'
   exact Ix I r ty e λtk=>⟨.bl b,H,I.tok _,rfl,q⟩
theorem CF:MtR X "int.bit_length" (λx xs H Q=>∃i,x=.int i∧xs=[]∧Q (.int (Builtin.Int.intBits i:Nat)) H):=by
 intro RQ s σ H x xs v us Q I rx rv h;obtain⟨i,rfl,rfl,q⟩:=h
 cases rv
 obtain⟨t,rfl⟩:=rx;exact call_gives F.slot_int_bit_length (typeIs_int s i t) F.entry_int_bit_length (F.args_int_bit_length_1 _) (PySem.AutoIntG2.int_bit_length_int_0 i t) ⟨.int _,H,I.tok _,⟨_,rfl⟩,q⟩
end
theorem vR {i:Int}{k:Nat}(h:i.natAbs<2 ^ k):Builtin.Int.intBits i<=k:=by
 unfold Builtin.Int.intBits
 split
 ·exact aI _
 ·rename_i hz;have hz':i≠0:=by simpa using hz
  have:i.natAbs.log2<k:=(Nat.log2_lt (by omega)).mpr h;omega
theorem I0 {i j:Int}{k l:Nat}(h1:i.natAbs<2 ^ k)(h2:j.natAbs<2 ^ l)(h:k+l<=134217728):IntMulOk i j:=IntMulOk.of_le (vR h1) (vR h2) h
theorem jn {X:Cx}:OpR X (binaryOp .FloorDiv) (rI (λ_ j=>j≠0∧j.natAbs<2 ^ 9000) λi j=>.int (i.fdiv j)):=
 opI λ_ j _ _ _ _ _ hc q=>floordiv_int hc.1 q (.inl (PyProof.noPylong_of_log2 ((Nat.log2_lt (by have:=hc.1;omega)).mpr hc.2)))
end L2
namespace L2
open PySem PySem.Spec PyProof.Rows
section
variable {σ:St}{H:Hp}{Q:VK}{D:Ends}{t u:TS}{te ta tb tc to ti:TE}{tt:TT}{tA:TA}{i:Nat}{x y v:V}{r r':R2}{QT:Bool->Hp->Prop}{QA:List V->Hp->Prop}
theorem aC:Bv t u D σ H=t { D with nx:=u D } σ H:=rfl
theorem m9:Bu D σ H=D.nx σ H:=rfl
theorem m_:HV D σ H=D.bk σ H:=rfl
theorem nc:Bw D σ H=D.ct σ H:=rfl
theorem nj:Bx te D σ H=te σ H λ_ H1=>D.nx σ H1:=rfl
theorem nn:By te D σ H=te σ H D.rt:=rfl
theorem nv:HX D σ H=D.rt .non H:=rfl
theorem nz:Bz tt t u D σ H=tt σ H λb H1=>if b=true then t D σ H1 else u D σ H1:=rfl
theorem nC {g:TG}:jh te g D σ H=te σ H λx H1=>g x σ H1 D.nx:=rfl
theorem nH {Q:St->Hp->Prop}:fU i v σ H Q=Q (σ.set i (some v)) H:=rfl
theorem nI {ts:jg}{Q:St->Hp->Prop}:BA to ti ts v σ H Q=to σ H λo H1=>ti σ H1 λi H2=>ts o i v H2 λH3=>Q σ H3:=rfl
theorem nJ {K:PySem.W.Frag}{n:Nat}{ts:TGs}{Q:St->Hp->Prop}:vg K n ts v σ H Q=∃a xs,v=.ref a∧SqT K H a xs∧xs.length=n∧ts xs σ H Q:=rfl
theorem nK {vs:List V}{Q:St->Hp->Prop}:ve vs σ H Q=(vs=[]∧Q σ H):=rfl
theorem nL {g:TG}{gs:TGs}{vs:List V}{Q:St->Hp->Prop}:mR g gs vs σ H Q=∃v r,vs=v :: r∧g v σ H λσ' H'=>gs r σ' H' Q:=rfl
theorem nN {ip:TIp}:BB i te ip D σ H=∃x,σ[i]?=some (some x)∧te σ H λy H1=>ip x y H1 λz H2=>D.nx (σ.set i (some z)) H2:=rfl
theorem nP {tget:V->V->Hp->VK->Prop}{tip:TIp}{tset:jg}:BC to ti te tget tip tset D σ H=to σ H λo H1=>ti σ H1 λi H2=>tget o i H2 λx H3=>te σ H3 λy H4=>tip x y H4 λz H5=>tset o i z H5 λH6=>D.nx σ H6:=rfl
theorem nQ {f:Int->Int->Int}:ipI f x y H Q=∃i j,x=.int i∧y=.int j∧Q (.int (f i j)) H:=rfl
theorem nU:u_ i σ H Q=∃v,σ[i]?=some (some v)∧Q v H:=rfl
theorem a_c:tC v σ H Q=Q v H:=rfl
theorem nZ:tOp r ta tb σ H Q=ta σ H λx H1=>tb σ H1 λy H2=>r x y H2 Q:=rfl
theorem n6 {r:V->Hp->VK->Prop}:tUn r ta σ H Q=ta σ H λx H1=>r x H1 Q:=rfl
theorem n8 {C:Int->Int->Prop}{g:Int->Int->V}:rI C g x y H Q=∃i j,x=.int i∧y=.int j∧C i j∧Q (g i j) H:=rfl
theorem n_ {g:Int->Int->V}:rI0 g x y H Q=∃i j,x=.int i∧y=.int j∧Q (g i j) H:=rfl
theorem oa {g:Int->V}:rU g x H Q=∃i,x=.int i∧Q (g i) H:=rfl
theorem og {i j:Int}:rEq (.int i) (.int j) H Q=Q (.bl (decide (i=j))) H:=by
 show (true=true∧Q (.bl (decide (V.int i=V.int j))) H)=_;rw[show decide (V.int i=V.int j)=decide (i=j) by rw[mV];exact Bool.beq_eq_decide_eq i j];simp
theorem oh {i j:Int}:rNe (.int i) (.int j) H Q=Q (.bl (!decide (i=j))) H:=by
 show (true=true∧Q (.bl (!decide (V.int i=V.int j))) H)=_;rw[show decide (V.int i=V.int j)=decide (i=j) by rw[mV];exact Bool.beq_eq_decide_eq i j];simp
theorem oi {i j:Bool}:rEq (.bl i) (.bl j) H Q=Q (.bl (decide (i=j))) H:=by
 show (true=true∧Q (.bl (decide (V.bl i=V.bl j))) H)=_
 cases i <;> cases j <;> simp
theorem oj {i j:Bool}:rNe (.bl i) (.bl j) H Q=Q (.bl (!decide (i=j))) H:=by
 show (true=true∧Q (.bl (!decide (V.bl i=V.bl j))) H)=_
 cases i <;> cases j <;> simp
theorem ol:tB te σ H QT=te σ H λx H1=>∃c,x=.bl c∧QT c H1:=rfl
theorem om:BQ te σ H QT=te σ H λx H'=>∃k,x=.bl k∧QT k H':=rfl
theorem oo {tt':TT}:Bn tt tt' σ H QT=tt σ H λc H1=>if c=true then tt' σ H1 QT else QT false H1:=rfl
theorem oq {tt':TT}:tOr tt tt' σ H QT=tt σ H λc H1=>if c=true then QT true H1 else tt' σ H1 QT:=rfl
theorem ot:Bo tt σ H QT=tt σ H λc H1=>QT (!c) H1:=rfl
theorem ou:Br ta tb σ H Q=ta σ H λx H1=>∃c,x=.bl c∧if c=true then tb σ H1 Q else Q (.bl false) H1:=rfl
theorem ow:HQ ta tb σ H Q=ta σ H λx H1=>∃c,x=.bl c∧if c=true then Q (.bl true) H1 else tb σ H1 Q:=rfl
theorem ox:HR ta σ H Q=ta σ H λx H1=>∃c,x=.bl c∧Q (.bl (!c)) H1:=rfl
theorem oy:tIf tt ta tb σ H Q=tt σ H λc H1=>if c=true then ta σ H1 Q else tb σ H1 Q:=rfl
theorem oz:Ik r r' ta tb tc σ H Q=ta σ H λx H1=>tb σ H1 λy H2=>r x y H2 λz H3=>∃k,z=.bl k∧(if k=true then tc σ H3 λw' H4=>r' y w' H4 Q else Q (.bl false) H3):=rfl
theorem oA:vE σ H QA=QA [] H:=rfl
theorem oC:vG ta tA σ H QA=ta σ H λx H1=>tA σ H1 λxs H2=>QA (x :: xs) H2:=rfl
theorem oE:B6 tA σ H Q=tA σ H λxs H1=>xs.length<=sizeLine∧∀p,H1 p=none->Q (.ref p) (upd H1 p (.lst xs)):=rfl
theorem oG:B5 tA σ H Q=tA σ H λxs H1=>xs.length<=sizeLine∧∀p,H1 p=none->Q (.ref p) (upd H1 p (.tup xs)):=rfl
theorem oH {sp:Sp}{dvs:List V}{E:XK}:B7 sp dvs E tA σ H Q=tA σ H λvs H1=>sp (vs++dvs) H1 Q E:=rfl
theorem oI {r:List V->Hp->VK->Prop}:tCB r tA σ H Q=tA σ H λvs H1=>r vs H1 Q:=rfl
theorem oJ {K:PySem.W.Frag}{T:String}{r:V->List V->Hp->VK->Prop}:Cq K T r to σ H Q=to σ H λx H1=>tyV K T x H1∧r x [] H1 Q:=rfl
theorem oM {K:PySem.W.Frag}{T:String}{r:V->List V->Hp->VK->Prop}:tBM K T r to tA σ H Q=to σ H λx H1=>tyV K T x H1∧tA σ H1 λxs H2=>r x xs H2 Q:=rfl
theorem oN {r:V->Option Int->Option Int->Hp->VK->Prop}{tl th:TO}:tSl r te tl th σ H Q=te σ H λx H1=>tl σ H1 λl H2=>th σ H2 λu H3=>r x l u H3 Q:=rfl
theorem oO {Q:Option Int->Hp->Prop}:Cg σ H Q=Q none H:=rfl
theorem oP {Q:Option Int->Hp->Prop}:Ch te σ H Q=te σ H λx H1=>∃i,x=.int i∧Q (some i) H1:=rfl
theorem oQ {K:PySem.W.Frag}{T:String}{i:Int}:tyV K T (.int i) H=(T = "int"):=rfl
theorem fV {K:PySem.W.Frag}{p:Addr}{xs:List V}(h:SqL K H p xs):tyV K "list" (.ref p) H:=.inl ⟨rfl,xs,h⟩
end
def iW (J:It)(g:TG)(tb:TS)(D:Ends)(σ:St)(H:Hp):Prop:=∃W:Nat->Nat->St->Hp->Prop,(∃m,W 0 m σ H)∧∀i m σ H,W i m σ H->
 (J.stop i H∧D.nx σ H)∨(J.go i H∧∃N:St->Hp->Prop,(∀σ' H',N σ' H'->∃m',m'<m∧W (i+1) m' σ' H')∧∀x H',J.yld i H x H'->g x σ H' λσ2 H2=>tb { D with nx:=N,ct:=N,bk:=D.nx } σ2 H2)
theorem oR {wi:TI}{g:TG}{tb:TS}{D:Ends}{σ:St}{H:Hp}:BI wi g tb D σ H=wi σ H λJ H1=>iW J g tb D σ H1:=rfl
def jW (J:It)(fv:List (Nat×Str))(te:TE)(Q:VK)(σ:St)(H1:Hp)(D:Addr):Prop:=∃W:Nat->Nat->Hp->Prop,(∃m,W 0 m (upd H1 D (.lst [])))∧∀i m H,W i m H->
 (J.stop i H∧Q (.ref D) H)∨(J.go i H∧∃N:Hp->Prop,(∀H',N H'->∃m',m'<m∧W (i+1) m' H')∧∀v H',J.yld i H v H'->te (bst fv σ (some v)) H' λy H2=>∃ys,H2 D=some (.lst ys)∧ys.length<sizeLine∧N (upd H2 D (.lst (ys++[y]))))
theorem oS {fv:List (Nat×Str)}{wi:TI}{te:TE}{σ:St}{H:Hp}{Q:VK}:kR fv wi te σ H Q=wi σ H λJ H1=>∀D,H1 D=none->jW J fv te Q σ H1 D:=rfl
theorem oU {K:PySem.W.Frag}{tl:TE}{σ:St}{H:Hp}{R:It->Hp->Prop}:vo K tl σ H R=tl σ H λx H1=>∃a,x=.ref a∧(∃xs,SqL K H1 a xs)∧R (Itl K a) H1:=rfl
theorem oV {K:PySem.W.Frag}{tl:TE}{σ:St}{H:Hp}{R:It->Hp->Prop}:H_ K tl σ H R=tl σ H λx H1=>∃a,x=.ref a∧(∃xs,SqT K H1 a xs)∧R (Itt K a) H1:=rfl
theorem oW {ta:TA}{σ:St}{H:Hp}{R:It->Hp->Prop}:BG ta σ H R=ta σ H λvs H1=>∃j:Int,vs=[.int j]∧-(2 ^ 62)<=j∧j<2 ^ 62∧R (Itr 0 j.toNat) H1:=rfl
theorem oX {ta:TA}{σ:St}{H:Hp}{R:It->Hp->Prop}:BH ta σ H R=ta σ H λvs H1=>∃i j:Int,vs=[.int i,.int j]∧(-(2 ^ 62)<=i∧i<2 ^ 62∧-(2 ^ 62)<=j∧j<2 ^ 62)∧R (Itr i (j-i).toNat) H1:=rfl
theorem oY {ta:TA}{σ:St}{H:Hp}{R:It->Hp->Prop}:CD ta σ H R=ta σ H λvs H1=>∃(i j k:Int) (n:Nat),vs=[.int i,.int j,.int k]∧k≠0∧k.natAbs<1073741824∧Builtin.Range.small i j k=true∧Builtin.Range.rangeSize i j k=n∧R (jm i k n) H1:=rfl
theorem gg {c:TT}{tb:TS}{D:Ends}{σ:St}{H:Hp}(Pv:Nat->St->Hp->Prop) (m:Nat) (h0:Pv m σ H)
  (hs:∀m σ H,Pv m σ H->c σ H λb H1=>if b=true then ∃N:St->Hp->Prop,(∀σ' H',N σ' H'->∃m',m'<m∧Pv m' σ' H')∧tb { D with nx:=N,ct:=N,bk:=D.nx } σ H1 else D.nx σ H1):BE c tb D σ H:=⟨Pv,⟨m,h0⟩,hs⟩
section
variable {σ:St}{H:Hp}{Q:VK}{x y v:V}{K:PySem.W.Frag}
theorem oZ {lo hi:Option Int}:Cn K x lo hi H Q=∃a xs,x=.ref a∧SqL K H a xs∧∀p,H p=none->Q (.ref p) (upd H p (.lst (dH xs lo hi))):=rfl
theorem o0:m7 K x y H Q=∃p xs i v,x=.ref p∧y=.int i∧SqL K H p xs∧atI xs i=some v∧Q v H:=rfl
theorem o7:Ck K x y H Q=∃p xs i v,x=.ref p∧y=.int i∧SqT K H p xs∧atI xs i=some v∧Q v H:=rfl
theorem o8 {Q:Hp->Prop}:Cm x y v H Q=∃p xs k j,x=.ref p∧y=.int k∧H p=some (.lst xs)∧ixN xs.length k=some j∧Q (upd H p (.lst (xs.set j v))):=rfl
theorem o9 {vs:List V}:Ct x vs H Q=∃l xs y,x=.ref l∧vs=[y]∧H l=some (.lst xs)∧xs.length<sizeLine∧Q .non (upd H l (.lst (xs++[y]))):=rfl
theorem I_ (ns:List Int)(lo hi:Option Int):dH (ns.map V.int) lo hi=((ns.drop (HT.sIx ns.length 0 lo)).take (HT.sIx ns.length ns.length hi-HT.sIx ns.length 0 lo)).map V.int:=by
 unfold dH;rw[ac,mn,xz]
end
theorem aZ:bootBuiltins "len" = some (.builtin "len"):=by decide +kernel
theorem kU:bootBuiltins "abs" = some (.builtin "abs"):=by decide +kernel
theorem o_:bootBuiltins "isinstance" = some (.builtin "isinstance"):=by decide +kernel
theorem vT:bootBuiltins "min" = some (.builtin "min"):=by decide +kernel
theorem jX:bootBuiltins "max" = some (.builtin "max"):=by decide +kernel
theorem CG:bootBuiltins "int" = some (.type "int"):=by decide +kernel
theorem Ja:bootBuiltins "bool" = some (.type "bool"):=by decide +kernel
theorem iC:bootBuiltins "list" = some (.type "list"):=by decide +kernel
def CH (t u:TS):TS:=λD σ H=>∃M:St->Hp->Prop,t { D with nx:=M } σ H∧∀σ' H',M σ' H'->u D σ' H'
theorem iD {X:Cx}{st:Stmt}{rest:List Stmt}{t u:TS}(h1:PS X st t)(h2:PSs X rest u):PSs X (st :: rest) (CH t u):=by
 intro RQ s σ H D I h;obtain⟨M,h,hM⟩:=h;refine wpAny_execs_cons (thn (h1 RQ s σ H { D with nx:=M } I h) λf s1 q=>?_)
 cases f with
 | next=>
  obtain⟨σ',H',I',q⟩:=q;exact h2 RQ s1 σ' H' D I' (hM σ' H' q)
 | ret v=>exact q
 | brk=>exact q
 | cont=>exact q
theorem gY {t u:TS}{D:Ends}{σ:St}{H:Hp}(M:St->Hp->Prop)(h1:t { D with nx:=M } σ H)(h2:∀σ' H',M σ' H'->u D σ' H'):CH t u D σ H:=⟨M,h1,h2⟩
theorem pi {CX:CXT}{P:Program}{w:World}{K:PySem.W.Frag}{mg:Str->Option Value}{base:Heap}{N:List Str}{qual:Str}{scope:Scope}{f:Addr}{cd:Value}{A:Around}{outer:List Env}{s:Shared}{H:Hp}{E:XK}:
  (fL CX P w K mg base N qual scope f cd A outer s H E).K=K:=rfl
section
variable {K:PySem.W.Frag}{a:Addr}{xs:List V}{g:TG}{tb:TS}{D:Ends}{σ:St}{H H1:Hp}{fv:List (Nat×Str)}{te:TE}{Q:VK}{L:Addr}{lo c:Int}{n:Nat}
theorem ff (Pv:Nat->Hp->Prop) (h0:Pv 0 (upd H1 L (.lst []))) (hl:∀i H,i<=xs.length->Pv i H->SqL K H a xs)
  (hs:∀i v H,xs[i]?=some v->Pv i H->te (bst fv σ (some v)) H λy H2=>∃ys,H2 L=some (.lst ys)∧ys.length<sizeLine∧Pv (i+1) (upd H2 L (.lst (ys++[y])))) (hd:∀H,Pv xs.length H->Q (.ref L) H):
  jW (Itl K a) fv te Q σ H1 L:=IY Pv h0 hl hs hd
theorem vU (Pv:Nat->Hp->Prop) (h0:Pv 0 (upd H1 L (.lst [])))
  (hs:∀i H,i<n->Pv i H->te (bst fv σ (some (.int (lo+i)))) H λy H2=>∃ys,H2 L=some (.lst ys)∧ys.length<sizeLine∧Pv (i+1) (upd H2 L (.lst (ys++[y])))) (hd:∀H,Pv n H->Q (.ref L) H):
  jW (Itr lo n) fv te Q σ H1 L:=IZ Pv h0 hs hd
theorem pj (Pv:Nat->St->Hp->Prop) (h0:Pv 0 σ H) (hl:∀i σ H,i<=xs.length->Pv i σ H->SqL K H a xs)
  (hs:∀i v σ H,xs[i]?=some v->Pv i σ H->g v σ H λσ2 H2=>tb { D with nx:=Pv (i+1),ct:=Pv (i+1),bk:=D.nx } σ2 H2) (hd:∀σ H,Pv xs.length σ H->D.nx σ H):iW (Itl K a) g tb D σ H:=Ie Pv h0 hl hs hd
theorem gE (Pv:Nat->St->Hp->Prop) (h0:Pv 0 σ H)
  (hs:∀i σ H,i<n->Pv i σ H->g (.int (lo+i)) σ H λσ2 H2=>tb { D with nx:=Pv (i+1),ct:=Pv (i+1),bk:=D.nx } σ2 H2) (hd:∀σ H,Pv n σ H->D.nx σ H):iW (Itr lo n) g tb D σ H:=If Pv h0 hs hd
theorem pk (Pv:Nat->St->Hp->Prop) (h0:Pv 0 σ H)
  (hs:∀i σ H,i<n->Pv i σ H->g (.int (lo+i*c)) σ H λσ2 H2=>tb { D with nx:=Pv (i+1),ct:=Pv (i+1),bk:=D.nx } σ2 H2) (hd:∀σ H,Pv n σ H->D.nx σ H):iW (jm lo c n) g tb D σ H:=IX Pv h0 hs hd
end
theorem ND {j:Int}(h0:0<=j)(h1:j<2 ^ 60):Builtin.Range.small 0 j 2=true:=by
 unfold Builtin.Range.small;simp only[Builtin.Range.rangeFitsLong,Builtin.Range.rangeSize,Bool.and_eq_true,Bool.or_eq_true,decide_eq_true_eq,beq_iff_eq,show (2:Int) > 0 by decide,if_true]
 split <;> omega
end L2
namespace L2
open PySem PySem.Spec PyProof.Rows
section
variable {X:Cx}
theorem vV:BD X (m7 X.K):=by
 intro RQ s σ H o i ov iv Q I ro ri h;obtain⟨p,xs,i,z,rfl,rfl,hq,he,q⟩:=h
 cases ro
 obtain⟨t,rfl⟩:=ri;obtain⟨its,r,pl,hz⟩:=I.list hq;obtain⟨j,h1,h2,h3,h4,h5⟩:=vI he;obtain⟨w,ew,rw'⟩:=r.get h2;have hl:=r.length;have hn:=kI;have fin:EP X RQ σ Q w s:=⟨z,H,I,rw',q⟩
 by_cases h0:0<=i
 ·have hj:i.toNat=j:=by
   rw[seqIndex_of h0 h5]at h1;exact Option.some.inj h1
  exact wpAny_getItem_list pl.isList h0 (by omega) (by rw[hj];simpa using ew) fin
 ·have hj:(i+(its.toArray.size:Int)).toNat=j:=by
   rw[seqIndex_neg (by omega) h4]at h1;rw[cY,←hl];exact Option.some.inj h1
  exact wpAny_getItem_list_neg pl.isList (by omega) (by rw[cY] <;> omega) (by omega) (by rw[hj];simpa using ew) fin
mutual
inductive DV (K:PySem.W.Frag) (H:Hp):V->PyData->Prop
 | non:DV K H .non .none
 | bl (b):DV K H (.bl b) (.bool b)
 | int (i):DV K H (.int i) (.int i)
 | str (x):DV K H (.str x) (.str x)
 | lst {a xs ds}:SqL K H a xs->DVs K H xs ds->DV K H (.ref a) (.list ds)
 | tup {a xs ds}:SqT K H a xs->DVs K H xs ds->DV K H (.ref a) (.tuple ds)
inductive DVs (K:PySem.W.Frag) (H:Hp):List V->List PyData->Prop
 | nil:DVs K H [] []
 | cons {x xs d ds}:DV K H x d->DVs K H xs ds->DVs K H (x :: xs) (d :: ds)
end
theorem DVs.ints {K:PySem.W.Frag}{H:Hp}:∀ns:List Int,DVs K H (ns.map V.int) (ns.map PyData.int)
 | []=>.nil
 | n :: r=>.cons (.int n) (DVs.ints r)
theorem DV.ints {K:PySem.W.Frag}{H:Hp}{a:Addr}{ns:List Int}(h:SqL K H a (ns.map V.int)):DV K H (.ref a) (.list (ns.map PyData.int)):=.lst h (DVs.ints ns)
mutual
theorem DV.reads {RQ:List (Addr×Obj)}{σ:St}{H:Hp}{s:Shared}(I:Inv X RQ σ H s):∀{x:V}{d:PyData}{v:Value},DV X.K H x d->RelV x v->∃as,Reads s.heap v d as
 | _,_,_,.non,r=>by cases r;exact⟨_,.none⟩
 | _,_,_,.bl b,r=>by cases r;exact⟨_,.bool b⟩
 | _,_,_,.int i,r=>by obtain⟨t,rfl⟩:=r;exact⟨_,.int i t⟩
 | _,_,_,.str x,r=>by obtain⟨t,rfl⟩:=r;exact⟨_,.str x t⟩
 | _,_,_,.lst hq hs,r=>by
  cases r
  obtain⟨its,rv,⟨o,n,e,c,_,hd⟩,_⟩:=I.list hq;obtain⟨as,ra⟩:=DVs.reads I hs rv;exact⟨_,.list e c hd (by simpa using ra)⟩
 | _,_,_,.tup hq hs,r=>by
  cases r
  obtain⟨its,rv,⟨o,e,c,n,hd⟩,_⟩:=I.tuple hq;obtain⟨as,ra⟩:=DVs.reads I hs rv;exact⟨_,.tuple e c hd (by simpa using ra)⟩
theorem DVs.reads {RQ:List (Addr×Obj)}{σ:St}{H:Hp}{s:Shared}(I:Inv X RQ σ H s):∀{xs:List V}{ds:List PyData}{vs:List Value},DVs X.K H xs ds->Vals xs vs->∃as,ReadsAll s.heap vs ds as
 | _,_,_,.nil,r=>by cases r;exact⟨_,.nil⟩
 | _,_,_,.cons h t,r=>by
  cases r with
  | cons r1 r2=>
   obtain⟨as,ra⟩:=DV.reads I h r1;obtain⟨bs,rb⟩:=DVs.reads I t r2;exact⟨_,.cons ra rb⟩
end
theorem Jb (hu:X.A.units+64<cLine):OpR X (compareOp .Eq) (λx y H Q=>∃da db,DV X.K H x da∧DV X.K H y db∧da.canLay0=true∧db.canLay0=true∧da.depth<=64∧Q (.bl (PyData.eqv da db)) H):=by
 intro RQ s σ H x y v u Q I rx ry h;obtain⟨da,db,hx,hy,c1,c2,hd,q⟩:=h;obtain⟨as,ra⟩:=hx.reads I rx;obtain⟨bs,rb⟩:=hy.reads I ry;exact PySem.SeqAt.eqOverData _ _ _ _ _ _ _ _ _ _ _ _ ra rb c1 c2 (by omega) ⟨.bl _,H,I,rfl,q⟩
theorem Jc (hu:X.A.units+64<cLine):OpR X (compareOp .NotEq) (λx y H Q=>∃da db,DV X.K H x da∧DV X.K H y db∧da.canLay0=true∧db.canLay0=true∧da.depth<=64∧Q (.bl (!PyData.eqv da db)) H):=by
 intro RQ s σ H x y v u Q I rx ry h;obtain⟨da,db,hx,hy,c1,c2,hd,q⟩:=h;obtain⟨as,ra⟩:=hx.reads I rx;obtain⟨bs,rb⟩:=hy.reads I ry;exact PySem.SeqAt.neOverData _ _ _ _ _ _ _ _ _ _ _ _ ra rb c1 c2 (by omega) ⟨.bl _,H,I,rfl,q⟩
end
theorem vX:∀xs ys:List Int,PyData.eqvAll (xs.map PyData.int) (ys.map PyData.int)=decide (xs=ys)
 | [],[]=>by simp[PyData.eqvAll]
 | [],_ :: _=>by simp[PyData.eqvAll]
 | _ :: _,[]=>by simp[PyData.eqvAll]
 | x :: xs,y :: ys=>by
  have ih:=vX xs ys;simp only[dy,PyData.eqvAll,PyData.eqv,ih];by_cases h:x=y
  ·subst h;simp
  ·simp[h]
theorem vY:∀xs:List Int,PyData.canLayAll0 (xs.map PyData.int)=true
 | []=>rfl
 | _ :: r=>by simp[PyData.canLayAll0,PyData.canLay0,vY r]
theorem pA:∀xs:List Int,PyData.depthAll (xs.map PyData.int)=0
 | []=>rfl
 | _ :: r=>by simp[PyData.depthAll,PyData.depth,pA r]
def Ite (K:PySem.W.Frag)(a:Addr):It:=
 ⟨λi H=>∃xs x,SqL K H a xs∧xs[i]?=some x,λi H v H'=>∃p x,H p=none∧v=.ref p∧H'=upd H p (.tup [.int i,x])∧∀xs,SqL K H a xs->xs[i]?=some x,λi H=>∃xs,SqL K H a xs∧xs.length<=i⟩
theorem Jd {P:Program}{w:World}{K:PySem.W.Frag}{elts:List Expr}{tk:Nat}{tpos:Pos}(a e it:Addr)(hne:e≠it):
  Turn P w K (.Tuple elts tk tpos) (Ite K a) [e,it] e (λi h=>(∃old,IsEnum h e it i old)∧h.IsListIter it a i) where
 mem:=by simp
 obj:=λi h st b hb=>by
  obtain⟨⟨old,he⟩,o,ho,c,d⟩:=st;rcases a_.mp hb with rfl|hb
  ·exact⟨_,he,λv z=>by
    have z':Data.fields _=Data.cell v:=z
    cases z'⟩
  ·rw[aQ.mp hb];exact⟨o,ho,λv z=>by rw[d]at z;cases z⟩
 keep:=λi h h' st k=>by
  obtain⟨⟨old,he⟩,hit⟩:=st;exact⟨⟨old,k e (by simp) _ he⟩,hit.at λo q=>k it (by simp) o q⟩
 item:=by
  intro X hP hw hK hc i RQ s σ H E I hf st hg;subst hP hw hK;obtain⟨xs,x,hq,hx⟩:=hg;obtain⟨its,rv,pl,hz⟩:=I.list hq;obtain⟨u,hu,ru⟩:=rv.get hx;obtain⟨⟨old,he⟩,hit⟩:=st;have fe:=hf e (by simp);have fi:=hf it (by simp);refine wpAny_pyNext_enum_item he hit pl.isList (x:=u) (by simpa using hu) hne λh1 ho hit1 hT hsz hk=>?_;refine⟨_,rfl,wpAny_letOwnedTupleGo_enum ho λh2 he2 hs2=>?_⟩;have hp:H s.heap.objs.size=none:=I.hok.fresh (am _);have hpe:s.heap.objs.size≠e:=FS (Heap.lt_size he);have k2:∀b o,b∉[e,it]->s.heap.get? b=some o->h2.get? b=some o:=λb o hb q=>
   (hs2.2 b λz=>hb (by simp[z])).trans (hk b o (λz=>hb (by simp[z])) (λz=>hb (by simp[z])) q)
  have hT2:h2.get? s.heap.objs.size=some { cls:=.type "tuple",data:=.seq #[.int i s.toks,u] }:=(hs2.2 _ hpe).trans hT;have nch:∀b u,H b=some u->b∉[e,it]:=λb u q hb=>by
   rcases a_.mp hb with rfl|hb
   ·rw[fe.1]at q;cases q
   ·rw[aQ.mp hb,fi.1]at q;cases q
  have up:∀b,b<s.heap.objs.size->b≠s.heap.objs.size:=λb hb=>cJ hb;have I2:Inv X RQ σ (upd H s.heap.objs.size (.tup [.int i,x])) { s with heap:=h2,toks:=s.toks+1 }:=by
   refine I.step (g':=s.gens) (d':=s.drawn) (t':=s.toks+1) (ch:=[e,it]) (λb hb=>?_) (λb o _ _ hc q _=>k2 b o hc q) (λb o _ _ hc q _=>⟨o.slots,k2 b o hc q⟩)
    (λb o _ q n=>by rw[ar (up b (Heap.lt_size q))];exact n) (λb o hc q=>⟨o,k2 b o hc q⟩) (λb ys q=>by rw[ar (dG q hp)];exact q) (λb o v q=>by rw[ar (dG q hp)];exact q)
    (λb ps q=>⟨#[],by rw[ar (dG q hp),q];simp⟩) (λm hm=>?_) (λb v q=>?_) I.bare
   ·rcases a_.mp hb with rfl|hb
    ·exact⟨fe.2.2.2.1,fe.2.1,fe.2.2.2.2.1,fe.2.2.2.2.2⟩
    ·rw[aQ.mp hb];exact⟨fi.2.2.2.1,fi.2.1,fi.2.2.2.2.1,fi.2.2.2.2.2⟩
   ·obtain⟨o,es,ep,q,r⟩:=hm;refine⟨o,es,ep,k2 _ o (λz=>?_) q,r⟩;rcases a_.mp z with z|z
    ·exact fe.2.1 z.symm
    ·exact fi.2.1 (aQ.mp z).symm
   ·by_cases hb:b=s.heap.objs.size
    ·subst hb;rw[ag]at q;cases q;exact⟨by show 2<=sizeLine;decide,[.int i s.toks,u],.cons ⟨_,rfl⟩ (.cons ru .nil),⟨_,hT2,rfl,_,rfl⟩⟩
    ·rw[ar hb]at q;refine (I.hok b v q).stay (λc o hc r=>k2 c o ?_ r) (λc r=>by rw[ar (dG r hp)];exact r) λc ys r=>by rw[ar (dG r hp)];exact r
     rcases hc with z|z
     ·rw[z];exact nch b v q
     ·exact nch c _ z
  refine⟨.ref s.heap.objs.size,_,I2,rfl,⟨_,x,hp,rfl,rfl,λys hy=>by rw[I.list_inj hy hq];exact hx⟩,⟨⟨_,by simpa using he2⟩,hit1.at λo q=>(hs2.2 it (Ne.symm hne)).trans q⟩,λb hb=>?_⟩;have lb:b<s.heap.objs.size:=by
   rcases a_.mp hb with rfl|hb
   ·exact Heap.lt_size he
   ·rw[aQ.mp hb];obtain⟨_,q,_⟩:=hit;exact Heap.lt_size q
  rw[ar (up b lb)];exact (hf b hb).1
 done:=by
  intro X hP hw hK hc i RQ s σ H E I hf st hg;subst hP hw hK;obtain⟨xs,hq,hx⟩:=hg;obtain⟨its,rv,pl,hz⟩:=I.list hq;obtain⟨⟨old,he⟩,hit⟩:=st;obtain⟨f0,f1,f2,f3,f4,f5⟩:=hf it (by simp);have hl:=rv.length;exact wpAny_pyNext_enum_end (I.ok.hd hc) he hit pl.isList (by simp;omega) λh' eb=>⟨rfl,I.turned (t':=s.toks) (λb o hb q=>eb b o hb q) f0 f1 f3 f4 f5⟩
 self:=λ_ _ _ _ _ st h=>by
  obtain⟨⟨old,he⟩,_⟩:=st;exact wpAny_pyIter_enum he h
section
variable {X:Cx}
def CI (K:PySem.W.Frag)(ta:TA):TI:=λσ H R=>ta σ H λvs H1=>∃a xs,vs=[.ref a]∧SqL K H1 a xs∧R (Ite K a) H1
theorem pB {elts:List Expr}{tk:Nat}{tpos:Pos}{a:Expr}{ta:TA}{p pos:Pos}(hg:Gl X "enumerate") (hm:X.mg "enumerate" = none) (ha:PA X [a] ta) (hs:starEach [a] X.env=[(false,eval a X.env)]:=by rfl):
  PI X (.Tuple elts tk tpos) (.Call (.Name "enumerate" p) [a] [] pos) (CI X.K ta):=by
 intro RQ s σ H R I h;refine Call_ (gO I hg hm boot_enumerate (PyProof.Rows.callWith_type1 (thn (ha pos RQ s σ H _ I h) λus s1 ⟨vs,H1,I1,r1,q1⟩=>?_) hs rfl));obtain⟨a,xs,e,hq,q⟩:=q1;subst e
 cases r1 with
 | cons r rr=>
  cases rr
  cases r
  obtain⟨its,rv,pl,hz⟩:=I1.list hq;refine call_enumerate_list pl.isList λh1 he hit hsz hk=>?_;have I2:Inv X RQ σ H1 { s1 with heap:=h1 }:=I1.kept (t':=s1.toks) hk;refine wpAny_pyIter_enum he ?_;refine⟨s1.heap.objs.size+1,[s1.heap.objs.size+1,s1.heap.objs.size],_,_,H1,rfl,I2,Jd a _ _ (Nat.succ_ne_self _),⟨⟨_,he⟩,hit⟩,λb hb=>?_,q⟩;have hb':s1.heap.objs.size<=b:=by
   rcases a_.mp hb with rfl|hb
   ·exact FV _
   ·rw[aQ.mp hb];exact am _
  exact I1.fpOk hb' (I1.hok.fresh hb')
end
theorem pC {K:PySem.W.Frag}{ta:TA}{σ:St}{H:Hp}{R:It->Hp->Prop}:CI K ta σ H R=ta σ H λvs H1=>∃a xs,vs=[.ref a]∧SqL K H1 a xs∧R (Ite K a) H1:=rfl
theorem Je {K:PySem.W.Frag}{a:Addr}{xs:List V}{g:TG}{tb:TS}{D:Ends}{σ:St}{H:Hp}(Pv:Nat->St->Hp->Prop) (h0:Pv 0 σ H) (hl:∀i σ H,i<=xs.length->Pv i σ H->SqL K H a xs)
  (hs:∀i v p σ H,xs[i]?=some v->Pv i σ H->H p=none->g (.ref p) σ (upd H p (.tup [.int i,v])) λσ2 H2=>tb { D with nx:=Pv (i+1),ct:=Pv (i+1),bk:=D.nx } σ2 H2) (hd:∀σ H,Pv xs.length σ H->D.nx σ H):iW (Ite K a) g tb D σ H:=by
 refine⟨λi m σ H=>m=xs.length-i∧i<=xs.length∧Pv i σ H,⟨xs.length,by simp,aI _,h0⟩,?_⟩
 rintro i m σ H ⟨rfl,hi,p⟩
 have q:=hl i σ H hi p;by_cases hlt:i<xs.length
 ·refine .inr ⟨⟨xs,xs[i],q,aj hlt⟩,Pv (i+1),λσ' H' p'=>⟨xs.length-(i+1),by omega,rfl,hlt,p'⟩,λx H' y=>?_⟩;obtain⟨pa,z,hn,e1,e2,y⟩:=y;subst e1 e2;exact hs i z pa σ H (y xs q) p hn
 ·have e:i=xs.length:=by omega
  subst e;exact .inl ⟨⟨xs,q,am _⟩,hd σ H p⟩
end L2
namespace L2
open PySem PySem.Spec PyProof.Rows
def Itv (K:PySem.W.Frag)(a:Addr)(n:Nat):It:=
 ⟨λi H=>i<n∧∃xs,SqL K H a xs∧xs.length=n,λi H x H'=>H'=H∧∀xs,SqL K H a xs->xs[n-1-i]?=some x,λi _=>i=n⟩
theorem Jf {P:Program}{w:World}{K:PySem.W.Frag}{tg:Expr}(a it:Addr)(n:Nat):Turn P w K tg (Itv K a n) [it] it (λi h=>h.IsRevIter it a ((n:Int)-1-i)) where
 mem:=by simp
 obj:=λi h st b hb=>by
  have e:b=it:=by simpa using hb
  subst e;obtain⟨o,e,c,d⟩:=st;exact⟨o,e,λv z=>by rw[d]at z;cases z⟩
 keep:=λi h h' st k=>st.at λo e=>k it (by simp) o e
 item:=by
  intro X hP hw hK hc i RQ s σ H E I hf st hg;subst hP hw hK;obtain⟨hi,xs,hq,hn⟩:=hg;obtain⟨its,rv,p,hz⟩:=I.list hq;have hx:xs[n-1-i]?=some (xs[n-1-i]'(by omega)):=aj (by omega);obtain⟨u,hu,ru⟩:=rv.get hx;obtain⟨f0,f1,f2,f3,f4,f5⟩:=hf it (by simp);have e0:(n:Int)-1-i=((n-1-i:Nat):Int):=by omega
  rw[e0]at st;refine wpAny_pyNext_rev_item st p.isList (x:=u) (by simpa using hu) λh' st' sb=>?_;have I1:Inv X RQ σ H { s with heap:=h' }:=I.turned (t':=s.toks) (λb o hb e=>(sb.2 b hb).trans e) f0 f1 f3 f4 f5;have e1:((n-1-i:Nat):Int)-1=(n:Int)-1-((i+1:Nat):Int):=by omega
  rw[e1]at st';obtain⟨o,e,c,d⟩:=id st';exact⟨u,rfl,mS (s:={ s with heap:=h' }) e c d (by decide) ⟨_,H,I1,ru,⟨rfl,λys hy=>by rw[I.list_inj hy hq];exact hx⟩,st',λb hb=>(hf b hb).1⟩⟩
 done:=by
  intro X hP hw hK hc i RQ s σ H E I hf st hg;subst hP hw hK;obtain⟨f0,f1,f2,f3,f4,f5⟩:=hf it (by simp);have e0:(n:Int)-1-i=-1:=by have:i=n:=hg;omega
  rw[e0]at st;exact wpAny_pyNext_rev_end (I.ok.hd hc) st λh' eb=>⟨rfl,I.turned (t':=s.toks) (λb o hb e=>eb b o hb e) f0 f1 f3 f4 f5⟩
 self:=λ_ _ _ _ _ st h=>wpAny_pyIter_revIter st h
section
variable {X:Cx}{tg:Expr}
def CJ (K:PySem.W.Frag)(ta:TA):TI:=λσ H R=>ta σ H λvs H1=>∃a xs,vs=[.ref a]∧SqL K H1 a xs∧R (Itv K a xs.length) H1
theorem Jg {a:Expr}{ta:TA}{p pos:Pos}(hg:Gl X "reversed") (hm:X.mg "reversed" = none) (ha:PA X [a] ta) (hs:starEach [a] X.env=[(false,eval a X.env)]:=by rfl):
  PI X tg (.Call (.Name "reversed" p) [a] [] pos) (CJ X.K ta):=by
 intro RQ s σ H R I h;refine Call_ (gO I hg hm boot_reversed (PyProof.Rows.callWith_type1 (thn (ha pos RQ s σ H _ I h) λus s1 ⟨vs,H1,I1,r1,q1⟩=>?_) hs rfl));obtain⟨a,xs,e,hq,q⟩:=q1;subst e
 cases r1 with
 | cons r rr=>
  cases rr
  cases r
  obtain⟨its,rv,pl,hz⟩:=I1.list hq;have hl:=rv.length;refine call_reversed_list pl.isList ?_;have I2:Inv X RQ σ H1 { s1 with heap:=s1.heap.push (revObj a ((its.toArray.size:Int)-1)) }:=I1.kept (t':=s1.toks) λb o e=>Heap.get?_push_of_some _ e;have st:(s1.heap.push (revObj a ((its.toArray.size:Int)-1))).IsRevIter s1.heap.objs.size a ((xs.length:Int)-1-((0:Nat):Int)):=by
   have e1:(xs.length:Int)-1-((0:Nat):Int)=(its.toArray.size:Int)-1:=by rw[cY,hl];simp
   rw[e1];exact⟨_,Heap.get?_push_size _ rfl,rfl,rfl⟩
  refine wpAny_pyIter_revIter st ?_;refine⟨s1.heap.objs.size,[s1.heap.objs.size],_,_,H1,rfl,I2,Jf a _ xs.length,st,λb hb=>?_,q⟩;have e:b=s1.heap.objs.size:=by simpa using hb
  subst e;exact I1.fpOk (am _) (I1.hok.fresh (am _))
end
theorem pD {K:PySem.W.Frag}{ta:TA}{σ:St}{H:Hp}{R:It->Hp->Prop}:CJ K ta σ H R=ta σ H λvs H1=>∃a xs,vs=[.ref a]∧SqL K H1 a xs∧R (Itv K a xs.length) H1:=rfl
theorem Jh {K:PySem.W.Frag}{a:Addr}{xs:List V}{g:TG}{tb:TS}{D:Ends}{σ:St}{H:Hp}(Pv:Nat->St->Hp->Prop) (h0:Pv 0 σ H) (hl:∀i σ H,i<=xs.length->Pv i σ H->SqL K H a xs)
  (hs:∀i v σ H,i<xs.length->xs[xs.length-1-i]?=some v->Pv i σ H->g v σ H λσ2 H2=>tb { D with nx:=Pv (i+1),ct:=Pv (i+1),bk:=D.nx } σ2 H2) (hd:∀σ H,Pv xs.length σ H->D.nx σ H):iW (Itv K a xs.length) g tb D σ H:=by
 refine⟨λi m σ H=>m=xs.length-i∧i<=xs.length∧Pv i σ H,⟨xs.length,by simp,aI _,h0⟩,?_⟩
 rintro i m σ H ⟨rfl,hi,p⟩
 have q:=hl i σ H hi p;by_cases hlt:i<xs.length
 ·refine .inr ⟨⟨hlt,xs,q,rfl⟩,Pv (i+1),λσ' H' p'=>⟨xs.length-(i+1),by omega,rfl,hlt,p'⟩,λx H' y=>?_⟩;obtain⟨e,y⟩:=y;subst e;exact hs i x σ _ hlt (y xs q) p
 ·have e:i=xs.length:=by omega
  subst e;exact .inl ⟨rfl,hd σ H p⟩
section
variable {σ:St}{H:Hp}{Q:VK}{x y v:V}{vs:List V}
theorem pE:Cw x y H Q=∃l b xs zs,x=.ref l∧y=.ref b∧H l=some (.lst xs)∧H b=some (.lst zs)∧xs.length+zs.length<=sizeLine∧∀p,H p=none->Q (.ref p) (upd H p (.lst (xs++zs))):=rfl
theorem pF:Cy x y H Q=∃l k xs,x=.ref l∧y=.int k∧H l=some (.lst xs)∧-(2 ^ 63)<=k∧k<2 ^ 63∧xs.length*k.toNat<=sizeLine∧∀p,H p=none->Q (.ref p) (upd H p (.lst (aL k.toNat xs).flatten)):=rfl
theorem pH:Cv x vs H Q=∃l xs y,x=.ref l∧vs=[]∧H l=some (.lst xs)∧xs[xs.length-1]?=some y∧Q y (upd H l (.lst xs.dropLast)):=rfl
theorem pI:IM x vs H Q=∃l xs,x=.ref l∧vs=[]∧H l=some (.lst xs)∧Q .non (upd H l (.lst [])):=rfl
end
end L2
namespace L2
open PySem PySem.Spec PyProof.Rows
theorem eJ {X:Cx}:OpR X (binaryOp .Mult) (rI IntMulOk λi j=>.int (i*j)):=opI λ_ _ _ _ _ _ _ hc q=>mul_int q hc
def Bd (k:Nat)(x:Int):Prop:=x.natAbs<2 ^ k
theorem Bd.mono {k l:Nat}{x:Int}(h:Bd k x)(hl:k<=l):Bd l x:=bZ h (fE (by decide) hl)
theorem Bd.zero (k:Nat):Bd k 0:=dX k
theorem Bd.one {k:Nat}(h:0<k):Bd k 1:=by
 have:Bd 1 1:=by show (1:Nat)<2 ^ 1;decide
 exact this.mono h
theorem Bd.neg {k:Nat}{x:Int}(h:Bd k x):Bd k (-x):=by unfold Bd;rw[Int.natAbs_neg];exact h
theorem Bd.mul {k l:Nat}{x y:Int}(h:Bd k x)(g:Bd l y):Bd (k+l) (x*y):=by
 unfold Bd at *;rw[bV,dm];exact Nat.mul_lt_mul_of_lt_of_lt h g
theorem Bd.add {k:Nat}{x y:Int}(h:Bd k x)(g:Bd k y):Bd (k+1) (x+y):=by
 unfold Bd at *;rw[jC];have:=mo x y;omega
theorem Bd.sub {k:Nat}{x y:Int}(h:Bd k x)(g:Bd k y):Bd (k+1) (x-y):=by
 rw[Int.sub_eq_add_neg];exact h.add g.neg
theorem Bd.fits {k l:Nat}{x y:Int}(h:Bd k x)(g:Bd l y)(hz:k+l<=134217728):IntMulOk x y:=I0 h g hz
theorem Bd.of_lt {k:Nat}{x:Int}{m:Nat}(h:x.natAbs<m)(hm:m<=2 ^ k):Bd k x:=bZ h hm
def dE (H:Hp)(Q:VK)(ys:List V):Prop:=∀r H',Same H H'->H r=none->H' r=some (.lst ys)->Q (.ref r) H'
theorem aw {H:Hp}{p:Addr}(h:H p=none)(o:HO):Same H (upd H p o):=λb u q=>by rw[ar (dG q h)];exact q
theorem en {xs:List Int}{i:Nat}(h:i<xs.length):atI (xs.map V.int) (i:Int)=some (V.int xs[i]):=gW (by rw[aA,aj h];rfl)
theorem gF {n i:Nat}(h:i<n):ixN n (i:Int)=some i:=by
 unfold ixN;rw[if_pos (by omega),if_pos (by omega)];simp
theorem CK {n i:Nat}(h:0<i)(h2:i<=n):ixN n (-(i:Int))=some (n-i):=by
 unfold ixN;rw[if_neg (by omega),if_pos (by omega)];congr 1;omega
theorem jo {xs:List Int}(h:xs≠[]):atI (xs.map V.int) (-1)=some (V.int (xs.getLast h)):=by
 unfold atI;have h0:0<xs.length:=by cases xs with|nil=>exact absurd rfl h|cons _ _=>simp
 have e:=CK (n:=(xs.map V.int).length) (i:=1) (by decide) (by rw[ac];exact h0);have e1:(-((1:Nat):Int))=-1:=rfl;rw[e1]at e;rw[e];show (xs.map V.int)[(xs.map V.int).length-1]?=_;rw[aA,ac,←i6,i7 h];rfl
theorem map_set (xs:List Int)(i:Nat)(v:Int):(xs.map V.int).set i (V.int v)=(xs.set i v).map V.int:=by rw[xB]
theorem vZ {i j:Int}(h1:-(2 ^ 60)<i)(h2:i<2 ^ 60)(h3:-(2 ^ 60)<j)(h4:j<2 ^ 60):Builtin.Range.small i j (-1)=true:=by
 unfold Builtin.Range.small;simp only[Builtin.Range.rangeFitsLong,Builtin.Range.rangeSize,Bool.and_eq_true,Bool.or_eq_true,decide_eq_true_eq,beq_iff_eq,show ¬(-1:Int) > 0 by decide,if_false,Int.neg_neg,Int.ediv_one]
 split <;> omega
theorem v5 {i j:Int}{n:Nat}(h:(i-j).toNat=n):Builtin.Range.rangeSize i j (-1)=n:=by
 unfold Builtin.Range.rangeSize;simp only[show ¬(-1:Int) > 0 by decide,if_false,Int.neg_neg,Int.ediv_one]
 split <;> omega
theorem v7 {xs:List Int}{i:Nat}{v:Int}(h:xs[i]?=some v):atI (xs.map V.int) (i:Int)=some (V.int v):=gW (by rw[aA,h];rfl)
theorem Same.more {H H':Hp}{p:Addr}{o:HO}(e:Same H H')(h:H p=none):Same H (L2.upd H' p o):=λb u q=>by rw[ar (dG q h)];exact e b u q
end L2
namespace L2
open PySem PySem.Spec PyProof.Rows
section
variable {κ:Type}[DecidableEq κ]
noncomputable def eo (kvs:List (κ×V)) (k:κ):Option V:=(kvs.find? λkv=>decide (kv.1=k)).map (·.2)
noncomputable def gh (kvs:List (κ×V)) (k:κ) (v:V):List (κ×V):=
 if (kvs.any λkv=>decide (kv.1=k))=true then kvs.map (λkv=>if kv.1=k then (kv.1,v) else kv) else kvs++[(k,v)]
theorem Ji {p:κ×V}{r:List (κ×V)}{k:κ}(e:p.1=k):eo (p :: r) k=some p.2:=by simp[eo,xC,e]
theorem Jj {p:κ×V}{r:List (κ×V)}{k:κ}(e:¬p.1=k):eo (p :: r) k=eo r k:=by simp[eo,xC,e]
theorem Jk (kvs:List (κ×V))(k:κ)(v:V):(gh kvs k v).length<=kvs.length+1:=by
 unfold gh
 split
 ·rw[ac];omega
 ·rw[bM,ck,rK];omega
theorem KV.val {kvs:List (κ×V)}{vs:List (κ×Value)}(r:KV kvs vs)(k:κ):RelO (eo kvs k) (valueAt vs k):=by
 unfold KV at r
 induction r with
 | nil=>exact True.intro
 | @cons p q ps qs h t ih=>
  obtain⟨h1,h2⟩:=h;by_cases e:p.1=k
  ·have e':q.1=k:=h1.symm.trans e;have b:valueAt (q :: qs) k=some q.2:=by simp[valueAt,xC,e']
   rw[Ji e,b];exact h2
  ·have e':¬q.1=k:=λz=>e (h1.trans z);have b:valueAt (q :: qs) k=valueAt qs k:=by simp[valueAt,xC,e']
   rw[Jj e,b];exact ih
theorem KV.any {kvs:List (κ×V)}{vs:List (κ×Value)}(r:KV kvs vs)(k:κ):(kvs.any λkv=>decide (kv.1=k))=vs.any λkv=>decide (kv.1=k):=by
 unfold KV at r
 induction r with
 | nil=>rfl
 | cons h t ih=>rw[rE,rE,ih,h.1]
theorem KV.repl {kvs:List (κ×V)}{vs:List (κ×Value)}(r:KV kvs vs)(k:κ){y:V}{u:Value}(ry:RelV y u):
  KV (kvs.map λkv=>if kv.1=k then (kv.1,y) else kv) (vs.map λkv=>if kv.1=k then (kv.1,u) else kv):=by
 unfold KV at r ⊢
 induction r with
 | nil=>exact .nil
 | @cons p q ps qs h t ih=>
  rw[dy,dy];refine .cons ?_ ih;obtain⟨h1,h2⟩:=h;by_cases e:p.1=k
  ·rw[if_pos e,if_pos (h1.symm.trans e)];exact⟨h1,ry⟩
  ·rw[if_neg e,if_neg (λz=>e (h1.trans z))];exact⟨h1,h2⟩
theorem KV.put {kvs:List (κ×V)}{vs:List (κ×Value)}(r:KV kvs vs)(k:κ){y:V}{u:Value}(ry:RelV y u):KV (gh kvs k y) (stored vs k u):=by
 unfold gh stored;rw[r.any k];by_cases e:(vs.any λkv=>decide (kv.1=k))=true
 ·rw[if_pos e,if_pos e];exact r.repl k ry
 ·rw[if_neg e,if_neg e];exact Paired.snoc r ⟨rfl,ry⟩
theorem KV.length {kvs:List (κ×V)}{vs:List (κ×Value)}(r:KV kvs vs):kvs.length=vs.length:=Paired.length r
end
theorem Jm {P:Program}{w:World}{k:Key}{u:Value}(r:RelV (kV k) u):(iw P w).is k u=true:=by
 cases k with
 | inl i=>obtain⟨t,e⟩:=(show ∃t,u=Value.int i t from r);subst e;exact HE P w i t
 | inr x=>obtain⟨t,e⟩:=(show ∃t,u=Value.str x t from r);subst e;exact HF P w x t
section
variable {P:Program}{w:World}{H:Hp}{h:Heap}{a:Addr}
theorem Jo {u:HO}(ok:HOk P w H h)(e:Rd H a u):ObjOk P w H h a u:=e.ok ok
theorem Jp {kvs:List (Key×V)}(ok:HOk P w H h)(e:Rd H a (.dK kvs)):kvs.length<=sizeLine∧(a == sysModules)=false∧∃vs,KV kvs vs∧h.DictOf (iw P w) a vs:=
 show ObjOk P w H h a (.dK kvs) from Jo ok e
theorem Jq {kvs:List (Key×V)}(ok:HOk P w H h)(e:H a=some (.dK kvs)):kvs.length<=sizeLine∧(a == sysModules)=false∧∃vs,KV kvs vs∧h.DictOf (iw P w) a vs:=Jp ok (.inl e)
end
def jY (H:Hp)(a:Addr)(y:V)(r:Option V):Prop:=
 (∃kvs k,Rd H a (.dK kvs)∧y=kV k∧r=eo kvs k)∨∃kvs k b,Rd H a (.dT kvs)∧y=.ref b∧H b=some (.tup (k.map kV))∧r=eo kvs k
def CL (H:Hp)(a:Addr)(y v:V)(H':Hp):Prop:=
 (∃kvs k,H a=some (.dK kvs)∧y=kV k∧kvs.length<sizeLine∧H'=upd H a (.dK (gh kvs k v)))∨
 ∃kvs k b,H a=some (.dT kvs)∧y=.ref b∧H b=some (.tup (k.map kV))∧kvs.length<sizeLine∧H'=upd H a (.dT (gh kvs k v))
section
variable {X:Cx}{RQ:List (Addr×Obj)}{σ:St}{H:Hp}{s:Shared}{a:Addr}{y v:V}{u r:Value}{o:Option V}{A:Around}{E:Value->Shared->Prop}
theorem Inv.big (I:Inv X RQ σ H s):sysModules<s.heap.objs.size:=by
 have h:mainGlobals<s.heap.objs.size:=(I.mod.glob.keeps I.bk).lt;exact Nat.lt_trans (by decide) h
theorem Jr {h':Heap}{t':Nat}{ob:HO}(I:Inv X RQ σ H s)(mu:Mut (H a))(hs:Heap.SameBut a s.heap h')(he:∃q,h'.get? a=some q)(new:ObjOk X.prog X.w (upd H a ob) h' a ob):
  Inv X RQ σ (upd H a ob) { s with heap:=h',toks:=t' }:=
 I.write (x:=a) (e:=a) mu (.inl rfl) (λb q hb z=>(hs.2 b hb).trans z) he new
theorem Js {P:Program}{w:World}{H':Hp}{h':Heap}{kvs:List (Key×V)}{vs:List (Key×Value)}(z:kvs.length<=sizeLine)(hd:(a == sysModules)=false)(rel:KV kvs vs)(dd:h'.DictOf (iw P w) a vs):
  ObjOk P w H' h' a (.dK kvs):=⟨z,hd,vs,rel,dd⟩
end
def Jt (td ty:TE):TE:=λσ H Q=>td σ H λx H1=>ty σ H1 λy H2=>∃a v,x=.ref a∧jY H2 a y (some v)∧Q v H2
def Ju (ty td:TE):TE:=λσ H Q=>ty σ H λy H1=>td σ H1 λx H2=>∃a o,x=.ref a∧jY H2 a y o∧Q (.bl (!o.isSome)) H2
def Jv (td ty tv:TE):TS:=λD σ H=>tv σ H λv H1=>td σ H1 λx H2=>ty σ H2 λy H3=>∃a H4,x=.ref a∧CL H3 a y v H4∧D.nx σ H4
theorem Jw {P:Program}{w:World}{H:Hp}(h:Heap)(hb:sysModules<h.objs.size):ObjOk P w H (h.push { cls:=.type "dict",data:=.dict #[] }) h.objs.size (.dK []):=
 ⟨aI _,beq_eq_false_iff_ne.mpr (Ne.symm (cJ hb)),[],.nil,Heap.DictOf.new h⟩
def CM:TE:=λ_ H Q=>∀p,H p=none->Q (.ref p) (upd H p (.dK []))
def Jx:TE:=λ_ H Q=>∀p,H p=none->Q (.ref p) (upd H p (.dT []))
section
variable {X:Cx}{pos:Pos}
theorem Jy:PE X (.Dict [] [] pos) CM:=λRQ s σ H Q I h=>
 wpAny_Dict_empty ⟨.ref s.heap.objs.size,_,I.laid (a:=s.heap.objs.size) (o:=.dK []) (t':=s.toks) (λ_ _ q=>Heap.get?_push_of_some _ q) (am _) (Jw s.heap I.big),rfl,h _ (I.hok.fresh (am _))⟩
end
def jZ:List (TE×TE)->St->Hp->(List (V×V)->Hp->Prop)->Prop
 | [],_,H,Q=>Q [] H
 |(tk,tv) :: r,σ,H,Q=>tk σ H λx H1=>tv σ H1 λy H2=>jZ r σ H2 λps H3=>Q ((x,y) :: ps) H3
structure M1 (X:Cx)(o:Expr)(m:Str)(apos:Pos)(e:Expr)(cpos:Pos):Prop where
 base:attributeBase o m X.env (eval o X.env)=eval o X.env
 few:((backTo cpos (starEach [e] X.env)).all (λx=>!x.1) && (backToKw cpos (keywordEach [] X.env)).all (λx=>x.1.isSome)
  && decide (([e]:List Expr).length+([]:List Keyword).length+(if ([]:List Keyword).isEmpty then 0 else 1)<30))=true
 line:(apos.endLine == cpos.line)=true
 trees:backTo cpos (starEach [e] X.env)=[(false,eval e X.env)]
structure M2 (X:Cx)(o:Expr)(m:Str)(apos:Pos)(e f:Expr)(cpos:Pos):Prop where
 base:attributeBase o m X.env (eval o X.env)=eval o X.env
 few:((backTo cpos (starEach [e,f] X.env)).all (λx=>!x.1) && (backToKw cpos (keywordEach [] X.env)).all (λx=>x.1.isSome)
  && decide (([e,f]:List Expr).length+([]:List Keyword).length+(if ([]:List Keyword).isEmpty then 0 else 1)<30))=true
 line:(apos.endLine == cpos.line)=true
 trees:backTo cpos (starEach [e,f] X.env)=[(false,eval e X.env),(false,eval f X.env)]
def IsD (H:Hp)(a:Addr):Prop:=(∃kvs,Rd H a (.dK kvs))∨∃kvs,Rd H a (.dT kvs)
def Jz (td ty tx:TE):TE:=λσ H Q=>td σ H λx H1=>∃a,x=.ref a∧IsD H1 a∧ty σ H1 λy H2=>tx σ H2 λz H3=>∃o,jY H3 a y o∧Q (o.getD z) H3
end L2
namespace L2
open PySem PySem.Spec PyProof.Rows
structure Grd (P:Program)(w:World)(fs:List Addr)(H H':Hp)(h B:Heap):Prop where
 keep:∀b o,h.get? b=some o->H b=none->b∉fs->B.get? b=some o
 there:∀b o,h.get? b=some o->b∉fs->∃o',B.get? b=some o'
 free:∀b o,h.get? b=some o->H b=none->H' b=none
 tups:∀b xs,H b=some (.tup xs)->H' b=some (.tup xs)
 frzs:∀b o u,H b=some (.frz o u)->H' b=some (.frz o u)
 tbls:∀b ps,H b=some (.tbl ps)->∃more,H' b=some (.tbl (ps++more))
 hok:HOk P w H' B
def Slt (fs:List Addr)(h h':Heap):Prop:=∀b o,h.get? b=some o->b∈fs->∃sl,h'.get? b=some { o with slots:=sl }
def CXE (P:Program)(w:World):CXT:=λouter H s E e s'=>∃(a t C:Addr) (H':Hp) (B:Heap),e=.ref a∧s'.os=s.os∧AllBare s'.gens∧Heap.FlyingW B outer a (.ref C) (.ref t) s'.heap∧
 Grd P w (frs outer) H H' s.heap B∧Slt (frs outer) s.heap s'.heap∧E (.ref C) none H'
theorem v8 {P:Program}{w:World}{X:Cx}:jj (CXE P w) X E0:=λ_ _ _ _ _ _ _ h=>by
 obtain⟨_,_,_,_,_,_,_,_,_,_,_,q⟩:=h;exact q.elim
section
variable {X:Cx}{RQ:List (Addr×Obj)}{σ:St}{H H':Hp}{s:Shared}
theorem HOk.hide {P:Program}{w:World}{h:Heap}{fs:List Addr}(x:HOk P w H h)(hf:∀b∈fs,H b=none):HOk P w H (PySem.W.hideAll h fs):=λa o e=>
 (x a o e).stay (λb u hb q=>PySem.W.hideAll_get _ q λz=>by
  have n:=hf b z;rcases hb with hb|hb
  ·rw[hb,e]at n;cases n
  ·rw[hb]at n;cases n) (λ_ q=>q) λ_ _ q=>q
end
section
variable {P:Program}{w:World}{K:PySem.W.Frag}{mg:Str->Option Value}{base:Heap}{N:List Str}{qual:Str}{scope:Scope}{f:Addr}{cd:Value}{A:Around}{outer:List Env}{s0:Shared}{H0:Hp}{E:XK}
theorem CN {RQ:List (Addr×Obj)}{σ:St}{H:Hp}{s:Shared}(I:Inv (fL (CXE P w) P w K mg base N qual scope f cd A outer s0 H0 E) RQ σ H s){b:Addr}{o:Obj}(q:s0.heap.get? b=some o)(hb:b∉frs outer):
  b∉frs (envOfC qual scope s0.heap.objs.size f cd :: outer):=λz=>by
 rcases a_.mp (I.stkSub b z) with e|e
 ·exact absurd (Heap.lt_size q) (by rw[e];exact Nat.not_lt.mpr I.ok.above)
 ·exact hb e
theorem JA {RQ:List (Addr×Obj)}{σ:St}{H:Hp}{s:Shared}{h':Heap}{a C:Addr}{args:List Value}(I:Inv (fL (CXE P w) P w K mg base N qual scope f cd A outer s0 H0 E) RQ σ H s)
  (hx:Heap.MadeExcOf s.heap h' a (.ref C) args) (q:E (.ref C) none H):(fL (CXE P w) P w K mg base N qual scope f cd A outer s0 H0 E).xe (.ref a) { s with heap:=h' }:=by
 have hfs:∀b∈frs (envOfC qual scope s0.heap.objs.size f cd :: outer),H b=none:=I.stkFree;have hin:∀env∈(envOfC qual scope s0.heap.objs.size f cd :: outer),∀b,env.frame=some b->b∈frs (envOfC qual scope s0.heap.objs.size f cd :: outer):=λenv he b hb=>FT.mpr ⟨env,he,hb⟩;have hst:s.heap.FunFrames base (envOfC qual scope s0.heap.objs.size f cd :: outer):=I.stack;have noE:∀b:Addr,b∉(fL (CXE P w) P w K mg base N qual scope f cd A outer s0 H0 E).ex:=λb z=>absurd (show b∈([]:List Addr) from z) (by simp);refine wpAny_leaves_madeW (base:=PySem.W.hideAll s.heap (frs (envOfC qual scope s0.heap.objs.size f cd :: outer))) I.ok.frames rfl (λb o z=>PySem.W.of_hideAll _ z) (PySem.W.funFrames_hide hst hin) hx λh2 t fl _ _ up=>?_;refine⟨a,t,C,H,_,rfl,I.os,I.bare,fl,⟨λb o e n hb=>?_,λb o e hb=>?_,λb o e n=>I.base.free b o e n (noE b),I.base.tups,I.base.frzs,I.base.tbls,I.hok.hide hfs⟩,λb o e hb=>?_,q⟩
 ·exact PySem.W.hideAll_get _ (I.base.keep b o e n hb (noE b)) (CN I e hb)
 ·obtain⟨o',e'⟩:=I.base.there b o e (noE b);exact⟨o',PySem.W.hideAll_get _ e' (CN I e hb)⟩
 ·obtain⟨_,o',ho',hd⟩:=I.ok.funs.mem hb;rw[show (fL (CXE P w) P w K mg base N qual scope f cd A outer s0 H0 E).s₀.heap.get? b=some o from e]at ho';cases ho';obtain⟨sl,e1⟩:=I.base.slot b o e (I.ok.frf b hb) hb (noE b);obtain⟨sl',e2⟩:=up b _ (hx.keeps _ _ e1) hd;exact⟨sl',e2⟩
theorem Fun.okE {x:Str}{st:Stmt}{fd:FuncData}{ps:List Str}{k:Nat}{sp:Sp}(F:Fun K x qual st f fd) (S:FnScope N ps (aY st)) (len:∀vs H Q E,sp vs H Q E->vs.length=ps.length)
  (hbody:∀(cdv:Value) (A:Around) (outer:List Env) (s:Shared) (H:Hp) (vs:List V) (Q:VK) (E:XK),Room k (A.deeper (envOfC qual (aY st) s.heap.objs.size f cdv))->sp vs H Q E->
   ∃t,PSs (fL (CXE P w) P w K mg base N qual (aY st) f cdv A outer s H E) (jl st) t∧t { nx:=λ_ H'=>Q .non H',rt:=Q } (gC N vs) H):FnOk P w K mg base (CXE P w) (k+1) f fd ps sp:=by
 obtain⟨oc,od,kV,doc,pm,an,cdv,ct,osl,rfl,lk,hcd⟩:=F.ex;exact Cf lk hcd S len λA outer s H vs Q E hr hsp=>hbody cdv A outer s H vs Q E hr hsp
end
theorem PS.nox {X:Cx}{st:Stmt}{t:TS}(h:PS X.nox st t):PS X st t:=λRQ s σ H D I hw=>
 wpAny_mono (h RQ s σ H D (I.wish _) hw) (λ_ _ q=>q.unwish) λ_ _ z=>False.elim z
abbrev bmV:List Value:=[.type "ValueError",.type "Exception",.type "BaseException",.type "object"]
theorem JB {K:PySem.W.Frag}{C:Addr}(q:PySem.W.excIn K C bmV "ValueError.__new__" = true):∃bm N nm qn bs hd sn sub ab col dd k0 k1 k2 k3 k5,
  K.lookup C=some (excClassObj nm qn C N bs bm hd sn sub ab col dd k0 k1 k2 k3 k5 "ValueError.__new__")∧PySem.W.tailIn K bmV bm=true∧PySem.W.nsOkIn K N=true∧PySem.W.nsIn K N "__init__" = some none:=by
 unfold PySem.W.excIn at q
 split at q
 ·rename_i dd cd sl ho
  split at q
  ·rename_i C1 bm k0 k1 k2 k3 n k5 hm hs;rw[Bool.and_eq_true,Bool.and_eq_true,Bool.and_eq_true,Bool.and_eq_true,Bool.and_eq_true]at q;obtain⟨⟨⟨⟨⟨q1,q2⟩,q3⟩,q4⟩,q5⟩,q6⟩:=q;have r1:=beq_iff_eq.mp q1;have r2:=beq_iff_eq.mp q2;have r6:=beq_iff_eq.mp q6;subst r1 r2;obtain⟨nm,bs,mro,ns,qn,hd,sn,sub,ab,col,del⟩:=cd;simp only at hm q3 q5 r6;have q3':del=false:=by cases del <;> simp at q3 ⊢
   subst hm q3';obtain⟨l⟩:=sl;simp only at hs;subst hs;exact⟨bm,ns,nm,qn,bs,hd,sn,sub,ab,col,dd,k0,k1,k2,k3,k5,ho,q4,q5,r6⟩
  ·cases q
 ·cases q
def CO (X:Cx)(E:XK):Prop:=∀(RQ:List (Addr×Obj)) (σ:St) (H:Hp) (s:Shared) (h':Heap) (a C:Addr) (args:List Value),Inv X RQ σ H s->Heap.MadeExcOf s.heap h' a (.ref C) args->E (.ref C) none H->X.xe (.ref a) { s with heap:=h' }
theorem JC {P:Program}{w:World}{K:PySem.W.Frag}{mg:Str->Option Value}{base:Heap}{N:List Str}{qual:Str}{scope:Scope}{f:Addr}{cd:Value}{A:Around}{outer:List Env}{s0:Shared}{H0:Hp}{E:XK}:
  CO (fL (CXE P w) P w K mg base N qual scope f cd A outer s0 H0 E) E:=λ_ _ _ _ _ _ _ _ I hx q=>JA I hx q
def CP (C:Addr)(ta:TA)(E:XK):TS:=λ_ σ H=>ta σ H λvs H1=>vs.length<=sizeLine∧E (.ref C) none H1
theorem pJ {C:Addr}{ta:TA}{E:XK}{D:Ends}{σ:St}{H:Hp}:CP C ta E D σ H=ta σ H λvs H1=>vs.length<=sizeLine∧E (.ref C) none H1:=rfl
theorem JD {X:Cx}{E:XK}{x:Str}{C:Addr}{e0:Expr}{ta:TA}{np cpos pos:Pos}(hc:X.calm=true) (hr:CO X E) (hg:Gl X x) (hm:X.mg x=some (.ref C)) (hx:PySem.W.excIn X.K C bmV "ValueError.__new__" = true) (ha:PA X [e0] ta)
  (he:starEach [e0] X.env=[(false,eval e0 X.env)]:=by rfl) (hpl:(backTo cpos (starEach [e0] X.env)).any (·.1)=false:=by rfl) (hd:(x == ("__debug__" : Str))=false:=by decide):
  PS X (.Raise (some (.Call (.Name x np) [e0] [] cpos)) none pos) (CP C ta E):=by
 intro RQ s σ H D I h;obtain⟨bm,N,nm,qn,bs,hdc,sn,sub,ab,col,dd,k0,k1,k2,k3,k5,lk,tl,ok,ni⟩:=JB hx;have T0:OwnTail s.heap bmV bm:=PySem.W.tail_of_in I.kIn tl;refine wpAny_Raise_call_subT (C:=C) (nm:=nm) (q:=qn) (N:=N) (bs:=bs) (bm:=bm) (hdct:=hdc) (sn:=sn) (sub:=sub) (ab:=ab) (col:=col) (dd:=dd) (k0:=k0) (k1:=k1) (k2:=k2) (k3:=k3) (k5:=k5)
  PySem.F.excBase_ValueError (mN:=s.heap.nsMap N) (T0.hasType PySem.F.excBase_ValueError.hasBase) (I.ok.hd hc) hpl (PySem.W.nsMap_none_of_in I.kIn ok ni) (mK I hg hm ⟨rfl,?_⟩ hd)
 have ns0:s.heap.Ns N (s.heap.nsMap N):=.of_isNs (PySem.W.isNs_of_in I.kIn ok);have h2:=ha cpos RQ s σ H _ I h;rw[he]at h2 ⊢;refine Calls.evalArgs_plain (wpAny_mono h2 (λvs s2 z=>?_) λ_ _ y=>y);obtain⟨xs,H1,I1,r1,q1,q2⟩:=z;have eN:s.heap.nsMap N=s2.heap.nsMap N:=by
  obtain⟨o,es,ep,ho,hdt,_⟩:=id ns0;unfold PySem.W.nsOkIn at ok
  split at ok
  ·rename_i z;unfold Heap.nsMap;rw[I.kIn _ _ z,I1.kIn _ _ z]
  ·cases ok
 refine⟨rfl,by rw[←r1.length];exact q1,I1.kIn _ _ lk,?_,PySem.W.tail_of_in I1.kIn tl,λh' a hm'=>hr RQ σ H1 s2 h' a C vs I1 hm' q2⟩;rw[eN];exact .of_isNs (PySem.W.isNs_of_in I1.kIn ok)
end L2
namespace L2
open PySem PySem.Spec PyProof.Rows
def pK (a C:Addr):HO:=.ext λh=>∃oe vs,h.get? a=some oe∧oe.cls=.ref C∧oe.data=.fields vs
structure Catches (K:PySem.W.Frag)(C D:Addr):Prop where
 c:PySem.W.excIn K C bmV "ValueError.__new__" = true
 d:PySem.W.excIn K D bmV "ValueError.__new__" = true
 base:PySem.W.mroIn K D (.type "BaseException")=some true
 sub:PySem.W.mroIn K C (.ref D)=some true
def JE (K:PySem.W.Frag)(Dc:Addr)(t:XK->TS)(th:TS):TS:=λD σ H=>t (λc _ H1=>∃C,c=.ref C∧Catches K C Dc∧∀a,H1 a=none->th D σ (upd H1 a (pK a C))) D σ H
theorem pL {K:PySem.W.Frag}{Dc:Addr}{t:XK->TS}{th:TS}{D:Ends}{σ:St}{H:Hp}:JE K Dc t th D σ H=t (λc _ H1=>∃C,c=.ref C∧Catches K C Dc∧∀a,H1 a=none->th D σ (upd H1 a (pK a C))) D σ H:=rfl
def Ends.drop (D:Ends)(i:Nat):Ends:={ nx:=λσ H=>D.nx (σ.set i none) H,rt:=D.rt,bk:=λσ H=>D.bk (σ.set i none) H,ct:=λσ H=>D.ct (σ.set i none) H }
def JF (K:PySem.W.Frag)(Dc:Addr)(i:Nat)(t:XK->TS)(th:TS):TS:=λD σ H=>t (λc _ H1=>∃C,c=.ref C∧Catches K C Dc∧∀a,H1 a=none->th (D.drop i) (σ.set i (some (.ref a))) (upd H1 a (pK a C))) D σ H
theorem pM {K:PySem.W.Frag}{Dc:Addr}{i:Nat}{t:XK->TS}{th:TS}{D:Ends}{σ:St}{H:Hp}:JF K Dc i t th D σ H=t (λc _ H1=>∃C,c=.ref C∧Catches K C Dc∧∀a,H1 a=none->th (D.drop i) (σ.set i (some (.ref a))) (upd H1 a (pK a C))) D σ H:=rfl
theorem pO {D:Ends}{i:Nat}{σ:St}{H:Hp}:(D.drop i).nx σ H=D.nx (σ.set i none) H:=rfl
end L2
namespace L2
open PySem PySem.Spec PyProof.Rows
theorem pP {K:PySem.W.Frag}{a:Addr}{xs:List V}{g:TG}{tb:TS}{D:Ends}{σ:St}{H:Hp}(Pv:Nat->St->Hp->Prop) (h0:Pv 0 σ H) (hl:∀i σ H,i<=xs.length->Pv i σ H->SqL K H a xs)
  (hs:∀i v p σ H,xs[i]?=some v->Pv i σ H->H p=none->g (.ref p) σ (upd H p (.tup [.int i,v])) λσ2 H2=>tb { D with nx:=Pv (i+1),ct:=Pv (i+1),bk:=D.nx } σ2 H2) (hd:∀σ H,Pv xs.length σ H->D.nx σ H):iW (Ite K a) g tb D σ H:=Je Pv h0 hl hs hd
end L2
namespace L2
open PySem PySem.Spec PyProof.Rows
theorem JG {prog:Program}{w:World}{A:Around}{R:Result->Shared->Prop}{s:Shared}{elt target iter cnd:Expr}{scope:Scope}{pos:Pos}{it acc:Value}{env:Env}(I:Nat->Shared->Prop)
  (turn:∀n s (E:Value->Shared->Prop),I n s->wpAny (model prog w) A (pyNext it) (λr s₁=>match r with
   | none=>R (.ok .next) s₁
   | some v=>wpAny (model prog w) A (letOwnedTupleGo target it v) (λ_ s₂=>wpAny (model prog w) A (assign target env v) (λ_ s₃=>wpAny (model prog w) A (isTrue cnd env (eval cnd env)) (λb s₄=>if b=true then wpAny (model prog w) A (eval elt env) (λx s₅=>
     wpAny (model prog w) A (call (.builtin "list.append") [acc,x]) (λ_ s₆=>∃m,m<n∧I m s₆) E s₅) E s₄ else ∃m,m<n∧I m s₄) E s₃) E s₂) E s₁) E s)
  (n:Nat) (h:I n s):
  codeAny (model prog w) A (.compLoop (.ListComp elt [⟨target,iter,[cnd],0⟩] scope pos) 0 it acc env) R s:=by
 refine codeAny_loop rfl I (λn s hI=>?_) n h;show wpAny _ _ ((compTurn (.ListComp elt [⟨target,iter,[cnd],0⟩] scope pos) 0 it acc env).onRaise (λx=>do noteFrame x env;theTreesLotGoes x)) _ _ s;refine wpAny_noted ?_;unfold compTurn;dsimp only[FZ];refine wpAny_bind (wpAny_standAt (wpAny_bind (wpAny_mono (turn n s _ hI) (λr s₁ h₁=>?_) λ_ _ h'=>h')))
 cases r with
 | none=>exact wpAny_pure h₁
 | some v=>
  refine wpAny_bind (thn h₁ λ_ s₂ h₂=>wpAny_bind (thn h₂ λ_ s₃ h₃=>wpAny_bind ?_));rw[List.forIn_cons,if_pos rfl];refine wpAny_bind (wpAny_bind (thn h₃ λb s₄ h₄=>wpAny_pure ?_));dsimp only;rw[List.forIn_nil];refine wpAny_pure ?_
  cases b with
  | true=>
   rw[if_pos rfl]at h₄ ⊢;exact wpAny_bind (wpAny_bind (thn h₄ λx s₅ h₅=>wpAny_bind (thn h₅ λ_ s₆ h₆=>wpAny_pure (wpAny_pure ⟨rfl,h₆⟩))))
  | false=>
   rw[if_neg (by decide)]at h₄ ⊢;exact wpAny_pure ⟨rfl,h₄⟩
section
variable {X:Cx}{elt iter cnd:Expr}{x:Str}{px:Pos}{fv:List (Nat×Str)}{scope:Scope}{cl:List (Str×Addr)}{pos:Pos}{te:TE}{tt:TT}{wi:TI}
def v9 (J:It)(fv:List (Nat×Str))(tt:TT)(te:TE)(Q:VK)(σ:St)(H1:Hp)(D:Addr):Prop:=∃W:Nat->Nat->Hp->Prop,(∃m,W 0 m (upd H1 D (.lst [])))∧∀i m H,W i m H->
 (J.stop i H∧Q (.ref D) H)∨(J.go i H∧∃N:Hp->Prop,(∀H',N H'->∃m',m'<m∧W (i+1) m' H')∧∀v H',J.yld i H v H'->tt (bst fv σ (some v)) H' λb Hb=>if b=true then te (bst fv σ (some v)) Hb λy H2=>∃ys,H2 D=some (.lst ys)∧ys.length<sizeLine∧N (upd H2 D (.lst (ys++[y]))) else N Hb)
def CQ (fv:List (Nat×Str))(wi:TI)(tt:TT)(te:TE):TE:=λσ H Q=>wi σ H λJ H1=>∀D,H1 D=none->v9 J fv tt te Q σ H1 D
theorem JH {RQ:List (Addr×Obj)}{σ:St}{H:Hp}{s2:Shared}{it:Addr}{fp:List Addr}{tn:Nat->Heap->Prop}{J:It}{Q:VK}{E:Value->Shared->Prop}{RR:Value->Addr->Result->Shared->Prop}
  (hc:X.calm=true) (B:BlkOk X x fv scope cl) (hcn:∀C s H fp,PT (blk X x fv scope cl C s H fp) cnd tt) (he:∀C s H fp,PE (blk X x fv scope cl C s H fp) elt te) (I:Inv X RQ σ H s2) (T:Turn X.prog X.w X.K (.Name x px) J fp it tn) (st:tn 0 s2.heap) (hf:∀b∈fp,cL X RQ H b)
  (rd:∀D,H D=none->∃W:Nat->Nat->Hp->Prop,(∃m,W 0 m (upd H D (.lst [])))∧∀i m H,W i m H->
   (J.stop i H∧Q (.ref D) H)∨(J.go i H∧∃N:Hp->Prop,(∀H',N H'->∃m',m'<m∧W (i+1) m' H')∧∀v H',J.yld i H v H'->tt (bst fv σ (some v)) H' λb Hb=>if b=true then te (bst fv σ (some v)) Hb λy H2=>∃ys,H2 D=some (.lst ys)∧ys.length<sizeLine∧N (upd H2 D (.lst (ys++[y]))) else N Hb))
  (hRR:∀D C s' H' m',Inv X RQ σ H' s'->cL X RQ H' C->s'.heap.Ns C m'->Q (.ref D) H'->RR (.ref D) C (.ok .next) s'):
  wpAny (model X.prog X.w) X.A (newList []) (λacc s₃=>wpAny (model X.prog X.w) X.A (newFunctionEnv scope X.env.globals cl [] X.env.qual none .none (some X.env)) (λcenv s₄=>
   codeAny (model X.prog X.w) X.A (.compStart (.ListComp elt [⟨.Name x px,iter,[cnd],0⟩] scope pos) 0 (.ref it) acc { cenv with scope:=relabel scope X.env }) (RR acc cenv.locals) s₄) E s₃) E s2:=by
 refine wpAny_newObj_type ?_ (by show 0<=sizeLine;exact aI _);have hD:H s2.heap.objs.size=none:=I.hok.fresh (am _);have I3:=I.lnew (ys:=[]) (its:=[]) (t':=s2.toks) .nil (aI _);generalize hs3:({ s2 with heap:=s2.heap.push { cls:=.type "list",data:=.seq ([]:List Value).toArray },toks:=s2.toks }:Shared)=s3 at I3;have sz3:s3.heap.objs.size=s2.heap.objs.size+1:=by rw[←hs3];exact Heap.size_push ..
 have up3:∀b o,s2.heap.get? b=some o->s3.heap.get? b=some o:=λb o e=>by rw[←hs3];exact Heap.get?_push_of_some _ e
 have hf3:∀b∈fp,cL X RQ (upd H s2.heap.objs.size (.lst [])) b:=λb hb=>by
  obtain⟨f0,r⟩:=hf b hb;refine⟨?_,r⟩;obtain⟨o,e,_⟩:=T.obj 0 _ st b hb;rw[ar (cJ (Heap.lt_size e))];exact f0
 have ltf:∀b∈fp,b<s2.heap.objs.size:=λb hb=>by
  obtain⟨o,e,_⟩:=T.obj 0 _ st b hb;exact Heap.lt_size e
 have st3:tn 0 s3.heap:=T.keep 0 _ _ st λb _ o e=>up3 b o e;obtain⟨W,⟨m0,w0⟩,turn⟩:=rd _ hD;refine wpAny_newFunctionEnv B.nocell (by intro y hy;simp at hy) (λh₁ hns₁ hsb₁=>?_) B.kind;have hfC:∀b∈fp,b≠s3.heap.objs.size:=λb hb=>cJ (by rw[sz3];exact mj (ltf b hb));have up4:∀b o,s3.heap.get? b=some o->h₁.get? b=some o:=λb o e=>hsb₁.extBut b o (cJ (Heap.lt_size e)) (Heap.get?_push_of_some _ e);generalize hs4:({ s3 with heap:=h₁,toks:=s3.toks+([]:List (Str×Value)).length }:Shared)=s4;have h4:s4.heap=h₁:=by rw[←hs4]
 have I4:Inv (blk X x fv scope cl s3.heap.objs.size s3 (upd H s2.heap.objs.size (.lst [])) fp) [] (bst fv σ none) (upd H s2.heap.objs.size (.lst [])) s4:=
  CA B I3 hf3 rfl hfC (by rw[←hs4]) (by rw[←hs4]) (λb o e=>by rw[h4];exact up4 b o e) (by rw[h4];exact hns₁)
 have st4:tn 0 s4.heap:=by rw[h4];exact T.keep 0 _ _ st3 λb _ o e=>up4 b o e
 have stat:∀{H':Hp},(∀b∈fp,H' b=none)->∀b∈fp,cL (blk X x fv scope cl s3.heap.objs.size s3 (upd H s2.heap.objs.size (.lst [])) fp) [] H' b:=λ{H'} hn b hb=>by
  obtain⟨_,f1,f2,f3,f4,f5⟩:=hf b hb;refine⟨hn b hb,hfC b hb,λz=>?_,.inl hb,λy c e=>f4 y c (B.sub y c e),λp hp=>absurd (show p∈([]:List (Addr×Obj)) from hp) (by simp)⟩;rcases a_.mp (I.stkSub b z) with q|q
  ·exact f1 q
  ·exact f2 q
 have loop:codeAny (model X.prog X.w) X.A (.compLoop (.ListComp elt [⟨.Name x px,iter,[cnd],0⟩] scope pos) 0 (.ref it) (.ref s2.heap.objs.size) (compEnvC scope cl s3.heap.objs.size X.env)) (RR (.ref s2.heap.objs.size) s3.heap.objs.size) s4:=by
  refine JG (λn s'=>∃i H' o,Inv (blk X x fv scope cl s3.heap.objs.size s3 (upd H s2.heap.objs.size (.lst [])) fp) [] (bst fv σ o) H' s'∧tn i s'.heap∧(∀b∈fp,H' b=none)∧W i n H') ?_ m0
   ⟨0,_,none,I4,st4,λb hb=>(hf3 b hb).1,w0⟩
  rintro n s5 E' ⟨i,H5,o5,I5,st5,fr5,w5⟩
  rcases turn i n H5 w5 with ⟨stop,q⟩|⟨go,N,hN,step⟩
  ·refine thn (T.done (blk X x fv scope cl s3.heap.objs.size s3 (upd H s2.heap.objs.size (.lst [])) fp) rfl rfl rfl hc i [] s5 _ H5 _ I5 (stat fr5) st5 stop) λr s6 ⟨hr,I6⟩=>?_;subst hr;obtain⟨m6,hn6,_⟩:=I6.loc;have un:Un (frs X.stack) fp H H5 s2.heap s6.heap:=by
    have u1:Un (frs X.stack) fp H (upd H s2.heap.objs.size (.lst [])) s2.heap s3.heap:=Un.laid up3 (am _) hD;exact u1.trans I6.base
   have J6:Inv X RQ σ H5 s6:=by
    refine I.call' ?_ un I6.hok I6.bare λb hb=>?_
    ·have:=I6.os;rw[show (blk X x fv scope cl s3.heap.objs.size s3 (upd H s2.heap.objs.size (.lst [])) fp).s₀.os=s2.os by rw[←hs3]]at this;exact this
    ·obtain⟨_,f1,f2,f3,f4,f5⟩:=hf b hb;exact⟨f3,f1,f4,f5⟩
   refine hRR _ _ s6 H5 m6 J6 ?_ hn6 q;exact I3.fpOk (am _) I6.free
  ·refine thn (T.item (blk X x fv scope cl s3.heap.objs.size s3 (upd H s2.heap.objs.size (.lst [])) fp) rfl rfl rfl hc i [] s5 _ H5 _ I5 (stat fr5) st5 go) λr s6 ⟨u,hr,h6⟩=>?_;subst hr;refine thn h6 λ_ s7 ⟨v,H7,I7,r7,y7,st7,fr7⟩=>?_;have I7':=I7.pinned (stat fr7) (T.obj _ _ st7);refine CB B I7' r7 λs8 I8=>?_;have c8:=hcn _ _ _ _ _ s8 _ H7 _ I8 (step v H7 y7);refine wpAny_mono c8 (λbb sb ⟨Hb,Ib,qb⟩=>?_) λ_ _ z=>False.elim z
   cases bb with
   | false=>
    rw[if_neg (by decide)]at qb;show (if false=true then _ else _);rw[if_neg (by decide)];obtain⟨m',hm,w9⟩:=hN _ qb;refine⟨m',hm,i+1,_,some v,Ib.unpinned,T.keep _ _ _ st7 λb hb o e=>(Ib.pin (b,o) (cX _ (cX _ (gd hb e)))).1,λb hb=>?_,w9⟩;obtain⟨o,e,_⟩:=T.obj _ _ st7 b hb;exact (Ib.pin (b,o) (cX _ (cX _ (gd hb e)))).2.1
   | true=>
    rw[if_pos rfl]at qb;show (if true=true then _ else _);rw[if_pos rfl];have e8:=he _ _ _ _ _ sb _ Hb _ Ib qb;refine wpAny_mono e8 (λy s9 ⟨yv,H9,I9,r9,ys,hD9,hz,n9⟩=>?_) λ_ _ z=>False.elim z;have a9:=fM (X:=blk X x fv scope cl s3.heap.objs.size s3 (upd H s2.heap.objs.size (.lst [])) fp) _ s9 _ H9 (.ref s2.heap.objs.size) [yv] (.ref s2.heap.objs.size) [y] (λ_ H10=>H10=upd H9 s2.heap.objs.size (.lst (ys++[yv]))) I9 rfl (.cons r9 .nil)
     ⟨_,ys,yv,rfl,rfl,hD9,hz,rfl⟩
    refine wpAny_mono a9 (λ_ s10 ⟨_,H10,I10,_,e10⟩=>?_) λ_ _ z=>False.elim z;subst e10;obtain⟨m',hm,w9⟩:=hN _ n9;refine⟨m',hm,i+1,_,some v,I10.unpinned,T.keep _ _ _ st7 λb hb o e=>(I10.pin (b,o) (cX _ (cX _ (gd hb e)))).1,λb hb=>?_,w9⟩;obtain⟨o,e,_⟩:=T.obj _ _ st7 b hb;exact (I10.pin (b,o) (cX _ (cX _ (gd hb e)))).2.1
 exact codeAny_compStart_list loop (T.self _ 0 _ _ _ st4 loop)
end
theorem pQ {fv:List (Nat×Str)}{wi:TI}{tt:TT}{te:TE}{σ:St}{H:Hp}{Q:VK}:CQ fv wi tt te σ H Q=wi σ H λJ H1=>∀D,H1 D=none->v9 J fv tt te Q σ H1 D:=rfl
end L2
namespace L2
open PySem PySem.Spec PyProof.Rows
theorem kW:∀{ns:List Int}{us:List Value},Vals (ns.map V.int) us->IntsAre us ns
 | [],us,h=>by
  cases h;exact .nil
 | n :: ns,us,h=>by
  cases h with
  | cons r rr=>
   obtain⟨t,rfl⟩:=r;exact .cons n t (kW rr)
theorem v_ {zs:Array (Int×Tok)}{ns:List Int}(e:ns=zs.toList.map (·.1)){j:Nat}(hj:j<zs.size):numAt zs j∈ns:=by
 rw[e,numAt_eq];exact PySem.getD_mem (by simpa using hj)
theorem wc {zs:Array (Int×Tok)}{ns:List Int}(e:ns=zs.toList.map (·.1)){x:Int}(hx:x∈ns):∃j,j<zs.size∧numAt zs j=x:=by
 rw[e]at hx;obtain⟨i,hi,h⟩:=mem_getD hx;exact⟨i,by simpa using hi,by rw[numAt_eq];exact h⟩
theorem JI {X:Cx}(hc:X.calm=true):fJ X (.builtin "min") (λxs H Q=>∃p ns,xs=[.ref p]∧SqL X.K H p (ns.map V.int)∧ns≠[]∧∀M,M∈ns->(∀a,a∈ns->M<=a)->Q (.int M) H):=by
 intro RQ s σ H xs us Q I r h;obtain⟨p,ns,rfl,hq,hne,q⟩:=h;obtain⟨u,rfl,rx⟩:=gU r
 cases rx
 obtain⟨its,r',pl,hz⟩:=I.list hq;have hi:=kW r';obtain⟨zs,e⟩:=hi.allInts.items;have hns:ns=zs.toList.map (·.1):=by rw[←hi.numsOf,←nums_intItems,←e]
 have hsz:0<zs.size:=by
  have h3:=cK.mpr hne;rw[hns,ac,Array.length_toList]at h3;exact h3
 have hl:=pl.isList;rw[e]at hl;refine min_intList (I.ok.hd hc) hl hsz λv h' tk hv hk=>?_;obtain⟨tv,rfl⟩:=intItems_at hv;obtain⟨g1,g2⟩:=argBest_lt (numAt zs) (zs.size-1);refine⟨.int _,H,I.kept hk,⟨tv,rfl⟩,q _ (v_ hns (by omega)) λx hx=>?_⟩;obtain⟨i,hi,rfl⟩:=wc hns hx;exact g2 i (by omega)
theorem JJ {X:Cx}(hc:X.calm=true):fJ X (.builtin "max") (λxs H Q=>∃p ns,xs=[.ref p]∧SqL X.K H p (ns.map V.int)∧ns≠[]∧∀M,M∈ns->(∀a,a∈ns->a<=M)->Q (.int M) H):=by
 intro RQ s σ H xs us Q I r h;obtain⟨p,ns,rfl,hq,hne,q⟩:=h;obtain⟨u,rfl,rx⟩:=gU r
 cases rx
 obtain⟨its,r',pl,hz⟩:=I.list hq;have hi:=kW r';obtain⟨zs,e⟩:=hi.allInts.items;have hns:ns=zs.toList.map (·.1):=by rw[←hi.numsOf,←nums_intItems,←e]
 have hsz:0<zs.size:=by
  have h3:=cK.mpr hne;rw[hns,ac,Array.length_toList]at h3;exact h3
 have hl:=pl.isList;rw[e]at hl;refine max_intList (I.ok.hd hc) hl hsz λv h' tk hv hk=>?_;obtain⟨tv,rfl⟩:=intItems_at hv;obtain⟨g1,g2⟩:=argBest_gt (numAt zs) (zs.size-1);refine⟨.int _,H,I.kept hk,⟨tv,rfl⟩,q _ (v_ hns (by omega)) λx hx=>?_⟩;obtain⟨i,hi,rfl⟩:=wc hns hx;exact g2 i (by omega)
end L2
namespace L2
open PySem PySem.Spec PyProof.Rows
@[reducible] def fW (X:Cx) (x z:Str) (fv:List (Nat×Str)) (scope:Scope) (cl:List (Str×Addr)) (C:Addr) (s:Shared) (H:Hp) (fp:List Addr):Cx where
 prog:=X.prog
 w:=X.w
 K:=X.K
 mg:=X.mg
 base:=X.base
 A:=X.A
 N:=x :: z :: fv.map (·.2)
 s₀:=s
 H₀:=H
 env:=compEnvC scope cl C X.env
 outer:=X.stack
 stack:=X.stack
 ex:=fp
 fn:=λ_=>false
 calm:=X.calm
 pn:=[]
 xe:=λ_ _=>False
def dh (fv:List (Nat×Str))(σ:St)(v v2:Option V):St:=v :: v2 :: fv.map λp=>(σ[p.1]?).getD none
structure BlkOk2 (X:Cx)(x z:Str)(fv:List (Nat×Str))(scope:Scope)(cl:List (Str×Addr)):Prop where
 clos:closureFor scope X.env=pure cl
 nocell:∀y∈scope.names,y.2≠.cell
 kind:scope.kind=.function
 names:∀y∈scope.names,y.2=.local->scope.names.lookup y.1=some .local
 here:scope.names.lookup x=some .local
 here2:scope.names.lookup z=some .local
 nd:(x :: z :: fv.map (·.2)).Nodup
 sub:∀y c,cl.lookup y=some c->X.env.cells.lookup y=some c
 has:∀y,((relabel scope X.env).names.lookup y=some .cell∨(relabel scope X.env).names.lookup y=some .free)->∃c,cl.lookup y=some c
 fvs:∀p∈fv,X.N[p.1]?=some p.2∧(X.env.scope.names.lookup p.2=some .cell∨X.env.scope.names.lookup p.2=some .free)∧
  ((relabel scope X.env).names.lookup p.2=some .cell∨(relabel scope X.env).names.lookup p.2=some .free)∧∃c,cl.lookup p.2=some c
section
variable {X:Cx}{elt iter:Expr}{x z:Str}{px pz:Pos}{tk:Nat}{tpos:Pos}{fv:List (Nat×Str)}{scope:Scope}{cl:List (Str×Addr)}{pos:Pos}{te:TE}{wi:TI}
theorem JK {RQ:List (Addr×Obj)}{σ:St}{H:Hp}{s:Shared}{fp:List Addr}{C:Addr}(B:BlkOk2 X x z fv scope cl)(I:Inv X RQ σ H s)(hf:∀b∈fp,cL X RQ H b)(hC:s.heap.objs.size<=C)(hfC:∀b∈fp,b≠C):
  (fW X x z fv scope cl C s H fp).Ok where
 mod:=I.ok.mod
 kind:=B.kind
 glob:=I.ok.glob
 blt:=I.ok.blt
 above:=hC
 inj:=λy y' c h1 h2=>I.ok.inj y y' c (B.sub y c h1) (B.sub y' c h2)
 has:=λy hy=>B.has y hy
 cab:=λy c h=>nomatch h
 hd:=I.ok.hd
 frames:=I.ok.frames
 stk:=.inl rfl
 exf:=λb hb=>⟨hfC b hb,λy c e=>(hf b hb).2.2.2.2.1 y c (B.sub y c e)⟩
 bs:=I.bs
 bsz:=aP I.ok.bsz I.sz
 noex:=λb o e hb=>by
  obtain⟨_,_,_,f3,_⟩:=hf b hb;rcases f3 with z'|z'
  ·exact I.ok.noex b o e z'
  ·exact absurd (bZ (Heap.lt_size e) (aP I.ok.bsz z')) (ii _)
 exfs:=λb hb hs=>by
  obtain⟨_,f1,f2,_⟩:=hf b hb;rcases a_.mp (I.stkSub b hs) with z|z
  ·exact f1 z
  ·exact f2 z
 funs:=I.stack
 frf:=I.stkFree
theorem JL {fv:List (Nat×Str)}{σ:St}{o o2:Option V}{j:Nat}{y:Str}{v:V}(h1:(x :: z :: fv.map (·.2))[j+2]?=some y)(h2:(dh fv σ o o2)[j+2]?=some (some v)):∃p∈fv,p.2=y∧σ[p.1]?=some (some v):=by
 have e1:(fv.map (·.2))[j]?=some y:=by simpa using h1
 have e2:(fv.map λp=>(σ[p.1]?).getD none)[j]?=some (some v):=by simpa [dh] using h2
 rw[aA]at e1 e2
 cases q:fv[j]? with
 | none=>rw[q]at e1;cases e1
 | some p=>
  rw[q]at e1 e2;refine⟨p,bJ q,Option.some.inj e1,?_⟩;have e3:(σ[p.1]?).getD none=some v:=Option.some.inj e2
  cases r:σ[p.1]? with
  | none=>rw[r]at e3;cases e3
  | some w=>rw[r]at e3;exact congrArg some e3
theorem JM {RQ:List (Addr×Obj)}{σ:St}{H:Hp}{s s4:Shared}{fp:List Addr}{C:Addr}{m:Str->Option Value}(B:BlkOk2 X x z fv scope cl) (I:Inv X RQ σ H s) (hf:∀b∈fp,cL X RQ H b) (hC:C=s.heap.objs.size)
  (hfC:∀b∈fp,b≠C) (os:s4.os=s.os) (gens:s4.gens=s.gens) (keep:∀b o,s.heap.get? b=some o->s4.heap.get? b=some o) (ns:s4.heap.Ns C m):
  Inv (fW X x z fv scope cl C s H fp) [] (dh fv σ none none) H s4:=by
 subst hC;refine⟨JK B I hf (am _) hfC,os,by rw[gens];exact I.bare,Un.kept keep,⟨m,ns,λi y v h1 h2 h3=>?_⟩,λy c e=>?_,I.hok.fresh (am _),λy c e=>I.freeC y c (B.sub y c e),λp hp=>absurd (show p∈([]:List (Addr×Obj)) from hp) (by simp),I.hok.kept keep,by simp[dh]⟩
 ·cases i with
  | zero=>simp[dh]at h2
  | succ j=>
   cases j with
   | zero=>simp[dh]at h2
   | succ j=>
   obtain⟨p,hp,rfl,hv⟩:=JL h1 h2;obtain⟨hN,hk,hk2,c,hc⟩:=B.fvs p hp;obtain⟨m0,_,hl⟩:=I.loc;have vis:Vis X.env.scope p.2:=hk.elim (λz=>.inr (.inl z)) λz=>.inr (.inr z);obtain⟨u,r,l⟩:=hl p.1 p.2 v hN hv vis;refine⟨u,r,.inr ⟨hk2,c,hc,?_⟩⟩;rcases l with ⟨z,_⟩|⟨_,c',hc',o,ho,hd⟩
   ·have z':X.env.scope.names.lookup p.2=some .local:=z;rcases hk with k|k <;> (rw[k]at z';cases z')
   ·have:=B.sub p.2 c hc;rw[hc']at this;cases this;exact⟨o,keep _ o ho,hd⟩
 ·obtain⟨v,o,ho,hd⟩:=I.cell y c (B.sub y c e);exact⟨v,o,keep c o ho,hd⟩
theorem JN {s:Shared}{H0:Hp}{fp:List Addr}{C:Addr}(hc:X.calm=true)(B:BlkOk2 X x z fv scope cl):
  PG (fW X x z fv scope cl C s H0 fp) (.Tuple [.Name x px,.Name z pz] tk tpos) (vg X.K 2 (mR (fU 0) (mR (fU 1) ve))):=by
 have h1:(relabel scope X.env).names.lookup x=some .local:=lookup_relabel_local B.here;have h2:(relabel scope X.env).names.lookup z=some .local:=lookup_relabel_local B.here2;exact gS (X:=fW X x z fv scope cl C s H0 fp) hc (dZ (bN (i:=0) B.nd rfl (.inl h1) (.inr h1)) (dZ (bN (i:=1) B.nd rfl (.inl h2) (.inr h2)) gQ))
theorem JO {RQ:List (Addr×Obj)}{σ:St}{H:Hp}{s2:Shared}{it:Addr}{fp:List Addr}{tn:Nat->Heap->Prop}{J:It}{Q:VK}{E:Value->Shared->Prop}{RR:Value->Addr->Result->Shared->Prop}
  (hc:X.calm=true) (B:BlkOk2 X x z fv scope cl) (he:∀C s H fp,PE (fW X x z fv scope cl C s H fp) elt te) (I:Inv X RQ σ H s2) (T:Turn X.prog X.w X.K (.Tuple [.Name x px,.Name z pz] tk tpos) J fp it tn) (st:tn 0 s2.heap) (hf:∀b∈fp,cL X RQ H b)
  (rd:∀D,H D=none->∃W:Nat->Nat->Hp->Prop,(∃m,W 0 m (upd H D (.lst [])))∧∀i m H,W i m H->
   (J.stop i H∧Q (.ref D) H)∨(J.go i H∧∃N:Hp->Prop,(∀H',N H'->∃m',m'<m∧W (i+1) m' H')∧∀v H',J.yld i H v H'->∃q x1 x2,v=.ref q∧SqT X.K H' q [x1,x2]∧te (dh fv σ (some x1) (some x2)) H' λy H2=>∃ys,H2 D=some (.lst ys)∧ys.length<sizeLine∧N (upd H2 D (.lst (ys++[y])))))
  (hRR:∀D C s' H' m',Inv X RQ σ H' s'->cL X RQ H' C->s'.heap.Ns C m'->Q (.ref D) H'->RR (.ref D) C (.ok .next) s'):
  wpAny (model X.prog X.w) X.A (newList []) (λacc s₃=>wpAny (model X.prog X.w) X.A (newFunctionEnv scope X.env.globals cl [] X.env.qual none .none (some X.env)) (λcenv s₄=>
   codeAny (model X.prog X.w) X.A (.compStart (.ListComp elt [⟨(.Tuple [.Name x px,.Name z pz] tk tpos),iter,[],0⟩] scope pos) 0 (.ref it) acc { cenv with scope:=relabel scope X.env }) (RR acc cenv.locals) s₄) E s₃) E s2:=by
 refine wpAny_newObj_type ?_ (by show 0<=sizeLine;exact aI _);have hD:H s2.heap.objs.size=none:=I.hok.fresh (am _);have I3:=I.lnew (ys:=[]) (its:=[]) (t':=s2.toks) .nil (aI _);generalize hs3:({ s2 with heap:=s2.heap.push { cls:=.type "list",data:=.seq ([]:List Value).toArray },toks:=s2.toks }:Shared)=s3 at I3;have sz3:s3.heap.objs.size=s2.heap.objs.size+1:=by rw[←hs3];exact Heap.size_push ..
 have up3:∀b o,s2.heap.get? b=some o->s3.heap.get? b=some o:=λb o e=>by rw[←hs3];exact Heap.get?_push_of_some _ e
 have hf3:∀b∈fp,cL X RQ (upd H s2.heap.objs.size (.lst [])) b:=λb hb=>by
  obtain⟨f0,r⟩:=hf b hb;refine⟨?_,r⟩;obtain⟨o,e,_⟩:=T.obj 0 _ st b hb;rw[ar (cJ (Heap.lt_size e))];exact f0
 have ltf:∀b∈fp,b<s2.heap.objs.size:=λb hb=>by
  obtain⟨o,e,_⟩:=T.obj 0 _ st b hb;exact Heap.lt_size e
 have st3:tn 0 s3.heap:=T.keep 0 _ _ st λb _ o e=>up3 b o e;obtain⟨W,⟨m0,w0⟩,turn⟩:=rd _ hD;refine wpAny_newFunctionEnv B.nocell (by intro y hy;simp at hy) (λh₁ hns₁ hsb₁=>?_) B.kind;have hfC:∀b∈fp,b≠s3.heap.objs.size:=λb hb=>cJ (by rw[sz3];exact mj (ltf b hb));have up4:∀b o,s3.heap.get? b=some o->h₁.get? b=some o:=λb o e=>hsb₁.extBut b o (cJ (Heap.lt_size e)) (Heap.get?_push_of_some _ e);generalize hs4:({ s3 with heap:=h₁,toks:=s3.toks+([]:List (Str×Value)).length }:Shared)=s4;have h4:s4.heap=h₁:=by rw[←hs4]
 have I4:Inv (fW X x z fv scope cl s3.heap.objs.size s3 (upd H s2.heap.objs.size (.lst [])) fp) [] (dh fv σ none none) (upd H s2.heap.objs.size (.lst [])) s4:=
  JM B I3 hf3 rfl hfC (by rw[←hs4]) (by rw[←hs4]) (λb o e=>by rw[h4];exact up4 b o e) (by rw[h4];exact hns₁)
 have st4:tn 0 s4.heap:=by rw[h4];exact T.keep 0 _ _ st3 λb _ o e=>up4 b o e
 have stat:∀{H':Hp},(∀b∈fp,H' b=none)->∀b∈fp,cL (fW X x z fv scope cl s3.heap.objs.size s3 (upd H s2.heap.objs.size (.lst [])) fp) [] H' b:=λ{H'} hn b hb=>by
  obtain⟨_,f1,f2,f3,f4,f5⟩:=hf b hb;refine⟨hn b hb,hfC b hb,λz'=>?_,.inl hb,λy c e=>f4 y c (B.sub y c e),λp hp=>absurd (show p∈([]:List (Addr×Obj)) from hp) (by simp)⟩;rcases a_.mp (I.stkSub b z') with q|q
  ·exact f1 q
  ·exact f2 q
 have loop:codeAny (model X.prog X.w) X.A (.compLoop (.ListComp elt [⟨(.Tuple [.Name x px,.Name z pz] tk tpos),iter,[],0⟩] scope pos) 0 (.ref it) (.ref s2.heap.objs.size) (compEnvC scope cl s3.heap.objs.size X.env)) (RR (.ref s2.heap.objs.size) s3.heap.objs.size) s4:=by
  refine vN (λn s'=>∃i H' o o2,Inv (fW X x z fv scope cl s3.heap.objs.size s3 (upd H s2.heap.objs.size (.lst [])) fp) [] (dh fv σ o o2) H' s'∧tn i s'.heap∧(∀b∈fp,H' b=none)∧W i n H') ?_ m0
   ⟨0,_,none,none,I4,st4,λb hb=>(hf3 b hb).1,w0⟩
  rintro n s5 E' ⟨i,H5,o5,o6,I5,st5,fr5,w5⟩
  rcases turn i n H5 w5 with ⟨stop,q⟩|⟨go,N,hN,step⟩
  ·refine thn (T.done (fW X x z fv scope cl s3.heap.objs.size s3 (upd H s2.heap.objs.size (.lst [])) fp) rfl rfl rfl hc i [] s5 _ H5 _ I5 (stat fr5) st5 stop) λr s6 ⟨hr,I6⟩=>?_;subst hr;obtain⟨m6,hn6,_⟩:=I6.loc;have un:Un (frs X.stack) fp H H5 s2.heap s6.heap:=by
    have u1:Un (frs X.stack) fp H (upd H s2.heap.objs.size (.lst [])) s2.heap s3.heap:=Un.laid up3 (am _) hD;exact u1.trans I6.base
   have J6:Inv X RQ σ H5 s6:=by
    refine I.call' ?_ un I6.hok I6.bare λb hb=>?_
    ·have:=I6.os;rw[show (fW X x z fv scope cl s3.heap.objs.size s3 (upd H s2.heap.objs.size (.lst [])) fp).s₀.os=s2.os by rw[←hs3]]at this;exact this
    ·obtain⟨_,f1,f2,f3,f4,f5⟩:=hf b hb;exact⟨f3,f1,f4,f5⟩
   refine hRR _ _ s6 H5 m6 J6 ?_ hn6 q;exact I3.fpOk (am _) I6.free
  ·refine thn (T.item (fW X x z fv scope cl s3.heap.objs.size s3 (upd H s2.heap.objs.size (.lst [])) fp) rfl rfl rfl hc i [] s5 _ H5 _ I5 (stat fr5) st5 go) λr s6 ⟨u,hr,h6⟩=>?_;subst hr;refine thn h6 λ_ s7 ⟨v,H7,I7,r7,y7,st7,fr7⟩=>?_;have I7':=I7.pinned (stat fr7) (T.obj _ _ st7);obtain⟨q7,x1,x2,ev,sq7,rd7⟩:=step v H7 y7;refine wpAny_mono (JN (px:=px) (pz:=pz) (tk:=tk) (tpos:=tpos) hc B _ s7 _ H7 v u (λσ' H'=>σ'=dh fv σ (some x1) (some x2)∧H'=H7) I7' r7 ⟨q7,[x1,x2],ev,sq7,rfl,x1,[x2],rfl,x2,[],rfl,rfl,rfl,rfl⟩) (λ_ s8 ⟨σ8,H8,I8,e8a,e8b⟩=>?_) λ_ _ z=>False.elim z;subst e8a e8b;have e8:=he _ _ _ _ _ s8 _ _ _ I8 rd7;refine wpAny_mono e8 (λy s9 ⟨yv,H9,I9,r9,ys,hD9,hz,n9⟩=>?_) λ_ _ z=>False.elim z;have a9:=fM (X:=fW X x z fv scope cl s3.heap.objs.size s3 (upd H s2.heap.objs.size (.lst [])) fp) _ s9 _ H9 (.ref s2.heap.objs.size) [yv] (.ref s2.heap.objs.size) [y] (λ_ H10=>H10=upd H9 s2.heap.objs.size (.lst (ys++[yv]))) I9 rfl (.cons r9 .nil)
    ⟨_,ys,yv,rfl,rfl,hD9,hz,rfl⟩
   refine wpAny_mono a9 (λ_ s10 ⟨_,H10,I10,_,e10⟩=>?_) λ_ _ z=>False.elim z;subst e10;obtain⟨m',hm,w9⟩:=hN _ n9;refine⟨m',hm,i+1,_,some x1,some x2,I10.unpinned,T.keep _ _ _ st7 λb hb o e=>(I10.pin (b,o) (cX _ (cX _ (gd hb e)))).1,λb hb=>?_,w9⟩;obtain⟨o,e,_⟩:=T.obj _ _ st7 b hb;exact (I10.pin (b,o) (cX _ (cX _ (gd hb e)))).2.1
 exact codeAny_compStart_list loop (T.self _ 0 _ _ _ st4 loop)
def pR (K:PySem.W.Frag)(J:It)(fv:List (Nat×Str))(te:TE)(Q:VK)(σ:St)(H1:Hp)(D:Addr):Prop:=∃W:Nat->Nat->Hp->Prop,(∃m,W 0 m (upd H1 D (.lst [])))∧∀i m H,W i m H->
 (J.stop i H∧Q (.ref D) H)∨(J.go i H∧∃N:Hp->Prop,(∀H',N H'->∃m',m'<m∧W (i+1) m' H')∧∀v H',J.yld i H v H'->∃q x1 x2,v=.ref q∧SqT K H' q [x1,x2]∧te (dh fv σ (some x1) (some x2)) H' λy H2=>∃ys,H2 D=some (.lst ys)∧ys.length<sizeLine∧N (upd H2 D (.lst (ys++[y]))))
def CS (K:PySem.W.Frag)(fv:List (Nat×Str))(wi:TI)(te:TE):TE:=λσ H Q=>wi σ H λJ H1=>∀D,H1 D=none->pR K J fv te Q σ H1 D
theorem pS {K:PySem.W.Frag}{σ:St}{H:Hp}{Q:VK}:CS K fv wi te σ H Q=wi σ H λJ H1=>∀D,H1 D=none->pR K J fv te Q σ H1 D:=rfl
def pT (X:Cx)(scope:Scope)(cl:List (Str×Addr))(fv:List (Nat×Str)):Prop:=∀p∈fv,X.N[p.1]?=some p.2∧(X.env.scope.names.lookup p.2=some .cell∨X.env.scope.names.lookup p.2=some .free)∧
  ((relabel scope X.env).names.lookup p.2=some .cell∨(relabel scope X.env).names.lookup p.2=some .free)∧∃c,cl.lookup p.2=some c
theorem CT {X:Cx}{scope:Scope}{cl:List (Str×Addr)}:pT X scope cl []:=λ_ h=>nomatch h
theorem pU {X:Cx}{scope:Scope}{cl:List (Str×Addr)}{fv:List (Nat×Str)}(i:Nat) (y:Str) (h2:X.N[i]?=some y) (h3:X.env.scope.names.lookup y=some .cell∨X.env.scope.names.lookup y=some .free)
  (h4:(relabel scope X.env).names.lookup y=some .cell∨(relabel scope X.env).names.lookup y=some .free) (h5:∃c,cl.lookup y=some c) (r:pT X scope cl fv):pT X scope cl ((i,y) :: fv):=λp hp=>by
 rcases a_.mp hp with rfl|hp
 ·exact⟨h2,h3,h4,h5⟩
 ·exact r p hp
theorem CU {X:Cx}{x z:Str}{fv:List (Nat×Str)}{scope:Scope}{cl:List (Str×Addr)}(clos:closureFor scope X.env=pure cl) (sub:∀y c,cl.lookup y=some c->X.env.cells.lookup y=some c) (fvs:pT X scope cl fv)
  (nd:(x :: z :: fv.map (·.2)).Nodup:=by decide) (kind:scope.kind=.function:=by rfl) (here:scope.names.lookup x=some .local:=by rfl) (here2:scope.names.lookup z=some .local:=by rfl) (nocell:∀y∈scope.names,y.2≠.cell:=by decide +kernel)
  (names:∀y∈scope.names,y.2=.local->scope.names.lookup y.1=some .local:=by decide +kernel)
  (has:((relabel scope X.env).names.all λp=>(p.2 != .cell && p.2 != .free) || (cl.lookup p.1).isSome)=true:=by rfl):BlkOk2 X x z fv scope cl:=
 ⟨clos,nocell,kind,names,here,here2,nd,sub,vQ has,fvs⟩
end
def Itz (K:PySem.W.Frag)(a b:Addr):It:=
 ⟨λi H=>∃xs ys x y,SqL K H a xs∧SqL K H b ys∧xs[i]?=some x∧ys[i]?=some y,λi H v H'=>∃p x y,H p=none∧v=.ref p∧H'=upd H p (.tup [x,y])∧(∀xs,SqL K H a xs->xs[i]?=some x)∧∀ys,SqL K H b ys->ys[i]?=some y,
  λi H=>∃xs ys,SqL K H a xs∧SqL K H b ys∧(xs.length<=i∨ys.length<=i)⟩
theorem JP {P:Program}{w:World}{K:PySem.W.Frag}{elts:List Expr}{tk:Nat}{tpos:Pos}(a b z TI TO i1 i2:Addr)(D:ZipApart z TI TO i1 i2 a b):
  Turn P w K (.Tuple elts tk tpos) (Itz K a b) [z,TI,TO,i1,i2] z (λi h=>IsZip h z TI TO .none∧IsPair h TI (.ref i1) (.ref i2)∧(∃u v,IsPair h TO u v)∧h.IsListIter i1 a i∧h.IsListIter i2 b i) where
 mem:=by simp
 obj:=λi h st c hb=>by
  obtain⟨hz,hTI,⟨u,v,hTO⟩,⟨o1,e1,c1,d1⟩,⟨o2,e2,c2,d2⟩⟩:=st;simp only[a_,mr,or_false]at hb;rcases hb with rfl|rfl|rfl|rfl|rfl
  ·exact⟨_,hz,λv z=>by
    have z':Data.fields _=Data.cell v:=z
    cases z'⟩
  ·exact⟨_,hTI,λv z=>by
    have z':Data.seq _=Data.cell v:=z
    cases z'⟩
  ·exact⟨_,hTO,λv z=>by
    have z':Data.seq _=Data.cell v:=z
    cases z'⟩
  ·exact⟨o1,e1,λv z=>by rw[d1]at z;cases z⟩
  ·exact⟨o2,e2,λv z=>by rw[d2]at z;cases z⟩
 keep:=λi h h' st k=>by
  obtain⟨hz,hTI,⟨u,v,hTO⟩,h1,h2⟩:=st;exact⟨k z (by simp) _ hz,k TI (by simp) _ hTI,⟨u,v,k TO (by simp) _ hTO⟩,h1.at λo q=>k i1 (by simp) o q,h2.at λo q=>k i2 (by simp) o q⟩
 item:=by
  intro X hP hw hK hc i RQ s σ H E I hf st hg;subst hP hw hK;obtain⟨xs,ys,x,y,hq1,hq2,hx,hy⟩:=hg;obtain⟨its1,rv1,pl1,hz1⟩:=I.list hq1;obtain⟨its2,rv2,pl2,hz2⟩:=I.list hq2;obtain⟨u1,hu1,ru1⟩:=rv1.get hx;obtain⟨u2,hu2,ru2⟩:=rv2.get hy;obtain⟨hz,hTI,⟨_,_,hTO⟩,hit1,hit2⟩:=st;refine wpAny_pyNext_zip_item D hz hTI hTO hit1 hit2 pl1.isList pl2.isList (x:=u1) (y:=u2) (by simpa using hu1) (by simpa using hu2) λh1 ho hTO1 hi1 hi2 hT hsz hk=>?_;refine⟨_,rfl,wpAny_letOwnedTupleGo_zip ho λh2 he2 hs2=>?_⟩;have hp:H s.heap.objs.size=none:=I.hok.fresh (am _);have hpz:s.heap.objs.size≠z:=FS (Heap.lt_size hz);have k2:∀c o,c∉[z,TI,TO,i1,i2]->s.heap.get? c=some o->h2.get? c=some o:=λc o hb q=>
   (hs2.2 c λe=>hb (by simp[e])).trans (hk c o (λe=>hb (by simp[e])) (λe=>hb (by simp[e])) (λe=>hb (by simp[e])) (λe=>hb (by simp[e])) q)
  have hT2:h2.get? s.heap.objs.size=some { cls:=.type "tuple",data:=.seq #[u1,u2] }:=(hs2.2 _ hpz).trans hT;have nch:∀c u,H c=some u->c∉[z,TI,TO,i1,i2]:=λc u q hb=>by
   rw[(hf c hb).1]at q;cases q
  have up:∀c,c<s.heap.objs.size->c≠s.heap.objs.size:=λc hb=>cJ hb;have I2:Inv X RQ σ (upd H s.heap.objs.size (.tup [x,y])) { s with heap:=h2 }:=by
   refine I.step (g':=s.gens) (d':=s.drawn) (t':=s.toks) (ch:=[z,TI,TO,i1,i2]) (λc hb=>?_) (λc o _ _ hc q _=>k2 c o hc q) (λc o _ _ hc q _=>⟨o.slots,k2 c o hc q⟩)
    (λc o _ q n=>by rw[ar (up c (Heap.lt_size q))];exact n) (λc o hc q=>⟨o,k2 c o hc q⟩) (λc ys q=>by rw[ar (dG q hp)];exact q) (λc o v q=>by rw[ar (dG q hp)];exact q)
    (λc ps q=>⟨#[],by rw[ar (dG q hp),q];simp⟩) (λm hm=>?_) (λc v q=>?_) I.bare
   ·obtain⟨f0,f1,f2,f3,f4,f5⟩:=hf c hb;exact⟨f3,f1,f4,f5⟩
   ·obtain⟨o,es,ep,q,r⟩:=hm;refine⟨o,es,ep,k2 _ o (λe=>?_) q,r⟩;exact (hf _ e).2.1 rfl
   ·by_cases hb:c=s.heap.objs.size
    ·subst hb;rw[ag]at q;cases q;exact⟨by show 2<=sizeLine;decide,[u1,u2],.cons ru1 (.cons ru2 .nil),⟨_,hT2,rfl,_,rfl⟩⟩
    ·rw[ar hb]at q;refine (I.hok c v q).stay (λc' o hc r=>k2 c' o ?_ r) (λc' r=>by rw[ar (dG r hp)];exact r) λc' ys r=>by rw[ar (dG r hp)];exact r
     rcases hc with e|e
     ·rw[e];exact nch c v q
     ·exact nch c' _ e
  refine⟨.ref s.heap.objs.size,_,I2,rfl,⟨_,x,y,hp,rfl,rfl,λzs hz'=>by rw[I.list_inj hz' hq1];exact hx,λzs hz'=>by rw[I.list_inj hz' hq2];exact hy⟩,
   ⟨he2,(hs2.2 TI D.TIz).trans (hk TI _ D.TIz D.TITO D.TIi1 D.TIi2 hTI),⟨_,_,(hs2.2 TO D.TOz).trans hTO1⟩,hi1.at λo q=>(hs2.2 i1 D.i1z).trans q,hi2.at λo q=>(hs2.2 i2 D.i2z).trans q⟩,λc hb=>?_⟩
  have lb:c<s.heap.objs.size:=by
   simp only[a_,mr,or_false]at hb;rcases hb with rfl|rfl|rfl|rfl|rfl
   ·exact Heap.lt_size hz
   ·exact Heap.lt_size hTI
   ·exact Heap.lt_size hTO
   ·obtain⟨_,q,_⟩:=hit1;exact Heap.lt_size q
   ·obtain⟨_,q,_⟩:=hit2;exact Heap.lt_size q
  rw[ar (up c lb)];exact (hf c hb).1
 done:=by
  intro X hP hw hK hc i RQ s σ H E I hf st hg;subst hP hw hK;obtain⟨xs,ys,hq1,hq2,hx⟩:=hg;obtain⟨its1,rv1,pl1,hz1⟩:=I.list hq1;obtain⟨its2,rv2,pl2,hz2⟩:=I.list hq2;obtain⟨hz,hTI,⟨_,_,hTO⟩,hit1,hit2⟩:=st;have hl1:=rv1.length;have hl2:=rv2.length;refine wpAny_pyNext_zip_end (I.ok.hd hc) D hz hTI hTO hit1 hit2 pl1.isList pl2.isList (by rcases hx with e|e;exact .inl (by simp;omega);exact .inr (by simp;omega)) λh' eb=>⟨rfl,?_⟩
  have k2:∀c o,c∉[z,TI,TO,i1,i2]->s.heap.get? c=some o->h'.get? c=some o:=λc o hb q=>eb c o (λe=>hb (by simp[e])) (λe=>hb (by simp[e])) (λe=>hb (by simp[e])) (λe=>hb (by simp[e])) q;refine I.step (g':=s.gens) (d':=s.drawn) (t':=s.toks) (ch:=[z,TI,TO,i1,i2]) (λc hb=>?_) (λc o _ _ hc q _=>k2 c o hc q) (λc o _ _ hc q _=>⟨o.slots,k2 c o hc q⟩)
   (λc o _ q n=>n) (λc o hc q=>⟨o,k2 c o hc q⟩) (λc ys q=>q) (λc o v q=>q) (λc ps q=>⟨#[],by rw[q];simp⟩) (λm hm=>?_) (λc v q=>?_) I.bare
  ·obtain⟨f0,f1,f2,f3,f4,f5⟩:=hf c hb;exact⟨f3,f1,f4,f5⟩
  ·obtain⟨o,es,ep,q,r⟩:=hm;exact⟨o,es,ep,k2 _ o (λe=>(hf _ e).2.1 rfl) q,r⟩
  ·refine (I.hok c v q).stay (λc' o hc r=>k2 c' o ?_ r) (λc' r=>r) λc' ys r=>r;have nch:∀c u,H c=some u->c∉[z,TI,TO,i1,i2]:=λc u q hb=>by
    rw[(hf c hb).1]at q;cases q
   rcases hc with e|e
   ·rw[e];exact nch c v q
   ·exact nch c' _ e
 self:=λ_ _ _ _ _ st h=>wpAny_pyIter_zip st.1 h
section
variable {X:Cx}
def CV (K:PySem.W.Frag)(ta:TA):TI:=λσ H R=>ta σ H λvs H1=>∃a b xs ys,vs=[.ref a,.ref b]∧SqL K H1 a xs∧SqL K H1 b ys∧R (Itz K a b) H1
theorem jp {elts:List Expr}{tk:Nat}{tpos:Pos}{a b:Expr}{ta:TA}{p pos:Pos}(hg:Gl X "zip") (hm:X.mg "zip" = none) (ha:PA X [a,b] ta) (hs:starEach [a,b] X.env=[(false,eval a X.env),(false,eval b X.env)]:=by rfl)
  (hs2:starEach [b] X.env=[(false,eval b X.env)]:=by rfl):
  PI X (.Tuple elts tk tpos) (.Call (.Name "zip" p) [a,b] [] pos) (CV X.K ta):=by
 intro RQ s σ H R I h;refine Call_ (gO I hg hm boot_zip (PyProof.Rows.callWith_type1 (thn (ha pos RQ s σ H _ I h) λus s1 ⟨vs,H1,I1,r1,q1⟩=>?_) (by rw[hs,hs2]) (by rw[hs2];rfl)));obtain⟨a,b,xs,ys,e,hq1,hq2,q⟩:=q1;subst e
 cases r1 with
 | cons r rr=>
  cases rr with
  | cons r' rr=>
  cases rr
  cases r
  cases r'
  obtain⟨its1,rv1,pl1,hz1⟩:=I1.list hq1;obtain⟨its2,rv2,pl2,hz2⟩:=I1.list hq2;have a1:a<s1.heap.objs.size:=by obtain⟨_,e,_⟩:=pl1.isList;exact Heap.lt_size e
  have a2:b<s1.heap.objs.size:=by obtain⟨_,e,_⟩:=pl2.isList;exact Heap.lt_size e
  refine call_zip_2 pl1.isList pl2.isList λh1 hz hTI hTO hi1 hi2 hsz hk=>?_;have I2:Inv X RQ σ H1 { s1 with heap:=h1 }:=I1.kept (t':=s1.toks) hk;refine wpAny_pyIter_zip hz ?_;refine⟨s1.heap.objs.size+4,[s1.heap.objs.size+4,s1.heap.objs.size+2,s1.heap.objs.size+3,s1.heap.objs.size,s1.heap.objs.size+1],_,_,H1,rfl,I2,JP a b _ _ _ _ _ (zipApart_new a1 a2),⟨hz,hTI,⟨_,_,hTO⟩,hi1,hi2⟩,λc hb=>?_,q⟩;have hb':s1.heap.objs.size<=c:=by
   simp only[a_,mr,or_false]at hb;rcases hb with rfl|rfl|rfl|rfl|rfl <;> omega
  exact I1.fpOk hb' (I1.hok.fresh hb')
end
theorem pV {K:PySem.W.Frag}{ta:TA}{σ:St}{H:Hp}{R:It->Hp->Prop}:CV K ta σ H R=ta σ H λvs H1=>∃a b xs ys,vs=[.ref a,.ref b]∧SqL K H1 a xs∧SqL K H1 b ys∧R (Itz K a b) H1:=rfl
theorem CW {K:PySem.W.Frag}{a b:Addr}{xs ys:List V}{fv:List (Nat×Str)}{te:TE}{Q:VK}{σ:St}{H1:Hp}{D:Addr}(Pv:Nat->Hp->Prop) (h0:Pv 0 (upd H1 D (.lst []))) (hl:∀i H,i<=xs.length->i<=ys.length->Pv i H->SqL K H a xs∧SqL K H b ys)
  (hs:∀i v1 v2 p H,xs[i]?=some v1->ys[i]?=some v2->Pv i H->H p=none->te (dh fv σ (some v1) (some v2)) (upd H p (.tup [v1,v2])) λy H2=>∃zs,H2 D=some (.lst zs)∧zs.length<sizeLine∧Pv (i+1) (upd H2 D (.lst (zs++[y]))))
  (hd:∀H,Pv (min xs.length ys.length) H->Q (.ref D) H):pR K (Itz K a b) fv te Q σ H1 D:=by
 refine⟨λi m H=>m=min xs.length ys.length-i∧i<=min xs.length ys.length∧Pv i H,⟨_,rfl,aI _,h0⟩,?_⟩
 rintro i m H ⟨rfl,hi,p⟩
 obtain⟨q1,q2⟩:=hl i H (by omega) (by omega) p;by_cases hlt:i<min xs.length ys.length
 ·have l1:i<xs.length:=by omega
  have l2:i<ys.length:=by omega
  refine .inr ⟨⟨xs,ys,xs[i],ys[i],q1,q2,aj l1,aj l2⟩,Pv (i+1),λH' p'=>⟨min xs.length ys.length-(i+1),by omega,rfl,hlt,p'⟩,λv H' y=>?_⟩;obtain⟨pa,x1,x2,hn,e1,e2,y1,y2⟩:=y;subst e1 e2;exact⟨pa,x1,x2,rfl,.inl (.inl ag),hs i x1 x2 pa H (y1 xs q1) (y2 ys q2) p hn⟩
 ·have e:i=min xs.length ys.length:=by omega
  refine .inl ⟨⟨xs,ys,q1,q2,by omega⟩,?_⟩;rw[e]at p;exact hd H p
end L2
namespace L2
open PySem PySem.Spec PyProof.Rows
section
variable {X:Cx}
def ipC (C:Int->Int->Prop)(f:Int->Int->Int):TIp:=λx y H Q=>∃i j,x=.int i∧y=.int j∧C i j∧Q (.int (f i j)) H
theorem pW {C:Int->Int->Prop}{f:Int->Int->Int}{x y:V}{H:Hp}{Q:VK}:ipC C f x y H Q=∃i j,x=.int i∧y=.int j∧C i j∧Q (.int (f i j)) H:=rfl
theorem CY (hc:X.calm=true):fJ X (.builtin "sum") (λxs H Q=>∃(p:Addr) (ns:List Int),xs=[.ref p]∧SqL X.K H p (ns.map V.int)∧Q (.int ns.sum) H):=by
 intro RQ s σ H xs us Q I r h;obtain⟨p,ns,rfl,hq,q⟩:=h;obtain⟨u,rfl,rx⟩:=gU r
 cases rx
 obtain⟨its,r',pl,hz⟩:=I.list hq;have hi:=kW r';obtain⟨zs,e⟩:=hi.allInts.items;have hns:ns=zs.toList.map (·.1):=by rw[←hi.numsOf,←nums_intItems,←e]
 have hl:=pl.isList;rw[e]at hl;refine sum_intListG (I.ok.hd hc) hl λh' tk t' hk=>?_;have es:preSum (numAt zs) zs.size=ns.sum:=by rw[preSum_eq,hns,eZ (by simp)]
 rw[es];exact⟨.int _,H,I.kept hk,⟨t',rfl⟩,q⟩
end
section
variable {X:Cx}{elt iter cnd:Expr}{x:Str}{px:Pos}{fv:List (Nat×Str)}{scope:Scope}{cl:List (Str×Addr)}{pos:Pos}{te:TE}{tt:TT}{wi:TI}
theorem JQ {i:Nat}{y:Str}{py spos:Pos}(hc:X.calm=true) (B:BlkOk X x fv scope cl) (hi:PI X (.Name x px) iter wi) (hcn:∀C s H fp,PT (blk X x fv scope cl C s H fp) cnd tt) (he:∀C s H fp,PE (blk X x fv scope cl C s H fp) elt te)
  (hN:X.N.Nodup) (hiy:X.N[i]?=some y) (hy:X.env.scope.names.lookup y=some .local)
  (hsw:swapsWith (.ListComp elt [⟨.Name x px,iter,[cnd],0⟩] scope pos) (some (.Name y py)) spos.line X.env=pure true:=by rfl)
  (hs:∀v,foldedSetIterable iter X.env v=pure v:=by intro _;rfl):
  PS X (.Assign [.Name y py] (.ListComp elt [⟨.Name x px,iter,[cnd],0⟩] scope pos) spos) (jh (CQ fv wi tt te) (fU i)):=by
 intro RQ s σ H D I h;rw[exec_Assign_Name_used _ _ _ _ hsw];refine wpAny_bind (wpAny_standAt (wpAny_bind ?_));show wpAny _ X.A (do let _ ←comprehension (.ListComp elt [⟨.Name x px,iter,[cnd],0⟩] scope pos) scope X.env _ (newList []) false (eval iter X.env) (some (assign (.Name y py) X.env))) _ _ s;refine wpAny_bind (wpAny_mono (wpAny_comprehension_free (use:=some (assign (.Name y py) X.env)) (Q:=λ_ s'=>SP X RQ D .next s') rfl hs B.clos B.kind B.names
  (thn (hi RQ s σ H _ I h) λv s1 h1=>thn h1 λitv s2 h2=>?_)) (λ_ s' hq=>wpAny_pure (wpAny_pure hq)) λ_ _ e=>e)
 obtain⟨it,fp,tn,J,H2,e,I2,T,st2,f2,rd⟩:=h2;subst e;refine JH (Q:=λx H1=>fU i x σ H1 D.nx) (RR:=λacc C=>compPost (model X.prog X.w) X.A X.xe (some (assign (.Name y py) X.env)) (λ_ s'=>SP X RQ D .next s') acc C) hc B hcn he I2 T st2 f2 rd ?_;intro Dl C s' H' m' I' fC hn q;show wpAny _ X.A (assign (.Name y py) X.env (.ref Dl)) _ _ _;refine wpAny_assign_Name (kH I' hN hiy (.inl hy) (v:=.ref Dl) rfl (λs'' I'' hab=>?_) (.inr hy));obtain⟨a,sb,ha⟩:=hab;have hCa:C≠a:=by
  rcases ha with rfl|e
  ·exact fC.2.1
  ·exact Ne.symm (fC.2.2.2.2.1 _ _ e)
 exact⟨m',hn.sameBut sb hCa,λh' sb'=>⟨_,H',I''.turned (t':=s''.toks) (λb o hb e=>(sb'.2 b hb).trans e) fC.1 fC.2.1 fC.2.2.2.1 fC.2.2.2.2.1 fC.2.2.2.2.2,q⟩⟩
end
end L2
namespace L2
open PySem PySem.Spec PyProof.Rows
theorem kX {K:PySem.W.Frag}{a b:Addr}{xs ys:List V}{g:TG}{tb:TS}{D:Ends}{σ:St}{H:Hp}(Pv:Nat->St->Hp->Prop) (h0:Pv 0 σ H) (hl:∀i σ H,i<=xs.length->i<=ys.length->Pv i σ H->SqL K H a xs∧SqL K H b ys)
  (hs:∀i v1 v2 p σ H,xs[i]?=some v1->ys[i]?=some v2->Pv i σ H->H p=none->g (.ref p) σ (upd H p (.tup [v1,v2])) λσ2 H2=>tb { D with nx:=Pv (i+1),ct:=Pv (i+1),bk:=D.nx } σ2 H2)
  (hd:∀σ H,Pv (min xs.length ys.length) σ H->D.nx σ H):iW (Itz K a b) g tb D σ H:=by
 refine⟨λi m σ H=>m=min xs.length ys.length-i∧i<=min xs.length ys.length∧Pv i σ H,⟨_,rfl,aI _,h0⟩,?_⟩
 rintro i m σ H ⟨rfl,hi,p⟩
 obtain⟨q1,q2⟩:=hl i σ H (by omega) (by omega) p;by_cases hlt:i<min xs.length ys.length
 ·have l1:i<xs.length:=by omega
  have l2:i<ys.length:=by omega
  refine .inr ⟨⟨xs,ys,xs[i],ys[i],q1,q2,aj l1,aj l2⟩,Pv (i+1),λσ' H' p'=>⟨min xs.length ys.length-(i+1),by omega,rfl,hlt,p'⟩,λx H' y=>?_⟩;obtain⟨pa,x1,x2,hn,e1,e2,y1,y2⟩:=y;subst e1 e2;exact hs i x1 x2 pa σ H (y1 xs q1) (y2 ys q2) p hn
 ·have e:i=min xs.length ys.length:=by omega
  rw[e]at p;exact .inl ⟨⟨xs,ys,q1,q2,by omega⟩,hd σ H p⟩
end L2
namespace L2
open PySem PySem.Spec PyProof.Rows
section
variable {prog:Program}{w:World}{A:Around}{R:Result->Shared->Prop}{I S:Addr}{fp wr:List Addr}{n:Nat}{P:Nat->Value->Prop}{St:Nat->Heap->Prop}{bt:Nat->Nat->Bool}{d:List (Str×Value)}
theorem pX:(toString "max" ++ toString ".loop" : String) = "max.loop" := by decide
theorem we (W:Walks prog w A.in1 I fp wr n P St)(cm:CmpOf prog w A.in1 .Gt P bt)(nS:S∉fp):∀(m i:Nat) (z:Shared) (u:Value) (cap:Nat),n=i+1+m->St (i+1) z.heap->P (argBest bt i) u->
  z.heap.get? S=some { cls:=.type "list",dict:=none,data:=.seq #[u,u] cap,slots:=#[] }->
  (∀v g tk,P (argBest bt (n-1)) v->(∀b o,b∉wr->b≠S->z.heap.get? b=some o->g.get? b=some o)->R (.ok (.ret v)) { z with heap:=g,toks:=tk })->codeAny (model prog w) A (.builtin "max.loop" ⟨[.ref I,.none,.ref S],d⟩) R z
 | 0,i,z,u,cap,hn,st,hp,eS,q=>by
  have nw:S∉wr:=λh=>nS (W.sub _ h);refine codeAny_builtin PySem.F.entry_max_loop ?_;rw[Around.under_plainId PySem.F.plain_max_loop _];show wpAny _ A.in1 (seqItems? (.ref S) >>= _) _ _ z;refine wpAny_bind (wpAny_seqItems eS rfl ?_);show wpAny _ A.in1 (tryCatch (pyNext (.ref I)) _ >>= _) _ _ z;have hin:n=i+1:=hn;refine wpAny_bind (wpAny_tryCatch (W.done z _ _ (by rw[hin];exact st) λg tk kp=>?_));have eS':=kp S _ nw eS;show wpAny _ A.in1 (updateSeq S (λ_=>#[]) >>= _) _ _ _;refine wpAny_bind (wpAny_updateSeq eS' rfl (wpAny_bind (wpAny_letGo (wpAny_pure (q u _ tk (by rw[hin];exact hp) λb o nb bS e=>?_)))));exact (Heap.get?_update_other _ _ (Ne.symm bS)).trans (kp b o nb e)
 | m+1,i,z,u,cap,hn,st,hp,eS,q=>by
  have nw:S∉wr:=λh=>nS (W.sub _ h);refine codeAny_builtin PySem.F.entry_max_loop ?_;rw[Around.under_plainId PySem.F.plain_max_loop _];show wpAny _ A.in1 (seqItems? (.ref S) >>= _) _ _ z;refine wpAny_bind (wpAny_seqItems eS rfl ?_);show wpAny _ A.in1 (tryCatch (pyNext (.ref I)) _ >>= _) _ _ z;refine wpAny_bind (wpAny_tryCatch (W.item (i+1) z _ _ (by omega) st λv g tk pv st' kp=>?_));have eS':=kp S _ nw eS;show wpAny _ A.in1 (tryCatch (holding [v,v] (richCompare .Gt v u >>= _)) _ >>= _) _ _ _;refine wpAny_bind (wpAny_tryCatch (wpAny_holding (wpAny_bind (cm (i+1) (argBest bt i) v u _ _ _ pv hp (wpAny_bind (wpAny_holding (wpAny_truthy_bool (wpAny_bind (wpAny_letGo (wpAny_pure ?_))))))))))
  cases hb:bt (i+1) (argBest bt i) with
  | true=>
   simp only[if_true];refine wpAny_bind (wpAny_updateSeq eS' rfl (wpAny_bind (wpAny_letGo ?_)));rw[pX];refine wpAny_pure ⟨plainId_quiet PySem.F.plain_max_loop _,we W cm nS m (i+1) _ v _ (by omega) (W.frame _ _ _ st' λb bf o e=>(Heap.get?_update_other _ _ (λh:S=b=>nS (h ▸ bf))).trans e) (by simp only[argBest,hb,if_true];exact pv) (Heap.get?_update_self _ eS' rfl) λv' g' tk' pv' kp'=>?_⟩;exact q v' g' tk' pv' λb o nb bS e=>kp' b o nb bS ((Heap.get?_update_other _ _ (Ne.symm bS)).trans (kp b o nb e))
  | false=>
   simp only[Bool.false_eq_true,if_false];refine wpAny_bind (wpAny_letGo ?_);rw[pX];exact wpAny_pure ⟨plainId_quiet PySem.F.plain_max_loop _,we W cm nS m (i+1) _ u cap (by omega) st' (by simp only[argBest,hb,Bool.false_eq_true,if_false];exact hp) eS' λv' g' tk' pv' kp'=>q v' g' tk' pv' λb o nb bS e=>kp' b o nb bS (kp b o nb e)⟩
theorem JR (W:Walks prog w A.in1 I fp wr n P St) (cm:CmpOf prog w A.in1 .Gt P bt) (nS:S∉fp){z:Shared}{cap:Nat}{x:Value}{k:Str}(st:St 0 z.heap) (eS:z.heap.get? S=some { cls:=.type "list",dict:=none,data:=.seq #[] cap,slots:=#[] })
  (q:∀v g tk,(n=0∧v=x)∨(0<n∧P (argBest bt (n-1)) v)->(∀b o,b∉wr->b≠S->z.heap.get? b=some o->g.get? b=some o)->R (.ok (.ret v)) { z with heap:=g,toks:=tk }):codeAny (model prog w) A (.builtin "max.loop" ⟨[.ref I,.none,.ref S],[(k,x)]⟩) R z:=by
 have nw:S∉wr:=λh=>nS (W.sub _ h);refine codeAny_builtin PySem.F.entry_max_loop ?_;rw[Around.under_plainId PySem.F.plain_max_loop _];show wpAny _ A.in1 (seqItems? (.ref S) >>= _) _ _ z;refine wpAny_bind (wpAny_seqItems eS rfl ?_);show wpAny _ A.in1 (tryCatch (pyNext (.ref I)) _ >>= _) _ _ z;by_cases n0:n=0
 ·refine wpAny_bind (wpAny_tryCatch (W.done z _ _ (by rw[n0];exact st) λg tk kp=>?_));show wpAny _ A.in1 (rule _ >>= _) _ _ _;refine wpAny_bind (wpAny_rule ?_);exact wpAny_pure (q x g tk (.inl ⟨n0,rfl⟩) λb o nb bS e=>kp b o nb e)
 ·refine wpAny_bind (wpAny_tryCatch (W.item 0 z _ _ (by omega) st λv g tk pv st' kp=>?_));have eS':=kp S _ nw eS;show wpAny _ A.in1 (updateSeq S (λ_=>#[v,v]) >>= _) _ _ _;refine wpAny_bind (wpAny_updateSeq eS' rfl ?_);rw[pX];refine wpAny_pure ⟨plainId_quiet PySem.F.plain_max_loop _,we W cm nS (n-1) 0 _ v _ (by omega) (W.frame _ _ _ st' λb bf o e=>(Heap.get?_update_other _ _ (λh:S=b=>nS (h ▸ bf))).trans e) pv (Heap.get?_update_self _ eS' rfl) λv' g' tk' pv' kp'=>?_⟩;exact q v' g' tk' (.inr ⟨by omega,pv'⟩) λb o nb bS e=>kp' b o nb bS ((Heap.get?_update_other _ _ (Ne.symm bS)).trans (kp b o nb e))
end
theorem JS (a v:Value):argsOk "max" ⟨[a],[(Str.ofString "default",v)]⟩:=by unfold argsOk;kernel_rfl
theorem JT {prog:Program}{w:World}{A:Around}{E:Value->Shared->Prop}{s:Shared}{l:Addr}{xs:Array (Int×Tok)}{x:Value}{Q:Value->Shared->Prop}(hh:A.handled=none) (hl:s.heap.IsList l (intItems xs))
  (q:∀v h' tk,(xs.size=0∧v=x)∨(0<xs.size∧(intItems xs)[argBest (λi j=>decide (numAt xs i > numAt xs j)) (xs.size-1)]?=some v)->(∀b o,s.heap.get? b=some o->h'.get? b=some o)->Q v { s with heap:=h',toks:=tk }):
  wpAny (model prog w) A (call (.builtin "max") [.ref l] [(Str.ofString "default",x)]) Q E s:=by
 refine PyProof.Rows.kmk_tree PySem.F.kind_max PySem.F.plain_max PySem.F.entry_max (JS _ _) ?_;show wpAny _ A.in1 (Builtin.Builtins.bindParams "max" ["key","default"] 0 ⟨[],[(Str.ofString "default",x)]⟩ >>= _) _ _ s;refine wpAny_bind (wpAny_of_eq (show Builtin.Builtins.bindParams "max" ["key","default"] 0 ⟨[],[(Str.ofString "default",x)]⟩=pure [none,some x] from rfl) ?_);refine wpAny_bind (wpAny_pure (wpAny_bind (iter_intList hl λs₂ e st hfp hlI=>?_)));subst e;refine wpAny_bind (wpAny_newObj_type ?_);rw[pX];have W:=Walks.list (prog:=prog) (w:=w) (A:=A.in1) hh _ l hlI (intItems xs);refine wpAny_pure ⟨plainId_quiet PySem.F.plain_max_loop _,JR W (CmpOf.ints_gt (numAt xs) (λ_ _=>intItems_at)) (λhm=>ii _ (hfp _ hm)) (W.frame _ _ _ st λb _ o e=>Heap.get?_push_of_some _ e) (Heap.get?_push_size _ rfl) λv h' tk hv hk=>?_⟩;refine q v h' tk (by simpa [intItems] using hv) (old_kept (s:=s) (l:=l) λb o nb e=>?_);exact hk b o nb (cJ (Heap.lt_size e)) (Heap.get?_push_of_some _ e)
def CZ (K:PySem.W.Frag)(t tk:TA):TE:=λσ H Q=>t σ H λvs H1=>tk σ H1 λzs H2=>∃p ns d,vs=[.ref p]∧zs=[.int d]∧SqL K H2 p (ns.map V.int)∧∀M,(ns=[]∧M=d)∨(M∈ns∧∀a∈ns,a<=M)->Q (.int M) H2
theorem JU {X:Cx}{p pos kpos:Pos}{e k:Expr}{t tk:TA}(hc:X.calm=true) (hg:Gl X "max") (hm:X.mg "max" = none) (ha:PA X [e] t) (hkw:PK X [⟨some "default",k,kpos⟩] tk)
  (he:backTo pos (starEach [e] X.env)=(false,eval e X.env) :: backTo pos (starEach [] X.env):=by rfl) (hpl:(backTo pos (starEach [e] X.env)).any (·.1)=false:=by rfl)
  (hall:(backToKw pos (keywordEach [⟨some "default",k,kpos⟩] X.env)).all (·.1.isSome)=true:=by rfl) (hks:(backToKw pos (keywordEach [⟨some "default",k,kpos⟩] X.env)).filterMap (·.1)=[Str.ofString "default"]:=by rfl)
  (hno:(backToKw pos (keywordEach [⟨some "default",k,kpos⟩] X.env)).any (·.1.isNone)=false:=by rfl):
  PE X (.Call (.Name "max" p) [e] [⟨some "default",k,kpos⟩] pos) (CZ X.K t tk):=by
 intro RQ s σ H Q I h;refine wpAny_Call_Name_kw (gO I hg hm jX ?_ (by decide) (by decide));refine PyProof.Rows.callWith_kw (thn (ha pos RQ s σ H _ I h) λus s1 ⟨vs,H1,I1,r,q⟩=>?_) he hpl hall hno;refine thn (hkw pos RQ s1 σ H1 _ I1 q) λkws s2 ⟨zs,H2,I2,rz,q2⟩=>?_;rw[hks];obtain⟨a,ns,d,rfl,rfl,hq,q3⟩:=q2;obtain⟨u,rfl,rx⟩:=gU r;obtain⟨u',rfl,rx'⟩:=gU rz;obtain⟨td,rfl⟩:=rx'
 cases rx
 obtain⟨its,r',pl,hz⟩:=I2.list hq;have hi:=kW r';obtain⟨zs,e⟩:=hi.allInts.items;have hns:ns=zs.toList.map (·.1):=by rw[←hi.numsOf,←nums_intItems,←e]
 have hl:=pl.isList;rw[e]at hl;refine JT (x:=.int d td) (I2.ok.hd hc) hl λv h' tk hv hk=>?_;rcases hv with ⟨h0,rfl⟩|⟨h0,hv⟩
 ·exact⟨.int _,H2,I2.kept hk,⟨td,rfl⟩,q3 d (.inl ⟨by rw[hns,jD];exact bK (by rw[Array.length_toList];exact h0),rfl⟩)⟩
 ·obtain⟨tv,rfl⟩:=intItems_at hv;obtain⟨g1,g2⟩:=argBest_gt (numAt zs) (zs.size-1);refine⟨.int _,H2,I2.kept hk,⟨tv,rfl⟩,q3 _ (.inr ⟨v_ hns (by omega),λx hx=>?_⟩)⟩;obtain⟨i,hi,rfl⟩:=wc hns hx;exact g2 i (by omega)
theorem pZ {K:PySem.W.Frag}{t tk:TA}{σ:St}{H:Hp}{Q:VK}:CZ K t tk σ H Q=t σ H λvs H1=>tk σ H1 λzs H2=>∃p ns d,vs=[.ref p]∧zs=[.int d]∧SqL K H2 p (ns.map V.int)∧∀M,(ns=[]∧M=d)∨(M∈ns∧∀a∈ns,a<=M)->Q (.int M) H2:=rfl
theorem p4 {K:PySem.W.Frag}{neg:Bool}{x y:V}{H:Hp}{Q:VK}:rIn K neg x y H Q=∃p xs,y=.ref p∧(SqL K H p xs∨SqT K H p xs)∧gf x=true∧xs.all gf=true∧Q (.bl (if neg then !inV x xs else inV x xs)) H:=rfl
theorem JV (n:Int)(ns:List Int):inV (.int n) (ns.map V.int)=decide (n∈ns):=by
 unfold inV
 induction ns with
 | nil=>rfl
 | cons m ns ih=>
  rw[dy,rE,ih];have:eqV (.int m) (.int n)=decide (n=m):=by
   rw[Bool.eq_iff_iff];simp only[eqV,beq_iff_eq,decide_eq_true_eq];exact eq_comm
  rw[this];simp
end L2
namespace L2
open PySem
inductive Tr where|lf|nd (l:Tr) (k:Nat) (r:Tr)
def Tr.ins (k:Nat):Tr->Option Tr
 | .lf=>some (.nd .lf k .lf)
 | .nd l m r=>match Nat.blt k m with
  | true=>match Tr.ins k l with|some l'=>some (.nd l' m r)|none=>none
  | false=>match Nat.blt m k with
   | true=>match Tr.ins k r with|some r'=>some (.nd l m r')|none=>none
   | false=>none
def Tr.all:List Nat->Tr->Bool
 | [],_=>true
 | k :: ks,t=>match t.ins k with|some t'=>Tr.all ks t'|none=>false
def Tr.mem (x:Nat):Tr->Prop
 | .lf=>False
 | .nd l k r=>x=k∨l.mem x∨r.mem x
end L2
namespace L2
open PySem PySem.Spec PyProof.Rows
def Thw (X:Cx)(H:Hp)(a:Addr)(o:Obj)(kvs:List (List Key×V)):Prop:=H a=some (.frz o (.dT kvs))∨(H a=some (.dT kvs)∧∀o' u',X.H₀ a≠some (.frz o' u'))
def Itd (a:Addr)(o:Obj)(kvs:List (List Key×V)):It:=
 ⟨λi H=>H a=some (.frz o (.dT kvs))∧i<kvs.length,λi H v H'=>∃p b k x,H p=none∧v=.ref p∧kvs[i]?=some (k,x)∧H b=some (.tup (k.map kV))∧H'=upd H p (.tup [.ref b,x]),
  λi H=>H a=some (.frz o (.dT kvs))∧kvs.length<=i⟩
section
variable {X:Cx}
def JW (X:Cx)(td:TE):TI:=λσ H R=>td σ H λx H1=>∃a kvs,x=.ref a∧Rd H1 a (.dT kvs)∧∀o,Thw X H1 a o kvs->R (Itd a o kvs) (upd H1 a (.frz o (.dT kvs)))
end
end L2
namespace L2
open PySem PySem.Spec PyProof.Rows
section
variable {X:Cx}{elt iter cnd:Expr}{x z:Str}{px pz:Pos}{tk:Nat}{tpos:Pos}{fv:List (Nat×Str)}{scope:Scope}{cl:List (Str×Addr)}{pos:Pos}{te:TE}{tt:TT}{wi:TI}
def C0 (K:PySem.W.Frag)(J:It)(fv:List (Nat×Str))(tt:TT)(te:TE)(Q:VK)(σ:St)(H1:Hp)(D:Addr):Prop:=∃W:Nat->Nat->Hp->Prop,(∃m,W 0 m (upd H1 D (.lst [])))∧∀i m H,W i m H->
 (J.stop i H∧Q (.ref D) H)∨(J.go i H∧∃N:Hp->Prop,(∀H',N H'->∃m',m'<m∧W (i+1) m' H')∧∀v H',J.yld i H v H'->∃q x1 x2,v=.ref q∧SqT K H' q [x1,x2]∧tt (dh fv σ (some x1) (some x2)) H' λb Hb=>if b=true then te (dh fv σ (some x1) (some x2)) Hb λy H2=>∃ys,H2 D=some (.lst ys)∧ys.length<sizeLine∧N (upd H2 D (.lst (ys++[y]))) else N Hb)
def JX (K:PySem.W.Frag)(fv:List (Nat×Str))(wi:TI)(tt:TT)(te:TE):TE:=λσ H Q=>wi σ H λJ H1=>∀D,H1 D=none->C0 K J fv tt te Q σ H1 D
theorem p6 {K:PySem.W.Frag}{σ:St}{H:Hp}{Q:VK}:JX K fv wi tt te σ H Q=wi σ H λJ H1=>∀D,H1 D=none->C0 K J fv tt te Q σ H1 D:=rfl
end
end L2
namespace L2
open PySem PySem.Spec PyProof.Rows
section
variable {X:Cx}{RQ:List (Addr×Obj)}{σ:St}{H:Hp}{s:Shared}{A:Around}{E:Value->Shared->Prop}
def C2 (ks:List (List Key×Addr×V))(kvs:List (List Key×V)):List (List Key×V):=ks.foldl (λa x=>gh a x.1 x.2.2) kvs
def JY (trs:List (TE×TE)):TE:=λσ H Q=>∀p,H p=none->jZ trs σ (upd H p (.dT [])) λps H2=>H2 p=some (.dT [])∧∃ks:List (List Key×Addr×V),ps=ks.map (λx=>(V.ref x.2.1,x.2.2))∧(∀x∈ks,H2 x.2.1=some (.tup (x.1.map kV)))∧ks.length<=15∧Q (.ref p) (upd H2 p (.dT (C2 ks [])))
end
end L2
namespace L2
open PySem PySem.Spec PyProof.Rows
section
variable {X:Cx}{td ty tv tx to:TE}{σ:St}{H:Hp}{Q:VK}{D:Ends}
theorem p7:Jt td ty σ H Q=td σ H λx H1=>ty σ H1 λy H2=>∃a v,x=.ref a∧jY H2 a y (some v)∧Q v H2:=rfl
theorem p8:Ju ty td σ H Q=ty σ H λy H1=>td σ H1 λx H2=>∃a o,x=.ref a∧jY H2 a y o∧Q (.bl (!o.isSome)) H2:=rfl
theorem p9:Jv td ty tv D σ H=tv σ H λv H1=>td σ H1 λx H2=>ty σ H2 λy H3=>∃a H4,x=.ref a∧CL H3 a y v H4∧D.nx σ H4:=rfl
theorem p_:Jz td ty tx σ H Q=td σ H λx H1=>∃a,x=.ref a∧IsD H1 a∧ty σ H1 λy H2=>tx σ H2 λz H3=>∃o,jY H3 a y o∧Q (o.getD z) H3:=rfl
theorem qc:Jx σ H Q=∀p,H p=none->Q (.ref p) (upd H p (.dT [])):=rfl
theorem qd {trs:List (TE×TE)}:JY trs σ H Q=∀p,H p=none->jZ trs σ (upd H p (.dT [])) λps H2=>H2 p=some (.dT [])∧∃ks:List (List Key×Addr×V),ps=ks.map (λx=>(V.ref x.2.1,x.2.2))∧(∀x∈ks,H2 x.2.1=some (.tup (x.1.map kV)))∧ks.length<=15∧Q (.ref p) (upd H2 p (.dT (C2 ks []))):=rfl
theorem qe {R:List (V×V)->Hp->Prop}:jZ [] σ H R=R [] H:=rfl
theorem qf {r:List (TE×TE)}{R:List (V×V)->Hp->Prop}:jZ ((td,tv) :: r) σ H R=td σ H λx H1=>tv σ H1 λy H2=>jZ r σ H2 λps H3=>R ((x,y) :: ps) H3:=rfl
theorem qg {R:It->Hp->Prop}:JW X td σ H R=td σ H λx H1=>∃a kvs,x=.ref a∧Rd H1 a (.dT kvs)∧∀o,Thw X H1 a o kvs->R (Itd a o kvs) (upd H1 a (.frz o (.dT kvs))):=rfl
end
end L2
namespace L2
open PySem PySem.Spec PyProof.Rows
def Itk (a:Addr)(o:Obj)(kvs:List (List Key×V)):It:=
 ⟨λi H=>H a=some (.frz o (.dT kvs))∧i<kvs.length,λi H v H'=>∃b k x,H'=H∧v=.ref b∧kvs[i]?=some (k,x)∧H b=some (.tup (k.map kV)),λi H=>H a=some (.frz o (.dT kvs))∧kvs.length<=i⟩
section
variable {X:Cx}
def JZ (X:Cx)(td:TE):TI:=λσ H R=>td σ H λx H1=>∃a kvs,x=.ref a∧Rd H1 a (.dT kvs)∧∀o,Thw X H1 a o kvs->R (Itk a o kvs) (upd H1 a (.frz o (.dT kvs)))
end
theorem qh {X:Cx}{td:TE}{σ:St}{H:Hp}{R:It->Hp->Prop}:JZ X td σ H R=td σ H λx H1=>∃a kvs,x=.ref a∧Rd H1 a (.dT kvs)∧∀o,Thw X H1 a o kvs->R (Itk a o kvs) (upd H1 a (.frz o (.dT kvs))):=rfl
end L2
namespace L2
open PySem PySem.Spec PyProof.Rows
section
variable {K:PySem.W.Frag}{C:Addr}{m f:Str}{sp:Sp}{dvs:List V}{E:XK}{ta tv:TE}{t:TA}{σ:St}{H:Hp}{Q:VK}{D:Ends}
theorem qi:vD K ta f σ H Q=ta σ H λx H1=>∃a C dx fs v,x=.ref a∧H1 a=some (.ins C dx fs)∧Cls K C∧NoAttr K C f∧fs.lookup f=some v∧Q v H1:=rfl
theorem qj:BZ K ta tv f D σ H=tv σ H λy H1=>ta σ H1 λx H2=>∃a C dx fs,x=.ref a∧H2 a=some (.ins C dx fs)∧Cls K C∧NoAttr K C f∧fs.length<1000∧D.nx σ (upd H2 a (.ins C dx (aJ f y fs))):=rfl
theorem qk:B8 C m sp dvs E ta t σ H Q=ta σ H λx H1=>∃a dx fs,x=.ref a∧H1 a=some (.ins C dx fs)∧fs.lookup m=none∧t σ H1 λvs H2=>sp (x :: (vs++dvs)) H2 Q E:=rfl
theorem ql:B9 C sp dvs E t σ H Q=t σ H λvs H1=>∀x dx,H1 x=none->H1 dx=none->dx≠x->sp (.ref x :: (vs++dvs)) (upd (upd H1 dx (.own x)) x (.ins C dx [])) (λv H2=>v=.non∧Q (.ref x) H2) E:=rfl
end
end L2
namespace L2
open PySem PySem.Spec PyProof.Rows
def J0 (fv:List (Nat×Str))(σ:St)(v v2 v3:Option V):St:=v :: v2 :: v3 :: fv.map λp=>(σ[p.1]?).getD none
section
variable {X:Cx}{elt iter:Expr}{x z z3:Str}{px pz p3:Pos}{tk:Nat}{tpos:Pos}{fv:List (Nat×Str)}{scope:Scope}{cl:List (Str×Addr)}{pos:Pos}{te:TE}{wi:TI}
def C3 (K:PySem.W.Frag)(J:It)(fv:List (Nat×Str))(te:TE)(Q:VK)(σ:St)(H1:Hp)(D:Addr):Prop:=∃W:Nat->Nat->Hp->Prop,(∃m,W 0 m (upd H1 D (.lst [])))∧∀i m H,W i m H->
 (J.stop i H∧Q (.ref D) H)∨(J.go i H∧∃N:Hp->Prop,(∀H',N H'->∃m',m'<m∧W (i+1) m' H')∧∀v H',J.yld i H v H'->∃q x1 x2 x3,v=.ref q∧SqT K H' q [x1,x2,x3]∧te (J0 fv σ (some x1) (some x2) (some x3)) H' λy H2=>∃ys,H2 D=some (.lst ys)∧ys.length<sizeLine∧N (upd H2 D (.lst (ys++[y]))))
def J3 (K:PySem.W.Frag)(fv:List (Nat×Str))(wi:TI)(te:TE):TE:=λσ H Q=>wi σ H λJ H1=>∀D,H1 D=none->C3 K J fv te Q σ H1 D
theorem qm {K:PySem.W.Frag}{σ:St}{H:Hp}{Q:VK}:J3 K fv wi te σ H Q=wi σ H λJ H1=>∀D,H1 D=none->C3 K J fv te Q σ H1 D:=rfl
end
def C4 (K:PySem.W.Frag)(a b c:Addr):It:=
 ⟨λi H=>∃xs ys zs x y v,SqT K H a xs∧SqT K H b ys∧SqT K H c zs∧xs[i]?=some x∧ys[i]?=some y∧zs[i]?=some v,
  λi H v H'=>∃p x y u,H p=none∧v=.ref p∧H'=upd H p (.tup [x,y,u])∧(∀xs,SqT K H a xs->xs[i]?=some x)∧(∀ys,SqT K H b ys->ys[i]?=some y)∧∀zs,SqT K H c zs->zs[i]?=some u,
  λi H=>∃xs,SqT K H a xs∧xs.length<=i⟩
section
variable {X:Cx}
def J4 (K:PySem.W.Frag)(ta:TA):TI:=λσ H R=>ta σ H λvs H1=>∃a b c xs ys zs,vs=[.ref a,.ref b,.ref c]∧SqT K H1 a xs∧SqT K H1 b ys∧SqT K H1 c zs∧R (C4 K a b c) H1
theorem qo {K:PySem.W.Frag}{ta:TA}{σ:St}{H:Hp}{R:It->Hp->Prop}:J4 K ta σ H R=ta σ H λvs H1=>∃a b c xs ys zs,vs=[.ref a,.ref b,.ref c]∧SqT K H1 a xs∧SqT K H1 b ys∧SqT K H1 c zs∧R (C4 K a b c) H1:=rfl
end
section
variable {X:Cx}
def J5 (C:Addr):TE:=λ_ H Q=>∀x dx,H x=none->H dx=none->dx≠x->Q (.ref x) (upd (upd H dx (.own x)) x (.ins C dx []))
theorem qp {C:Addr}{σ:St}{H:Hp}{Q:VK}:J5 C σ H Q=∀x dx,H x=none->H dx=none->dx≠x->Q (.ref x) (upd (upd H dx (.own x)) x (.ins C dx [])):=rfl
end
theorem qq {x y:Str}{H:Hp}{Q:VK}:rEq (.str x) (.str y) H Q=Q (.bl (decide (x=y))) H:=by
 unfold rEq;simp[vw]
end L2
namespace L2
open PySem PySem.Spec PyProof.Rows
theorem qr {x:V}{vs:List V}{H:Hp}{Q:VK}:Cu x vs H Q=∃l b xs zs,x=.ref l∧vs=[.ref b]∧H l=some (.lst xs)∧H b=some (.lst zs)∧xs.length+zs.length<=sizeLine∧Q .non (upd H l (.lst (xs++zs))):=rfl
end L2
namespace L2
open PySem PySem.Spec PyProof.Rows
@[reducible] def fu (X:Cx) (x:Str) (fv:List (Nat×Str)) (scope:Scope) (cl:List (Str×Addr)) (C:Addr) (s:Shared) (H:Hp) (fp:List Addr):Cx:=
 { blk X x fv scope cl C s H fp with env:={ compEnvC scope cl C X.env with cells:=(x,C+1) :: cl },fn:=λy=>y == x }
structure BlkOkC (X:Cx)(x:Str)(fv:List (Nat×Str))(scope:Scope)(cl:List (Str×Addr)):Prop where
 clos:closureFor scope X.env=pure cl
 one:∀n,cellsFrom n scope.names cl=(x,n) :: cl
 push:∀h,pushCells h scope.names=h.push { cls:=.type "cell",data:=.cell none }
 kind:scope.kind=.function
 names:∀y∈scope.names,y.2=.local->scope.names.lookup y.1=some .local
 here:(relabel scope X.env).names.lookup x=some .cell
 sub:∀y c,cl.lookup y=some c->X.env.cells.lookup y=some c
 has:∀y,y≠x->((relabel scope X.env).names.lookup y=some .cell∨(relabel scope X.env).names.lookup y=some .free)->∃c,cl.lookup y=some c
 nd:(x :: fv.map (·.2)).Nodup
 fvs:∀p∈fv,p.2≠x∧X.N[p.1]?=some p.2∧(X.env.scope.names.lookup p.2=some .cell∨X.env.scope.names.lookup p.2=some .free)∧
  ((relabel scope X.env).names.lookup p.2=some .cell∨(relabel scope X.env).names.lookup p.2=some .free)∧∃c,cl.lookup p.2=some c
theorem iE {x y:Str}{n c:Addr}{cl:List (Str×Addr)}(h:((x,n) :: cl).lookup y=some c):(y=x∧c=n)∨(y≠x∧cl.lookup y=some c):=by
 rw[xy]at h
 cases e:y == x with
 | true=>rw[e]at h;cases h;exact .inl ⟨eq_of_beq e,rfl⟩
 | false=>rw[e]at h;exact .inr ⟨λz=>by rw[z]at e;simp at e,h⟩
theorem C5 {x y:Str}{n c:Addr}{cl:List (Str×Addr)}(ne:y≠x)(h:cl.lookup y=some c):((x,n) :: cl).lookup y=some c:=by
 rw[xy,show (y == x)=false by simpa using ne];exact h
theorem J7 {x:Str}{n:Addr}{cl:List (Str×Addr)}:((x,n) :: cl).lookup x=some n:=by
 rw[xy,show (x == x)=true by simp]
section
variable {X:Cx}{elt iter:Expr}{x:Str}{px:Pos}{fv:List (Nat×Str)}{scope:Scope}{cl:List (Str×Addr)}{pos:Pos}{te:TE}{wi:TI}
theorem J8 {RQ:List (Addr×Obj)}{σ:St}{H:Hp}{s:Shared}{fp:List Addr}{C:Addr}(B:BlkOkC X x fv scope cl)(I:Inv X RQ σ H s)(hf:∀b∈fp,cL X RQ H b)(hC:s.heap.objs.size<=C)(hfC:∀b∈fp,b≠C)(hfD:∀b∈fp,b≠C+1):
  (fu X x fv scope cl C s H fp).Ok where
 mod:=I.ok.mod
 kind:=B.kind
 glob:=I.ok.glob
 blt:=I.ok.blt
 above:=hC
 inj:=λy z c h1 h2=>by
  have old:∀{y:Str},cl.lookup y=some (C+1)->False:=λ{y} h=>by
   obtain⟨v,o,ho,_⟩:=I.cell y _ (B.sub y _ h);exact absurd (Heap.lt_size ho) (Nat.not_lt.mpr (F1 hC))
  rcases iE h1 with ⟨rfl,rfl⟩|⟨n1,h1⟩
  ·rcases iE h2 with ⟨rfl,_⟩|⟨n2,h2⟩
   ·rfl
   ·exact (old h2).elim
  ·rcases iE h2 with ⟨_,e⟩|⟨n2,h2⟩
   ·rw[e]at h1;exact (old h1).elim
   ·exact I.ok.inj y z c (B.sub y c h1) (B.sub z c h2)
 has:=λy hy=>by
  by_cases e:y=x
  ·exact⟨C+1,by rw[e];exact J7⟩
  ·obtain⟨c,hc⟩:=B.has y e hy;exact⟨c,C5 e hc⟩
 cab:=λy c hy h=>by
  have e:y=x:=eq_of_beq hy;rcases iE h with ⟨_,rfl⟩|⟨n,_⟩
  ·exact F1 hC
  ·exact absurd e n
 hd:=I.ok.hd
 frames:=I.ok.frames
 stk:=.inl rfl
 exf:=λb hb=>⟨hfC b hb,λy c e=>by
  rcases iE e with ⟨_,rfl⟩|⟨_,e⟩
  ·exact Ne.symm (hfD b hb)
  ·exact (hf b hb).2.2.2.2.1 y c (B.sub y c e)⟩
 bs:=I.bs
 bsz:=aP I.ok.bsz I.sz
 noex:=λb o e hb=>by
  obtain⟨_,_,_,f3,_⟩:=hf b hb;rcases f3 with z|z
  ·exact I.ok.noex b o e z
  ·exact absurd (bZ (Heap.lt_size e) (aP I.ok.bsz z)) (ii _)
 exfs:=λb hb hs=>by
  obtain⟨_,f1,f2,_⟩:=hf b hb;rcases a_.mp (I.stkSub b hs) with z|z
  ·exact f1 z
  ·exact f2 z
 funs:=I.stack
 frf:=I.stkFree
theorem J9 {RQ:List (Addr×Obj)}{σ:St}{H:Hp}{s s4:Shared}{fp:List Addr}{C:Addr}{m:Str->Option Value}(B:BlkOkC X x fv scope cl) (I:Inv X RQ σ H s) (hf:∀b∈fp,cL X RQ H b) (hC:C=s.heap.objs.size)
  (hfC:∀b∈fp,b≠C) (hfD:∀b∈fp,b≠C+1) (os:s4.os=s.os) (gens:s4.gens=s.gens) (keep:∀b o,s.heap.get? b=some o->s4.heap.get? b=some o) (ns:s4.heap.Ns C m) (ce:s4.heap.IsCell (C+1) none):
  Inv (fu X x fv scope cl C s H fp) [] (bst fv σ none) H s4:=by
 subst hC;refine⟨J8 B I hf (am _) hfC hfD,os,by rw[gens];exact I.bare,Un.kept keep,⟨m,ns,λi y v h1 h2 h3=>?_⟩,λy c e=>?_,I.hok.fresh (am _),λy c e=>?_,λp hp=>absurd (show p∈([]:List (Addr×Obj)) from hp) (by simp),I.hok.kept keep,by simp[bst]⟩
 ·cases i with
  | zero=>simp[bst]at h2
  | succ j=>
   obtain⟨p,hp,rfl,hv⟩:=vO h1 h2;obtain⟨hne,hN,hk,hk2,c,hc⟩:=B.fvs p hp;obtain⟨m0,_,hl⟩:=I.loc;have vis:Vis X.env.scope p.2:=hk.elim (λz=>.inr (.inl z)) λz=>.inr (.inr z);obtain⟨u,r,l⟩:=hl p.1 p.2 v hN hv vis;refine⟨u,r,.inr ⟨hk2,c,C5 hne hc,?_⟩⟩;rcases l with ⟨z,_⟩|⟨_,c',hc',o,ho,hd⟩
   ·have z':X.env.scope.names.lookup p.2=some .local:=z;rcases hk with k|k <;> (rw[k]at z';cases z')
   ·have:=B.sub p.2 c hc;rw[hc']at this;cases this;exact⟨o,keep _ o ho,hd⟩
 ·rcases iE e with ⟨_,rfl⟩|⟨_,e⟩
  ·exact⟨none,ce⟩
  ·obtain⟨v,o,ho,hd⟩:=I.cell y c (B.sub y c e);exact⟨v,o,keep c o ho,hd⟩
 ·rcases iE e with ⟨_,rfl⟩|⟨_,e⟩
  ·exact I.hok.fresh (FV _)
  ·exact I.freeC y c (B.sub y c e)
theorem J_ {s:Shared}{g:Addr}{q:Str}{env:Env}{M:Model}{A:Around}{E:Value->Shared->Prop}{Q:Env->Shared->Prop}
  (one:∀n,cellsFrom n scope.names cl=(x,n) :: cl) (push:∀h,pushCells h scope.names=h.push { cls:=.type "cell",data:=.cell none })
  (h:Q { scope:=scope,locals:=s.heap.objs.size,globals:=g,cells:=(x,s.heap.objs.size+1) :: cl,qual:=q,func:=none,code:=env.code,frame:=env.frame,builtins:=env.builtins }
   { s with heap:=(s.heap.push { cls:=.type "dict",data:=.dict #[] }).push { cls:=.type "cell",data:=.cell none } }):
  wpAny M A (newFunctionEnv scope g cl [] q none .none (some env)) Q E s:=by
 simp only[newFunctionEnv,Option.isSome_some,if_true];refine wpAny_bind (wpAny_alloc ?_);refine wpAny_bind (wpAny_layCells _ (λname kind cells=>by cases hkc:kind == NameKind.cell <;> simp[hkc]) _ _ _ _ ?_);rw[show ({ s with heap:=s.heap.push { cls:=.type "dict",data:=.dict #[] } }:Shared).heap.objs.size=s.heap.objs.size+1 from Heap.size_push ..];dsimp only;rw[one,push];rw[List.forIn_nil];exact wpAny_bind (wpAny_pure (wpAny_pure h))
theorem Ka {pins':List (Addr×Obj)}{σ:St}{H H0:Hp}{s s5:Shared}{fp:List Addr}{C:Addr}{o:Option V}{v:V}{u:Value}{E:Value->Shared->Prop}{Q:Unit->Shared->Prop}(B:BlkOkC X x fv scope cl)
  (I:Inv (fu X x fv scope cl C s H0 fp) pins' (bst fv σ o) H s5) (r:RelV v u) (h:∀s6,Inv (fu X x fv scope cl C s H0 fp) pins' (bst fv σ (some v)) H s6->Q () s6):
  wpAny (model X.prog X.w) X.A (assign (.Name x px) { compEnvC scope cl C X.env with cells:=(x,C+1) :: cl } u) Q E s5:=
 wpAny_assign_Name (mJ (X:=fu X x fv scope cl C s H0 fp) (i:=0) I B.nd rfl (.inr B.here) r h (.inl (by show (x == x)=true;simp)))
end
end L2
namespace L2
open PySem PySem.Spec PyProof.Rows
section
variable {X:Cx}{elt iter:Expr}{x:Str}{px:Pos}{fv:List (Nat×Str)}{scope:Scope}{cl:List (Str×Addr)}{pos:Pos}{te:TE}{wi:TI}
theorem C6 {RQ:List (Addr×Obj)}{σ:St}{H:Hp}{s2:Shared}{it:Addr}{fp:List Addr}{tn:Nat->Heap->Prop}{J:It}{Q:VK}{E:Value->Shared->Prop}{RR:Value->Addr->Result->Shared->Prop}
  (hc:X.calm=true) (B:BlkOkC X x fv scope cl) (he:∀C s H fp,PE (fu X x fv scope cl C s H fp) elt te) (I:Inv X RQ σ H s2) (T:Turn X.prog X.w X.K (.Name x px) J fp it tn) (st:tn 0 s2.heap) (hf:∀b∈fp,cL X RQ H b)
  (rd:∀D,H D=none->∃W:Nat->Nat->Hp->Prop,(∃m,W 0 m (upd H D (.lst [])))∧∀i m H,W i m H->
   (J.stop i H∧Q (.ref D) H)∨(J.go i H∧∃N:Hp->Prop,(∀H',N H'->∃m',m'<m∧W (i+1) m' H')∧∀v H',J.yld i H v H'->te (bst fv σ (some v)) H' λy H2=>∃ys,H2 D=some (.lst ys)∧ys.length<sizeLine∧N (upd H2 D (.lst (ys++[y])))))
  (hRR:∀D C s' H' m',Inv X RQ σ H' s'->cL X RQ H' C->s'.heap.Ns C m'->Q (.ref D) H'->RR (.ref D) C (.ok .next) s'):
  wpAny (model X.prog X.w) X.A (newList []) (λacc s₃=>wpAny (model X.prog X.w) X.A (newFunctionEnv scope X.env.globals cl [] X.env.qual none .none (some X.env)) (λcenv s₄=>
   codeAny (model X.prog X.w) X.A (.compStart (.ListComp elt [⟨.Name x px,iter,[],0⟩] scope pos) 0 (.ref it) acc { cenv with scope:=relabel scope X.env }) (RR acc cenv.locals) s₄) E s₃) E s2:=by
 refine wpAny_newObj_type ?_ (by show 0<=sizeLine;exact aI _);have hD:H s2.heap.objs.size=none:=I.hok.fresh (am _);have I3:=I.lnew (ys:=[]) (its:=[]) (t':=s2.toks) .nil (aI _);generalize hs3:({ s2 with heap:=s2.heap.push { cls:=.type "list",data:=.seq ([]:List Value).toArray },toks:=s2.toks }:Shared)=s3 at I3;have sz3:s3.heap.objs.size=s2.heap.objs.size+1:=by rw[←hs3];exact Heap.size_push ..
 have up3:∀b o,s2.heap.get? b=some o->s3.heap.get? b=some o:=λb o e=>by rw[←hs3];exact Heap.get?_push_of_some _ e
 have hf3:∀b∈fp,cL X RQ (upd H s2.heap.objs.size (.lst [])) b:=λb hb=>by
  obtain⟨f0,r⟩:=hf b hb;refine⟨?_,r⟩;obtain⟨o,e,_⟩:=T.obj 0 _ st b hb;rw[ar (cJ (Heap.lt_size e))];exact f0
 have ltf:∀b∈fp,b<s2.heap.objs.size:=λb hb=>by
  obtain⟨o,e,_⟩:=T.obj 0 _ st b hb;exact Heap.lt_size e
 have st3:tn 0 s3.heap:=T.keep 0 _ _ st λb _ o e=>up3 b o e;obtain⟨W,⟨m0,w0⟩,turn⟩:=rd _ hD;refine J_ B.one B.push ?_;have hfC:∀b∈fp,b≠s3.heap.objs.size:=λb hb=>cJ (by rw[sz3];exact mj (ltf b hb));have hfD:∀b∈fp,b≠s3.heap.objs.size+1:=λb hb=>cJ (by rw[sz3];exact mj (mj (ltf b hb)));generalize hh1:(s3.heap.push { cls:=.type "dict",data:=.dict #[] }).push { cls:=.type "cell",data:=.cell none }=h₁;have up4:∀b o,s3.heap.get? b=some o->h₁.get? b=some o:=λb o e=>by rw[←hh1];exact Heap.get?_push_of_some _ (Heap.get?_push_of_some _ e)
 have ns4:h₁.Ns s3.heap.objs.size (λ_=>none):=by
  rw[←hh1];exact (Heap.Ns.new s3.heap (.type "dict")).keeps λb o e=>Heap.get?_push_of_some _ e
 have ce4:h₁.IsCell (s3.heap.objs.size+1) none:=by
  rw[←hh1,show s3.heap.objs.size+1=(s3.heap.push { cls:=.type "dict",data:=.dict #[] }).objs.size from (Heap.size_push ..).symm];exact⟨{ cls:=.type "cell",data:=.cell none },Heap.get?_push_size _ rfl,rfl⟩
 generalize hs4:({ s3 with heap:=h₁ }:Shared)=s4;have h4:s4.heap=h₁:=by rw[←hs4]
 have I4:Inv (fu X x fv scope cl s3.heap.objs.size s3 (upd H s2.heap.objs.size (.lst [])) fp) [] (bst fv σ none) (upd H s2.heap.objs.size (.lst [])) s4:=
  J9 B I3 hf3 rfl hfC hfD (by rw[←hs4]) (by rw[←hs4]) (λb o e=>by rw[h4];exact up4 b o e) (by rw[h4];exact ns4) (by rw[h4];exact ce4)
 have st4:tn 0 s4.heap:=by rw[h4];exact T.keep 0 _ _ st3 λb _ o e=>up4 b o e
 have stat:∀{H':Hp},(∀b∈fp,H' b=none)->∀b∈fp,cL (fu X x fv scope cl s3.heap.objs.size s3 (upd H s2.heap.objs.size (.lst [])) fp) [] H' b:=λ{H'} hn b hb=>by
  obtain⟨_,f1,f2,f3,f4,f5⟩:=hf b hb;refine⟨hn b hb,hfC b hb,λz=>?_,.inl hb,λy c e=>?_,λp hp=>absurd (show p∈([]:List (Addr×Obj)) from hp) (by simp)⟩
  ·rcases a_.mp (I.stkSub b z) with q|q
   ·exact f1 q
   ·exact f2 q
  ·rcases iE e with ⟨_,rfl⟩|⟨_,e⟩
   ·exact Ne.symm (hfD b hb)
   ·exact f4 y c (B.sub y c e)
 have loop:codeAny (model X.prog X.w) X.A (.compLoop (.ListComp elt [⟨.Name x px,iter,[],0⟩] scope pos) 0 (.ref it) (.ref s2.heap.objs.size) { compEnvC scope cl s3.heap.objs.size X.env with cells:=(x,s3.heap.objs.size+1) :: cl }) (RR (.ref s2.heap.objs.size) s3.heap.objs.size) s4:=by
  refine vN (λn s'=>∃i H' o,Inv (fu X x fv scope cl s3.heap.objs.size s3 (upd H s2.heap.objs.size (.lst [])) fp) [] (bst fv σ o) H' s'∧tn i s'.heap∧(∀b∈fp,H' b=none)∧W i n H') ?_ m0
   ⟨0,_,none,I4,st4,λb hb=>(hf3 b hb).1,w0⟩
  rintro n s5 E' ⟨i,H5,o5,I5,st5,fr5,w5⟩
  rcases turn i n H5 w5 with ⟨stop,q⟩|⟨go,N,hN,step⟩
  ·refine thn (T.done (fu X x fv scope cl s3.heap.objs.size s3 (upd H s2.heap.objs.size (.lst [])) fp) rfl rfl rfl hc i [] s5 _ H5 _ I5 (stat fr5) st5 stop) λr s6 ⟨hr,I6⟩=>?_;subst hr;obtain⟨m6,hn6,_⟩:=I6.loc;have un:Un (frs X.stack) fp H H5 s2.heap s6.heap:=by
    have u1:Un (frs X.stack) fp H (upd H s2.heap.objs.size (.lst [])) s2.heap s3.heap:=Un.laid up3 (am _) hD;exact u1.trans I6.base
   have J6:Inv X RQ σ H5 s6:=by
    refine I.call' ?_ un I6.hok I6.bare λb hb=>?_
    ·have:=I6.os;rw[show (fu X x fv scope cl s3.heap.objs.size s3 (upd H s2.heap.objs.size (.lst [])) fp).s₀.os=s2.os by rw[←hs3]]at this;exact this
    ·obtain⟨_,f1,f2,f3,f4,f5⟩:=hf b hb;exact⟨f3,f1,f4,f5⟩
   refine hRR _ _ s6 H5 m6 J6 ?_ hn6 q;exact I3.fpOk (am _) I6.free
  ·refine thn (T.item (fu X x fv scope cl s3.heap.objs.size s3 (upd H s2.heap.objs.size (.lst [])) fp) rfl rfl rfl hc i [] s5 _ H5 _ I5 (stat fr5) st5 go) λr s6 ⟨u,hr,h6⟩=>?_;subst hr;refine thn h6 λ_ s7 ⟨v,H7,I7,r7,y7,st7,fr7⟩=>?_;have I7':=I7.pinned (stat fr7) (T.obj _ _ st7);refine Ka B I7' r7 λs8 I8=>?_;have e8:=he _ _ _ _ _ s8 _ H7 _ I8 (step v H7 y7);refine wpAny_mono e8 (λy s9 ⟨yv,H9,I9,r9,ys,hD9,hz,n9⟩=>?_) λ_ _ z=>False.elim z;have a9:=fM (X:=fu X x fv scope cl s3.heap.objs.size s3 (upd H s2.heap.objs.size (.lst [])) fp) _ s9 _ H9 (.ref s2.heap.objs.size) [yv] (.ref s2.heap.objs.size) [y] (λ_ H10=>H10=upd H9 s2.heap.objs.size (.lst (ys++[yv]))) I9 rfl (.cons r9 .nil)
    ⟨_,ys,yv,rfl,rfl,hD9,hz,rfl⟩
   refine wpAny_mono a9 (λ_ s10 ⟨_,H10,I10,_,e10⟩=>?_) λ_ _ z=>False.elim z;subst e10;obtain⟨m',hm,w9⟩:=hN _ n9;refine⟨m',hm,i+1,_,some v,I10.unpinned,T.keep _ _ _ st7 λb hb o e=>(I10.pin (b,o) (cX _ (cX _ (gd hb e)))).1,λb hb=>?_,w9⟩;obtain⟨o,e,_⟩:=T.obj _ _ st7 b hb;exact (I10.pin (b,o) (cX _ (cX _ (gd hb e)))).2.1
 exact codeAny_compStart_list loop (T.self _ 0 _ _ _ st4 loop)
theorem wf {i:Nat}{y:Str}{py spos:Pos}(hc:X.calm=true) (B:BlkOkC X x fv scope cl) (hi:PI X (.Name x px) iter wi) (he:∀C s H fp,PE (fu X x fv scope cl C s H fp) elt te)
  (hN:X.N.Nodup) (hiy:X.N[i]?=some y) (hy:X.env.scope.names.lookup y=some .local)
  (hsw:swapsWith (.ListComp elt [⟨.Name x px,iter,[],0⟩] scope pos) (some (.Name y py)) spos.line X.env=pure true:=by rfl)
  (hs:∀v,foldedSetIterable iter X.env v=pure v:=by intro _;rfl):
  PS X (.Assign [.Name y py] (.ListComp elt [⟨.Name x px,iter,[],0⟩] scope pos) spos) (jh (kR fv wi te) (fU i)):=by
 intro RQ s σ H D I h;rw[exec_Assign_Name_used _ _ _ _ hsw];refine wpAny_bind (wpAny_standAt (wpAny_bind ?_));show wpAny _ X.A (do let _ ←comprehension (.ListComp elt [⟨.Name x px,iter,[],0⟩] scope pos) scope X.env _ (newList []) false (eval iter X.env) (some (assign (.Name y py) X.env))) _ _ s;refine wpAny_bind (wpAny_mono (wpAny_comprehension_free (use:=some (assign (.Name y py) X.env)) (Q:=λ_ s'=>SP X RQ D .next s') rfl hs B.clos B.kind B.names
  (thn (hi RQ s σ H _ I h) λv s1 h1=>thn h1 λitv s2 h2=>?_)) (λ_ s' hq=>wpAny_pure (wpAny_pure hq)) λ_ _ e=>e)
 obtain⟨it,fp,tn,J,H2,e,I2,T,st2,f2,rd⟩:=h2;subst e;refine C6 (Q:=λx H1=>fU i x σ H1 D.nx) (RR:=λacc C=>compPost (model X.prog X.w) X.A X.xe (some (assign (.Name y py) X.env)) (λ_ s'=>SP X RQ D .next s') acc C) hc B he I2 T st2 f2 rd ?_;intro Dl C s' H' m' I' fC hn q;show wpAny _ X.A (assign (.Name y py) X.env (.ref Dl)) _ _ _;refine wpAny_assign_Name (kH I' hN hiy (.inl hy) (v:=.ref Dl) rfl (λs'' I'' hab=>?_) (.inr hy));obtain⟨a,sb,ha⟩:=hab;have hCa:C≠a:=by
  rcases ha with rfl|e
  ·exact fC.2.1
  ·exact Ne.symm (fC.2.2.2.2.1 _ _ e)
 exact⟨m',hn.sameBut sb hCa,λh' sb'=>⟨_,H',I''.turned (t':=s''.toks) (λb o hb e=>(sb'.2 b hb).trans e) fC.1 fC.2.1 fC.2.2.2.1 fC.2.2.2.2.1 fC.2.2.2.2.2,q⟩⟩
theorem Kb (hc:X.calm=true) (B:BlkOkC X x fv scope cl) (hi:PI X (.Name x px) iter wi) (he:∀C s H fp,PE (fu X x fv scope cl C s H fp) elt te)
  (hs:∀v,foldedSetIterable iter X.env v=pure v:=by intro _;rfl):PE X (.ListComp elt [⟨.Name x px,iter,[],0⟩] scope pos) (kR fv wi te):=by
 intro RQ s σ H Q I h;rw[eval_ListComp];refine wpAny_comprehension_free (use:=none) rfl hs B.clos B.kind B.names (thn (hi RQ s σ H _ I h) λv s1 h1=>thn h1 λitv s2 h2=>?_);obtain⟨it,fp,tn,J,H2,e,I2,T,st2,f2,rd⟩:=h2;subst e;refine C6 (RR:=λacc C=>compPost (model X.prog X.w) X.A X.xe none (EP X RQ σ Q) acc C) hc B he I2 T st2 f2 rd ?_;intro D C s' H' m' I' fC hn q;exact⟨m',hn,λh' sb=>⟨.ref D,H',I'.turned (t':=s'.toks) (λb o hb e=>(sb.2 b hb).trans e) fC.1 fC.2.1 fC.2.2.2.1 fC.2.2.2.2.1 fC.2.2.2.2.2,rfl,q⟩⟩
theorem qt (clos:closureFor scope X.env=pure cl) (sub:∀y c,cl.lookup y=some c->X.env.cells.lookup y=some c) (fvs:kT X x scope cl fv)
  (one:∀n,cellsFrom n scope.names cl=(x,n) :: cl:=by intro _;rfl) (push:∀h,pushCells h scope.names=h.push { cls:=.type "cell",data:=.cell none }:=by intro _;rfl)
  (kind:scope.kind=.function:=by rfl) (here:(relabel scope X.env).names.lookup x=some .cell:=by rfl) (nd:(x :: fv.map (·.2)).Nodup:=by decide +kernel)
  (names:∀y∈scope.names,y.2=.local->scope.names.lookup y.1=some .local:=by decide +kernel)
  (has:((relabel scope X.env).names.all λp=>(p.2 != .cell && p.2 != .free) || (((x,0) :: cl).lookup p.1).isSome)=true:=by rfl):BlkOkC X x fv scope cl:=
 ⟨clos,one,push,kind,names,here,sub,λy ne hy=>by
  obtain⟨c,h⟩:=vQ has y hy;rcases iE h with ⟨e,_⟩|⟨_,h⟩
  ·exact absurd e ne
  ·exact⟨c,h⟩,nd,fvs⟩
end
end L2
namespace L2
open PySem PySem.Spec PyProof.Rows
theorem Kc {X:Cx}{K:PySem.W.Frag}{e:Expr}{ta:TE}{f:Str}{pos:Pos}(hK:X.K=K)(he:PE X e ta)(hb:attributeBase e f X.env (eval e X.env)=eval e X.env):PE X (.Attribute e f pos) (vD K ta f):=by subst hK;exact cU he hb
end L2
namespace L2
open PySem PySem.Spec PyProof.Rows
theorem C7 {X:Cx}{elt iter:Expr}{x z:Str}{px pz tpos pos:Pos}{tk:Nat}{fv:List (Nat×Str)}{scope:Scope}{cl:List (Str×Addr)}{te:TE}{wi:TI}{i:Nat}{y:Str}{py spos:Pos}(hc:X.calm=true) (B:BlkOk2 X x z fv scope cl) (hi:PI X (.Tuple [.Name x px,.Name z pz] tk tpos) iter wi) (he:∀C s H fp,PE (fW X x z fv scope cl C s H fp) elt te)
  (hN:X.N.Nodup) (hiy:X.N[i]?=some y) (hy:X.env.scope.names.lookup y=some .local)
  (hsw:swapsWith (.ListComp elt [⟨.Tuple [.Name x px,.Name z pz] tk tpos,iter,[],0⟩] scope pos) (some (.Name y py)) spos.line X.env=pure true:=by rfl)
  (hs:∀v,foldedSetIterable iter X.env v=pure v:=by intro _;rfl):
  PS X (.Assign [.Name y py] (.ListComp elt [⟨.Tuple [.Name x px,.Name z pz] tk tpos,iter,[],0⟩] scope pos) spos) (jh (CS X.K fv wi te) (fU i)):=by
 intro RQ s σ H D I h;rw[exec_Assign_Name_used _ _ _ _ hsw];refine wpAny_bind (wpAny_standAt (wpAny_bind ?_));show wpAny _ X.A (do let _ ←comprehension (.ListComp elt [⟨.Tuple [.Name x px,.Name z pz] tk tpos,iter,[],0⟩] scope pos) scope X.env _ (newList []) false (eval iter X.env) (some (assign (.Name y py) X.env))) _ _ s;refine wpAny_bind (wpAny_mono (wpAny_comprehension_free (use:=some (assign (.Name y py) X.env)) (Q:=λ_ s'=>SP X RQ D .next s') rfl hs B.clos B.kind B.names
  (thn (hi RQ s σ H _ I h) λv s1 h1=>thn h1 λitv s2 h2=>?_)) (λ_ s' hq=>wpAny_pure (wpAny_pure hq)) λ_ _ e=>e)
 obtain⟨it,fp,tn,J,H2,e,I2,T,st2,f2,rd⟩:=h2;subst e;refine JO (Q:=λx H1=>fU i x σ H1 D.nx) (RR:=λacc C=>compPost (model X.prog X.w) X.A X.xe (some (assign (.Name y py) X.env)) (λ_ s'=>SP X RQ D .next s') acc C) hc B he I2 T st2 f2 rd ?_;intro Dl C s' H' m' I' fC hn q;show wpAny _ X.A (assign (.Name y py) X.env (.ref Dl)) _ _ _;refine wpAny_assign_Name (kH I' hN hiy (.inl hy) (v:=.ref Dl) rfl (λs'' I'' hab=>?_) (.inr hy));obtain⟨a,sb,ha⟩:=hab;have hCa:C≠a:=by
  rcases ha with rfl|e
  ·exact fC.2.1
  ·exact Ne.symm (fC.2.2.2.2.1 _ _ e)
 exact⟨m',hn.sameBut sb hCa,λh' sb'=>⟨_,H',I''.turned (t':=s''.toks) (λb o hb e=>(sb'.2 b hb).trans e) fC.1 fC.2.1 fC.2.2.2.1 fC.2.2.2.2.1 fC.2.2.2.2.2,q⟩⟩
end L2
namespace L2
open PySem PySem.Spec PyProof.Rows
def C8:V->List V->Hp->VK->Prop:=λx vs H Q=>∃a kvs k v,x=.ref a∧vs=[kV k,v]∧H a=some (.dK kvs)∧kvs.length<=900∧(∀u,eo kvs k=some u->Q u H)∧(eo kvs k=none->Q v (upd H a (.dK (gh kvs k v))))
theorem qu {x:V}{vs:List V}{H:Hp}{Q:VK}:C8 x vs H Q=∃a kvs k v,x=.ref a∧vs=[kV k,v]∧H a=some (.dK kvs)∧kvs.length<=900∧(∀u,eo kvs k=some u->Q u H)∧(eo kvs k=none->Q v (upd H a (.dK (gh kvs k v)))):=rfl
theorem Kd {X:Cx}:MtM X "dict.setdefault" C8:=by
 intro RQ s σ H x vs v us Q I rx rv h;obtain⟨a,kvs,k,y,rfl,rfl,e,l9,q1,q2⟩:=h
 cases rx
 cases rv with
 | cons r1 rr=>
  cases rr with
  | cons r2 rr=>
   cases rr
   rename_i u1 u2;obtain⟨z,hd,ws,rel,dd⟩:=Jq I.hok e;refine call_meetsIn PySem.F.slot_dict_setdefault dd.typeIs PySem.F.entry_dict_setdefault (PySem.F.args_dict_setdefault_3 _ _ _) (kt_meets_setdefault (iw X.prog X.w) a (Jm r1) hd u2)
    ⟨ws,dd,by rw[←rel.length];exact z,λw' hw=>?_,λhn h' dd' hs=>?_⟩
   ·have hr:=rel.val k;rw[hw]at hr;obtain⟨v',hv,rv'⟩:∃v',eo kvs k=some v'∧RelV v' w':=by
     cases hv:eo kvs k with
     | none=>rw[hv]at hr;exact hr.elim
     | some v'=>rw[hv]at hr;exact⟨v',rfl,hr⟩
    exact⟨v',H,I.tok _,rv',q1 v' hv⟩
   ·have hn2:eo kvs k=none:=by
     have hr:=rel.val k;rw[hn]at hr
     cases hv:eo kvs k with
     | none=>rfl
     | some v'=>rw[hv]at hr;exact hr.elim
    have hl:(gh kvs k y).length<=sizeLine:=by
     have:=Jk kvs k y;exact b5 (bC (by omega))
    have he:∃q,h'.get? a=some q:=let ⟨q,_,_,hq,_⟩:=dd';⟨q,hq⟩
    exact⟨y,_,Jr I (by rw[e];exact True.intro) hs he (Js hl hd (rel.put k r2) dd'),r2,q2 hn2⟩
theorem qx {σ:St}{H:Hp}{Q:VK}:CM σ H Q=∀p,H p=none->Q (.ref p) (upd H p (.dK [])):=rfl
theorem qy {K:PySem.W.Frag}{ta tv:TE}{rd:V->V->Hp->VK->Prop}{f:Str}{D:Ends}{σ:St}{H:Hp}:B3 K ta tv rd f D σ H=ta σ H λx H1=>∃a C dx fs v,x=.ref a∧H1 a=some (.ins C dx fs)∧Cls K C∧NoAttr K C f∧fs.lookup f=some v∧
 tv σ H1 λy H2=>rd v y H2 λz H3=>∃dx' fs',H3 a=some (.ins C dx' fs')∧fs'.length<1000∧D.nx σ (upd H3 a (.ins C dx' (aJ f z fs'))):=rfl
theorem qz {x y:V}{H:Hp}{Q:VK}:B4 x y H Q=∃i j,x=.int i∧y=.int j∧Q (.int (i+j)) H:=rfl
end L2
namespace L2
open PySem PySem.Spec PyProof.Rows
def Ke (K:PySem.W.Frag)(t:TGs):TG:=λv σ H Q=>∃a x y,v=.ref a∧SqL K H a [x,y]∧t [x,y] σ H Q
theorem qA {K:PySem.W.Frag}{t:TGs}{v:V}{σ:St}{H:Hp}{Q:St->Hp->Prop}:Ke K t v σ H Q=∃a x y,v=.ref a∧SqL K H a [x,y]∧t [x,y] σ H Q:=rfl
end L2
namespace My
def aF (xs:List Int):List Int:=(xs.reverse.dropWhile (· == 0)).reverse
theorem Kf:aF []=[]:=rfl
theorem wg (xs:List Int):aF (xs++[0])=aF xs:=by
 unfold aF;rw[Nf];rfl
theorem wj (xs:List Int){a:Int}(h:a≠0):aF (xs++[a])=xs++[a]:=by
 unfold aF;rw[Nf];have:([a].reverse++xs.reverse).dropWhile (· == 0)=a :: xs.reverse:=by
  show (a :: xs.reverse).dropWhile (· == 0)=_;rw[List.dropWhile_cons];simp[h]
 rw[this];simp
def co (xs:List Int)(k:Nat):Int:=xs.getD k 0
theorem gi (k:Nat):co [] k=0:=rfl
theorem ay {xs:List Int}{k:Nat}(h:xs.length<=k):co xs k=0:=by
 unfold co;rw[av,gz h];rfl
theorem aE {xs:List Int}{k:Nat}(h:k<xs.length):co xs k=xs[k]:=by
 unfold co;rw[av,aj h];rfl
theorem j1 (xs:List Int)(a:Int)(k:Nat):co (xs++[a]) k=if k=xs.length then a else co xs k:=by
 by_cases h:k<xs.length
 ·rw[if_neg (by omega)];unfold co;rw[av,av,b_ h]
 ·by_cases h2:k=xs.length
  ·subst h2;rw[if_pos rfl];unfold co;rw[av,dz (am _)];simp
  ·rw[if_neg h2,ay (by simp;omega),ay (by omega)]
theorem kY {P:List Int->Prop}(h0:P [])(h1:∀xs a,P xs->P (xs++[a]))(xs:List Int):P xs:=by
 have:∀ys:List Int,P ys.reverse:=λys=>by
  induction ys with
  | nil=>exact h0
  | cons a r ih=>rw[List.reverse_cons];exact h1 _ _ ih
 have:=this xs.reverse
 rwa [List.reverse_reverse]at this
theorem cP (xs:List Int)(k:Nat):co (aF xs) k=co xs k:=by
 refine kY (P:=λxs=>co (aF xs) k=co xs k) rfl (λxs a ih=>?_) xs;by_cases h:a=0
 ·subst h;rw[wg,ih,j1];by_cases h2:k=xs.length
  ·rw[if_pos h2,ay (by omega)]
  ·rw[if_neg h2]
 ·rw[wj _ h]
def Nml (xs:List Int):Prop:=∀a ys,xs=ys++[a]->a≠0
theorem cC (xs:List Int):Nml (aF xs):=by
 refine kY (P:=λxs=>Nml (aF xs)) (λa ys h=>?_) (λxs a ih=>?_) xs
 ·rw[Kf]at h;simp at h
 ·by_cases h:a=0
  ·subst h;rw[wg];exact ih
  ·rw[wj _ h];intro b ys e;have:=List.append_inj' e rfl;have e2:a=b:=by simpa using this.2
   rw[←e2];exact h
theorem qB {xs:List Int}(h:Nml xs):aF xs=xs:=by
 rcases xD xs with rfl|⟨ys,a,rfl⟩
 ·rfl
 ·rw[xE]at *;exact wj _ (h a ys rfl)
theorem gZ {xs:List Int}(h:Nml xs){n:Nat}(hz:∀k,n<=k->co xs k=0):xs.length<=n:=by
 rcases xD xs with rfl|⟨ys,a,rfl⟩
 ·exact aI _
 ·rw[xE]at *;have ha:=h a ys rfl;by_cases hn:(ys++[a]).length<=n
  ·exact hn
  ·have:=hz ys.length (by simp at hn;omega);rw[j1,if_pos rfl]at this;exact absurd this ha
theorem wk {xs ys:List Int}(hl:xs.length=ys.length)(h:∀k,k<xs.length->co xs k=co ys k):xs=ys:=by
 refine gJ hl λk h1 h2=>?_;have:=h k h1;rw[aE h1,aE h2]at this;exact this
theorem gj {xs ys:List Int}(hx:Nml xs)(hy:Nml ys)(h:∀k,co xs k=co ys k):xs=ys:=by
 have l1:xs.length<=ys.length:=gZ hx λk hk=>by rw[h,ay hk]
 have l2:ys.length<=xs.length:=gZ hy λk hk=>by rw[←h,ay hk]
 exact wk (by omega) λk _=>h k
theorem C9 {xs ys:List Int}(h:∀k,co xs k=co ys k):aF xs=aF ys:=
 gj (cC _) (cC _) λk=>by rw[cP,cP,h]
theorem kZ (xs:List Int):(aF xs).length<=xs.length:=gZ (cC _) λk hk=>by rw[cP,ay hk]
theorem C_ {xs:List Int}{n:Nat}(hn:n<=xs.length)(hz:∀k,n<=k->co xs k=0)(he:n=0∨co xs (n-1)≠0):aF xs=xs.take n:=by
 have c:∀k,co (xs.take n) k=co xs k:=λk=>by
  by_cases hk:k<n
  ·unfold co;rw[av,av,FX hk]
  ·rw[ay (by simp;omega),hz k (by omega)]
 have nm:Nml (xs.take n):=λa ys e=>by
  have hl:ys.length+1=n:=by
   have:=congrArg ij e;rw[b6,bM,rF]at this;omega
  rcases he with h0|h0
  ·omega
  ·have:=c (n-1);rw[e,j1,if_pos (by omega)]at this;rw[this];exact h0
 exact gj (cC _) nm λk=>by rw[cP,c]
end My
namespace My
def az:Nat->(Nat->Int)->Int
 | 0,_=>0
 | n+1,f=>az n f+f n
theorem cQ {n:Nat}{f g:Nat->Int}(h:∀j,j<n->f j=g j):az n f=az n g:=by
 induction n with
 | zero=>rfl
 | succ n ih=>simp only[az];rw[ih λj hj=>h j (by omega),h n (by omega)]
theorem fX {n:Nat}{f:Nat->Int}(h:∀j,j<n->f j=0):az n f=0:=by
 induction n with
 | zero=>rfl
 | succ n ih=>simp only[az];rw[ih λj hj=>h j (by omega),h n (by omega)];rfl
def cz (xs:List Int)(k j:Nat):Int:=if j<=k then co xs (k-j) else 0
def cv (one RS:List Int)(l k:Nat):Int:=az l λj=>co one j*cz RS k j
def dI (one RS:List Int):List Int:=aF ((aD (one.length+RS.length)).map λk=>cv one RS one.length k)
theorem j2 (n:Nat)(f:Nat->Int)(k:Nat):co ((aD n).map f) k=if k<n then f k else 0:=by
 by_cases h:k<n
 ·rw[if_pos h,aE (by simpa using h)];simp
 ·rw[if_neg h,ay (by simp;omega)]
theorem wl (one RS:List Int)(k:Nat)(h:one.length+RS.length<=k+1):cv one RS one.length k=0:=
 fX λj hj=>by
  unfold cz;rw[if_pos (by omega),ay (xs:=RS) (by omega),c_]
theorem Kg (one RS ans:List Int)(h:∀k,co ans k=if k+1<one.length+RS.length then cv one RS one.length k else 0):aF ans=dI one RS:=by
 refine C9 λk=>?_;rw[h,j2];by_cases h1:k+1<one.length+RS.length
 ·rw[if_pos h1,if_pos (by omega)]
 ·rw[if_neg h1];by_cases h2:k<one.length+RS.length
  ·rw[if_pos h2,wl _ _ _ (by omega)]
  ·rw[if_neg h2]
def fg (one RS:List Int):List Int:=aF ((aD (max one.length RS.length)).map λk=>co one k+co RS k)
theorem Kh (one RS ans:List Int)(h:∀k,co ans k=co one k+co RS k):aF ans=fg one RS:=by
 refine C9 λk=>?_;rw[h,j2];by_cases h1:k<max one.length RS.length
 ·rw[if_pos h1]
 ·rw[if_neg h1,ay (by omega),ay (by omega)];rfl
theorem Dg (xs:List Int)(k:Nat):co (xs.map λx=>-x) k=- co xs k:=by
 by_cases h:k<xs.length
 ·rw[aE (by simpa using h),aE h];simp
 ·rw[ay (by simp;omega),ay (by omega)];rfl
theorem iX (xs:List Int)(i k:Nat)(v:Int)(h:i<xs.length):co (xs.set i v) k=if k=i then v else co xs k:=by
 by_cases hk:k<xs.length
 ·rw[aE (by simpa using hk),List.getElem_set,aE hk];by_cases e:k=i
  ·rw[if_pos e,if_pos e.symm]
  ·rw[if_neg e,if_neg (Ne.symm e)]
 ·rw[ay (by simp;omega),if_neg (by omega),ay (by omega)]
end My
namespace My
def val (n:Int):List Int->Int
 | []=>0
 | c :: r=>c+n*val n r
def hd (xs:List Int):Int:=xs.headD 0
theorem Dh:∀(xs:List Int) (M:Int),(∀n,M<n->val n xs=0)->∀x∈xs,x=0
 | [],_,_,_,h=>nomatch h
 | c :: r,M,h,x,hx=>by
  have hc:c=0:=by
   have h1:=h (max M 0+c.natAbs+1) (by omega);simp only[val]at h1;have hd:(max M 0+c.natAbs+1)∣c:=⟨-(val (max M 0+c.natAbs+1) r),by rw[rL];omega⟩
   by_cases hz:c=0
   ·exact hz
   ·have:=mv.mpr hd;have:=mw (by omega) this;omega
  have hr:∀n,max M 0<n->val n r=0:=λn hn=>by
   have h1:=h n (by omega);simp only[val,hc,f_]at h1;rcases iN.mp h1 with z|z
   ·omega
   ·exact z
  rcases a_.mp hx with rfl|hx
  ·exact hc
  ·exact Dh r _ hr x hx
theorem Di (n:Int):∀(xs ys:List Int),xs.length=ys.length->val n (i8 (· - ·) xs ys)=val n xs-val n ys
 | [],[],_=>rfl
 | x :: xs,y :: ys,h=>by
  have ih:=Di n xs ys (by simpa using h);simp only[List.zipWith_cons_cons,val,ih,xF];omega
theorem Dj:∀(xs ys:List Int),xs.length=ys.length->(∀d∈i8 (· - ·) xs ys,d=0)->xs=ys
 | [],[],_,_=>rfl
 | x :: xs,y :: ys,h,hz=>by
  have h1:=hz (x-y) (by simp);have h2:=Dj xs ys (by simpa using h) λd hd=>hz d (by simp[hd]);rw[h2,show x=y by omega]
theorem Ki {xs ys:List Int}(hl:xs.length=ys.length)(h:∀n,val n xs=val n ys):xs=ys:=
 Dj xs ys hl (Dh _ 0 λn _=>by rw[Di n xs ys hl,h n];omega)
end My
namespace My
theorem fB {xs:List Int}:Nml xs↔∀a,xs.getLast?=some a->a≠0:=by
 constructor
 ·intro h a e;rcases xD xs with rfl|⟨ys,b,rfl⟩
  ·simp at e
  ·rw[xE]at *;rw[F3]at e;rw[←Option.some.inj e];exact h b ys rfl
 ·intro h a ys e;exact h a (by rw[e,F3])
end My
namespace My
def pm (f g:Nat->Int)(k:Nat):Int:=az (k+1) λj=>f j*g (k-j)
theorem iF (n:Nat)(f g:Nat->Int):az n (λj=>f j+g j)=az n f+az n g:=by
 induction n with
 | zero=>rfl
 | succ n ih=>simp only[az];rw[ih];omega
theorem gG (n:Nat)(c:Int)(f:Nat->Int):az n (λj=>c*f j)=c*az n f:=by
 induction n with
 | zero=>simp[az]
 | succ n ih=>simp only[az];rw[ih,jE]
theorem k7 {n i:Nat}{f:Nat->Int}(hi:i<n)(h:∀j,j<n->j≠i->f j=0):az n f=f i:=by
 induction n with
 | zero=>omega
 | succ n ih=>
  simp only[az];by_cases e:i=n
  ·subst e;rw[fX λj hj=>h j (by omega) (by omega)];omega
  ·rw[ih (by omega) λj hj hne=>h j (by omega) hne,h n (by omega) (Ne.symm e)];omega
theorem k8 (f g h:Nat->Int)(k:Nat):pm f (λj=>g j-h j) k=pm f g k-pm f h k:=by
 unfold pm;have:(λj=>f j*(g (k-j)-h (k-j)))=λj=>f j*g (k-j)+(-1)*(f j*h (k-j)):=by
  funext j;rw[xF];omega
 rw[this,iF,gG];omega
theorem Kj (f g h:Nat->Int)(k:Nat):pm f (λj=>g j+h j) k=pm f g k+pm f h k:=by
 unfold pm;have:(λj=>f j*(g (k-j)+h (k-j)))=λj=>f j*g (k-j)+f j*h (k-j):=by
  funext j;rw[jE]
 rw[this,iF]
theorem k_ (f g:Nat->Int)(c:Int)(k:Nat):pm f (λj=>c*g j) k=c*pm f g k:=by
 unfold pm;have:(λj=>f j*(c*g (k-j)))=λj=>c*(f j*g (k-j)):=by
  funext j;rw[←di,dY (f j) c,di]
 rw[this,gG]
theorem Kk (f g:Nat->Int)(c:Int)(k:Nat):pm (λj=>c*f j) g k=c*pm f g k:=by
 unfold pm;rw[←gG];exact cQ λj _=>by rw[di]
theorem wm {f g:Nat->Int}(h:∀j,g j=0)(k:Nat):pm f g k=0:=fX λj _=>by rw[h];simp
theorem jq {g d:Nat->Int}{m t:Nat}(hg:∀j,m+1<=j->g j=0)(hd:∀j,t+1<=j->d j=0):pm g d (t+m)=g m*d t:=by
 unfold pm;rw[k7 (i:=m) (by omega) λj hj hne=>?_]
 ·rw[show t+m-m=t by omega]
 ·by_cases h:j<m
  ·rw[hd (t+m-j) (by omega)];simp
  ·rw[hg j (by omega)];simp
theorem li {g d:Nat->Int}{m:Nat}(hg:∀j,m+1<=j->g j=0)(h0:g m≠0)(t:Nat):∀n,(∀j,t+n<=j->d j=0)->(∀k,t+m<=k->pm g d k=0)->∀j,t<=j->d j=0
 | 0,hd,_,j,hj=>hd j (by omega)
 | n+1,hd,hz,j,hj=>by
  have top:=jq (t:=t+n) hg (λj hj=>hd j (by omega));rw[hz _ (by omega)]at top;have dn:d (t+n)=0:=by
   rcases iN.mp top.symm with z|z
   ·exact absurd z h0
   ·exact z
  exact li hg h0 t n (λj hj=>by
   by_cases e:j=t+n
   ·rw[e];exact dn
   ·exact hd j (by omega)) hz j hj
def Div (one RS q:List Int):Prop:=∀k,co one k=pm (co RS) (co q) k
theorem cN {xs:List Int}(h:Nml xs)(hne:xs≠[]):co xs (xs.length-1)≠0:=by
 rcases xD xs with rfl|⟨ys,a,rfl⟩
 ·exact absurd rfl hne
 ·rw[xE]at *;rw[show (ys++[a]).length-1=ys.length by simp,j1,if_pos rfl];exact h a ys rfl
theorem gk {xs:List Int}(j:Nat)(h:xs.length-1+1<=j):co xs j=0:=ay (by omega)
theorem Kl {one RS q r:List Int}(ho:Nml RS)(hne:RS≠[])(hq:Nml q)(hr:Nml r)(h1:Div one RS q)(h2:Div one RS r):q=r:=by
 refine gj hq hr λk=>?_;have z:=li (g:=co RS) (d:=λj=>co q j-co r j) (m:=RS.length-1) (λj hj=>gk j hj) (cN ho hne) 0 (q.length+r.length)
  (λj hj=>by show co q j-co r j=0;rw[ay (by omega),ay (by omega)];rfl) (λk _=>by rw[k8,←h1 k,←h2 k];omega) k (by omega)
 have z':co q k-co r k=0:=z;omega
theorem Km {one RS q r l:List Int}(ho:Nml RS)(hne:RS≠[])(hl:l.length+1<=RS.length)(h1:∀k,co one k=pm (co RS) (co q) k+co l k)(h2:Div one RS r):
  (∀k,co l k=0)∧∀k,co r k=co q k:=by
 have z:=li (g:=co RS) (d:=λj=>co r j-co q j) (m:=RS.length-1) (λj hj=>gk j hj) (cN ho hne) 0 (q.length+r.length)
  (λj hj=>by show co r j-co q j=0;rw[ay (by omega),ay (by omega)];rfl) (λk hk=>by
   rw[k8,←h2 k,h1 k,ay (xs:=l) (by omega)];omega)
 have e:∀k,co r k=co q k:=λk=>by
  have z':co r k-co q k=0:=z k (by omega);omega
 refine⟨λk=>?_,e⟩;have h3:=h1 k;have h4:=h2 k;have:pm (co RS) (co r) k=pm (co RS) (co q) k:=by unfold pm;exact cQ λj _=>by rw[e]
 omega
theorem wn {one RS q:List Int}(ho:Nml RS)(hne:RS≠[])(h1:Nml one)(hq:Nml q)(h:Div one RS q)(hone:one≠[]):q≠[]∧one.length+1=q.length+RS.length:=by
 have qne:q≠[]:=by
  intro z;have:=cN h1 hone;rw[h,z]at this;exact this (wm (λj=>rfl) _)
 have lq:0<q.length:=cK.mpr qne;have lo:0<RS.length:=cK.mpr hne;have l1:0<one.length:=cK.mpr hone;refine⟨qne,?_⟩;have top:=jq (g:=co RS) (d:=co q) (m:=RS.length-1) (t:=q.length-1) (λj hj=>gk j hj) (λj hj=>gk j hj);rw[←h]at top;have tne:co one (q.length-1+(RS.length-1))≠0:=by
  rw[top];intro z;rcases iN.mp z with z|z
  ·exact cN ho hne z
  ·exact cN hq qne z
 have lt:q.length-1+(RS.length-1)<one.length:=by
  by_cases hlt:q.length-1+(RS.length-1)<one.length
  ·exact hlt
  ·exact absurd (ay (by omega)) tne
 have big:one.length<=q.length-1+(RS.length-1)+1:=gZ h1 λk hk=>by
  rw[h];refine fX λj hj=>?_;by_cases hjm:j<RS.length
  ·rw[ay (xs:=q) (by omega)];simp
  ·rw[ay (xs:=RS) (by omega)];simp
 omega
structure DivAt (one RS ans rest:List Int)(low:Nat):Prop where
 la:ans.length+RS.length=one.length+1
 lr:rest.length=one.length
 eq:∀k,co one k=pm (co RS) (co ans) k+co rest k
 hi:∀k,low+(RS.length-1)<=k->co rest k=0
 lo:∀j,j<low->co ans j=0
theorem Kn {one RS:List Int}{n:Nat}(hne:RS≠[])(hn:n+RS.length=one.length+1):DivAt one RS (aL n 0) one n where
 la:=by rw[me];exact hn
 lr:=rfl
 eq:=λk=>by
  rw[wm λj=>?_]
  ·omega
  ·unfold co;rw[av,i5]
   split <;> rfl
 hi:=λk hk=>ay (by have:=cK.mpr hne;omega)
 lo:=λj _=>by
  unfold co;rw[av,i5]
  split <;> rfl
theorem Ko {one RS ans rest q:List Int}{low:Nat}(ho:Nml RS)(hne:RS≠[])(D:DivAt one RS ans rest (low+1))(hq:Div one RS q):
  co rest (low+(RS.length-1))=co RS (RS.length-1)*(co q low-co ans low):=by
 have e:∀k,co rest k=pm (co RS) (λj=>co q j-co ans j) k:=λk=>by
  have h1:=D.eq k;rw[k8,←hq k];omega
 have z:=li (g:=co RS) (d:=λj=>co q j-co ans j) (m:=RS.length-1) (λj hj=>gk j hj) (cN ho hne) (low+1) (q.length+ans.length)
  (λj hj=>by show co q j-co ans j=0;rw[ay (by omega),ay (by omega)];rfl) (λk hk=>by rw[←e];exact D.hi k (by omega))
 rw[e];exact jq (λj hj=>gk j hj) z
theorem Kq {one RS ans rest rest':List Int}{low:Nat}{f:Int}(hne:RS≠[]) (D:DivAt one RS ans rest (low+1)) (hlow:low<ans.length) (hf:f*co RS (RS.length-1)=co rest (low+(RS.length-1)))
  (hr:rest'.length=rest.length) (h:∀k,co rest' k=co rest k-if low<=k then f*co RS (k-low) else 0):DivAt one RS (ans.set low f) rest' low where
 la:=by rw[ik];exact D.la
 lr:=by rw[hr];exact D.lr
 eq:=λk=>by
  have e1:pm (co RS) (co (ans.set low f)) k=pm (co RS) (co ans) k+(if low<=k then f*co RS (k-low) else 0):=by
   have e2:(co (ans.set low f))=λj=>co ans j+if j=low then f else 0:=by
    funext j
    rw[iX _ _ _ _ hlow];by_cases e:j=low
    ·rw[if_pos e,if_pos e,e,D.lo low (by omega)];omega
    ·rw[if_neg e,if_neg e];omega
   rw[e2,Kj];congr 1;unfold pm;by_cases hk:low<=k
   ·rw[if_pos hk,k7 (i:=k-low) (by omega) λj hj hne=>by show co RS j*(if k-j=low then f else 0)=0;rw[if_neg (by omega)];simp];show co RS (k-low)*(if k-(k-low)=low then f else 0)=_;rw[if_pos (by omega),dY]
   ·rw[if_neg hk];exact fX λj hj=>by show co RS j*(if k-j=low then f else 0)=0;rw[if_neg (by omega)];simp
  rw[e1,h,D.eq k];omega
 hi:=λk hk=>by
  rw[h];have lo:=cK.mpr hne;by_cases e:k=low+(RS.length-1)
  ·rw[if_pos (by omega),e,←hf,show low+(RS.length-1)-low=RS.length-1 by omega];omega
  ·rw[D.hi k (by omega)];by_cases hl:low<=k
   ·rw[if_pos hl,ay (xs:=RS) (by omega)];simp
   ·rw[if_neg hl];rfl
 lo:=λj hj=>by
  rw[iX _ _ _ _ hlow,if_neg (by omega)];exact D.lo j (by omega)
end My
namespace My
theorem Dk {one RS ans rest:List Int}(D:DivAt one RS ans rest 0)(hz:∀k,co rest k=0):Div one RS ans:=λk=>by rw[D.eq k,hz k];omega
theorem Kr {one RS ans rest:List Int}(ho:Nml RS)(hne:RS≠[])(D:DivAt one RS ans rest 0)(q:List Int)(hq:Div one RS q):∀k,co rest k=0:=by
 have hl:(rest.take (RS.length-1)).length+1<=RS.length:=by
  have:=cK.mpr hne;rw[b6];omega
 have ec:∀k,co (rest.take (RS.length-1)) k=co rest k:=λk=>by
  by_cases hk:k<RS.length-1
  ·unfold co;rw[av,av,FX hk]
  ·rw[ay (by simp;omega),D.hi k (by omega)]
 have z:=(Km (q:=ans) ho hne hl (λk=>by rw[ec];exact D.eq k) hq).1;exact λk=>by rw[←ec];exact z k
theorem Ks {one RS ans rest q:List Int}{low:Nat}(ho:Nml RS)(hne:RS≠[])(D:DivAt one RS ans rest (low+1))(hq:Div one RS q):
  (co rest (low+(RS.length-1))).fdiv (co RS (RS.length-1))*co RS (RS.length-1)=co rest (low+(RS.length-1)):=by
 rw[Ko ho hne D hq,my _ (cN ho hne),dY]
theorem Kt {one RS ans:List Int}(hne:RS≠[])(h1:Nml one)(hone:one≠[])(la:ans.length+RS.length=one.length+1)(h:Div one RS ans):Nml ans:=by
 have l1:=cK.mpr hone;have l2:=cK.mpr hne;intro a ys e;have la':ans.length=ys.length+1:=by rw[e];simp
 have top:=jq (g:=co RS) (d:=co ans) (m:=RS.length-1) (t:=ans.length-1) (λj hj=>gk j hj) (λj hj=>gk j hj);rw[←h,show ans.length-1+(RS.length-1)=one.length-1 by omega]at top;have t0:=cN h1 hone;rw[top]at t0;have ea:co ans (ans.length-1)=a:=by rw[show ans.length-1=ys.length by omega,e,j1,if_pos rfl]
 rw[ea]at t0;intro z;exact t0 (by rw[z];simp)
theorem cD:Nml []:=λa ys e=>by simp at e
theorem j3 {xs:List Int}(h:Nml xs)(hz:∀k,co xs k=0):xs=[]:=gj h cD λk=>by rw[hz];rfl
theorem Ku {RS:List Int}:Div [] RS []:=λk=>(wm (f:=co RS) (g:=co []) (λ_=>rfl) k).symm
theorem qC {xs:List Int}:aF xs=[]↔∀k,co xs k=0:=by
 constructor
 ·intro h k;rw[←cP,h];rfl
 ·intro h;exact j3 (cC _) λk=>by rw[cP];exact h k
end My
namespace My
theorem g8 (c:Int)(f:List Int)(j:Nat):co (c :: f) j=if j=0 then c else co f (j-1):=by
 cases j with
 | zero=>rfl
 | succ j=>rw[if_neg (by omega)];rfl
end My
namespace My
def sh (g:Nat->Int)(j:Nat):Int:=if j=0 then 0 else g (j-1)
theorem jr (n:Nat)(f:Nat->Int):az (n+1) f=f 0+az n λj=>f (j+1):=by
 induction n with
 | zero=>simp[az]
 | succ n ih=>
  rw[show az (n+1+1) f=az (n+1) f+f (n+1) from rfl,ih];simp only[az];omega
theorem Dm (f g:Nat->Int)(k:Nat):pm f (sh g) k=sh (pm f g) k:=by
 unfold sh;by_cases h:k=0
 ·subst h;rw[if_pos rfl];simp[pm,az]
 ·rw[if_neg h];obtain⟨m,rfl⟩:∃m,k=m+1:=⟨k-1,by omega⟩
  unfold pm;rw[show az (m+1+1) (λj=>f j*if m+1-j=0 then 0 else g (m+1-j-1))=az (m+1) (λj=>f j*if m+1-j=0 then 0 else g (m+1-j-1))+f (m+1)*(if m+1-(m+1)=0 then 0 else g (m+1-(m+1)-1)) from rfl];rw[if_pos (by omega),c_,F4,show m+1-1=m by omega];exact cQ λj hj=>by rw[if_neg (by omega),show m+1-j-1=m-j by omega]
theorem Kv {f g h:Nat->Int}(e:∀j,g j=h j)(k:Nat):pm f g k=pm f h k:=cQ λj _=>by rw[e]
theorem qD {f g:Nat->Int}{t e:Nat}(hf:∀j,t+1<=j->f j=0)(hg:∀j,e<=j->g j=0)(k:Nat)(hk:t+e<=k):pm f g k=0:=
 fX λj hj=>by
  by_cases h:t+1<=j
  ·rw[hf j h,rM]
  ·rw[hg (k-j) (by omega),c_]
def ev (p:Int)(f:Nat->Int):Nat->Nat->Int
 | 0,_=>0
 | n+1,s=>f s+p*ev p f n (s+1)
theorem Do (p a b:Int)(f g:Nat->Int):∀n s,ev p (λj=>a*f j-b*g j) n s=a*ev p f n s-b*ev p g n s
 | 0,_=>by simp[ev]
 | n+1,s=>by
  simp only[ev];rw[Do p a b f g n (s+1),xF,jE,jE,←di p a,←di p b,dY p a,dY p b,di,di];omega
theorem qE (p:Int){K Z:Nat->Int}{e:Nat}(hK:∀j,e+1<=j->K j=0)(hZ:∀j,e<=j->Z j=0):
  ∃Z':Nat->Int,(∀j,e<=j->Z' j=0)∧∀j,p*Z' j-sh Z' j=ev p K (e+1) 0*Z j-ev p Z (e+1) 0*K j:=by
 let k0:=ev p K (e+1) 0
 let z0:=ev p Z (e+1) 0
 let F:Nat->Int:=λj=>k0*Z j-z0*K j
 let v:Nat->Int:=λj=>ev p F (e+1-j) j
 have hF:∀j,e+1<=j->F j=0:=λj hj=>by show k0*Z j-z0*K j=0;rw[hZ j (by omega),hK j hj];simp
 have hv:∀j,v j=F j+p*v (j+1):=λj=>by
  show ev p F (e+1-j) j=F j+p*ev p F (e+1-(j+1)) (j+1);by_cases h:j<=e
  ·rw[show e+1-j=(e-j)+1 by omega,show e+1-(j+1)=e-j by omega];rfl
  ·rw[show e+1-j=0 by omega,show e+1-(j+1)=0 by omega,hF j (by omega)];simp[ev]
 have h0:v 0=0:=by
  show ev p (λj=>k0*Z j-z0*K j) (e+1) 0=0;rw[Do];show k0*z0-z0*k0=0;rw[dY];omega
 refine⟨λj=>- v (j+1),λj hj=>?_,λj=>?_⟩
 ·show-ev p F (e+1-(j+1)) (j+1)=0;rw[show e+1-(j+1)=0 by omega];rfl
 ·show p*(- v (j+1))-sh (λj=>- v (j+1)) j=F j;have a:=hv j;unfold sh;by_cases h:j=0
  ·subst h;rw[if_pos rfl];rw[h0]at a;rw[rL];omega
  ·rw[if_neg h];show p*(- v (j+1))-(- v (j-1+1))=F j;rw[show j-1+1=j by omega,rL];omega
theorem wo (f:Nat->Int):∀n,∃j,∀i,i<n->(f i).natAbs<=(f j).natAbs
 | 0=>⟨0,λi hi=>by omega⟩
 | n+1=>by
  obtain⟨j,hj⟩:=wo f n;by_cases h:(f j).natAbs<=(f n).natAbs
  ·exact⟨n,λi hi=>by
    by_cases e:i=n
    ·rw[e];exact am _
    ·exact aP (hj i (by omega)) h⟩
  ·exact⟨j,λi hi=>by
    by_cases e:i=n
    ·rw[e];omega
    ·exact hj i (by omega)⟩
section
variable {p:Int}{K L:Nat->Int}{e t M:Nat}(he:1<=e)(hK:∀j,e+1<=j->K j=0)(kt:K e≠0)(hL:∀j,t+1<=j->L j=0)(lt:L t≠0)(hM:∀j,(pm L K j).natAbs<=M)(hp:(ev p K (e+1) 0).natAbs+M+1<p.natAbs)
include he hK kt hL lt hM hp
theorem Dp {Z Z':Nat->Int}{n:Nat}(hZ:∀j,e<=j->Z j=0)(hZ':∀j,e<=j->Z' j=0)(hr:∀j,p*Z' j-sh Z' j=ev p K (e+1) 0*Z j-ev p Z (e+1) 0*K j)(hn:∀j,(pm L Z j).natAbs<=n):
  ∃b,(∀j,(pm L Z' j).natAbs<=b)∧(ev p Z (e+1) 0).natAbs<=b∧(p.natAbs-1-M)*b<=(ev p K (e+1) 0).natAbs*n:=by
 have r:∀j,p*pm L Z' j-sh (pm L Z') j=ev p K (e+1) 0*pm L Z j-ev p Z (e+1) 0*pm L K j:=λj=>by
  rw[←Dm,←k_,←k_,←k_,←k8,←k8];exact Kv hr j
 obtain⟨j0,hj0⟩:=wo (pm L Z') (t+e);have hb:∀j,(pm L Z' j).natAbs<=(pm L Z' j0).natAbs:=λj=>by
  by_cases h:j<t+e
  ·exact hj0 j h
  ·rw[qD hL hZ' j (by omega)];exact aI _
 have top:pm L K (e+t)=L t*K e:=jq hL hK;have hz:(ev p Z (e+1) 0).natAbs<=(pm L Z' j0).natAbs:=by
  have a:=r (e+t);rw[qD hL hZ' (e+t) (by omega),qD hL hZ (e+t) (by omega),top]at a;unfold sh at a;rw[if_neg (by omega)]at a;have a':pm L Z' (e+t-1)=ev p Z (e+1) 0*(L t*K e):=by
   rw[c_,c_]at a;omega
  have b:=hb (e+t-1);rw[a',bV,bV]at b;have c:1<=(L t).natAbs*(K e).natAbs:=iO (iP.mpr lt) (iP.mpr kt);exact aP (kz _ c) b
 refine⟨_,hb,hz,?_⟩;have a:=r j0;generalize hB:(pm L Z' j0).natAbs=b at hb hz;have s1:(sh (pm L Z') j0).natAbs<=b:=by
  unfold sh;by_cases h:j0=0
  ·rw[if_pos h];exact aI _
  ·rw[if_neg h];exact hb _
 have e1:(p*pm L Z' j0).natAbs=p.natAbs*b:=by rw[bV,hB]
 have e2:(ev p K (e+1) 0*pm L Z j0).natAbs<=(ev p K (e+1) 0).natAbs*n:=by rw[bV];exact fh _ (hn j0)
 have e3:(ev p Z (e+1) 0*pm L K j0).natAbs<=b*M:=by rw[bV];exact eC hz (hM j0)
 have e4:p.natAbs*b<=(ev p K (e+1) 0).natAbs*n+b*M+b:=by omega
 have e5:(p.natAbs-1-M)*b=p.natAbs*b-b-b*M:=by rw[Nat.sub_mul,Nat.sub_mul,fG,gI M b]
 omega
theorem Kw (h0:ev p K (e+1) 0≠0):∀(n:Nat) (Z:Nat->Int),(∀j,e<=j->Z j=0)->(∀j,(pm L Z j).natAbs<=n)->∀j,Z j=0:=by
 intro n
 induction n using xG with
 | _ n ih=>
  intro Z hZ hn;by_cases hn0:n=0
  ·intro j;have z:=li (g:=L) (d:=Z) (m:=t) hL lt 0 e (λj hj=>hZ j (by omega)) (λk _=>by have:=hn k;omega);exact z j (by omega)
  ·obtain⟨Z',hZ',hr⟩:=qE p hK hZ;obtain⟨b,hb,hz,hs⟩:=Dp he hK kt hL lt hM hp hZ hZ' hr hn;have lt1:b<n:=by
    refine kC λhle=>?_;have m1:((ev p K (e+1) 0).natAbs+1)*n<=(p.natAbs-1-M)*b:=eC (by omega) hle;rw[Nat.succ_mul]at m1;omega
   have z':=ih b lt1 Z' hZ' hb;have r':∀j,ev p K (e+1) 0*Z j=ev p Z (e+1) 0*K j:=λj=>by
    have a:=hr j;rw[z' j]at a;have s0:sh Z' j=0:=by
     unfold sh;by_cases h:j=0
     ·rw[if_pos h]
     ·rw[if_neg h];exact z' _
    rw[s0,c_]at a;omega
   have zz:ev p Z (e+1) 0=0:=by
    have a:=r' e;rw[hZ e (am _),c_]at a;exact (iN.mp a.symm).resolve_right kt
   intro j;have a:=r' j;rw[zz,rM]at a;exact (iN.mp a).resolve_left h0
theorem Kx:False:=by
 have ev1:∀n,ev p (λj=>if j=0 then (1:Int) else 0) (n+1) 0=1:=λn=>by
  have z:∀n s,ev p (λj=>if j=0 then (1:Int) else 0) n (s+1)=0:=λn=>by
   induction n with
   | zero=>intro s;rfl
   | succ n ih=>intro s;simp only[ev];rw[ih (s+1)];simp
  simp only[ev];rw[z n 0];simp
 have hZ:∀j,e<=j->(λj=>if j=0 then (1:Int) else 0) j=0:=λj hj=>if_neg (by omega);obtain⟨j0,hj0⟩:=wo (pm L λj=>if j=0 then (1:Int) else 0) (t+e);have hn:∀j,(pm L (λj=>if j=0 then (1:Int) else 0) j).natAbs<=(pm L (λj=>if j=0 then (1:Int) else 0) j0).natAbs:=λj=>by
  by_cases h:j<t+e
  ·exact hj0 j h
  ·rw[qD hL hZ j (by omega)];exact aI _
 by_cases h0:ev p K (e+1) 0=0
 ·obtain⟨Z',hZ',hr⟩:=qE p hK hZ;obtain⟨b,hb,hz,hs⟩:=Dp he hK kt hL lt hM hp hZ hZ' hr hn;rw[h0]at hs;rw[ev1]at hz;have hz1:1<=b:=hz;have q:0<(p.natAbs-1-M)*b:=iO (by omega) hz1;rw[Int.natAbs_zero,Nat.zero_mul]at hs;omega
 ·have:=Kw he hK kt hL lt hM hp h0 _ _ hZ hn 0;simp at this
end
end My
namespace My
def Prm (q:Nat):Prop:=1<q∧∀m,m∣q->m=1∨m=q
theorem Dq:∀n:Nat,1<n->∃q,q∣n∧Prm q:=by
 intro n
 induction n using xG with
 | _ n ih=>
  intro h;by_cases p:∀m,m∣n->m=1∨m=n
  ·exact⟨n,Nat.dvd_refl n,h,p⟩
  ·obtain⟨m,hm⟩:=Classical.not_forall.mp p;have hd:m∣n:=Classical.byContradiction λz=>hm λy=>absurd y z;have h1:¬(m=1∨m=n):=λz=>hm λ_=>z;have h0:m≠0:=λz=>by rw[z]at hd;have:=xH hd;omega
   have hle:=mw (by omega) hd;obtain⟨q,hq,hp⟩:=ih m (by omega) (by omega);exact⟨q,Nat.dvd_trans hq hd,hp⟩
theorem Ky:Prm 2:=⟨by decide,λm hm=>by
 have h1:=mw (by decide) hm;have h2:m≠0:=λz=>by
  rw[z]at hm;exact absurd (xH hm) (by decide)
 omega⟩
theorem Kz {q:Nat}(hq:Prm q){x y:Int}(h:(q:Int)∣x*y):(q:Int)∣x∨(q:Int)∣y:=by
 have h':q∣x.natAbs*y.natAbs:=by
  have:=mv.mpr h
  rwa [dB,bV]at this
 rcases hq.2 (bW q x.natAbs) (mB _ _) with z|z
 ·refine .inr ?_;have:q∣y.natAbs:=Nat.Coprime.dvd_of_dvd_mul_left z h';exact mv.mp (by rw[dB];exact this)
 ·refine .inl ?_;have:q∣x.natAbs:=by have:=mC q x.natAbs;rwa [z]at this
  exact mv.mp (by rw[dB];exact this)
theorem Dr {q:Int}{f:Nat->Int}(h:¬∀j,q∣f j):∃i,¬q∣f i∧∀j,j<i->q∣f j:=by
 obtain⟨n,hn⟩:=Classical.not_forall.mp h
 induction n using xG with
 | _ n ih=>
  by_cases z:∀j,j<n->q∣f j
  ·exact⟨n,hn,z⟩
  ·obtain⟨j,hj⟩:=Classical.not_forall.mp z;have h1:j<n:=Classical.byContradiction λy=>hj λx=>absurd x y;exact ih j h1 λy=>hj λ_=>y
theorem wp {q:Int}{f:Nat->Int}:∀n,(∀j,j<n->q∣f j)->q∣az n f
 | 0,_=>jF q
 | n+1,h=>xI (wp n λj hj=>h j (by omega)) (h n (by omega))
theorem Ds {q:Int}{f:Nat->Int}{i:Nat}:∀n,i<n->(∀j,j<n->j≠i->q∣f j)->q∣az n f->q∣f i
 | 0,h,_,_=>by omega
 | n+1,hi,h,hs=>by
  have e:az (n+1) f=az n f+f n:=rfl;rw[e]at hs;by_cases z:i=n
  ·subst z;exact (Int.dvd_add_right (wp i λj hj=>h j (by omega) (by omega))).mp hs
  ·have fn:=h n (by omega) (by omega);exact Ds n (by omega) (λj hj hne=>h j (by omega) hne) ((Int.dvd_add_left fn).mp hs)
theorem wt {q:Nat}(hq:Prm q){f g:Nat->Int}(h:∀k,(q:Int)∣pm f g k):(∀j,(q:Int)∣f j)∨(∀j,(q:Int)∣g j):=by
 by_cases hf:∀j,(q:Int)∣f j
 ·exact .inl hf
 by_cases hg:∀j,(q:Int)∣g j
 ·exact .inr hg
 exfalso;obtain⟨a,ha,ha'⟩:=Dr hf;obtain⟨b,hb,hb'⟩:=Dr hg;have hs:=h (a+b);have:=Ds (i:=a) (a+b+1) (by omega) (λj hj hne=>by
  show (q:Int)∣f j*g (a+b-j);by_cases z:j<a
  ·exact fj (ha' j z) (i9 _ _)
  ·exact fj (hb' (a+b-j) (by omega)) (kD _ _)) hs
 rw[show a+b-a=b by omega]at this;exact (Kz hq this).elim ha hb
def gH (f:Nat->Int):Prop:=∀d:Nat,(∀j,(d:Int)∣f j)->d=1
theorem KC {f g:Nat->Int}(hf:gH f)(hg:gH g):gH (pm f g):=λd hd=>by
 by_cases h1:d=1
 ·exact h1
 by_cases h0:d=0
 ·-- all numbers nought: then 2 divides them
  have z:∀k,((2:Nat):Int)∣pm f g k:=λk=>by
   have:=hd k;rw[h0]at this;have e:pm f g k=0:=xJ.mp (by simpa using this);rw[e];exact jF _
  rcases wt (q:=2) Ky z with y|y
  ·exact absurd (hf 2 y) (by decide)
  ·exact absurd (hg 2 y) (by decide)
 ·obtain⟨q,hq,hp⟩:=Dq d (by omega);have z:∀k,(q:Int)∣pm f g k:=λk=>fj (im.mpr hq) (hd k);rcases wt hp z with y|y
  ·have:=hf q y;have:=hp.1;omega
  ·have:=hg q y;have:=hp.1;omega
theorem qF {f:Nat->Int}(hf:gH f):∀(m:Nat),0<m->∀k:Nat->Int,(∀j,(m:Int)∣pm f k j)->∀j,(m:Int)∣k j:=by
 intro m
 induction m using xG with
 | _ m ih=>
  intro h0 k hk;by_cases h1:m=1
  ·intro j;rw[h1];exact Int.one_dvd _
  obtain⟨q,⟨r,hr⟩,hp⟩:=Dq m (by omega);have q1:=hp.1;have r0:0<r:=iQ λz=>by rw[z]at hr;omega
  have rm:r<m:=by
   rw[hr]
   calc r=1*r:=(fG r).symm
    _<q*r:=Ng q1 r0
  have mq:(m:Int)=(q:Int)*(r:Int):=by rw[hr];exact iq q r
  have d1:∀j,(q:Int)∣k j:=by
   rcases wt hp (f:=f) (g:=k) λj=>fj (by rw[mq];exact i9 _ _) (hk j) with y|y
   ·have:=hf q y;omega
   ·exact y
  have e:∀j,k j=q*(k j / q):=λj=>(F5 (d1 j)).symm;have d2:=ih r rm r0 (λj=>k j / q) λj=>by
   have a:=hk j;have b:pm f k j=q*pm f (λj=>k j / q) j:=by
    rw[←k_];refine cQ λi _=>?_;show f i*k (j-i)=f i*(q*(k (j-i) / q));rw[←e]
   rw[b,mq]at a;exact Nh (by omega) a
  intro j;rw[e j,mq];exact F6 _ (d2 j)
end My
namespace My
def cE:List Int->List Int->List Int
 | [],ys=>ys
 | xs,[]=>xs
 | x :: xs,y :: ys=>(x+y) :: cE xs ys
theorem fY (n:Int):∀xs ys,val n (cE xs ys)=val n xs+val n ys
 | [],ys=>by simp[cE,val]
 | x :: xs,[]=>by simp[cE,val]
 | x :: xs,y :: ys=>by
  simp only[cE,val];rw[fY n xs ys,jE];omega
theorem aS (n c:Int):∀xs:List Int,val n (xs.map λx=>c*x)=c*val n xs
 | []=>by simp[val]
 | x :: xs=>by
  simp only[dy,val];rw[aS n c xs,jE,←di n c,dY n c,di]
def a7:List Int->List Int->List Int
 | [],_=>[]
 | c :: f,g=>cE (g.map λx=>c*x) (0 :: a7 f g)
theorem du (n:Int):∀f g,val n (a7 f g)=val n f*val n g
 | [],g=>by simp[a7,val]
 | c :: f,g=>by
  simp only[a7];rw[fY,aS];simp only[val];rw[du n f g,F7,di];omega
theorem iG:∀(xs ys:List Int) (k:Nat),co (cE xs ys) k=co xs k+co ys k
 | [],ys,k=>by simp[cE,gi]
 | x :: xs,[],k=>by simp[cE,gi]
 | x :: xs,y :: ys,k=>by
  simp only[cE];rw[g8,g8,g8];by_cases h:k=0
  ·simp[h]
  ·rw[if_neg h,if_neg h,if_neg h,iG xs ys]
theorem fZ:∀(f g:List Int) (k:Nat),co (a7 f g) k=pm (co f) (co g) k
 | [],g,k=>by
  rw[show a7 [] g=[] from rfl,gi];exact (fX λj _=>by rw[gi,rM]).symm
 | c :: f,g,k=>by
  simp only[a7];rw[iG,g8];have e1:co (g.map λx=>c*x) k=c*co g k:=by
   by_cases h:k<g.length
   ·rw[aE (by simpa using h),aE h,bO]
   ·rw[ay (by simp;omega),ay (by omega),c_]
  rw[e1];unfold pm;rw[jr];have e2:co (c :: f) 0=c:=rfl;rw[e2,F8];by_cases h:k=0
  ·subst h;rw[if_pos rfl];simp[az]
  ·rw[if_neg h,fZ f g (k-1)];obtain⟨m,rfl⟩:∃m,k=m+1:=⟨k-1,by omega⟩
   unfold pm;rw[show m+1-1=m by omega];congr 1;refine cQ λj hj=>?_;rw[g8,if_neg (by omega),show j+1-1=j by omega,show m+1-(j+1)=m-j by omega]
theorem qG (n:Int)(xs:List Int):∀k,val n (xs++aL k 0)=val n xs:=by
 intro k
 induction xs with
 | nil=>
  induction k with
  | zero=>rfl
  | succ k ih=>rw[il]at *;rw[gy];simp only[val];rw[ih];simp[val]
 | cons x xs ih=>simp only[jG,val];rw[ih]
theorem qH (xs:List Int)(k j:Nat):co (xs++aL k 0) j=co xs j:=by
 by_cases h:j<xs.length
 ·unfold co;rw[av,av,b_ h]
 ·rw[ay (xs:=xs) (by omega)];unfold co;rw[av,dz (by omega),i5]
  split <;> rfl
theorem fN {xs ys:List Int}(h:∀n,val n xs=val n ys)(k:Nat):co xs k=co ys k:=by
 have e:xs++aL ys.length 0=ys++aL xs.length 0:=Ki (by simp;omega) λn=>by rw[qG,qG,h]
 rw[←qH xs ys.length k,e,qH]
theorem f7 {xs ys:List Int}(h:∀k,co xs k=co ys k)(n:Int):val n xs=val n ys:=by
 have e:xs++aL ys.length 0=ys++aL xs.length 0:=wk (by simp;omega) λk _=>by rw[qH,qH,h]
 rw[←qG n xs ys.length,e,qG]
theorem gm {one RS q:List Int}:Div one RS q↔∀n,val n one=val n RS*val n q:=by
 constructor
 ·intro h n;rw[←du];exact f7 (λk=>by rw[h k,fZ]) n
 ·intro h k;rw[←fZ];exact fN (λn=>by rw[h n,du]) k
theorem Dt (p:Int)(xs:List Int):∀n s,ev p (co xs) n s=val p ((xs.drop s).take n)
 | 0,s=>by simp[ev,val]
 | n+1,s=>by
  simp only[ev];rw[Dt p xs n (s+1)];by_cases h:s<xs.length
  ·rw[F9 h,Ni];simp only[val];rw[aE h]
  ·rw[ay (by omega),Nj (by omega),Nj (by omega)];simp[val]
theorem KD {p:Int}{M:Nat}{f a b g x y qa qb U V:List Int}{c h m:Int}(hp:2*(M:Int)+29<=p)
  (fp:gH (co f)) (fn:Nml f) (f0:f≠[]) (c1:1<=c) (fs:∀z∈f,2*(c*z).natAbs<=p.natAbs) (gp:gH (co g)) (gn:Nml g)
  (ha:Div a g x) (hb:Div b g y) (hM:(a≠[]∧Nml a∧∀z∈a,z.natAbs<=M)∨(b≠[]∧Nml b∧∀z∈b,z.natAbs<=M))
  (fa:Div a f qa) (fb:Div b f qb) (m0:m≠0) (bz:∀n,val n U*val n a+val n V*val n b=m*val n g) (h1:1<=h) (fv:0<val p f) (hv:c*val p f=h*(val p g).natAbs):
  f=g∨f=g.map λz=>-1*z:=by
 have va:=gm.mp ha;have vb:=gm.mp hb;have wa:=gm.mp fa;have wb:=gm.mp fb
 let W:=cE (a7 U qa) (a7 V qb)
 have vW:∀n,val n f*val n W=m*val n g:=λn=>by
  show val n f*val n (cE (a7 U qa) (a7 V qb))=_;rw[fY,du,du,←bz n,wa n,wb n,jE,i_,i_ (val n V)]
 have dW:∀j,((m.natAbs:Nat):Int)∣pm (co f) (co W) j:=λj=>by
  rw[←fZ,fN (ys:=g.map λz=>m*z) (λn=>by rw[du,vW,aS]) j];have e1:co (g.map λz=>m*z) j=m*co g j:=by
   by_cases h:j<g.length
   ·rw[aE (by simpa using h),aE h,bO]
   ·rw[ay (by simp;omega),ay (by omega),c_]
  rw[e1];exact fj (rN.mpr (F_ m)) (i9 _ _)
 have dk:=qF fp m.natAbs (iP.mpr m0) (co W) dW
 let k:=aF (W.map λz=>z / m)
 have vk:∀n,val n g=val n f*val n k:=λn=>by
  have e:val n W=m*val n k:=by
   show _=m*val n (aF (W.map λz=>z / m));rw[f7 (cP _) n,←aS];refine f7 (λj=>?_) n;rw[ja];by_cases h:j<W.length
   ·rw[aE (xs:=W) h,aE (xs:=W.map _) (by simpa using h),bO];have z:=dk j;rw[aE h]at z;exact (F5 (rN.mp z)).symm
   ·rw[ay (xs:=W) (by omega),ay (xs:=W.map _) (by simp;omega)]
  have z:=vW n;rw[e,i_]at z;exact (mE m0 z).symm
 have kn:Nml k:=cC _;have c2:c=h*(val p k).natAbs:=by
  have z:=hv;rw[vk p,bV,iq,Int.natAbs_of_nonneg (xK fv),dY,i_]at z;exact mE (by omega) z
 have cp:2*c<=p:=by
  have l0:=cN fn f0;have hl:f.length-1<f.length:=by have:=cK.mpr f0;omega
  rw[aE hl]at l0;have z:=fs _ (bH hl);rw[bV]at z;have z2:c.natAbs<=c.natAbs*f[f.length-1].natAbs:=kz _ (iP.mpr l0);omega
 have kc:((val p k).natAbs:Int)<=c:=by
  rw[c2];have:(0:Int)<=((val p k).natAbs:Int):=Int.natCast_nonneg _;have z:=xL h1 this;rw[fH]at z;exact z
 have kl:∀(d w:List Int),d≠[]->Nml d->(∀z∈d,z.natAbs<=M)->(∀n,val n d=val n g*val n w)->k.length<=1:=λd w d0 dn dM vd=>by
  refine rJ λh2=>?_
  let l:=aF (a7 f w)
  have vl:∀n,val n d=val n l*val n k:=λn=>by
   show _=val n (aF (a7 f w))*_;rw[f7 (cP _) n,du,vd,vk,di,dY (val n k),di]
  have l0:l≠[]:=λz=>by
   have e:d=[]:=j3 dn λj=>by
    have:=fN (xs:=d) (ys:=[]) (λn=>by rw[vl n,z];simp[val]) j;rw[this];rfl
   exact d0 e
  have ll:=cK.mpr l0;have k0:k≠[]:=cK.mp (by omega);have dd:Div d l k:=gm.mpr vl;refine Kx (p:=p) (K:=co k) (L:=co l) (e:=k.length-1) (t:=l.length-1) (M:=M) (by omega) (λj hj=>ay (by omega)) (cN kn k0) (λj hj=>ay (by omega)) (cN (cC _) l0) (λj=>?_) ?_
  ·rw[←dd j];by_cases hj:j<d.length
   ·rw[aE hj];exact dM _ (bH hj)
   ·rw[ay (by omega)];exact aI _
  ·rw[Dt,mF,eZ (by omega)];omega
 have k1:k.length<=1:=by
  rcases hM with ⟨d0,dn,dM⟩|⟨d0,dn,dM⟩
  ·exact kl a x d0 dn dM va
  ·exact kl b y d0 dn dM vb
 have cg:∀k0:Int,(∀n,val n g=val n f*k0)->∀j,co g j=k0*co f j:=λk0 hk j=>by
  have e1:co (f.map λz=>k0*z) j=k0*co f j:=by
   by_cases h:j<f.length
   ·rw[aE (xs:=f.map _) (by simpa using h),aE h,bO]
   ·rw[ay (xs:=f.map _) (by simp;omega),ay (by omega),c_]
  rw[←e1];exact fN (λn=>by rw[hk n,aS,dY]) j
 have two:∀d:Int,(∀j,co g j=d*co f j)->d.natAbs=1:=λd hd=>gp d.natAbs λj=>by
  rw[hd j];exact fj (rN.mpr (F_ d)) (i9 _ _)
 obtain⟨k0,hk⟩:∃k0:Int,∀n,val n g=val n f*k0:=by
  generalize k=kk at k1 vk
  match kk,k1 with
  | [],_=>exact⟨0,λn=>by rw[vk n];simp[val]⟩
  | [z],_=>exact⟨z,λn=>by rw[vk n];simp[val]⟩
  | _ :: _ :: _,h=>simp at h
 have cj:=cg k0 hk;have k01:=two k0 cj;have kk:k0=1∨k0=-1:=by omega
 rcases kk with rfl|rfl
 ·exact .inl (gj fn gn λj=>by rw[cj j];omega)
 ·refine .inr (gj fn (λz ys e=>?_) λj=>?_)
  ·have e':=congrArg (rO λz=>-1*z) e;rw[ja,aV,List.map_singleton]at e';have e2:(λz:Int=>-1*z) ∘ (λz:Int=>-1*z)=id:=funext λz=>by simp
   rw[e2,List.map_id]at e';have:=gn _ _ e';omega
  ·have e1:co (g.map λz=>-1*z) j=-1*co g j:=by
    by_cases h:j<g.length
    ·rw[aE (xs:=g.map _) (by simpa using h),aE h,bO]
    ·rw[ay (xs:=g.map _) (by simp;omega),ay (by omega),c_]
   rw[e1,cj j];omega
end My
namespace My
theorem KE {p:Int}(hp:0<p):∀(f g:List Int),(∀x∈f,2*x.natAbs<=p.natAbs)->(∀x∈g,2*x.natAbs<p.natAbs)->val p f=val p g->∀k,co f k=co g k:=by
 have key:∀(x y s t:Int),2*x.natAbs<=p.natAbs->2*y.natAbs<p.natAbs->x+p*s=y+p*t->x=y∧s=t:=λx y s t hx hy h=>by
  have e:p*(s-t)=y-x:=by rw[xF];omega
  have z:s-t=0:=by
   rcases Int.lt_trichotomy (s-t) 0 with u|u|u
   ·have:=gL (show s-t<=-1 by omega) (xK hp);rw[e,rL,xu]at this;omega
   ·exact u
   ·have:=gL (show 1<=s-t by omega) (xK hp);rw[e,xu]at this;omega
  rw[z,c_]at e;exact⟨by omega,by omega⟩
 have nil:∀g:List Int,(∀x∈g,2*x.natAbs<=p.natAbs)->val p g=0->∀k,co g k=0:=by
  intro g
  induction g with
  | nil=>intro _ _ k;rfl
  | cons y g ih=>
   intro hg h k;have h':y+p*val p g=0+p*0:=by
    have:val p (y :: g)=y+p*val p g:=rfl;rw[this]at h;rw[c_];omega
   obtain⟨e1,e2⟩:=key y 0 (val p g) 0 (hg y (by simp)) (by simp;omega) h';rw[g8];by_cases z:k=0
   ·rw[if_pos z];exact e1
   ·rw[if_neg z];exact ih (λx hx=>hg x (by simp[hx])) e2 (k-1)
 intro f
 induction f with
 | nil=>
  intro g _ hg h k;rw[nil g (λx hx=>b5 (hg x hx)) h.symm k];rfl
 | cons x f ih=>
  intro g hf hg h k
  cases g with
  | nil=>rw[nil (x :: f) hf h k];rfl
  | cons y g=>
   obtain⟨e1,e2⟩:=key x y (val p f) (val p g) (hf x (by simp)) (hg y (by simp)) h;rw[g8,g8];by_cases z:k=0
   ·rw[if_pos z,if_pos z];exact e1
   ·rw[if_neg z,if_neg z];exact ih g (λw hw=>hf w (by simp[hw])) (λw hw=>hg w (by simp[hw])) e2 (k-1)
theorem qI {p:Int}(hp:1<=p):∀(f:List Int),f≠[]->(∀x∈f,2*x.natAbs<=p.natAbs)->0<co f (f.length-1)->p ^ (f.length-1)<=2 ^ (f.length-1)*val p f∧0<val p f:=by
 intro f
 induction f with
 | nil=>intro h;exact absurd rfl h
 | cons x f ih=>
  intro _ hf ht;by_cases z:f=[]
  ·subst z;have e:val p [x]=x:=by simp[val]
   have ht':0<x:=ht;rw[e];exact⟨by simp;omega,ht'⟩
  ·have hl:=cK.mpr z;have ht':0<co f (f.length-1):=by
    have:(x :: f).length-1=f.length:=by simp
    rw[this,g8,if_neg (by omega)]at ht;exact ht
   obtain⟨i1,i2⟩:=ih z (λw hw=>hf w (by simp[hw])) ht';have hx:=hf x (by simp);have e:val p (x :: f)=x+p*val p f:=rfl;have m1:p*1<=p*val p f:=gL (by omega) (by omega);have hv:p*val p f<=2*val p (x :: f):=by rw[e];omega
   refine⟨?_,by omega⟩;have l1:(x :: f).length-1=f.length-1+1:=by simp;omega
   rw[l1,jH,jH];have two:(0:Int)<=2 ^ (f.length-1):=Int.pow_nonneg (by decide)
   calc p ^ (f.length-1)*p<=2 ^ (f.length-1)*val p f*p:=xL i1 (by omega)
    _=2 ^ (f.length-1)*(p*val p f):=by rw[di,dY (val p f) p]
    _<=2 ^ (f.length-1)*(2*val p (x :: f)):=gL hv two
    _=2 ^ (f.length-1)*2*val p (x :: f):=by rw[di]
end My
namespace My
def hx (x:Int)(g:Nat->Int):Nat->Int
 | 0=>g 0
 | d+1=>x*hx x g d+g (d+1)
def hs:List Int->Nat->Int
 | []=>λd=>if d=0 then 1 else 0
 | x :: xs=>hx x (hs xs)
theorem wu:∀xs:List Int,hs xs 0=1
 | []=>rfl
 | x :: xs=>wu xs
theorem wv (x y:Int)(g:Nat->Int):∀d,(x-y)*hx x (hx y g) d=x*hx x g d-y*hx y g d
 | 0=>by simp only[hx];rw[Int.sub_mul]
 | d+1=>by
  have ih:=wv x y g d;simp only[hx];generalize hx x (hx y g) d=A at ih ⊢;generalize hx x g d=a at ih ⊢;generalize hx y g d=b at ih ⊢;generalize g (d+1)=c;have e:(x-y)*(x*A+(y*b+c))=x*((x-y)*A)+(x-y)*(y*b+c):=by grind
  rw[e,ih];grind
theorem ww (x y:Int)(g:Nat->Int):∀d,hx x (hx y g) d=hx y (hx x g) d
 | 0=>rfl
 | d+1=>by
  have ih:=ww x y g d;have l:=wv x y g d;show x*hx x (hx y g) d+(y*hx y g d+g (d+1))=y*hx y (hx x g) d+(x*hx x g d+g (d+1))
  rw[←ih];generalize hx x (hx y g) d=A at l ⊢;grind
theorem lC {x:Int}{g h:Nat->Int}(e:∀d,g d=h d):∀d,hx x g d=hx x h d
 | 0=>e 0
 | d+1=>by simp only[hx];rw[lC e d,e]
theorem js (y:Int):∀(xs:List Int) (d:Nat),hs (xs++[y]) d=hx y (hs xs) d
 | [],d=>rfl
 | x :: xs,d=>by
  show hx x (hs (xs++[y])) d=hx y (hx x (hs xs)) d;rw[lC (js y xs) d,ww]
theorem KF (x:Int)(xs:List Int)(d:Nat):hs (x :: xs) d=hs (xs++[x]) d:=(js x xs d).symm
theorem KG (x y:Int)(xs:List Int)(d:Nat):(y-x)*hs (x :: (xs++[y])) d=hs (xs++[y]) (d+1)-hs (x :: xs) (d+1):=by
 have e1:hs (x :: (xs++[y])) d=hx x (hx y (hs xs)) d:=lC (js y xs) d;have e2:hs (xs++[y]) (d+1)=y*hx y (hs xs) d+hs xs (d+1):=js y xs (d+1);have e3:hs (x :: xs) (d+1)=x*hx x (hs xs) d+hs xs (d+1):=rfl;have l:=wv x y (hs xs) d;rw[e1,e2,e3];generalize hx x (hx y (hs xs)) d=A at l ⊢;grind
def dd (f xs:List Int):Int:=az f.length λj=>co f (j+(xs.length-1))*hs xs j
theorem KH (n:Nat)(f:Nat->Int):az (n+1) f=az n f+f n:=by
 induction n generalizing f with
 | zero=>simp[az]
 | succ n ih=>
  rw[jr (n+1),ih λj=>f (j+1),jr n];omega
theorem wx (f xs:List Int)(x y:Int):(y-x)*dd f (x :: (xs++[y]))=dd f (xs++[y])-dd f (x :: xs):=by
 unfold dd;have l1:(x :: (xs++[y])).length-1=xs.length+1:=by simp
 have l2:(xs++[y]).length-1=xs.length:=by simp
 have l3:(x :: xs).length-1=xs.length:=by simp
 rw[l1,l2,l3,←gG]
 cases hn:f.length with
 | zero=>simp[az]
 | succ n=>
  have e:∀j,(y-x)*(co f (j+(xs.length+1))*hs (x :: (xs++[y])) j)=co f (j+1+xs.length)*hs (xs++[y]) (j+1)+(-1)*(co f (j+1+xs.length)*hs (x :: xs) (j+1)):=λj=>by
   have h:=KG x y xs j;rw[show j+(xs.length+1)=j+1+xs.length by omega];generalize hs (x :: (xs++[y])) j=A at h ⊢;generalize co f (j+1+xs.length)=c;have:(y-x)*(c*A)=c*((y-x)*A):=by grind
   rw[this,h];grind
  have top:co f (n+(xs.length+1))=0:=ay (by omega);rw[KH,top,rM,c_,F4,cQ λj _=>e j,iF,gG,jr n λj=>co f (j+xs.length)*hs (xs++[y]) j,jr n λj=>co f (j+xs.length)*hs (x :: xs) j,wu,wu];omega
theorem KI (f xs:List Int)(x:Int):dd f (x :: xs)=dd f (xs++[x]):=by
 unfold dd;rw[show (x :: xs).length=(xs++[x]).length by simp];exact cQ λj _=>by rw[KF]
theorem Dv {f xs:List Int}(h:f.length<xs.length):dd f xs=0:=by
 unfold dd;exact fX λj _=>by rw[ay (by omega),rM]
theorem Dw (x:Int):∀d,hs [x] d=x ^ d
 | 0=>by rw[Int.pow_zero];rfl
 | d+1=>by
  show x*hs [x] d+(if d+1=0 then 1 else 0)=x ^ (d+1);rw[Dw x d,if_neg (by omega),jH,F4,dY]
theorem Dx (n:Int):∀f:List Int,val n f=az f.length λj=>co f j*n ^ j
 | []=>rfl
 | a :: f=>by
  show val n (a :: f)=az (f.length+1) λj=>co (a :: f) j*n ^ j;rw[jr];have e:∀j,co (a :: f) (j+1)*n ^ (j+1)=n*(co f j*n ^ j):=λj=>by
   rw[show co (a :: f) (j+1)=co f j from rfl,jH];grind
  rw[cQ λj _=>e j,gG,←Dx n f];show _=a*n ^ 0+n*val n f;simp[val]
theorem qJ (f:List Int)(x:Int):dd f [x]=val x f:=by
 rw[Dx];unfold dd;exact cQ λj _=>by rw[Dw];rfl
theorem KJ (f xs:List Int)(x n:Int):dd f (x :: (xs++[n]))=dd f ((xs++[x])++[n]):=by
 unfold dd;rw[show (x :: (xs++[n])).length=((xs++[x])++[n]).length by simp];refine cQ λj _=>?_;congr 1;show hx x (hs (xs++[n])) j=_;rw[js n (xs++[x]),lC (js n xs),ww,lC (js x xs)]
theorem Dy (f xs:List Int)(x n:Int):dd f (xs++[n])=dd f (xs++[x])+(n-x)*dd f ((xs++[x])++[n]):=by
 have h:=wx f xs x n;rw[KI f xs x,KJ]at h;omega
theorem KL {f xs:List Int}{x y:Int}(h:y≠x):(dd f (xs++[y])-dd f (x :: xs)).fdiv (y-x)=dd f (x :: (xs++[y])):=by
 rw[←wx];exact my _ (by omega)
def run (ps:List Int)(a n:Nat):List Int:=(ps.drop a).take n
theorem Dz {ps:List Int}{a:Nat}(h:a<ps.length)(n:Nat):run ps a (n+1)=ps[a] :: run ps (a+1) n:=by
 unfold run;rw[F9 h,Ni]
theorem wy {ps:List Int}{a n:Nat}(h:a+n<ps.length):run ps a (n+1)=run ps a n++[ps[a+n]]:=by
 unfold run;rw[de,List.getElem?_drop,aj h];rfl
theorem DA {ps:List Int}{a g:Nat}(h:a+g+1<ps.length):run ps a (g+2)=ps[a] :: (run ps (a+1) g++[ps[a+g+1]])∧run ps (a+1) (g+1)=run ps (a+1) g++[ps[a+g+1]]∧run ps a (g+1)=ps[a] :: run ps (a+1) g:=by
 have e:run ps (a+1) (g+1)=run ps (a+1) g++[ps[a+g+1]]:=by
  rw[wy (by omega)];simp only[show a+1+g=a+g+1 by omega]
 exact⟨by rw[Dz (by omega),e],e,Dz (by omega) g⟩
theorem KN (f:List Int){ps:List Int}{a g:Nat}(h:a+g+1<ps.length)(hne:ps[a+g+1]≠ps[a]):(dd f (run ps (a+1) (g+1))-dd f (run ps a (g+1))).fdiv (ps[a+g+1]-ps[a])=dd f (run ps a (g+2)):=by
 obtain⟨e1,e2,e3⟩:=DA h;rw[e1,e2,e3];exact KL hne
theorem qK (f:List Int){ps:List Int}(hd:∀i j (hi:i<ps.length) (hj:j<ps.length),i≠j->ps[i]≠ps[j]){B:Nat}(hb:∀i (h:i<ps.length),(val ps[i] f).natAbs<=B):∀(n a:Nat),a+n<ps.length->(dd f (run ps a (n+1))).natAbs<=2 ^ n*B
 | 0,a,h=>by
  rw[wy h];show (dd f ([]++[ps[a+0]])).natAbs<=_;rw[il,qJ]
  simpa using hb a (by omega)
 | n+1,a,h=>by
  have i1:=qK f hd hb n a (by omega);have i2:=qK f hd hb n (a+1) (by omega);obtain⟨e1,e2,e3⟩:=DA (ps:=ps) (a:=a) (g:=n) (by omega);have g:=wx f (run ps (a+1) n) ps[a] ps[a+n+1];rw[←e1,←e2,←e3]at g;have ne:=hd (a+n+1) a (by omega) (by omega) (by omega);have hm:(dd f (run ps a (n+2))).natAbs<=((ps[a+n+1]-ps[a])*dd f (run ps a (n+2))).natAbs:=by
   rw[bV];exact gB _ (by omega)
  rw[g]at hm;have:2 ^ (n+1)*B=2 ^ n*B+2 ^ n*B:=by rw[jC];grind
  show (dd f (run ps a (n+2))).natAbs<=_;omega
def rnd (f ps:List Int)(g i:Nat):Int:=if i<g then dd f (run ps 0 (i+1)) else dd f (run ps (i-g) (g+1))
def mxR (f ps:List Int)(g c i:Nat):Int:=if c<=i then rnd f ps (g+1) i else rnd f ps g i
theorem KO {f ps:List Int}{g i:Nat}(h:i<=g):rnd f ps (g+1) i=rnd f ps g i:=by
 unfold rnd;rw[if_pos (by omega)];by_cases z:i<g
 ·rw[if_pos z]
 ·rw[if_neg z,show i-g=0 by omega,show i=g by omega]
theorem KP {f ps:List Int}{i:Nat}(h:i<ps.length):rnd f ps 0 i=val ps[i] f:=by
 unfold rnd;rw[if_neg (by omega),F8,wy (show i+0<ps.length from h)];show dd f ([]++[ps[i]])=_;rw[il,qJ]
theorem KQ {f ps:List Int}{g i:Nat}(h:i<=g):rnd f ps g i=dd f (run ps 0 (i+1)):=by
 unfold rnd;by_cases z:i<g
 ·rw[if_pos z]
 ·rw[if_neg z,show i-g=0 by omega,show i=g by omega]
theorem KR {f ps:List Int}{g i:Nat}(hg:g+1<=i)(hi:i<ps.length)(hne:ps[i]≠ps[i-(g+1)]):(rnd f ps g i-rnd f ps g (i-1)).fdiv (ps[i]-ps[i-(g+1)])=rnd f ps (g+1) i:=by
 obtain⟨a,rfl⟩:∃a,i=a+g+1:=⟨i-(g+1),by omega⟩
 have e0:a+g+1-(g+1)=a:=by omega
 have e1:a+g+1-g=a+1:=by omega
 have e2:a+g+1-1-g=a:=by omega
 unfold rnd;rw[if_neg (by omega),if_neg (by omega),if_neg (by omega),e1,e2];simp only[e0]at hne ⊢;exact KN f hi hne
end My
namespace My
abbrev Rw:=Nat->Int
def io (c:Nat):List Rw->(List Rw->Int)->Int
 | [],_=>0
 | r :: w,F=>(-1) ^ w.length*r c*F w+io c w λu=>F (r :: u)
def dt:List Nat->List Rw->Int
 | [],[]=>1
 | [],_ :: _=>0
 | c :: cs,l=>io c l (dt cs)
theorem wz {c:Nat}:∀(w:List Rw){F G:List Rw->Int},(∀u,u.length+1=w.length->F u=G u)->io c w F=io c w G
 | [],_,_,_=>rfl
 | r :: w,F,G,h=>by
  rw[io,io,h w rfl,wz w (F:=λu=>F (r :: u)) (G:=λu=>G (r :: u)) λu hu=>h (r :: u) (by simp[hu])]
theorem DB {c:Nat}:∀(w:List Rw),io c w (λ_=>0)=0
 | []=>rfl
 | r :: w=>by rw[io,DB w];simp
theorem DC {c:Nat}(x:Int):∀(w:List Rw) (F G:List Rw->Int),io c w (λu=>x*F u+G u)=x*io c w F+io c w G
 | [],_,_=>by simp[io]
 | r :: w,F,G=>by
  rw[io,io,io,DC x w (λu=>F (r :: u)) (λu=>G (r :: u))];generalize io c w (λu=>F (r :: u))=p;generalize io c w (λu=>G (r :: u))=q;generalize ((-1:Int) ^ w.length)=e;grind
theorem DD (a b:Nat):∀(w:List Rw) (F:List Rw->Int),io a w (λu=>io b u F)+io b w (λu=>io a u F)=0
 | [],_=>rfl
 | r :: w,F=>by
  have st:∀(a b:Nat),io a (r :: w) (λu=>io b u F)=(-1) ^ w.length*r a*io b w F+(-((-1) ^ w.length)*r b*io a w F+io a w λu=>io b u λv=>F (r :: v)):=λa b=>by
   rw[io];congr 1;rw[wz w (G:=λu=>-((-1) ^ w.length)*r b*F u+io b u λv=>F (r :: v)) λu hu=>?_]
   ·rw[DC]
   ·rw[io,←hu,jH];grind
  rw[st a b,st b a];have ih:=DD a b w λu=>F (r :: u);generalize io a w (λu=>io b u λv=>F (r :: v))=p at ih ⊢;generalize io b w (λu=>io a u λv=>F (r :: v))=q at ih ⊢;grind
theorem DE (a b:Nat)(cs:List Nat)(l:List Rw):dt (a :: b :: cs) l=- dt (b :: a :: cs) l:=by
 have:=DD a b l (dt cs);have e1:dt (a :: b :: cs) l=io a l (λu=>io b u (dt cs)):=rfl;have e2:dt (b :: a :: cs) l=io b l (λu=>io a u (dt cs)):=rfl;omega
theorem wA {j:Nat}:∀(cs:List Nat) (l:List Rw),j∈cs->dt (j :: cs) l=0
 | [],_,h=>by simp at h
 | c :: cs,l,h=>by
  by_cases z:j=c
  ·subst z;have:=DE j j cs l;omega
  ·have hm:j∈cs:=by
    rcases a_.mp h with h|h
    ·exact absurd h z
    ·exact h
   rw[DE];have e:dt (c :: j :: cs) l=io c l (λu=>dt (j :: cs) u):=rfl;rw[e,wz l (G:=λ_=>0) λu _=>wA cs u hm,DB];rfl
def dot:List Int->List Rw->Nat->Int
 | m :: ms,r :: rs,c=>m*r c+dot ms rs c
 | _,_,_=>0
theorem lH {ms:List Int}:∀{rs:List Rw}{m:Int}{r:Rw}{c:Nat},ms.length=rs.length->dot (ms++[m]) (rs++[r]) c=dot ms rs c+m*r c:=by
 induction ms with
 | nil=>intro rs m r c h;cases rs with
  | nil=>simp[dot]
  | cons=>simp at h
 | cons x ms ih=>intro rs m r c h;cases rs with
  | nil=>simp at h
  | cons y rs=>
   have:=ih (rs:=rs) (m:=m) (r:=r) (c:=c) (by simpa using h);simp only[jG,dot];omega
def coE:List Rw->(List Rw->Int)->List Int
 | [],_=>[]
 | r :: w,F=>(-1) ^ w.length*F w :: coE w λu=>F (r :: u)
theorem DF (c:Nat):∀(w:List Rw) (F:List Rw->Int),io c w F=dot (coE w F) w c
 | [],_=>rfl
 | r :: w,F=>by
  rw[io,coE,dot,DF c w];congr 1;grind
theorem DG:∀(w:List Rw) (r:Rw) (F:List Rw->Int),∃xs:List Int,xs.length=w.length∧coE (w++[r]) F=xs++[F w]
 | [],r,F=>⟨[],rfl,by simp[coE]⟩
 | x :: w,r,F=>by
  obtain⟨xs,h1,h2⟩:=DG w r λu=>F (x :: u);exact⟨(-1) ^ (w++[r]).length*F (w++[r]) :: xs,by simp[h1],by rw[jG,coE,h2];rfl⟩
theorem KS (w:List Rw)(r:Rw)(F:List Rw->Int):∃xs:List Int,xs.length=w.length∧∀c,io c (w++[r]) F=dot xs w c+F w*r c:=by
 obtain⟨xs,h1,h2⟩:=DG w r F;exact⟨xs,h1,λc=>by rw[DF,h2,lH h1]⟩
theorem qL (a b:Int):∀(xs ys:List Int) (rs:List Rw),xs.length=rs.length->ys.length=rs.length->∃zs:List Int,zs.length=rs.length∧∀c,dot zs rs c=a*dot xs rs c+b*dot ys rs c
 | [],[],[],_,_=>⟨[],rfl,λc=>by simp[dot]⟩
 | x :: xs,y :: ys,r :: rs,h1,h2=>by
  obtain⟨zs,h3,h4⟩:=qL a b xs ys rs (by simpa using h1) (by simpa using h2);refine⟨(a*x+b*y) :: zs,by simp[h3],λc=>?_⟩;rw[dot,dot,dot,h4 c];grind
 | [],_ :: _,[],_,h=>by simp at h
 | _ :: _,_,[],h,_=>by simp at h
 | [],_,_ :: _,h,_=>by simp at h
 | _ :: _,[],_ :: _,_,h=>by simp at h
theorem KT (rs:List Rw)(c:Nat):dot (aL rs.length 0) rs c=0:=by
 induction rs with
 | nil=>rfl
 | cons r rs ih=>rw[ck,gy,dot,ih];simp
section
variable (rs:List Rw)(cs:List Nat)
def cr (i:Nat):List Nat:=(cs.take i).reverse
def mi (i:Nat):Int:=dt (cr cs i) (rs.take i)
def bo (i:Nat)(x:Rw)(j:Nat):Int:=dt (j :: cr cs i) (rs.take i++[x])
variable {rs cs}
theorem KU {i:Nat}(h:i<cs.length):cr cs (i+1)=cs[i] :: cr cs i:=by
 unfold cr;rw[de,aj h];simp
theorem jt {i l:Nat}(x:Rw)(h:l<i)(hi:l<cs.length):bo rs cs i x cs[l]=0:=by
 refine wA _ _ ?_;unfold cr;rw[xM,List.mem_take_iff_getElem];exact⟨l,by omega,rfl⟩
theorem g9 (i:Nat)(x:Rw):∃xs:List Int,xs.length=(rs.take i).length∧∀j,bo rs cs i x j=dot xs (rs.take i) j+mi rs cs i*x j:=by
 obtain⟨xs,h1,h2⟩:=KS (rs.take i) x (dt (cr cs i));exact⟨xs,h1,h2⟩
theorem j4 {i:Nat}(hr:i<rs.length)(hc:i<cs.length):mi rs cs (i+1)=bo rs cs i rs[i] cs[i]:=by
 unfold mi bo;rw[KU hc,de,aj hr];rfl
theorem wB:mi rs cs 0=1:=rfl
theorem wC:∀(k:Nat),k<=rs.length->k<=cs.length->(∀i,i<=k->mi rs cs i≠0)->∀(ms:List Int),ms.length=(rs.take k).length->(∀l (h:l<cs.length),l<k->dot ms (rs.take k) cs[l]=0)->∀j,dot ms (rs.take k) j=0
 | 0,_,_,_,ms,hl,_,j=>by
  have:ms=[]:=bK (by simpa using hl);subst this;simp[dot]
 | k+1,hr,hc,hm,ms,hl,hz,j=>by
  have et:rs.take (k+1)=rs.take k++[rs[k]]:=by rw[de,aj (by omega)];rfl
  have lt:(rs.take k).length=k:=by rw[b6];omega
  rw[et,bM,lt]at hl;obtain⟨m0,m,rfl⟩:∃m0 m,ms=m0++[m]:=by
   cases e:ms.getLast? with
   | none=>rw[xN]at e;subst e;simp at hl
   | some a=>exact⟨_,a,(rP.mp e).choose_spec⟩
  have l0:m0.length=(rs.take k).length:=by rw[lt];simpa using hl
  have sp:∀j,dot (m0++[m]) (rs.take (k+1)) j=dot m0 (rs.take k) j+m*rs[k] j:=λj=>by rw[et,lH l0]
  obtain⟨xs,h1,h2⟩:=g9 (rs:=rs) (cs:=cs) k rs[k];obtain⟨zs,z1,z2⟩:=qL (mi rs cs k) (-m) m0 xs (rs.take k) l0 h1;have key:∀j,dot zs (rs.take k) j=mi rs cs k*dot (m0++[m]) (rs.take (k+1)) j-m*bo rs cs k rs[k] j:=λj=>by
   rw[z2 j,sp j,h2 j];grind
  have ih:=wC k (by omega) (by omega) (λi hi=>hm i (by omega)) zs z1 λl h hlk=>by
   rw[key,hz l h (by omega),jt _ hlk];simp
  have e1:=key cs[k];rw[ih,hz k (by omega) (by omega),←j4 (by omega) (by omega)]at e1;have m00:m=0:=by
   have h0:=hm (k+1) (am _);have:m*mi rs cs (k+1)=0:=by omega
   rcases iN.mp this with h|h
   ·exact h
   ·exact absurd h h0
  have e2:=key j;rw[ih,m00]at e2;have h0:=hm k (by omega);have:mi rs cs k*dot (m0++[0]) (rs.take (k+1)) j=0:=by omega
  rw[m00];rcases iN.mp this with h|h
  ·exact absurd h h0
  ·exact h
theorem KY {i:Nat}(hr:i<rs.length)(hc:i<cs.length)(hm:∀l,l<=i+1->mi rs cs l≠0)(x:Rw)(j:Nat):mi rs cs i*bo rs cs (i+1) x j=mi rs cs (i+1)*bo rs cs i x j-bo rs cs i x cs[i]*bo rs cs i rs[i] j:=by
 have et:rs.take (i+1)=rs.take i++[rs[i]]:=by rw[de,aj hr];rfl
 obtain⟨as,a1,a2⟩:=g9 (rs:=rs) (cs:=cs) (i+1) x;obtain⟨bs,b1,b2⟩:=g9 (rs:=rs) (cs:=cs) i x;obtain⟨ds,d1,d2⟩:=g9 (rs:=rs) (cs:=cs) i rs[i];have b1':(bs++[0]).length=(rs.take (i+1)).length:=by rw[et,bM,bM,b1];rfl
 have d1':(ds++[mi rs cs i]).length=(rs.take (i+1)).length:=by rw[et,bM,bM,d1];rfl
 obtain⟨zs,z1,z2⟩:=qL (mi rs cs i) (- mi rs cs (i+1)) as (bs++[0]) (rs.take (i+1)) a1 b1';obtain⟨ys,y1,y2⟩:=qL 1 (bo rs cs i x cs[i]) zs (ds++[mi rs cs i]) (rs.take (i+1)) z1 d1';have key:∀j,dot ys (rs.take (i+1)) j=mi rs cs i*bo rs cs (i+1) x j-mi rs cs (i+1)*bo rs cs i x j+bo rs cs i x cs[i]*bo rs cs i rs[i] j:=λj=>by
  rw[y2 j,z2 j,a2 j,b2 j,d2 j,et,lH b1,lH d1];grind
 have:=wC (i+1) hr hc hm ys y1 (λl h hl=>by
  rw[key];by_cases z:l=i
  ·subst z;rw[jt x (ky _) h,←j4 hr hc];grind
  ·rw[jt x (by omega) h,jt x (show l<i by omega) h,jt rs[i] (show l<i by omega) h];simp) j
 rw[key]at this;omega
end
end My
namespace My
theorem DH {B Fb:Nat}{c:Nat}:∀(w:List Rw) (F:List Rw->Int),(∀u,u.length+1=w.length->(∀r∈u,r∈w)->(F u).natAbs<=Fb)->(∀r∈w,(r c).natAbs<=B)->(io c w F).natAbs<=w.length*(B*Fb)
 | [],_,_,_=>by simp[io]
 | r :: w,F,h,hb=>by
  have ih:=DH (B:=B) (Fb:=Fb) (c:=c) w (λu=>F (r :: u)) (λu hu hm=>h (r :: u) (by simp[hu]) λx hx=>by
   rcases a_.mp hx with z|z
   ·rw[z];exact dw
   ·exact cT _ (hm x z)) λx hx=>hb x (cT _ hx)
  have h1:=h w rfl λx hx=>cT _ hx;have h2:=hb r dw;rw[io,ck,gM,fG];have h3:((-1:Int) ^ w.length*r c*F w).natAbs<=B*Fb:=by
   rw[bV,bV,Ga];simp;exact eC h2 h1
  have:=mo ((-1:Int) ^ w.length*r c*F w) (io c w λu=>F (r :: u));omega
theorem wD {B N:Nat}(hB:1<=N*B):∀(cs:List Nat) (l:List Rw),l.length<=N->(∀r∈l,∀c,(r c).natAbs<=B)->(dt cs l).natAbs<=(N*B) ^ cs.length
 | [],[],_,_=>by simp[dt]
 | [],_ :: _,_,_=>by simp[dt]
 | c :: cs,l,hl,hb=>by
  have h:=DH (B:=B) (Fb:=(N*B) ^ cs.length) (c:=c) l (dt cs) (λu hu hm=>wD hB cs u (by omega) λr hr=>hb r (hm r hr)) λr hr=>hb r hr c;rw[dt,ck,jC];refine aP h ?_;rw[gI ((N*B) ^ cs.length) (N*B),jb];exact fS _ hl
theorem DI {us ws:List Int}{j:Nat}:∀{R1 R2:List Rw},us.length=R1.length->dot (us++ws) (R1++R2) j=dot us R1 j+dot ws R2 j:=by
 induction us with
 | nil=>intro R1 R2 h;cases R1 with
  | nil=>simp[dot]
  | cons=>simp at h
 | cons x us ih=>intro R1 R2 h;cases R1 with
  | nil=>simp at h
  | cons y R1=>
   have:=ih (R1:=R1) (R2:=R2) (by simpa using h);simp only[jG,dot];omega
theorem DJ {rs:List Rw}{e N:Nat}(hz:∀r∈rs,∀J,e+N<=J->r J=0)(ind:∀ms:List Int,ms.length=rs.length->(∀J,e<=J->dot ms rs J=0)->∀m∈ms,m=0):∀i,i<=rs.length->∃cs:List Nat,cs.length=i∧cs.Nodup∧(∀c∈cs,e<=c∧c<e+N)∧∀l,l<=i->mi rs cs l≠0
 | 0,_=>⟨[],rfl,rQ,by simp,λl hl=>by rw[show l=0 by omega,wB];decide⟩
 | i+1,hi=>by
  obtain⟨cs,h1,h2,h3,h4⟩:=DJ hz ind i (by omega);obtain⟨xs,x1,x2⟩:=g9 (rs:=rs) (cs:=cs) i rs[i];have et:rs=(rs.take i++[rs[i]])++rs.drop (i+1):=by
   conv=>lhs;rw[←Nk (i+1) rs]
   rw[de,aj (by omega)];rfl
  have key:∀J,dot ((xs++[mi rs cs i])++aL (rs.drop (i+1)).length 0) rs J=bo rs cs i rs[i] J:=λJ=>by
   have e1:dot ((xs++[mi rs cs i])++aL (rs.drop (i+1)).length 0) ((rs.take i++[rs[i]])++rs.drop (i+1)) J=bo rs cs i rs[i] J:=by
    rw[DI (by rw[bM,bM,x1];rfl),lH x1,KT,x2 J];omega
   rw[←et]at e1;exact e1
  by_cases hb:∃J,e<=J∧bo rs cs i rs[i] J≠0
  ·obtain⟨J,J1,J2⟩:=hb;have Jn:J∉cs:=λhm=>by
    obtain⟨l,hl,rfl⟩:=dq.mp hm;exact J2 (jt _ (by omega) hl)
   have Jl:J<e+N:=by
    refine kC λh=>J2 ?_;rw[←key J];have:∀(ms:List Int) (R:List Rw),(∀r∈R,r J=0)->dot ms R J=0:=λms=>by
     induction ms with
     | nil=>intro R _;cases R <;> rfl
     | cons m ms ih=>intro R hR;cases R with
      | nil=>rfl
      | cons r R=>rw[dot,hR r dw,ih R λx hx=>hR x (cT _ hx)];simp
    exact this _ _ λr hr=>hz r hr J h
   have cre:∀l,l<=i->cr (cs++[J]) l=cr cs l:=λl hl=>by unfold cr;rw[Gb (by omega)]
   have same:∀l,l<=i->mi rs (cs++[J]) l=mi rs cs l:=λl hl=>by unfold mi;rw[cre l hl]
   refine⟨cs++[J],by simp[h1],?_,λc hc=>?_,λl hl=>?_⟩
   ·rw[rR];exact⟨h2,by simp,λa ha b hb=>by rw[aQ.mp hb];intro z;rw[z]at ha;exact Jn ha⟩
   ·rcases bj.mp hc with h|h
    ·exact h3 c h
    ·rw[aQ.mp h];exact⟨J1,Jl⟩
   ·by_cases z:l<=i
    ·rw[same l z];exact h4 l z
    ·have:l=i+1:=by omega
     subst this;rw[j4 (by omega) (by simp;omega)];have e1:(cs++[J])[i]'(by simp;omega)=J:=by simp[h1]
     have e2:bo rs (cs++[J]) i rs[i] J=bo rs cs i rs[i] J:=by unfold bo;rw[cre i (am _)]
     rw[e1,e2];exact J2
  ·have:=ind ((xs++[mi rs cs i])++aL (rs.drop (i+1)).length 0) (by
    have:=congrArg ij et;rw[bM,bM]at this;rw[bM,bM,me,x1];exact this.symm) (λJ hJ=>by
    rw[key J];by_cases z:bo rs cs i rs[i] J=0
    ·exact z
    ·exact absurd ⟨J,hJ,z⟩ hb) (mi rs cs i) (by simp)
   exact absurd this (h4 i (am _))
end My
namespace My
def prb (β:Rw->Nat):List Rw->Nat
 | []=>1
 | r :: w=>β r*prb β w
theorem DK {β:Rw->Nat}{c:Nat}:∀(w:List Rw) (C:Nat) (F:List Rw->Int),(∀u,u.length+1=w.length->(∀r∈u,r∈w)->(F u).natAbs<=C*prb β u)->(∀r∈w,(r c).natAbs<=β r)->(io c w F).natAbs<=w.length*(C*prb β w)
 | [],_,_,_,_=>by simp[io]
 | r :: w,C,F,h,hb=>by
  have ih:=DK (β:=β) (c:=c) w (C * β r) (λu=>F (r :: u)) (λu hu hm=>by
   have:=h (r :: u) (by simp[hu]) λx hx=>by
    rcases a_.mp hx with z|z
    ·rw[z];exact dw
    ·exact cT _ (hm x z)
   rw[prb,←jb]at this;exact this) λx hx=>hb x (cT _ hx)
  have h1:=h w rfl λx hx=>cT _ hx;have h2:=hb r dw;rw[io,ck,gM,fG,prb];have h3:((-1:Int) ^ w.length*r c*F w).natAbs<=β r*(C*prb β w):=by
   rw[bV,bV,Ga];simp;exact eC h2 h1
  have e1:β r*(C*prb β w)=C*(β r*prb β w):=Nat.mul_left_comm _ _ _;have e2:C * β r*prb β w=C*(β r*prb β w):=jb _ _ _;rw[e1]at h3;rw[e2]at ih;have:=mo ((-1:Int) ^ w.length*r c*F w) (io c w λu=>F (r :: u));omega
theorem wE {β:Rw->Nat}{N:Nat}(hN:1<=N):∀(cs:List Nat) (l:List Rw),l.length<=N->(∀r∈l,∀c,(r c).natAbs<=β r)->(∀r∈l,1<=β r)->(dt cs l).natAbs<=N ^ cs.length*prb β l
 | [],[],_,_,_=>by simp[dt,prb]
 | [],_ :: _,_,_,_=>by simp[dt]
 | c :: cs,l,hl,hb,h1=>by
  have h:=DK (β:=β) (c:=c) l (N ^ cs.length) (dt cs) (λu hu hm=>wE hN cs u (by omega) (λr hr=>hb r (hm r hr)) λr hr=>h1 r (hm r hr)) λr hr=>hb r hr c;rw[dt,ck,jC];refine aP h ?_;rw[gI (N ^ cs.length) N,jb];exact fS _ hl
theorem wF (β:Rw->Nat):∀(a b:List Rw),prb β (a++b)=prb β a*prb β b
 | [],b=>by simp[prb]
 | r :: a,b=>by rw[jG,prb,prb,wF β a b,jb]
theorem wG {β:Rw->Nat}{B:Nat}:∀(a:List Rw),(∀r∈a,β r<=B)->prb β a<=B ^ a.length
 | [],_=>by simp[prb]
 | r :: a,h=>by
  rw[prb,ck,jC,gI];exact eC (wG a λx hx=>h x (cT _ hx)) (h r dw)
end My
namespace My
open PySem PySem.Spec PyProof.Rows L2
seal L2.PE L2.PS L2.PSs L2.PA
local macro_rules | `(tactic| k_units)=>`(tactic| ((try dsimp only[qA,qu,qx,qy,qz,qi,qj,qk,ql,p_,p7,p8,p9,qc,qd,qe,qf,qg,qh,p6,pZ,p4,pW,pV,pS,qo,qm,qp,qq,qr,pM,pO,pJ,pL,pQ,aC,m9,m_,nc,nj,nn,nv,nz,nC,nH,nI,nJ,nK,nL,nN,nP,nQ,nU,a_c,nZ,n6,n8,n_,oa,og,oh,oi,oj,ol,om,oo,oq,ot,ou,ow,ox,oy,oz,oA,oC,oE,oG,oH,oI,oJ,oM,oN,oO,oP,oQ,oR,oS,oU,oV,oW,oX,oY,pi,pD,pC,pE,pF,pH,pI,oZ,o0,o7,o8,o9]);(try simp only[qA,qu,qx,qy,qz,qi,qj,qk,ql,p_,p7,p8,p9,qc,qd,qe,qf,qg,qh,p6,pZ,p4,pW,pV,pS,qo,qm,qp,qq,V.str.injEq,qr,pM,pO,pJ,pL,pQ,aC,m9,m_,nc,nj,nn,nv,nz,nC,nH,nI,nJ,nK,nL,nN,nP,nQ,nU,a_c,nZ,n6,n8,n_,oa,og,oh,oi,oj,ol,om,oo,oq,ot,ou,ow,ox,oy,oz,oA,oC,oE,oG,oH,oI,oJ,oM,oN,oO,oP,oQ,oR,oS,oU,oV,oW,oX,oY,pi,and_assoc,pD,pC,pE,pF,pH,pI,oZ,o0,o7,o8,o9,FZ,Nl,List.set_cons_zero,List.set_cons_succ,Option.some.injEq,V.int.injEq,V.bl.injEq,V.ref.injEq,V.ty.injEq,exists_eq_left',exists_eq_left,exists_and_left,decide_eq_true_eq,jG,il,rD,List.cons.injEq,and_true,true_and,Bool.not_eq_true',decide_eq_false_iff_not,ite_true,ite_false,Bool.false_eq_true,if_true,if_false,ck,rK,L2.gC,dy,rH,gy,Nm])))
local macro_rules | `(tactic| k_typeOf)=>`(tactic| ((try dsimp only[qA,qu,qx,qy,qz,qi,qj,qk,ql,p_,p7,p8,p9,qc,qd,qe,qf,qg,qh,p6,pZ,p4,pW,pV,pS,qo,qm,qp,qq,qr,pM,pO,pJ,pL,pQ,m9,m_,nc,nj,nn,nv,nz,nC,nH,nI,nJ,nK,nL,nN,nP,nQ,nU,a_c,nZ,n6,n8,n_,oa,og,oh,oi,oj,ol,om,oo,oq,ot,ou,ow,ox,oy,oz,oA,oC,oE,oG,oH,oI,oJ,oM,oN,oO,oP,oQ,oR,oS,oU,oV,oW,oX,oY,pi,pD,pC,pE,pF,pH,pI,oZ,o0,o7,o8,o9]);(try simp only[qA,qu,qx,qy,qz,qi,qj,qk,ql,p_,p7,p8,p9,qc,qd,qe,qf,qg,qh,p6,pZ,p4,pW,pV,pS,qo,qm,qp,qq,V.str.injEq,qr,pM,pO,pJ,pL,pQ,m9,m_,nc,nj,nn,nv,nz,nC,nH,nI,nJ,nK,nL,nN,nP,nQ,nU,a_c,nZ,n6,n8,n_,oa,og,oh,oi,oj,ol,om,oo,oq,ot,ou,ow,ox,oy,oz,oA,oC,oE,oG,oH,oI,oJ,oM,oN,oO,oP,oQ,oR,oS,oU,oV,oW,oX,oY,pi,and_assoc,pD,pC,pE,pF,pH,pI,oZ,o0,o7,o8,o9,FZ,Nl,List.set_cons_zero,List.set_cons_succ,Option.some.injEq,V.int.injEq,V.bl.injEq,V.ref.injEq,V.ty.injEq,exists_eq_left',exists_eq_left,exists_and_left,decide_eq_true_eq,jG,il,rD,List.cons.injEq,and_true,true_and,Bool.not_eq_true',decide_eq_false_iff_not,ite_true,ite_false,Bool.false_eq_true,if_true,if_false,ck,rK,L2.gC,dy,rH,gy,Nm])))
local macro_rules | `(tactic| w_on)=>`(tactic| exact⟨rfl,rfl,rfl,by decide +kernel,rfl,by decide +kernel,by decide +kernel⟩)
theorem sc_trimmed:FnScope ["numbers","size"] ["numbers"] (aY r_):=by w_on
theorem sc_poly_plus:FnScope ["one","other","answer","place","number"] ["one","other"] (aY sd):=by w_on
theorem sc_poly_times:FnScope ["one","other","answer","low","number","place","factor"] ["one","other"] (aY sf):=by w_on
theorem sc_poly_value:FnScope ["poly","n","answer","number"] ["poly","n"] (aY si):=by w_on
theorem sc_quotient:FnScope ["one","other","rest","steps","answer","low","top","factor","place","number"] ["one","other"] (aY sj):=by w_on
theorem sc_shortened:FnScope ["big","small","cut","ahead","behind","half","upper","lower","times","rest","further"] ["big","small"] (aY sk):=by w_on
theorem sc_divisor:FnScope ["one","other","big","small","pair","rest"] ["one","other"] (aY so):=by w_on
theorem sc_content:FnScope ["poly","answer","number"] ["poly"] (aY sr):=by w_on
theorem KZ:FnScope ["poly","number"] ["poly","number"] (aY su):=by w_on
theorem K0:FnScope ["poly"] ["poly"] (aY sw):=by w_on
theorem sc_spread:FnScope ["number","base","answer","low"] ["number","base"] (aY sB):=by w_on
theorem K1:FnScope ["poly"] ["poly"] (aY sC):=by w_on
theorem sc_bare_common:FnScope ["one","other","place","found"] ["one","other"] (aY sD):=by w_on
theorem sc_common:FnScope ["one","other","first","second","shared"] ["one","other"] (aY sE):=by w_on
theorem sc_common_of:FnScope ["polys","answer","poly"] ["polys"] (aY sF):=by w_on
theorem sc_lowered:FnScope ["row","table","columns","before","base","column","pivot","factor"] ["row","table","columns"] (aY sI):=by w_on
theorem sc_through:FnScope ["places","values","steps","gap","place","answer"] ["places","values"] (aY sJ):=by w_on
theorem K2:FnScope ["polys"] ["polys"] (aY sK):=by w_on
theorem sc_degree_bound:FnScope ["vectors","columns","by_vector","by_column"] ["vectors","columns"] (aY sL):=by w_on
theorem sc_cleared:FnScope ["polys","shared"] ["polys"] (aY sM):=by w_on
theorem sc_relation:FnScope ["vectors","span","vector","found"] ["vectors"] (aY sO):=by w_on
theorem K3:FnScope ["_law_script","_law_k"] ["_law_script","_law_k"] (aY sR):=by w_on
theorem sc__law_poly:FnScope ["_law_cell","_law_found","_law_mixed","_law_k","_law_number"] ["_law_cell"] (aY sS):=by w_on
theorem sc__law_some:FnScope ["_law_cell","_law_found"] ["_law_cell"] (aY sT):=by w_on
theorem sc__law_product:FnScope ["_law_one","_law_other","_law_found","_law_i","_law_j"] ["_law_one","_law_other"] (aY sU):=by w_on
theorem sc__law_sum:FnScope ["_law_one","_law_other","_law_found","_law_k"] ["_law_one","_law_other"] (aY sV):=by w_on
theorem sc__law_vectors:FnScope ["_law_script","_law_many","_law_width","_law_turn","_law_found","_law_t","_law_vector","_law_c","_law_cell"] ["_law_script","_law_many","_law_width"] (aY sW):=by w_on
theorem sc__law_factors:FnScope ["_law_script","_law_many","_law_h","_law_found"] ["_law_script","_law_many","_law_h"] (aY sX):=by w_on
theorem sc__law_is:FnScope ["_law_found","_law_due","_law_poly_here","_law_right","_law_k"] ["_law_found","_law_due"] (aY sY):=by w_on
theorem sc_law:FnScope ["_law_script","_law_many","_law_width","_law_ys","_law_h","_law_gs","_law_last","_law_g","_law_y","_law_ahead","_law_behind","_law_sign","_law_due","_law_vectors_here","_law_handed","_law_found"] ["_law_script"] (aY sZ):=by w_on
theorem K4:FnScope ["self","width"] ["self","width"] (aY s_):=by w_on
theorem sc_Span_row_at:FnScope ["self","vector","number","place","mark"] ["self","vector","number","place"] (aY tf):=by w_on
theorem sc_Span_table_at:FnScope ["self","place","table","number","row"] ["self","place"] (aY tj):=by w_on
theorem sc_Span_lowered_at:FnScope ["self","vector","place","table"] ["self","vector","place"] (aY tm):=by w_on
theorem sc_Span_only_choice:FnScope ["self","vector","many","places","marks","place","row"] ["self","vector"] (aY tq):=by w_on
theorem sc_Span_failing_column:FnScope ["self","vector","weights","column","answer","other","weight"] ["self","vector","weights"] (aY tu):=by w_on
theorem K5:FnScope ["self","vector","column"] ["self","vector","column"] (aY tD):=by w_on
theorem sc_Span_by_few:FnScope ["self","vector","few","span","number","found","weights","weight"] ["self","vector","few"] (aY tE):=by w_on
theorem sc_Span_take:FnScope ["self","vector","own","row","column","few","weights"] ["self","vector"] (aY tF):=by w_on
set_option genInjectivity false in
set_option genSizeOf false in
structure Tx (K:PySem.W.Frag) (mg:Str->Option Value) where
 Oo:Addr
 Op:FuncData
 N7:Fun K "trimmed" "trimmed" r_ Oo Op
 Oq:mg "trimmed" = some (.ref Oo)
 Os:Binds K Op ["numbers"] []
 Ot:Addr
 Ou:FuncData
 Ov:Fun K "poly_plus" "poly_plus" sd Ot Ou
 Qo:mg "poly_plus" = some (.ref Ot)
 Qp:Binds K Ou ["one","other"] []
 Ow:Addr
 Ox:FuncData
 Oy:Fun K "poly_times" "poly_times" sf Ow Ox
 Qq:mg "poly_times" = some (.ref Ow)
 Qr:Binds K Ox ["one","other"] []
 Oz:Addr
 OA:FuncData
 N8:Fun K "poly_value" "poly_value" si Oz OA
 OB:mg "poly_value" = some (.ref Oz)
 OC:Binds K OA ["poly","n"] []
 OD:Addr
 OE:FuncData
 N9:Fun K "quotient" "quotient" sj OD OE
 OF:mg "quotient" = some (.ref OD)
 OG:Binds K OE ["one","other"] []
 OH:Addr
 OI:FuncData
 Qs:Fun K "shortened" "shortened" sk OH OI
 Q5:mg "shortened" = some (.ref OH)
 Q6:Binds K OI ["big","small"] []
 OJ:Addr
 OK:FuncData
 N_:Fun K "divisor" "divisor" so OJ OK
 OL:mg "divisor" = some (.ref OJ)
 OM:Binds K OK ["one","other"] []
 ON:Addr
 OO:FuncData
 Oa:Fun K "content" "content" sr ON OO
 OP:mg "content" = some (.ref ON)
 OQ:Binds K OO ["poly"] []
 OR:Addr
 OS:FuncData
 Ob:Fun K "over" "over" su OR OS
 OT:mg "over" = some (.ref OR)
 OU:Binds K OS ["poly","number"] []
 OV:Addr
 OW:FuncData
 OX:Fun K "upright" "upright" sw OV OW
 Qt:mg "upright" = some (.ref OV)
 Qu:Binds K OW ["poly"] []
 OY:Addr
 OZ:FuncData
 Qv:Fun K "spread" "spread" sB OY OZ
 Q7:mg "spread" = some (.ref OY)
 Q8:Binds K OZ ["number","base"] []
 O0:Addr
 O8:FuncData
 O9:Fun K "greatest_size" "greatest_size" sC O0 O8
 Qw:mg "greatest_size" = some (.ref O0)
 Qx:Binds K O8 ["poly"] []
 O_:Addr
 Pa:FuncData
 Qy:Fun K "bare_common" "bare_common" sD O_ Pa
 Q9:mg "bare_common" = some (.ref O_)
 Q_:Binds K Pa ["one","other"] []
 Pb:Addr
 Pe:FuncData
 Qz:Fun K "common" "common" sE Pb Pe
 Ra:mg "common" = some (.ref Pb)
 Rb:Binds K Pe ["one","other"] []
 Pf:Addr
 Pg:FuncData
 QB:Fun K "common_of" "common_of" sF Pf Pg
 Rc:mg "common_of" = some (.ref Pf)
 Re:Binds K Pg ["polys"] []
 Ph:Addr
 Pj:FuncData
 Pk:Fun K "lowered" "lowered" sI Ph Pj
 QC:mg "lowered" = some (.ref Ph)
 QD:Binds K Pj ["row","table","columns"] []
 Pm:Addr
 Po:FuncData
 QE:Fun K "through" "through" sJ Pm Po
 Rf:mg "through" = some (.ref Pm)
 Rg:Binds K Po ["places","values"] []
 Pp:Addr
 Pq:FuncData
 Pr:Fun K "greatest_degree" "greatest_degree" sK Pp Pq
 QF:mg "greatest_degree" = some (.ref Pp)
 QG:Binds K Pq ["polys"] []
 Ps:Addr
 Pt:FuncData
 QH:Fun K "degree_bound" "degree_bound" sL Ps Pt
 Rh:mg "degree_bound" = some (.ref Ps)
 Ri:Binds K Pt ["vectors","columns"] []
 Px:Addr
 Py:FuncData
 QI:Fun K "cleared" "cleared" sM Px Py
 Rj:mg "cleared" = some (.ref Px)
 Rk:Binds K Py ["polys"] []
 NV:Addr
 NW:FuncData
 NP:Fun K "relation" "relation" sO NV NW
 Oc:mg "relation" = some (.ref NV)
 Od:Binds K NW ["vectors"] []
 PB:Addr
 PD:FuncData
 NL:Fun K "_law_cell_at" "_law_cell_at" sR PB PD
 NQ:mg "_law_cell_at" = some (.ref PB)
 NR:Binds K PD ["_law_script","_law_k"] []
 PF:Addr
 PH:FuncData
 NX:Fun K "_law_poly" "_law_poly" sS PF PH
 Oe:mg "_law_poly" = some (.ref PF)
 Of:Binds K PH ["_law_cell"] []
 PJ:Addr
 PL:FuncData
 PM:Fun K "_law_some" "_law_some" sT PJ PL
 QJ:mg "_law_some" = some (.ref PJ)
 QK:Binds K PL ["_law_cell"] []
 PN:Addr
 PP:FuncData
 NS:Fun K "_law_product" "_law_product" sU PN PP
 NY:mg "_law_product" = some (.ref PN)
 NZ:Binds K PP ["_law_one","_law_other"] []
 PQ:Addr
 PR:FuncData
 PU:Fun K "_law_sum" "_law_sum" sV PQ PR
 QL:mg "_law_sum" = some (.ref PQ)
 QM:Binds K PR ["_law_one","_law_other"] []
 PV:Addr
 PX:FuncData
 QN:Fun K "_law_vectors" "_law_vectors" sW PV PX
 Rm:mg "_law_vectors" = some (.ref PV)
 Rn:Binds K PX ["_law_script","_law_many","_law_width"] []
 PY:Addr
 PZ:FuncData
 QO:Fun K "_law_factors" "_law_factors" sX PY PZ
 Ro:mg "_law_factors" = some (.ref PY)
 Rq:Binds K PZ ["_law_script","_law_many","_law_h"] []
 P0:Addr
 P1:FuncData
 P2:Fun K "_law_is" "_law_is" sY P0 P1
 QP:mg "_law_is" = some (.ref P0)
 QQ:Binds K P1 ["_law_found","_law_due"] []
 N4:Addr
 NT:FuncData
 Rr:Fun K "law" "law" sZ N4 NT
 RN:mg "law" = some (.ref N4)
 RO:Binds K NT ["_law_script"] []
 P3:Addr
 P4:FuncData
 Rs:Fun K "__init__" "Span.__init__" s_ P3 P4
 P5:Binds K P4 ["self","width"] []
 P6:Addr
 P8:FuncData
 Rt:Fun K "row_at" "Span.row_at" tf P6 P8
 QR:Binds K P8 ["self","vector","number","place"] []
 P9:Addr
 P_:FuncData
 Ru:Fun K "table_at" "Span.table_at" tj P9 P_
 QS:Binds K P_ ["self","place"] []
 Qa:Addr
 Qb:FuncData
 Rv:Fun K "lowered_at" "Span.lowered_at" tm Qa Qb
 QU:Binds K Qb ["self","vector","place"] []
 Qc:Addr
 Qd:FuncData
 Rx:Fun K "only_choice" "Span.only_choice" tq Qc Qd
 Ry:Binds K Qd ["self","vector"] []
 Qe:Addr
 Qf:FuncData
 Rz:Fun K "failing_column" "Span.failing_column" tu Qe Qf
 RA:Binds K Qf ["self","vector","weights"] []
 Qg:Addr
 Qh:FuncData
 RB:Fun K "keep" "Span.keep" tD Qg Qh
 QV:Binds K Qh ["self","vector","column"] []
 Qi:Addr
 Qj:FuncData
 RC:Fun K "by_few" "Span.by_few" tE Qi Qj
 RD:Binds K Qj ["self","vector","few"] []
 Og:Addr
 Oh:FuncData
 QW:Fun K "take" "Span.take" tF Og Oh
 Oi:Binds K Oh ["self","vector"] []
 Qk:Addr
 RE:mg "NoNumber" = some (.ref Qk)
 RF:PySem.W.excIn K Qk bmV "ValueError.__new__" = true
 NH:Addr
 Ql:mg "Span" = some (.ref NH)
 NG:Cls K NH
 Qm:Mk K NH P3
 QX:Meth K NH "row_at" P6
 QY:Meth K NH "table_at" P9
 QZ:Meth K NH "lowered_at" Qa
 RG:Meth K NH "only_choice" Qc
 RH:Meth K NH "failing_column" Qe
 Q0:Meth K NH "keep" Qg
 RI:Meth K NH "by_few" Qi
 Oj:Meth K NH "take" Og
 NM:NoAttr K NH "columns"
 NJ:NoAttr K NH "kept"
 Ol:NoAttr K NH "place"
 Q1:NoAttr K NH "tables"
 NN:NoAttr K NH "width"
 NF:mg "len" = none
 NK:mg "list" = none
 Om:mg "enumerate" = none
 RJ:mg "reversed" = none
 NU:mg "max" = none
 NI:mg "range" = none
 N5:mg "abs" = none
 Qn:mg "min" = none
 NO:mg "zip" = none
 Q2:mg "sum" = none
 On:mg "isinstance" = none
 RK:mg "bool" = none
 Q3:mg "int" = none
 Q4:{ t:Tok // mg "WINDOW" = some (.int 300 t) }
 RL:{ t:Tok // mg "LONG" = some (.int 4000 t) }
 RM:{ t:Tok // mg "START" = some (.int 97 t) }
def DL (K:PySem.W.Frag):Sp:=λvs H Q _=>∃(a:Addr) (xs:List Int),vs=[.ref a]∧SqL K H a (xs.map V.int)∧xs.length<=1000∧dE H Q ((aF xs).map V.int)
theorem wH {P:Program}{w:World}{K:PySem.W.Frag}{mg:Str->Option Value}{base:Heap}(T:Tx K mg):FnOk P w K mg base CX0 1 T.Oo T.Op ["numbers"] (DL K):=by
 refine T.N7.ok sc_trimmed (λvs H Q E h=>?_) (λcdv A outer s H vs Q E hr h=>?_)
 ·obtain⟨a,xs,rfl,_⟩:=h;rfl
 obtain⟨a,xs,rfl,hS,hl,q⟩:=h;refine⟨_,((ah (ax (i:=1) sc_trimmed.nd rfl (Or.inl rfl) (aG aX rfl T.NF aZ (aa (pv 0) ae)))
  (ah (ga PassesOwn.never (PW.pt (jR (aO gT (pv 1) ai (aN _)) (jP (aO e9 (aR bL (pv 0) (ak dg (pv 1) ai) (λ_ _=>rfl)) ai (aN _))))) (ao (vi (i:=1) sc_trimmed.nd rfl (Or.inl rfl) ai vn)))
  (ao (aM (iU jV rfl T.NK iC (aa (kL kO (pv 0) mZ (jU (pv 1))) ae))))))),?_⟩
 k_units
 refine⟨_,.inl hS,?_⟩;rw[ac];refine gg (λm σ H'=>m<=xs.length∧σ=[some (.ref a),some (.int (m:Int))]∧H'=H∧∀k,m<=k->co xs k=0) xs.length ⟨am _,rfl,rfl,λk hk=>ay hk⟩ ?_;have fin:∀n:Nat,n<=xs.length->aF xs=xs.take n->∃x,SqL K H a x∧∀p,H p=none->∃x1,(SqL K (upd H p (.lst (dH x none (some (n:Int))))) p x1∨SqT K (upd H p (.lst (dH x none (some (n:Int))))) p x1)∧
   ∀l,upd H p (.lst (dH x none (some (n:Int)))) l=none->Q (.ref l) (upd (upd H p (.lst (dH x none (some (n:Int))))) l (.lst x1)):=by
  intro n hn e;refine⟨_,hS,λp hp=>⟨_,.inl (SqL.of ag),λr hr'=>?_⟩⟩;rw[I_]at hr' ⊢;have e2:((xs.drop (HT.sIx xs.length 0 none)).take (HT.sIx xs.length xs.length (some ((n:Nat):Int))-HT.sIx xs.length 0 none))=aF xs:=by
   rw[HT.sIx_nat,HT.sIx_none,mF,e,rS hn];rfl
  rw[e2]at hr' ⊢;exact q r _ ((aw hp _).trans (aw hr' _)) ((aw hp _).free hr') ag
 rintro m σ H' ⟨hm,rfl,rfl,hz⟩
 cases m with
 | zero=>
  k_units
  rw[if_neg (by simp)];exact fin 0 (aI _) (C_ (aI _) hz (.inl rfl))
 | succ m=>
  have e1:((m+1:Nat):Int)-1=(m:Int):=by omega
  (iterate 3 (k_units;(try simp only[e1]));k_units)
  rw[if_pos (by omega)];refine⟨_,hS,_,en (by omega),?_⟩
  k_units
  refine bR (λh=>?_) (λh=>?_)
  ·refine⟨λσ' H1=>σ'=[some (V.ref a),some (V.int (m:Int))]∧H1=H',?_,rfl,rfl⟩
   rintro σ' H1 ⟨rfl,rfl⟩
   refine⟨m,ky _,by omega,rfl,rfl,λk hk=>?_⟩;by_cases e:k=m
   ·rw[e,aE (by omega)];exact h
   ·exact hz k (by omega)
  ·exact fin (m+1) hm (C_ hm hz (.inr (by show co xs m≠0;rw[aE (by omega)];exact h)))
def DM (K:PySem.W.Frag)(f:List Int->List Int->List Int):Sp:=λvs H Q _=>∃(a b:Addr) (xs ys:List Int),vs=[.ref a,.ref b]∧SqL K H a (xs.map V.int)∧SqL K H b (ys.map V.int)∧xs.length<=100∧ys.length<=100∧
 (∀x∈xs,Bd 60000 x)∧(∀y∈ys,Bd 60000 y)∧dE H Q ((f xs ys).map V.int)
theorem lI (k:Nat):(aL k [V.int 0]).flatten=(aL k (0:Int)).map V.int:=by
 induction k with
 | zero=>rfl
 | succ k ih=>rw[gy,mh,ih,gy];rfl
theorem wI (k j:Nat):co (aL k 0) j=0:=by
 unfold co;rw[av,i5]
 split <;> rfl
theorem K6 (xs:List Int)(k j:Nat):co (xs++aL k 0) j=co xs j:=by
 by_cases h:j<xs.length
 ·unfold co;rw[av,av,b_ h]
 ·rw[ay (xs:=xs) (by omega)];unfold co;rw[av,dz (by omega),i5]
  split <;> rfl
theorem DN {P:Program}{w:World}{K:PySem.W.Frag}{mg:Str->Option Value}{base:Heap}(T:Tx K mg):FnOk P w K mg base CX0 2 T.Ot T.Ou ["one","other"] (DM K fg):=by
 refine T.Ov.ok sc_poly_plus (λvs H Q E h=>?_) (λcdv A outer s H vs Q E hr h=>?_)
 ·obtain⟨a,b,xs,ys,rfl,_⟩:=h;rfl
 obtain⟨a,b,xs,ys,rfl,hA,hB,la,lb,_,_,q⟩:=h;refine⟨_,((ah (ax (i:=2) sc_poly_plus.nd rfl (Or.inl rfl) (ak iV (iU jV rfl T.NK iC (aa (pv 0) ae)) (ak jk (bU (aa ai ae)) (ak dg (aG aX rfl T.NF aZ (aa (pv 1) ae)) (aG aX rfl T.NF aZ (aa (pv 0) ae))))))
  (ah (cy PassesOwn.never rfl (pB rfl T.Om (aa (pv 1) ae)) (gS rfl (dZ (bN (i:=3) sc_poly_plus.nd rfl (Or.inl rfl)) (dZ (bN (i:=4) sc_poly_plus.nd rfl (Or.inl rfl)) gQ))) (ao (vj (pv 2) (pv 3) vV (pv 4) vm ge)))
  (ao (aM (aK (FnOk.mono (wH T) (by decide)) hr rfl T.Oq T.N7.kp T.Os .nil aB (aa (pv 2) ae))))))),?_⟩
 k_units
 refine⟨_,.inl hA,λl hl=>⟨by decide,λp hp=>?_⟩⟩;have s1:=aw hl (.lst (xs.map V.int));have s2:=aw hp (.lst [V.int 0]);refine⟨_,.inl ((s1.trans s2).seq hB),_,.inl ((s1.trans s2).seq hA),_,ag,?_⟩;rw[ac,ac,lI];obtain⟨k,hk⟩:∃k:Nat,((ys.length:Int)-(xs.length:Int)).toNat=k:=⟨_,rfl⟩
 rw[hk];have k100:k<=100:=by omega
 refine⟨by omega,by omega,b5 (bC (by simp;omega)),λp1 hp1=>?_⟩;have s3:=aw hp1 (.lst ((aL k (0:Int)).map V.int));refine⟨_,s3 _ _ (s2 _ _ ag),_,ag,b5 (bC (by simp;omega)),λA0 hA0=>?_⟩;rw[←aV];have s4:=(s1.trans (s2.trans s3)).trans (aw hA0 (.lst ((xs++aL k 0).map V.int)));have hn0:=(s1.trans (s2.trans s3)).free hA0;have h4:upd (upd (upd (upd H l (.lst (xs.map V.int))) p (.lst [V.int 0])) p1 (.lst ((aL k (0:Int)).map V.int))) A0 (.lst ((xs++aL k 0).map V.int)) A0=_:=ag;generalize upd (upd (upd (upd H l (.lst (xs.map V.int))) p (.lst [V.int 0])) p1 (.lst ((aL k (0:Int)).map V.int))) A0 (.lst ((xs++aL k 0).map V.int))=H4 at s4 h4 ⊢;refine⟨_,s4.seq hB,?_⟩;obtain⟨Pv,hPv⟩:∃Pv:Nat->L2.St->Hp->Prop,∀i σ H',Pv i σ H'↔∃(zs:List Int) (r1 r2:Option V),σ=[some (V.ref a),some (V.ref b),some (V.ref A0),r1,r2]∧H' A0=some (.lst (zs.map V.int))∧zs.length=xs.length+k∧
  (∀j,co zs j=co xs j+if j<i then co ys j else 0)∧Same H H':=⟨_,λ_ _ _=>Iff.rfl⟩
 refine pP Pv ((hPv _ _ _).mpr ⟨_,none,none,rfl,h4,by simp,λj=>by rw[K6,if_neg (by omega)];omega,s4⟩) (λi σ H' _ z=>by obtain⟨_,_,_,_,_,_,_,z5⟩:=(hPv i σ H').mp z;exact z5.seq hB) ?_ ?_
 ·intro i v pt σ H' hv hp' hpt;obtain⟨zs,r1,r2,rfl,hz,lz,cz',sz⟩:=(hPv _ _ _).mp hp';have hi:i<ys.length:=by have:=(aU.mp hv).1;rw[ac]at this;exact this
  rw[aA,aj hi]at hv;obtain rfl:V.int ys[i]=v:=Option.some.inj hv;have s5:=aw hpt (.tup [V.int i,V.int ys[i]])
  k_units
  refine⟨_,SqT.of ag,rfl,?_⟩
  k_units
  have hiz:i<zs.length:=by omega
  have hz5:=s5 _ _ hz;refine⟨_,SqL.of hz5,_,en hiz,_,rfl,_,hz5,i,gF (by rw[ac];exact hiz),(hPv _ _ _).mpr ⟨zs.set i (zs[i]+ys[i]),_,_,rfl,by rw[ag,map_set],by rw[ik];exact lz,λj=>?_,(sz.trans s5).more hn0⟩⟩;rw[iX _ _ _ _ hiz];by_cases e:j=i
  ·subst e;have:=cz' j;rw[if_neg (by omega),aE hiz]at this;rw[if_pos rfl,if_pos (by omega),aE hi];omega
  ·rw[if_neg e,cz' j];by_cases hj:j<i
   ·rw[if_pos hj,if_pos (by omega)]
   ·rw[if_neg hj,if_neg (by omega)]
 ·intro σ H' hp';obtain⟨zs,r1,r2,rfl,hz,lz,cz',sz⟩:=(hPv _ _ _).mp hp';rw[ac]at cz'
  k_units
  refine⟨A0,zs,rfl,SqL.of hz,by omega,λr H'' s'' hr'' h''=>?_⟩;refine q r H'' (sz.trans s'') (sz.free hr'') ?_;rw[h'',Kh xs ys zs λj=>by rw[cz' j];by_cases hj:j<ys.length;rw[if_pos hj];rw[if_neg hj,ay (xs:=ys) (by omega)]]
theorem K7 (ys:List Int):dI [] ys=[]:=qC.mpr λk=>by
 rw[j2];split <;> rfl
theorem wJ (xs:List Int):dI xs []=[]:=qC.mpr λk=>by
 rw[j2]
 split
 ·exact fX λj _=>by unfold cz;split <;> simp[gi]
 ·rfl
theorem DO {P:Program}{w:World}{K:PySem.W.Frag}{mg:Str->Option Value}{base:Heap}(T:Tx K mg):FnOk P w K mg base CX0 2 T.Ow T.Ox ["one","other"] (DM K dI):=by
 refine T.Oy.ok sc_poly_times (λvs H Q E h=>?_) (λcdv A outer s H vs Q E hr h=>?_)
 ·obtain⟨a,b,xs,ys,rfl,_⟩:=h;rfl
 obtain⟨a,b,xs,ys,rfl,hA,hB,la,lb,ba,bb,q⟩:=h;refine⟨_,((ah (bY (PW.pt (jf (aO e9 (aG aX rfl T.NF aZ (aa (pv 0) ae)) ai (aN _)) (jQ (aO e9 (aG aX rfl T.NF aZ (aa (pv 1) ae)) ai (aN _))))) (ao (aM (bU ae))) b4)
  (ah (ax (i:=2) sc_poly_times.nd rfl (Or.inl rfl) (ak jk (bU (aa ai ae)) (ak dg (ak ci (aG aX rfl T.NF aZ (aa (pv 0) ae)) (aG aX rfl T.NF aZ (aa (pv 1) ae))) ai)))
  (ah (cy PassesOwn.never rfl (pB rfl T.Om (aa (pv 0) ae)) (gS rfl (dZ (bN (i:=3) sc_poly_times.nd rfl (Or.inl rfl)) (dZ (bN (i:=4) sc_poly_times.nd rfl (Or.inl rfl)) gQ))) (ao (cy PassesOwn.never rfl (pB rfl T.Om (aa (pv 1) ae)) (gS rfl (dZ (bN (i:=5) sc_poly_times.nd rfl (Or.inl rfl)) (dZ (bN (i:=6) sc_poly_times.nd rfl (Or.inl rfl)) gQ))) (ao (vj (pv 2) (ak ci (pv 3) (pv 5)) vV (ak eJ (pv 4) (pv 6)) vm ge)))))
  (ao (aM (aK (FnOk.mono (wH T) (by decide)) hr rfl T.Oq T.N7.kp T.Os .nil aB (aa (pv 2) ae)))))))),?_⟩
 k_units
 refine⟨_,.inl hA,?_⟩;rw[ac];have nil:dI xs ys=[]->0<=sizeLine∧∀(p:Addr),H p=none->Q (V.ref p) (upd H p (HO.lst [])):=λe=>⟨aI _,λp hp=>q p _ (aw hp _) hp (by rw[ag,e];rfl)⟩
 refine bR (λh=>nil ?_) (λh=>⟨_,.inl hB,?_⟩)
 ·rw[bK (show xs.length=0 by omega)];exact K7 ys
 rw[ac];refine bR (λh2=>nil ?_) (λh2=>?_)
 ·rw[bK (show ys.length=0 by omega)];exact wJ xs
 refine⟨by decide,λp hp=>?_⟩;have s1:=aw hp (.lst [V.int 0]);refine⟨_,.inl (s1.seq hA),_,.inl (s1.seq hB),_,ag,?_⟩;rw[ac,ac,lI];obtain⟨k,hk⟩:∃k:Nat,((xs.length:Int)+(ys.length:Int)-1).toNat=k:=⟨_,rfl⟩
 rw[hk];refine⟨by omega,by omega,b5 (bC (by simp;omega)),λA0 hA0=>?_⟩;have s4:=s1.trans (aw hA0 (.lst ((aL k (0:Int)).map V.int)));have hn0:=s1.free hA0;have h4:upd (upd H p (.lst [V.int 0])) A0 (.lst ((aL k (0:Int)).map V.int)) A0=_:=ag;generalize upd (upd H p (.lst [V.int 0])) A0 (.lst ((aL k (0:Int)).map V.int))=H4 at s4 h4 ⊢;refine⟨_,s4.seq hA,?_⟩;obtain⟨Pv,hPv⟩:∃Pv:Nat->L2.St->Hp->Prop,∀l σ H',Pv l σ H'↔∃(zs:List Int) (r1 r2 r3 r4:Option V),σ=[some (V.ref a),some (V.ref b),some (V.ref A0),r1,r2,r3,r4]∧H' A0=some (.lst (zs.map V.int))∧zs.length=k∧
  (∀j,co zs j=if j+1<xs.length+ys.length then cv xs ys l j else 0)∧Same H H':=⟨_,λ_ _ _=>Iff.rfl⟩
 refine pP Pv ((hPv _ _ _).mpr ⟨_,none,none,none,none,rfl,h4,by simp,λj=>by rw[wI];split <;> rfl,s4⟩) (λi σ H' _ z=>by obtain⟨_,_,_,_,_,_,_,_,_,z5⟩:=(hPv i σ H').mp z;exact z5.seq hA) ?_ ?_
 ·intro l v pt σ H' hv hp' hpt;obtain⟨zs,r1,r2,r3,r4,rfl,hz,lz,cz',sz⟩:=(hPv _ _ _).mp hp';have hi:l<xs.length:=by have:=(aU.mp hv).1;rw[ac]at this;exact this
  rw[aA,aj hi]at hv;obtain rfl:V.int xs[l]=v:=Option.some.inj hv;have s5:=aw hpt (.tup [V.int l,V.int xs[l]])
  k_units
  refine⟨_,SqT.of ag,rfl,?_⟩
  k_units
  have s6:=sz.trans s5;have hz5:=s5 _ _ hz;generalize upd H' pt (.tup [V.int l,V.int xs[l]])=H5 at s6 hz5 ⊢;refine⟨_,s6.seq hB,?_⟩;obtain⟨Pw,hPw⟩:∃Pw:Nat->L2.St->Hp->Prop,∀j σ H',Pw j σ H'↔∃(zs:List Int) (r3 r4:Option V),σ=[some (V.ref a),some (V.ref b),some (V.ref A0),some (V.int l),some (V.int xs[l]),r3,r4]∧H' A0=some (.lst (zs.map V.int))∧zs.length=k∧
   (∀t,co zs t=(if t+1<xs.length+ys.length then cv xs ys l t else 0)+if l<=t∧t<l+j then xs[l]*co ys (t-l) else 0)∧Same H H':=⟨_,λ_ _ _=>Iff.rfl⟩
  refine pP Pw ((hPw _ _ _).mpr ⟨zs,_,_,rfl,hz5,lz,λt=>by rw[cz' t,if_neg (show ¬(l<=t∧t<l+0) by omega)];omega,s6⟩) (λi σ H' _ z=>by obtain⟨_,_,_,_,_,_,_,z5⟩:=(hPw i σ H').mp z;exact z5.seq hB) ?_ ?_
  ·intro j v pt σ H' hv hp' hpt;obtain⟨zs,r3,r4,rfl,hz,lz,cz',sz⟩:=(hPw _ _ _).mp hp';have hj:j<ys.length:=by have:=(aU.mp hv).1;rw[ac]at this;exact this
   rw[aA,aj hj]at hv;obtain rfl:V.int ys[j]=v:=Option.some.inj hv;have s5:=aw hpt (.tup [V.int j,V.int ys[j]])
   k_units
   refine⟨_,SqT.of ag,rfl,?_⟩;have eij:(l:Int)+(j:Int)=((l+j:Nat):Int):=rfl
   (iterate 3 (k_units;(try simp only[eij]));k_units)
   have hiz:l+j<zs.length:=by omega
   have hz5:=s5 _ _ hz;refine⟨_,SqL.of hz5,_,en hiz,(ba _ (bH hi)).fits (bb _ (bH hj)) (by decide),_,rfl,_,hz5,l+j,gF (by rw[ac];exact hiz),(hPw _ _ _).mpr ⟨zs.set (l+j) (zs[l+j]+xs[l]*ys[j]),_,_,rfl,by rw[ag,map_set],by rw[ik];exact lz,λt=>?_,(sz.trans s5).more hn0⟩⟩;rw[iX _ _ _ _ hiz];by_cases e:t=l+j
   ·subst e;have:=cz' (l+j);rw[if_neg (show ¬(l<=l+j∧l+j<l+j) by omega),aE hiz]at this;rw[if_pos (show l+j=l+j from rfl),if_pos (show l<=l+j∧l+j<l+(j+1) by omega),show l+j-l=j by omega,aE hj];omega
   ·rw[if_neg e,cz' t];by_cases h3:l<=t∧t<l+j
    ·rw[if_pos h3,if_pos (show l<=t∧t<l+(j+1) by omega)]
    ·rw[if_neg h3,if_neg (show ¬(l<=t∧t<l+(j+1)) by omega)]
  ·intro σ H' hp';obtain⟨zs,r3,r4,rfl,hz,lz,cz',sz⟩:=(hPw _ _ _).mp hp';rw[ac]at cz';refine (hPv _ _ _).mpr ⟨zs,_,_,_,_,rfl,hz,lz,λt=>?_,sz⟩;rw[cz' t];have e:cv xs ys (l+1) t=cv xs ys l t+co xs l*cz ys t l:=rfl;rw[e,aE hi];unfold cz;by_cases h1:t+1<xs.length+ys.length
   ·rw[if_pos h1,if_pos h1];by_cases h2:l<=t
    ·rw[if_pos h2];by_cases h3:t<l+ys.length
     ·rw[if_pos ⟨h2,h3⟩]
     ·rw[if_neg (by omega),ay (xs:=ys) (by omega),c_]
    ·rw[if_neg (by omega),if_neg h2,c_]
   ·rw[if_neg h1,if_neg h1,if_neg (by omega)];rfl
 ·intro σ H' hp';obtain⟨zs,r1,r2,r3,r4,rfl,hz,lz,cz',sz⟩:=(hPv _ _ _).mp hp';rw[ac]at cz'
  k_units
  refine⟨A0,zs,rfl,SqL.of hz,by omega,λr H'' s'' hr'' h''=>q r H'' (sz.trans s'') (sz.free hr'') ?_⟩;rw[h'',Kg xs ys zs cz']
theorem cF {xs:List Int}{P:Int->Prop}(h:∀x∈xs,P x)(h0:P 0)(j:Nat):P (co xs j):=by
 by_cases z:j<xs.length
 ·rw[aE z];exact h _ (bH z)
 ·rw[ay (by omega)];exact h0
theorem cW {xs:List Int}{P:Int->Prop}(h:∀j,P (co xs j)):∀x∈xs,P x:=λx hx=>by
 obtain⟨k,hk,rfl⟩:=dq.mp hx;rw[←aE hk];exact h k
theorem qM {xs:List Int}(h:xs=[]∨co xs (xs.length-1)≠0):Nml xs:=by
 refine fB.mpr λx hx=>?_;rcases h with rfl|h
 ·simp at hx
 ·have hl:xs.length≠0:=by intro z;rw[bK z]at hx;simp at hx
  rw[aE (by omega)]at h;rw[i6,aj (by omega)]at hx;rw[←Option.some.inj hx];exact h
theorem K8 (xs:List Int):Nml (xs++[1]):=fB.mpr λx hx=>by rw[F3]at hx;rw[←Option.some.inj hx];decide
theorem fP {c:Int}(h:c≠0):Nml [c]:=fB.mpr λx hx=>by simp at hx;omega
theorem wK {M N:Nat}{ys:List Int}(hy:∀y∈ys,y.natAbs<=N):∀xs:List Int,(∀x∈xs,x.natAbs<=M)->∀j,(co (a7 xs ys) j).natAbs<=xs.length*(M*N)
 | [],_,j=>by simp[a7,gi]
 | x :: xs,h,j=>by
  have cm:co (ys.map λz=>x*z) j=x*co ys j:=by
   by_cases h:j<ys.length
   ·rw[aE (by rw[ac];exact h),aE h,bO]
   ·rw[ay (by rw[ac];omega),ay (xs:=ys) (by omega)];simp
  have h1:(x*co ys j).natAbs<=M*N:=by
   rw[bV];refine eC (h x (by simp)) ?_;by_cases z:j<ys.length
   ·rw[aE z];exact hy _ (bH z)
   ·rw[ay (by omega)];exact aI _
  have h2:(co (0 :: a7 xs ys) j).natAbs<=xs.length*(M*N):=by
   rw[g8]
   split
   ·exact aI _
   ·exact wK hy xs (λy hy=>h y (by simp[hy])) _
  have e:co (a7 (x :: xs) ys) j=x*co ys j+co (0 :: a7 xs ys) j:=by rw[a7,iG,cm]
  rw[e,ck,gM,fG];have:=mo (x*co ys j) (co (0 :: a7 xs ys) j);omega
theorem iH {xs ys:List Int}{k l c:Nat}(hx:∀x∈xs,Bd k x)(hy:∀y∈ys,Bd l y)(hl:xs.length<=2 ^ c)(j:Nat):Bd (k+l+c) (pm (co xs) (co ys) j):=by
 rw[←fZ];have h1:=wK (M:=2 ^ k-1) (N:=2 ^ l-1) (ys:=ys) (λy h=>by have:y.natAbs<2 ^ l:=hy y h;omega) xs (λx h=>by have:x.natAbs<2 ^ k:=hx x h;omega) j;have p1:=dX k;have p2:=dX l;have p3:=dX c;have h2:(2 ^ k-1)*(2 ^ l-1)<2 ^ k*2 ^ l:=by
  refine cZ (fh _ (Nat.sub_le _ 1)) ?_;exact Ng (by omega) p2
 show (co (a7 xs ys) j).natAbs<2 ^ (k+l+c);rw[dm,dm];refine cZ h1 ?_;refine cZ (fS _ hl) ?_;rw[gI (2 ^ k*2 ^ l)];exact Gd h2 p3
theorem K9 {xs ys ws:List Int}(nx:Nml xs)(ny:Nml ys)(nw:Nml ws)(h:∀j,co ws j=pm (co xs) (co ys) j):ws.length<=xs.length+ys.length-1:=by
 by_cases x0:xs=[]
 ·rw[j3 nw λk=>by rw[h k,x0];exact fX λj _=>by rw[gi];simp];exact aI _
 by_cases w0:ws=[]
 ·rw[w0];exact aI _
 have:=(wn nx x0 nw ny (one:=ws) (q:=ys) h w0).2;omega
theorem DP {n m:Nat}{f:Nat->Int}(h:n<=m)(hz:∀j,n<=j->j<m->f j=0):az m f=az n f:=by
 induction m with
 | zero=>rw[show n=0 by omega]
 | succ m ih=>
  by_cases e:n=m+1
  ·rw[e]
  ·simp only[az];rw[ih (by omega) λj h1 h2=>hz j h1 (by omega),hz m (by omega) (by omega)];omega
theorem wL (xs ys:List Int)(k:Nat):pm (co xs) (co ys) k=cv xs ys xs.length k:=by
 have e1:pm (co xs) (co ys) k=az (k+1) λj=>co xs j*cz ys k j:=by
  unfold pm;exact cQ λj hj=>by unfold cz;rw[if_pos (by omega)]
 have e2:az (k+1+xs.length) (λj=>co xs j*cz ys k j)=az (k+1) λj=>co xs j*cz ys k j:=
  DP (by omega) λj h1 _=>by unfold cz;rw[if_neg (by omega)];simp
 have e3:az (k+1+xs.length) (λj=>co xs j*cz ys k j)=az xs.length λj=>co xs j*cz ys k j:=
  DP (by omega) λj h1 _=>by rw[ay h1];simp
 rw[e1,←e2,e3];rfl
theorem cG {xs ys:List Int}(hx:Nml xs)(hy:Nml ys)(h:∀n,val n xs=val n ys):xs=ys:=gj hx hy λk=>fN h k
theorem lJ (xs ys:List Int)(k:Nat):co (dI xs ys) k=pm (co xs) (co ys) k:=by
 unfold dI;rw[cP,j2,wL]
 split
 ·rfl
 ·rw[wl _ _ _ (by omega)]
theorem ju (xs ys:List Int)(k:Nat):co (fg xs ys) k=co xs k+co ys k:=by
 unfold fg;rw[cP,j2]
 split
 ·rfl
 ·rw[ay (xs:=xs) (by omega),ay (xs:=ys) (by omega)];rfl
theorem DQ (n:Int)(xs ys:List Int):val n (dI xs ys)=val n xs*val n ys:=by
 rw[←du];exact f7 (λk=>by rw[lJ,fZ]) n
theorem qN (n:Int)(xs ys:List Int):val n (fg xs ys)=val n xs+val n ys:=by
 rw[←fY];exact f7 (λk=>by rw[ju,iG]) n
theorem j5 (xs ys:List Int):Nml (fg xs ys):=cC _
theorem qO (xs ys:List Int):(fg xs ys).length<=max xs.length ys.length:=aP (kZ _) (by simp)
theorem wM (xs ys:List Int)(hy:ys≠[]):(dI xs ys).length<=xs.length+ys.length-1:=by
 have h:=cK.mpr hy;refine gZ (cC _) λk hk=>?_;show co (dI xs ys) k=0;rw[lJ,wL,wl _ _ _ (by omega)]
def K_ (ps f:List Int):Prop:=f.length<=ps.length∧Nml f∧ps.length<=60∧(∀i j (hi:i<ps.length) (hj:j<ps.length),i≠j->ps[i]≠ps[j])∧(∀p∈ps,Bd 40 p)∧∀p∈ps,Bd 10000 (val p f)
theorem La {m i:Nat}{g h:Nat->Int}(hi:i<m)(e:∀j,j<m->j≠i->h j=g j):((aD m).map g).set i (h i)=(aD m).map h:=by
 refine gJ (by simp) λj h1 h2=>?_;have hj:j<m:=by simpa using h2
 rw[List.getElem_set,bO,bO,ir]
 split
 ·rename_i z;rw[z]
 ·rename_i z;exact (e j hj (Ne.symm z)).symm
theorem wN {m i:Nat}{g:Nat->Int}(hi:i<m):((aD m).map g)[i]?=some (g i):=by
 rw[aA,jI hi];rfl
theorem DR {m:Nat}{g h:Nat->Int}(e:∀j,j<m->g j=h j):(aD m).map g=(aD m).map h:=jc λj hj=>e j (dS.mp hj)
def Lb (K:PySem.W.Frag):Sp:=λvs H Q _=>∃(A B:Addr) (ps f:List Int),vs=[.ref A,.ref B]∧SqL K H A (ps.map V.int)∧SqL K H B ((ps.map λp=>val p f).map V.int)∧K_ ps f∧dE H Q (f.map V.int)
theorem Lc {P:Program}{w:World}{K:PySem.W.Frag}{mg:Str->Option Value}{base:Heap}(T:Tx K mg):FnOk P w K mg base CX0 3 T.Pm T.Po ["places","values"] (Lb K):=by
 refine T.QE.ok sc_through (λvs H Q E h=>?_) (λcdv A outer s H vs Q E hr h=>?_)
 ·obtain⟨A,B,ps,f,rfl,_⟩:=h;rfl
 obtain⟨A,B,ps,f,rfl,hA,hB,⟨lf,nf,l60,dis,bp,bv⟩,q⟩:=h;refine⟨_,((ah (ax (i:=2) sc_through.nd rfl (Or.inl rfl) (iU jV rfl T.NK iC (aa (pv 1) ae)))
  (ah (cy PassesOwn.never rfl (Ia rfl T.NI (aa ai (aa (aG aX rfl T.NF aZ (aa (pv 2) ae)) ae))) (bN (i:=3) sc_through.nd rfl (Or.inl rfl)) (ao (cy PassesOwn.never rfl (vP rfl T.NI (aa (ak dg (aG aX rfl T.NF aZ (aa (pv 2) ae)) ai) (aa (ak dg (pv 3) ai) (aa (d8 d9 ai) ae)))) (bN (i:=4) sc_through.nd rfl (Or.inl rfl)) (ao (iA (ak jn (ak dg (aR bL (pv 2) (pv 4) (λ_ _=>rfl)) (aR bL (pv 2) (ak dg (pv 4) ai) (λ_ _=>rfl))) (ak dg (aR bL (pv 0) (pv 4) (λ_ _=>rfl)) (aR bL (pv 0) (ak dg (pv 4) (pv 3)) (λ_ _=>rfl)))) (iz (pv 2) (pv 4) ge))))))
  (ah (ax (i:=5) sc_through.nd rfl (Or.inl rfl) (bU ae))
  (ah (cy PassesOwn.never rfl (vP rfl T.NI (aa (ak dg (aG aX rfl T.NF aZ (aa (pv 2) ae)) ai) (aa (d8 d9 ai) (aa (d8 d9 ai) ae)))) (bN (i:=4) sc_through.nd rfl (Or.inl rfl)) (ao (ax (i:=5) sc_through.nd rfl (Or.inl rfl) (aK (FnOk.mono (DN T) (by decide)) hr rfl T.Qo T.Ov.kp T.Qp .nil aB (aa (aK (FnOk.mono (DO T) (by decide)) hr rfl T.Qq T.Oy.kp T.Qr .nil aB (aa (pv 5) (aa (bU (aa (d8 d9 (aR bL (pv 0) (pv 4) (λ_ _=>rfl))) (aa ai ae))) ae))) (aa (bU (aa (aR bL (pv 2) (pv 4) (λ_ _=>rfl)) ae)) ae))))))
  (ao (aM (pv 5)))))))),?_⟩
 dsimp only[aC]
 k_typeOf
 refine⟨_,.inl hB,λS nS=>?_⟩;have u0:=aw nS (.lst ((ps.map λp=>val p f).map V.int));have e0:(ps.map λp=>val p f)=(aD ps.length).map (rnd f ps 0):=by
  refine gJ (by simp) λi h1 h2=>?_;rw[bO,bO,ir,KP (by simpa using h1)]
 rw[e0]at u0 ⊢;have eS:=ag (H:=H) (a:=S) (o:=.lst (((aD ps.length).map (rnd f ps 0)).map V.int));generalize L2.upd H S (.lst (((aD ps.length).map (rnd f ps 0)).map V.int))=H1 at u0 eS ⊢;have lR:∀g:Nat->Int,(((aD ps.length).map g).map V.int).length=ps.length:=λg=>by simp
 obtain⟨m,hm⟩:∃m,ps.length=m:=⟨_,rfl⟩
 dsimp only[aC]
 k_typeOf
 refine⟨_,.inl (SqL.of eS),by decide,by decide,by rw[lR];omega,by rw[lR];omega,?_⟩;rw[lR];obtain⟨Pv,hPv⟩:∃Pv:Nat->L2.St->Hp->Prop,∀i σ H',Pv i σ H'↔∃r3 r4:Option V,σ=[some (V.ref A),some (V.ref B),some (V.ref S),r3,r4,none]∧H' S=some (.lst (((aD ps.length).map (rnd f ps i)).map V.int))∧Same H H':=⟨_,λ_ _ _=>Iff.rfl⟩
 refine gE Pv ((hPv _ _ _).mpr ⟨none,none,rfl,eS,u0⟩) ?_ ?_
 ·intro i σ H2 hi hp;obtain⟨r3,r4,rfl,eS2,s2⟩:=(hPv _ _ _).mp hp;have e1:(1:Int)+(i:Int)-1=(i:Int):=by omega
  (iterate 3 (k_units;(try simp only[e1]));k_units)
  refine⟨_,.inl (SqL.of eS2),by decide,by decide,?_⟩;rw[lR];refine⟨vZ (by omega) (by omega) (by omega) (by omega),ps.length-1-i,v5 (by omega),?_⟩;obtain⟨Pw,hPw⟩:∃Pw:Nat->L2.St->Hp->Prop,∀t σ H',Pw t σ H'↔∃r:Option V,σ=[some (V.ref A),some (V.ref B),some (V.ref S),some (V.int (1+(i:Int))),r,none]∧H' S=some (.lst (((aD ps.length).map (mxR f ps i (ps.length-t))).map V.int))∧Same H H':=⟨_,λ_ _ _=>Iff.rfl⟩
  refine pk Pw ((hPw _ _ _).mpr ⟨r4,rfl,?_,s2⟩) ?_ ?_
  ·rw[eS2,DR (h:=mxR f ps i (ps.length-0)) λj hj=>by unfold mxR;rw[if_neg (by omega)]]
  ·intro t σ H3 ht hp;obtain⟨r,rfl,eS3,s3⟩:=(hPw _ _ _).mp hp;obtain⟨pl,hpl⟩:∃pl,ps.length-t=pl+1:=⟨ps.length-t-1,by omega⟩
   rw[hpl]at eS3;have ep:(ps.length:Int)-1+(t:Int) * -1=(pl:Int):=by omega
   have ep1:(pl:Int)-1=((pl-1:Nat):Int):=by omega
   have ep2:(pl:Int)-(1+(i:Int))=((pl-(i+1):Nat):Int):=by omega
   have hl:pl<ps.length:=by omega
   have ne:=dis pl (pl-(i+1)) hl (by omega) (by omega);have g1:mxR f ps i (pl+1) pl=rnd f ps i pl:=by unfold mxR;rw[if_neg (by omega)]
   have g2:mxR f ps i (pl+1) (pl-1)=rnd f ps i (pl-1):=by unfold mxR;rw[if_neg (by omega)]
   have b1:=bp _ (bH hl);have b2:=bp _ (bH (show pl-(i+1)<ps.length by omega))
   (iterate 3 (k_units;(try simp only[ep,ep1,ep2]));k_units)
   refine⟨_,SqL.of eS3,_,v7 (wN hl),_,SqL.of eS3,_,v7 (wN (show pl-1<ps.length by omega)),_,rfl,_,rfl,_,s3.seq hA,_,en hl,_,s3.seq hA,_,en (show pl-(i+1)<ps.length by omega),_,rfl,_,rfl,by omega,bZ (b1.sub b2) (fE (by decide) (by decide)),_,eS3,pl,gF (by rw[lR];exact hl),(hPw _ _ _).mpr ⟨_,rfl,?_,s3.more nS⟩⟩;rw[ag,g1,g2,KR (by omega) hl ne,map_set,show ps.length-(t+1)=pl by omega];have hs:=La (m:=ps.length) (i:=pl) (g:=mxR f ps i (pl+1)) (h:=mxR f ps i pl) hl λj _ hj=>by
    unfold mxR;by_cases z:pl<=j
    ·rw[if_pos z,if_pos (by omega)]
    ·rw[if_neg z,if_neg (by omega)]
   rw[←hs];congr 3;unfold mxR;rw[if_pos (am _)]
  ·intro σ H3 hp;obtain⟨r,rfl,eS3,s3⟩:=(hPw _ _ _).mp hp;refine (hPv _ _ _).mpr ⟨_,_,rfl,?_,s3⟩;rw[eS3,DR λj hj=>?_];unfold mxR;by_cases z:ps.length-(ps.length-1-i)<=j
   ·rw[if_pos z]
   ·rw[if_neg z,KO (by omega)]
 intro σ H2 hp;obtain⟨r3,r4,rfl,eS2,s2⟩:=(hPv _ _ _).mp hp;clear hp hPv Pv eS u0;dsimp only[aC]
 k_typeOf
 refine⟨aI _,λR0 n0=>?_⟩;have v0:=aw n0 (.lst []);have e0':=ag (H:=H2) (a:=R0) (o:=.lst []);generalize L2.upd H2 R0 (.lst [])=H3 at v0 e0' ⊢;have lt:∀i (h:i<ps.length),(val ps[i] f).natAbs<=2 ^ 10000:=λi h=>b5 (bv _ (bH h));dsimp only[aC]
 k_typeOf
 refine⟨_,.inl (SqL.of (v0 _ _ eS2)),by decide,by decide,?_⟩;rw[lR];refine⟨vZ (by omega) (by omega) (by decide) (by decide),ps.length,v5 (by omega),?_⟩;obtain⟨Pv,hPv⟩:∃Pv:Nat->L2.St->Hp->Prop,∀t σ H',Pv t σ H'↔∃(r4:Option V) (R:Addr) (a:List Int),σ=[some (V.ref A),some (V.ref B),some (V.ref S),r3,r4,some (V.ref R)]∧H' R=some (.lst (a.map V.int))∧H R=none∧Nml a∧a.length<=t∧(∀x∈a,Bd (10100+60*t) x)∧(∀n,val n a=dd f (ps.take (ps.length-t)++[n]))∧Same H2 H':=⟨_,λ_ _ _=>Iff.rfl⟩
 refine pk Pv ((hPv _ _ _).mpr ⟨r4,R0,[],rfl,e0',s2.free n0,cD,am _,λx hx=>by simp at hx,λn=>?_,v0⟩) ?_ ?_
 ·rw[Dv (by rw[bM,b6];simp;omega)];rfl
 ·intro t σ H4 ht hp;obtain⟨r4,R,a,rfl,eR,nR,na,la,ba,va,s4⟩:=(hPv _ _ _).mp hp;obtain⟨pl,hpl⟩:∃pl,ps.length-t=pl+1:=⟨ps.length-t-1,by omega⟩
  have hl:pl<ps.length:=by omega
  have ep:(ps.length:Int)-1+(t:Int) * -1=(pl:Int):=by omega
  have hA4:=(s2.trans s4).seq hA;have eS4:=s4 _ _ eS2;have g1:rnd f ps ((ps.length:Int)-1).toNat pl=dd f (run ps 0 (pl+1)):=KQ (by omega);have b1:=bp _ (bH hl);have bc:Bd 10061 (dd f (run ps 0 (pl+1))):=by
   have h:=qK f dis lt pl 0 (by omega);refine cZ h ?_;rw[←dm];exact kF (by decide) (by omega)
  have st:∀n,dd f (ps.take pl++[n])=dd f (run ps 0 (pl+1))+(n-ps[pl])*dd f (ps.take (pl+1)++[n]):=λn=>by
   have e1:ps.take (pl+1)=ps.take pl++[ps[pl]]:=by rw[de,aj hl];rfl
   have e2:run ps 0 (pl+1)=ps.take (pl+1):=by unfold run;rw[mF]
   rw[e2,e1];exact Dy f (ps.take pl) ps[pl] n
  generalize dd f (run ps 0 (pl+1))=c at g1 bc st;rw[hpl]at va;have by2:∀y∈[-ps[pl],1],Bd 41 y:=λy hy=>by
   simp only[a_,mr,or_false]at hy;rcases hy with rfl|rfl
   ·exact b1.neg.mono (by decide)
   ·exact Bd.one (by decide)
  have bm:∀k,Bd (10147+60*t) (co (dI a [-ps[pl],1]) k):=λk=>by
   rw[lJ];exact (iH (c:=6) ba by2 (aP la (by omega)) k).mono (by omega)
  have bn:∀k,Bd (10100+60*(t+1)) (co (fg (dI a [-ps[pl],1]) [c]) k):=λk=>by
   rw[ju];refine ((bm k).add (cF (P:=λv=>Bd (10147+60*t) v) (λv hv=>?_) (Bd.zero _) k)).mono (by omega);rw[aQ.mp hv];exact bc.mono (by omega)
  have lm:=wM a [-ps[pl],1] (by simp);have lmm:(dI a [-ps[pl],1]).length<=t+1:=by simp at lm;omega
  (iterate 3 (k_units;(try simp only[ep]));k_units)
  refine⟨_,hA4,_,en hl,_,rfl,by decide,λq1 m1=>?_⟩;have w1:=aw m1 (.lst [V.int (-ps[pl]),V.int 1]);refine⟨R,q1,a,[-ps[pl],1],rfl,SqL.of (w1 _ _ eR),SqL.of ag,by omega,by simp,λx hx=>(ba x hx).mono (by omega),λy hy=>(by2 y hy).mono (by decide),λR1 H5 s5 nR1 eR1=>?_⟩;have s45:=w1.trans s5;refine⟨_,SqL.of (s45 _ _ eS4),_,v7 (wN hl),by decide,λq2 m2=>?_⟩;rw[g1];have w2:=aw m2 (.lst [V.int c]);refine⟨R1,q2,dI a [-ps[pl],1],[c],rfl,SqL.of (w2 _ _ eR1),SqL.of ag,by omega,by simp,cW λk=>(bm k).mono (by omega),λy hy=>by rw[aQ.mp hy];exact bc.mono (by decide),λR2 H6 s6 nR2 eR2=>?_⟩;have s46:=s45.trans (w2.trans s6);refine (hPv _ _ _).mpr ⟨_,R2,_,rfl,eR2,s2.free (s4.free (s45.free (w2.free nR2))),j5 _ _,?_,cW bn,λn=>?_,s4.trans s46⟩
  ·have:=qO (dI a [-ps[pl],1]) [c];simp at this;omega
  ·rw[qN,DQ,va,show ps.length-(t+1)=pl by omega,st n];have e1:val n [-ps[pl],1]=n-ps[pl]:=by simp[val];omega
   have e2:val n [c]=c:=by simp[val]
   rw[e1,e2];generalize dd f (ps.take (pl+1)++[n])=d;grind
 intro σ H4 hp;obtain⟨r4,R,a,rfl,eR,nR,na,la,ba,va,s4⟩:=(hPv _ _ _).mp hp;have e:a=f:=cG na nf λn=>by
  rw[va,jJ,List.take_zero,il,qJ]
 rw[e]at eR
 k_units
 exact q R H4 (s2.trans s4) nR eR
theorem DS {X:Cx}{K:PySem.W.Frag}(hK:X.K=K):fJ X (.type "list") (λxs H Q=>∃p ys,xs=[.ref p]∧(SqL K H p ys∨SqT K H p ys)∧∀l,H l=none->Q (.ref l) (upd H l (.lst ys))):=by subst hK;exact jV
theorem Ld {X:Cx}{K:PySem.W.Frag}(hK:X.K=K):fJ X (.builtin "len") (λxs H Q=>∃p ys,xs=[.ref p]∧(SqL K H p ys∨SqT K H p ys)∧Q (.int (ys.length:Nat)) H):=by subst hK;exact aX
theorem qP {X:Cx}{K:PySem.W.Frag}(hK:X.K=K):IxR X (m7 K):=by subst hK;exact bL
structure LL (K:PySem.W.Frag)(H:Hp)(as:List Addr)(ps:List (List Int)):Prop where
 len:as.length=ps.length
 get:∀(i:Nat) (a:Addr) (p:List Int),as[i]?=some a->ps[i]?=some p->SqL K H a (p.map V.int)
theorem LL.same {K:PySem.W.Frag}{H H':Hp}{as:List Addr}{ps:List (List Int)}(h:LL K H as ps)(s:Same H H'):LL K H' as ps:=⟨h.len,λi a p h1 h2=>s.seq (h.get i a p h1 h2)⟩
theorem LL.nth {K:PySem.W.Frag}{H:Hp}{as:List Addr}{ps:List (List Int)}(h:LL K H as ps){i:Nat}{v:V}(hv:(as.map V.ref)[i]?=some v):∃a p,v=.ref a∧as[i]?=some a∧ps[i]?=some p∧SqL K H a (p.map V.int):=by
 rw[aA]at hv;obtain⟨a,ha,rfl⟩:=cO.mp hv;have hi:=(aU.mp ha).1;have hp:i<ps.length:=by rw[←h.len];exact hi
 exact⟨a,ps[i],rfl,ha,aj hp,h.get i a _ ha (aj hp)⟩
def dL (p:List Int):PyData:=.list (p.map PyData.int)
theorem DT {K:PySem.W.Frag}{H:Hp}:∀(as:List Addr) (ps:List (List Int)),LL K H as ps->DVs K H (as.map V.ref) (ps.map dL)
 | [],[],_=>.nil
 | a :: as,p :: ps,h=>.cons (DV.ints (h.get 0 a p rfl rfl)) (DT as ps ⟨by have:=h.len;simpa using this,λi b r h1 h2=>h.get (i+1) b r (by simpa using h1) (by simpa using h2)⟩)
 | [],_ :: _,h=>by have:=h.len;simp at this
 | _ :: _,[],h=>by have:=h.len;simp at this
theorem Le {K:PySem.W.Frag}{H:Hp}{R:Addr}{as:List Addr}{ps:List (List Int)}(hR:SqL K H R (as.map V.ref))(h:LL K H as ps):DV K H (.ref R) (.list (ps.map dL)):=.lst hR (DT as ps h)
theorem NE (ps:List (List Int)):PyData.depth (.list (ps.map dL))<=64:=by
 have h:∀ps:List (List Int),PyData.depthAll (ps.map dL)<=1:=λps=>by
  induction ps with
  | nil=>exact aI _
  | cons p ps ih=>simp[PyData.depthAll,PyData.depth,pA,dL];omega
 have:=h ps;simp[PyData.depth];omega
theorem Lf (ps:List (List Int)):PyData.eqvAll (ps.map dL) (ps.map dL)=true:=by
 induction ps with
 | nil=>rfl
 | cons p ps ih=>simp[PyData.eqvAll,PyData.eqv,vX,dL,ih]
theorem Lg (ps:List (List Int)):PyData.canLayAll0 (ps.map dL)=true:=by
 induction ps with
 | nil=>rfl
 | cons p ps ih=>simp[PyData.canLayAll0,PyData.canLay0,vY,dL,ih]
theorem Li (ps:List (List Int)):PyData.depthAll (ps.map dL)<=1:=by
 induction ps with
 | nil=>exact aI _
 | cons p ps ih=>simp[PyData.depthAll,PyData.depth,pA,dL];omega
def cH (row:List Int)(tb:List (List Int))(cs:List Nat):Nat->Int×List Int
 | 0=>(1,row)
 | i+1=>(co (tb.getD i []) (cs.getD i 0),i8 (λx y=>(co (tb.getD i []) (cs.getD i 0)*x-co (cH row tb cs i).2 (cs.getD i 0)*y).fdiv (cH row tb cs i).1) (cH row tb cs i).2 (tb.getD i []))
structure LowOk (row:List Int)(tb:List (List Int))(cs:List Nat):Prop where
 len:tb.length<=cs.length
 few:row.length<=60
 wid:∀b∈tb,b.length=row.length
 col:∀c∈cs,c<row.length
 bb:∀b∈tb,∀y∈b,Bd 4000 y
 ne:∀i,i<tb.length->(cH row tb cs i).1≠0∧Bd 4000 (cH row tb cs i).1
 br:∀i,i<tb.length->∀x∈(cH row tb cs i).2,Bd 4000 x
theorem lK {row:List Int}{tb:List (List Int)}{cs:List Nat}(h:LowOk row tb cs):∀i,i<=tb.length->(cH row tb cs i).2.length=row.length
 | 0,_=>rfl
 | i+1,hi=>by
  have ih:=lK h i (by omega);have hb:(tb.getD i []).length=row.length:=by
   rw[av,aj (by omega)];exact h.wid _ (bH _)
  show (i8 _ _ _).length=_;rw[mG,ih,hb,Nat.min_self]
theorem j6 {xs:List Int}{i:Nat}(h:i<xs.length):atI (xs.map V.int) (i:Int)=some (V.int (co xs i)):=by rw[en h,aE h]
def Lj (K:PySem.W.Frag):Sp:=λvs H Q _=>∃(R Tb Cl:Addr) (row:List Int) (ts:List Addr) (tb:List (List Int)) (cs:List Nat),vs=[.ref R,.ref Tb,.ref Cl]∧SqL K H R (row.map V.int)∧SqL K H Tb (ts.map V.ref)∧LL K H ts tb∧SqL K H Cl ((cs.map λc:Nat=>(c:Int)).map V.int)∧LowOk row tb cs∧
 ∀(R':Addr) (H':Hp),Same H H'->(R'=R∧tb=[]∨H R'=none∧H' R'=some (.lst ((cH row tb cs tb.length).2.map V.int)))->SqL K H' R' ((cH row tb cs tb.length).2.map V.int)->Q (.ref R') H'
theorem DU {P:Program}{w:World}{K:PySem.W.Frag}{mg:Str->Option Value}{base:Heap}(T:Tx K mg):FnOk P w K mg base CX0 1 T.Ph T.Pj ["row","table","columns"] (Lj K):=by
 refine T.Pk.ok sc_lowered (λvs H Q E h=>?_) (λcdv A outer s H vs Q E hr h=>?_)
 ·obtain⟨R,Tb,Cl,row,ts,tb,cs,rfl,_⟩:=h;rfl
 obtain⟨R,Tb,Cl,row,ts,tb,cs,rfl,hR,hT,hL,hC,ok,q⟩:=h;refine⟨_,((ah (ax (i:=3) sc_lowered.nd rfl (Or.inr rfl) ai)
  (ah (cy PassesOwn.never rfl (jp rfl T.NO (aa (pv 1) (aa (pv 2) ae))) (gS rfl (dZ (bN (i:=4) sc_lowered.nd rfl (Or.inl rfl)) (dZ (bN (i:=5) sc_lowered.nd rfl (Or.inl rfl)) gQ))) (ah (ax (i:=6) sc_lowered.nd rfl (Or.inr rfl) (aR bL (pv 4) (pv 5) (λ_ _=>rfl)))
  (ah (ax (i:=7) sc_lowered.nd rfl (Or.inr rfl) (aR bL (pv 0) (pv 5) (λ_ _=>rfl)))
  (ah (C7 (i:=0) rfl (CU rfl (dj rfl (dj rfl (dj rfl cM))) (pU 6 "pivot" rfl (Or.inl rfl) (Or.inl rfl) ⟨_,rfl⟩ (pU 7 "factor" rfl (Or.inl rfl) (Or.inl rfl) ⟨_,rfl⟩ (pU 3 "before" rfl (Or.inl rfl) (Or.inl rfl) ⟨_,rfl⟩ CT)))) (jp rfl T.NO (aa (pv 0) (aa (pv 4) ae))) (λ_ _ _ _=>(ak jn (ak dg (ak eJ (pv 2) (pv 0)) (ak eJ (pv 3) (pv 1))) (pv 4))) sc_lowered.nd rfl rfl)
  (ao (ax (i:=3) sc_lowered.nd rfl (Or.inr rfl) (pv 6)))))))
  (ao (aM (pv 0)))))),?_⟩
 have lts:=hL.len
 k_units
 obtain⟨Pv,hPv⟩:∃Pv:Nat->L2.St->Hp->Prop,∀i σ H',Pv i σ H'↔∃(R':Addr) (r4 r5 r6 r7:Option V),σ=[some (V.ref R'),some (V.ref Tb),some (V.ref Cl),some (V.int (cH row tb cs i).1),r4,r5,r6,r7]∧(R'=R∧i=0∨H R'=none∧H' R'=some (.lst ((cH row tb cs i).2.map V.int)))∧SqL K H' R' ((cH row tb cs i).2.map V.int)∧Same H H':=⟨_,λ_ _ _=>Iff.rfl⟩
 refine⟨_,hT,_,hC,kX (xs:=ts.map V.ref) (ys:=(cs.map λc:Nat=>(c:Int)).map V.int) Pv ((hPv _ _ _).mpr ⟨R,none,none,none,none,rfl,.inl ⟨rfl,rfl⟩,hR,Same.refl _⟩) (λi σ H' _ _ z=>by obtain⟨_,_,_,_,_,_,_,_,z⟩:=(hPv i σ H').mp z;exact⟨z.seq hT,z.seq hC⟩) ?_ ?_⟩
 ·intro i v1 v2 p σ H1 e1 e2 hp np;obtain⟨R',r4,r5,r6,r7,rfl,dR,hR',s1⟩:=(hPv _ _ _).mp hp;rw[aA]at e1;obtain⟨t,ht,rfl⟩:=cO.mp e1;have hi:i<tb.length:=by have:=(aU.mp ht).1;omega
  have hic:i<cs.length:=by have:=ok.len;omega
  rw[aA,aA,aj hic]at e2;obtain rfl:V.int (cs[i]:Int)=v2:=Option.some.inj e2;have hb:=hL.get i t _ ht (aj hi);have ll:=lK ok i (by omega);have lb:=ok.wid _ (bH hi);have lc:=ok.col _ (bH hic);have eb:tb.getD i []=tb[i]:=by rw[av,aj hi];rfl
  have ec:cs.getD i 0=cs[i]:=by rw[av,aj hic];rfl
  have st:cH row tb cs (i+1)=(co tb[i] cs[i],i8 (λx y=>(co tb[i] cs[i]*x-co (cH row tb cs i).2 cs[i]*y).fdiv (cH row tb cs i).1) (cH row tb cs i).2 tb[i]):=by rw[cH,eb,ec]
  obtain⟨n0,nb⟩:=ok.ne i hi;have br:=ok.br i hi;have bb:=ok.bb _ (bH hi);have u1:=aw np (.tup [V.ref t,V.int (cs[i]:Int)]);generalize cH row tb cs i=L at hR' ll st n0 nb br ⊢;obtain⟨bf,rw'⟩:=L;dsimp only at hR' ll st n0 nb br ⊢;generalize tb[i]=b at hb lb st bb;generalize cs[i]=c at e2 lc st u1 ⊢;have few:=ok.few;have s2:=s1.trans u1
  k_units
  refine⟨_,SqT.of ag,rfl,_,_,rfl,_,_,rfl,rfl,_,rfl,_,_,rfl,s2.seq hb,_,j6 (by omega),_,_,rfl,u1.seq hR',_,j6 (by omega),_,rfl,_,u1.seq hR',_,s2.seq hb,λD nD=>?_⟩;have hbx:=s2.seq hb;have hRx:=u1.seq hR';generalize L2.upd H1 p (.tup [V.ref t,V.int (c:Int)])=H2 at s2 u1 hbx hRx nD ⊢;have bpv:Bd 4000 (co b c):=cF (P:=λv=>Bd 4000 v) bb (Bd.zero _) c;have bfa:Bd 4000 (co rw' c):=cF (P:=λv=>Bd 4000 v) br (Bd.zero _) c;obtain⟨Pc,hPc⟩:∃Pc:Nat->Hp->Prop,∀j Hx,Pc j Hx↔Hx D=some (.lst (((i8 (λx y=>(co b c*x-co rw' c*y).fdiv bf) rw' b).take j).map V.int))∧Same H2 Hx:=⟨_,λ_ _=>Iff.rfl⟩
  refine CW (xs:=rw'.map V.int) (ys:=b.map V.int) Pc ((hPc _ _).mpr ⟨ag,aw nD _⟩) (λi Hx _ _ y=>by obtain⟨_,y⟩:=(hPc i Hx).mp y;exact⟨y.seq hRx,y.seq hbx⟩) ?_ ?_
  ·intro j w1 w2 r Hx f1 f2 hc nr;obtain⟨k1,k2⟩:=(hPc _ _).mp hc;rw[aA]at f1 f2;obtain⟨x,hx,rfl⟩:=cO.mp f1;obtain⟨y,hy,rfl⟩:=cO.mp f2;have u2:=aw nr (.tup [V.int x,V.int y]);have bx:=br x (bJ hx);have by':=bb y (bJ hy)
   (iterate 3 (k_units;(try simp only[dh,dr]));k_units)
   have hj:j<rw'.length:=(aU.mp hx).1;refine⟨bpv.fits bx (by decide),bfa.fits by' (by decide),n0,bZ nb (fE (by decide) (by decide)),_,u2 _ _ k1,?_,(hPc _ _).mpr ⟨?_,(k2.trans u2).more nD⟩⟩
   ·rw[ac,b6];exact bC (by omega)
   ·have hz:(i8 (λx y=>(co b c*x-co rw' c*y).fdiv bf) rw' b)[j]?=some ((co b c*x-co rw' c*y).fdiv bf):=by
     rw[No,hx,hy]
    rw[ag,de,hz,aV];rfl
  intro Hx hc;obtain⟨k1,k2⟩:=(hPc _ _).mp hc;rw[eZ (by rw[mG,ac,ac];exact am _)]at k1;refine (hPv _ _ _).mpr ?_;rw[st];exact⟨D,_,_,_,_,rfl,.inr ⟨s2.free nD,k1⟩,SqL.of k1,s2.trans k2⟩
 intro σ H1 hp;obtain⟨R',r4,r5,r6,r7,rfl,dR,hR',s1⟩:=(hPv _ _ _).mp hp;have hn:min (ts.map V.ref).length ((cs.map λc:Nat=>(c:Int)).map V.int).length=tb.length:=by
  have:=ok.len;simp;omega
 rw[hn]at hR' dR
 k_units
 refine q R' H1 s1 ?_ hR';rcases dR with ⟨z1,z2⟩|z
 ·exact .inl ⟨z1,bK z2⟩
 ·exact .inr z
def Lk (K:PySem.W.Frag):Sp:=λvs H Q _=>∃(a:Addr) (xs:List Int) (n:Int) (k l:Nat),vs=[.ref a,.int n]∧SqL K H a (xs.map V.int)∧xs.length<=64∧(∀x∈xs,Bd k x)∧Bd l n∧k+l*100<=60000000∧Q (.int (val n xs)) H
theorem DW (n:Int)(xs:List Int)(i:Nat)(h:i<xs.length):val n (xs.drop (xs.length-1-i))=val n (xs.drop (xs.length-i))*n+xs[xs.length-1-i]:=by
 rw[F9 (by omega),show xs.length-1-i+1=xs.length-i by omega];simp only[val];rw[dY];omega
theorem wO {P:Program}{w:World}{K:PySem.W.Frag}{mg:Str->Option Value}{base:Heap}(T:Tx K mg):FnOk P w K mg base CX0 1 T.Oz T.OA ["poly","n"] (Lk K):=by
 refine T.N8.ok sc_poly_value (λvs H Q E h=>?_) (λcdv A outer s H vs Q E hr h=>?_)
 ·obtain⟨a,xs,n,k,l,rfl,_⟩:=h;rfl
 obtain⟨a,xs,n,k,l,rfl,hS,hl,hk,hb,hf,q⟩:=h;refine⟨_,((ah (ax (i:=2) sc_poly_value.nd rfl (Or.inl rfl) ai)
  (ah (cy PassesOwn.never rfl (Jg rfl T.RJ (aa (pv 0) ae)) (bN (i:=3) sc_poly_value.nd rfl (Or.inl rfl)) (ao (ax (i:=2) sc_poly_value.nd rfl (Or.inl rfl) (ak ci (ak eJ (pv 2) (pv 1)) (pv 3)))))
  (ao (aM (pv 2)))))),?_⟩
 k_units
 refine⟨_,hS,?_⟩;obtain⟨Pv,hPv⟩:∃Pv:Nat->L2.St->Hp->Prop,∀i σ H',Pv i σ H'↔(∃r,σ=[some (V.ref a),some (V.int n),some (V.int (val n (xs.drop (xs.length-i)))),r])∧Bd (k+(l+1)*i) (val n (xs.drop (xs.length-i)))∧H'=H:=⟨_,λ_ _ _=>Iff.rfl⟩
 refine Jh Pv ((hPv _ _ _).mpr ⟨⟨none,by simp[val]⟩,by simp[val,Bd.zero],rfl⟩) (λi σ H' _ z=>by rw[((hPv i σ H').mp z).2.2];exact hS) ?_ ?_
 ·intro i v σ H' hi hv hp;obtain⟨⟨r,rfl⟩,hbd,rfl⟩:=(hPv _ _ _).mp hp;rw[ac]at hi hv;rw[aA,aj (by omega)]at hv;obtain rfl:V.int xs[xs.length-1-i]=v:=Option.some.inj hv
  k_units
  have hx:Bd k xs[xs.length-1-i]:=hk _ (bH _);have e:xs.length-(i+1)=xs.length-1-i:=by omega
  have i64:(l+1)*i<=l*64+64:=by have:=fh (l+1) (by omega:i<=64);omega
  refine⟨hbd.fits hb (by omega),(hPv _ _ _).mpr ⟨⟨_,by rw[e,DW n xs i hi]⟩,?_,rfl⟩⟩;rw[e,DW n xs i hi];refine ((hbd.mul hb).add (hx.mono (by omega:k<=k+(l+1)*i+l))).mono ?_;rw[Ge];omega
 ·intro σ H' hp;obtain⟨⟨r,rfl⟩,_,rfl⟩:=(hPv _ _ _).mp hp
  k_units
  rw[ac,jJ,mF];exact q
def KB (a:Addr)(H H':Hp):Prop:=∀y o,y≠a->H y=some o->H' y=some o
theorem KB.on {a:Addr}{H H1 H2:Hp}(k:KB a H H1)(s:Same H1 H2):KB a H H2:=λy o n e=>s _ _ (k y o n e)
theorem KB.set {a:Addr}{H H1:Hp}{o:HO}(k:KB a H H1):KB a H (L2.upd H1 a o):=λy o n e=>by rw[ar n];exact k y o n e
theorem KB.of {a:Addr}{H H1:Hp}(s:Same H H1):KB a H H1:=λy o _ e=>s y o e
theorem KB.free {a p:Addr}{H H1:Hp}{o:HO}(k:KB a H H1)(h:H1 a=some o)(n:H1 p=none):H p=none∧p≠a:=by
 have d:p≠a:=λz=>by rw[z,h]at n;cases n
 refine⟨?_,d⟩
 cases e:H p with
 | none=>rfl
 | some u=>rw[k p u d e]at n;cases n
def iI (w:Int)(Kp Cl:Addr)(pl:Int)(Tb:Addr):List (Str×V):=[(Str.ofString "width",.int w),(Str.ofString "kept",.ref Kp),(Str.ofString "columns",.ref Cl),(Str.ofString "place",.int pl),(Str.ofString "tables",.ref Tb)]
def DX (C:Addr):Sp:=λvs H Q _=>∃(x dx:Addr) (w:Int),vs=[.ref x,.int w]∧H x=some (.ins C dx [])∧
 ∀(Kp Cl Tb:Addr) (H':Hp),(∀y o,y≠x->H y=some o->H' y=some o)->H Kp=none->H Cl=none->H Tb=none->Kp≠Cl->Kp≠Tb->Cl≠Tb->H' x=some (.ins C dx (iI w Kp Cl 97 Tb))->H' Kp=some (.lst [])->H' Cl=some (.lst [])->H' Tb=some (.dK [])->Q .non H'
theorem wP {P:Program}{w:World}{K:PySem.W.Frag}{mg:Str->Option Value}{base:Heap}(T:Tx K mg):FnOk P w K mg base CX0 1 T.P3 T.P4 ["self","width"] (DX T.NH):=by
 refine T.Rs.ok K4 (λvs H Q E h=>?_) (λcdv A outer s H vs Q E hr h=>?_)
 ·obtain⟨x,dx,w,rfl,_⟩:=h;rfl
 obtain⟨x,dx,w,rfl,hx,q⟩:=h;refine⟨_,((ah (kK (pv 0) (pv 1) rfl)
  (ah (kK (pv 0) (bU ae) rfl)
  (ah (kK (pv 0) (bU ae) rfl)
  (ah (kK (pv 0) (mL (v:=.int 97) rfl T.RM.2 ⟨_,rfl⟩) rfl)
  (ao (kK (pv 0) Jy rfl))))))),?_⟩
 have k0:KB x H H:=KB.of (Same.refl H);dsimp only[aC]
 k_typeOf
 refine⟨_,_,_,hx,T.NG,T.NN,by decide,?_⟩;have k1:=k0.set (o:=.ins T.NH dx (aJ (Str.ofString "width") (V.int w) []));have x1:=ag (H:=H) (a:=x) (o:=.ins T.NH dx (aJ (Str.ofString "width") (V.int w) []));generalize L2.upd H x (.ins T.NH dx (aJ (Str.ofString "width") (V.int w) []))=G1 at k1 x1 ⊢;dsimp only[aC]
 k_typeOf
 refine⟨by decide,λp1 n1=>?_⟩;have u1:=aw n1 (.lst []);obtain⟨m1,d1⟩:=k1.free x1 n1;refine⟨_,_,_,u1 _ _ x1,T.NG,T.NJ,by show 1<1000;decide,?_⟩;have k2:=(k1.on u1).set (o:=.ins T.NH dx (aJ (Str.ofString "kept") (V.ref p1) (aJ (Str.ofString "width") (V.int w) [])));have x2:=ag (H:=L2.upd G1 p1 (.lst [])) (a:=x) (o:=.ins T.NH dx (aJ (Str.ofString "kept") (V.ref p1) (aJ (Str.ofString "width") (V.int w) [])));have e2:L2.upd (L2.upd G1 p1 (.lst [])) x (.ins T.NH dx (aJ (Str.ofString "kept") (V.ref p1) (aJ (Str.ofString "width") (V.int w) []))) p1=some (.lst []):=by rw[ar d1];exact ag
 generalize L2.upd (L2.upd G1 p1 (.lst [])) x (.ins T.NH dx (aJ (Str.ofString "kept") (V.ref p1) (aJ (Str.ofString "width") (V.int w) [])))=G2 at k2 x2 e2 ⊢;clear k1 x1 n1 u1;dsimp only[aC]
 k_typeOf
 refine⟨by decide,λp2 n2=>?_⟩;have u2:=aw n2 (.lst []);obtain⟨m2,d2⟩:=k2.free x2 n2;have n12:p1≠p2:=λz=>by rw[←z,e2]at n2;cases n2
 refine⟨_,_,_,u2 _ _ x2,T.NG,T.NM,by show 2<1000;decide,?_⟩;have k3:=(k2.on u2).set (o:=.ins T.NH dx (aJ (Str.ofString "columns") (V.ref p2) (aJ (Str.ofString "kept") (V.ref p1) (aJ (Str.ofString "width") (V.int w) []))));have x3:=ag (H:=L2.upd G2 p2 (.lst [])) (a:=x) (o:=.ins T.NH dx (aJ (Str.ofString "columns") (V.ref p2) (aJ (Str.ofString "kept") (V.ref p1) (aJ (Str.ofString "width") (V.int w) []))));have e3:L2.upd (L2.upd G2 p2 (.lst [])) x (.ins T.NH dx (aJ (Str.ofString "columns") (V.ref p2) (aJ (Str.ofString "kept") (V.ref p1) (aJ (Str.ofString "width") (V.int w) [])))) p1=some (.lst []):=by rw[ar d1];exact u2 _ _ e2
 have f3:L2.upd (L2.upd G2 p2 (.lst [])) x (.ins T.NH dx (aJ (Str.ofString "columns") (V.ref p2) (aJ (Str.ofString "kept") (V.ref p1) (aJ (Str.ofString "width") (V.int w) [])))) p2=some (.lst []):=by rw[ar d2];exact ag
 generalize L2.upd (L2.upd G2 p2 (.lst [])) x (.ins T.NH dx (aJ (Str.ofString "columns") (V.ref p2) (aJ (Str.ofString "kept") (V.ref p1) (aJ (Str.ofString "width") (V.int w) []))))=G3 at k3 x3 e3 f3 ⊢;clear k2 x2 n2 u2 e2;dsimp only[aC]
 k_typeOf
 refine⟨_,_,_,x3,T.NG,T.Ol,by show 3<1000;decide,?_⟩;have k4:=k3.set (o:=.ins T.NH dx (aJ (Str.ofString "place") (V.int 97) (aJ (Str.ofString "columns") (V.ref p2) (aJ (Str.ofString "kept") (V.ref p1) (aJ (Str.ofString "width") (V.int w) [])))));have x4:=ag (H:=G3) (a:=x) (o:=.ins T.NH dx (aJ (Str.ofString "place") (V.int 97) (aJ (Str.ofString "columns") (V.ref p2) (aJ (Str.ofString "kept") (V.ref p1) (aJ (Str.ofString "width") (V.int w) [])))));have e4:=(ar (H:=G3) (o:=.ins T.NH dx (aJ (Str.ofString "place") (V.int 97) (aJ (Str.ofString "columns") (V.ref p2) (aJ (Str.ofString "kept") (V.ref p1) (aJ (Str.ofString "width") (V.int w) []))))) d1).trans e3;have f4:=(ar (H:=G3) (o:=.ins T.NH dx (aJ (Str.ofString "place") (V.int 97) (aJ (Str.ofString "columns") (V.ref p2) (aJ (Str.ofString "kept") (V.ref p1) (aJ (Str.ofString "width") (V.int w) []))))) d2).trans f3;generalize L2.upd G3 x (.ins T.NH dx (aJ (Str.ofString "place") (V.int 97) (aJ (Str.ofString "columns") (V.ref p2) (aJ (Str.ofString "kept") (V.ref p1) (aJ (Str.ofString "width") (V.int w) [])))))=G4 at k4 x4 e4 f4 ⊢
 k_units
 intro p5 n5;have u5:=aw n5 (.dK []);obtain⟨m5,d5⟩:=k4.free x4 n5;have n15:p1≠p5:=λz=>by rw[←z,e4]at n5;cases n5
 have n25:p2≠p5:=λz=>by rw[←z,f4]at n5;cases n5
 refine⟨_,_,_,u5 _ _ x4,T.NG,T.Q1,by show 4<1000;decide,?_⟩;refine q p1 p2 p5 _ (k4.on u5).set m1 m2 m5 n12 n15 n25 ?_ (by rw[ar d1];exact u5 _ _ e4) (by rw[ar d2];exact u5 _ _ f4) (by rw[ar d5];exact ag);rw[ag];rfl
def bI (w:Nat)(vec:List (List Int))(num:Nat)(pl:Int):List Int:=vec.map (val pl)++(aD (w+1)).map λo=>if o=num then 1 else 0
def Ll (K:PySem.W.Frag)(C:Addr):Sp:=λvs H Q _=>∃(x dx Kp Cl Tb Vc:Addr) (pc:Int) (w num:Nat) (pl:Int) (as:List Addr) (vec:List (List Int)),vs=[.ref x,.ref Vc,.int (num:Int),.int pl]∧H x=some (.ins C dx (iI w Kp Cl pc Tb))∧SqL K H Vc (as.map V.ref)∧LL K H as vec∧w<=20∧vec.length<=20∧Bd 40 pl∧(∀p∈vec,p.length<=60∧∀c∈p,Bd 1000 c)∧dE H Q ((bI w vec num pl).map V.int)
theorem DY {P:Program}{w:World}{K:PySem.W.Frag}{mg:Str->Option Value}{base:Heap}(T:Tx K mg):FnOk P w K mg base CX0 2 T.P6 T.P8 ["self","vector","number","place"] (Ll K T.NH):=by
 refine T.Rt.ok sc_Span_row_at (λvs H Q E h=>?_) (λcdv A outer s H vs Q E hr h=>?_)
 ·obtain⟨x,dx,Kp,Cl,Tb,Vc,pc,w,num,pl,as,vec,rfl,_⟩:=h;rfl
 obtain⟨x,dx,Kp,Cl,Tb,Vc,pc,w,num,pl,as,vec,rfl,hx,hV,hL,w20,l20,bpl,bv,q⟩:=h;refine⟨_,((ah (kS (i:=4) rfl (dD rfl (dj rfl cM) (d_ 2 "number" (by decide) rfl (Or.inl rfl) (Or.inl rfl) ⟨_,rfl⟩ cV)) (fo rfl T.NI (aa (ak ci (cU (pv 0) rfl) ai) ae)) (λ_ _ _ _=>(Bt (aO e9 (pv 0) (pv 1) (aN _)) ai ai)) sc_Span_row_at.nd rfl rfl)
  (ao (aM (ak iV (e_ rfl (dD rfl (dj rfl cM) (d_ 3 "place" (by decide) rfl (Or.inl rfl) (Or.inl rfl) ⟨_,rfl⟩ cV)) (dC (pv 1)) (λ_ _ _ _=>(aK (FnOk.mono (wO T) (by decide)) hr rfl T.OB T.N8.kp T.OC .nil aB (aa (pv 0) (aa (pv 1) ae))))) (pv 4)))))),?_⟩
 have lv:=hL.len;dsimp only[aC]
 k_typeOf
 refine⟨_,_,_,hx,T.NG,T.NN,_,rfl,_,rfl,by omega,by omega,λD nD=>?_⟩;rw[show ((w:Int)+1).toNat=w+1 by omega];obtain⟨Pc,hPc⟩:∃Pc:Nat->Hp->Prop,∀j Hx,Pc j Hx↔Hx D=some (.lst (((aD j).map λo:Nat=>if o=num then (1:Int) else 0).map V.int))∧Same H Hx:=⟨_,λ_ _=>Iff.rfl⟩
 refine vU Pc ((hPc _ _).mpr ⟨ag,aw nD _⟩) ?_ ?_
 ·intro j Hx hj hc;obtain⟨k1,k2⟩:=(hPc _ _).mp hc;have e0:(0:Int)+(j:Int)=(j:Int):=f_ _;have nx:∀v:Int,v=(if j=num then (1:Int) else 0)->∃ys,Hx D=some (.lst ys)∧ys.length<sizeLine∧Pc (j+1) (L2.upd Hx D (.lst (ys++[V.int v]))):=λv hv=>by
   refine⟨_,k1,by rw[ac,ac,fI];exact bC (by omega),(hPc _ _).mpr ⟨?_,k2.more nD⟩⟩;rw[ag,mH,aV,aV,hv];rfl
  (iterate 3 (k_units;(try simp only[bst,e0,dr]));k_units)
  refine bR (λz=>nx 1 (by rw[if_pos (by omega)])) (λz=>nx 0 (by rw[if_neg (by omega)]))
 intro H1 hc;obtain⟨eD,s1⟩:=(hPc _ _).mp hc;clear hc hPc Pc;refine⟨⟨_,s1.seq hV⟩,λD2 nD2=>?_⟩;obtain⟨Pc,hPc⟩:∃Pc:Nat->Hp->Prop,∀j Hx,Pc j Hx↔Hx D2=some (.lst (((vec.map (val pl)).take j).map V.int))∧Same H1 Hx:=⟨_,λ_ _=>Iff.rfl⟩
 refine ff (xs:=as.map V.ref) Pc ((hPc _ _).mpr ⟨ag,aw nD2 _⟩) (λi Hx _ y=>by obtain⟨_,y⟩:=(hPc i Hx).mp y;exact (s1.trans y).seq hV) ?_ ?_
 ·intro j v Hx hv hc;obtain⟨k1,k2⟩:=(hPc _ _).mp hc;obtain⟨a,p,rfl,ha,hp,sq⟩:=hL.nth hv;have hj:j<vec.length:=(aU.mp hp).1;obtain⟨b1,b2⟩:=bv p (bJ hp)
  (iterate 3 (k_units;(try simp only[bst,dr]));k_units)
  refine⟨a,p,pl,1000,40,rfl,(s1.trans k2).seq sq,by omega,b2,bpl,by decide,_,k1,?_,(hPc _ _).mpr ⟨?_,k2.more nD2⟩⟩
  ·rw[ac,b6];exact bC (by omega)
  ·rw[ag,de,aA,hp,aV];rfl
 intro H2 hc;obtain⟨eD2,s2⟩:=(hPc _ _).mp hc;rw[ac,lv,eZ (by rw[ac];exact am _)]at eD2;refine⟨D2,rfl,D,rfl,_,eD2,_,s2 _ _ eD,?_,λr nr=>?_⟩
 ·rw[ac,ac,ac,ac,fI];exact b5 (bC (by omega))
 ·refine q r _ ((s1.trans s2).trans (aw nr _)) ((s1.trans s2).free nr) ?_;rw[ag];unfold bI;rw[aV]
def dgL (p:List Int):Int:=((p.length-1:Nat):Int)
def g_ (ps:List (List Int))(M:Int):Prop:=(ps.map dgL=[]∧M=0)∨(M∈ps.map dgL∧∀a∈ps.map dgL,a<=M)
def Lm (K:PySem.W.Frag):Sp:=λvs H Q _=>∃(A:Addr) (as:List Addr) (ps:List (List Int)),vs=[.ref A]∧SqL K H A (as.map V.ref)∧LL K H as ps∧ps.length<=60∧∀M H',Same H H'->g_ ps M->Q (.int M) H'
theorem DZ {P:Program}{w:World}{K:PySem.W.Frag}{mg:Str->Option Value}{base:Heap}(T:Tx K mg):FnOk P w K mg base CX0 1 T.Pp T.Pq ["polys"] (Lm K):=by
 refine T.Pr.ok K2 (λvs H Q E h=>?_) (λcdv A outer s H vs Q E hr h=>?_)
 ·obtain⟨A,as,ps,rfl,_⟩:=h;rfl
 obtain⟨A,as,ps,rfl,hA,hL,l60,q⟩:=h;refine⟨_,((ao (aM (JU rfl rfl T.NU (aa (e_ rfl (dD rfl cM cV) (dC (pv 0)) (λ_ _ _ _=>(aG (mW rfl) rfl T.NU jX (aa (ak dg (aG (Ld (K:=K) rfl) rfl T.NF aZ (aa (pv 0) ae)) ai) (aa ai ae))))) ae) (IC ai IB))))),?_⟩;have lv:=hL.len
 k_units
 refine⟨⟨_,hA⟩,λD nD=>?_⟩;obtain⟨Pc,hPc⟩:∃Pc:Nat->Hp->Prop,∀j Hx,Pc j Hx↔Hx D=some (.lst (((ps.map dgL).take j).map V.int))∧Same H Hx:=⟨_,λ_ _=>Iff.rfl⟩
 refine ff (xs:=as.map V.ref) Pc ((hPc _ _).mpr ⟨ag,aw nD _⟩) (λi Hx _ y=>by obtain⟨_,y⟩:=(hPc i Hx).mp y;exact y.seq hA) ?_ ?_
 ·intro j v Hx hv hc;obtain⟨k1,k2⟩:=(hPc _ _).mp hc;obtain⟨a,p,rfl,ha,hp,sq⟩:=hL.nth hv;have hj:j<ps.length:=(aU.mp hp).1
  (iterate 3 (k_units;(try simp only[bst,dr]));k_units)
  refine⟨_,.inl (k2.seq sq),?_⟩;have e:(if 0 > ((p.map V.int).length:Int)-1 then 0 else ((p.map V.int).length:Int)-1)=dgL p:=by unfold dgL;rw[ac];split <;> omega
  try rw[e]
  refine⟨_,k1,?_,(hPc _ _).mpr ⟨?_,k2.more nD⟩⟩
  ·rw[ac,b6];exact bC (by omega)
  ·rw[ag,de,aA,hp,aV];rfl
 intro H1 hc;obtain⟨eD,s1⟩:=(hPc _ _).mp hc;rw[ac,lv,eZ (by rw[ac];exact am _)]at eD;exact⟨D,rfl,_,SqL.of eD,λM hM=>q M H1 s1 hM⟩
theorem lM {X:Cx}{K:PySem.W.Frag}{tg l:Expr}{tl:TE}(hK:X.K=K)(hl:PE X l tl):PI X tg l (vo K tl):=by subst hK;exact dC hl
structure VL (K:PySem.W.Frag)(H:Hp)(vs:List Addr)(qs:List (List (List Int))):Prop where
 len:vs.length=qs.length
 get:∀(i:Nat) (v:Addr) (q:List (List Int)),vs[i]?=some v->qs[i]?=some q->∃as,SqL K H v (as.map V.ref)∧LL K H as q
def hU (q:List (List Int))(cs:List Nat):List (List Int):=cs.map λc=>q.getD c []
def h_ (qs:List (List (List Int)))(c:Nat):List (List Int):=qs.map λq=>q.getD c []
theorem jv {α β:Type}{Φ:α->β->Prop}{rs:List α}{L:List β}{r:α}(h:∀(t:Nat) (r:α) (p:β),rs[t]?=some r->L[t]?=some p->Φ r p)(hr:∀p,L[rs.length]?=some p->Φ r p):∀(t:Nat) (r':α) (p:β),(rs++[r])[t]?=some r'->L[t]?=some p->Φ r' p:=λt r' p e1 e2=>by
 by_cases hi:t<rs.length
 ·rw[b_ hi]at e1;exact h t r' p e1 e2
 ·rw[dz (by omega)]at e1;have:t-rs.length=0:=by have:=(aU.mp e1).1;simp at this;omega
  rw[this]at e1;have ht:t=rs.length:=by omega
  cases Option.some.inj e1
  rw[ht]at e2;exact hr p e2
theorem qQ {α:Type}{xs:List α}{i:Nat}{d:α}(h:i<xs.length):xs[i]?=some (xs.getD i d):=by
 rw[av,aj h];rfl
def Ln (K:PySem.W.Frag):Sp:=λvs H Q _=>∃(A B:Addr) (us:List Addr) (qs:List (List (List Int))) (cs:List Nat),vs=[.ref A,.ref B]∧SqL K H A (us.map V.ref)∧VL K H us qs∧SqL K H B ((cs.map λc:Nat=>(c:Int)).map V.int)∧qs≠[]∧qs.length<=20∧cs.length<=20∧(∀q∈qs,∀c∈cs,c<q.length)∧
 ∀(bv bc:List Int) (m N:Int) (H':Hp),Same H H'->bv.length=qs.length->bc.length=cs.length->(∀(i:Nat) (b:Int) (q:List (List Int)),bv[i]?=some b->qs[i]?=some q->g_ (hU q cs) b)->(∀(i:Nat) (b:Int) (c:Nat),bc[i]?=some b->cs[i]?=some c->g_ (h_ qs c) b)->m∈bv->(∀b∈bv,m<=b)->N=(if bc.sum<bv.sum-m then bc.sum else bv.sum-m)->Q (.int N) H'
theorem Lo {P:Program}{w:World}{K:PySem.W.Frag}{mg:Str->Option Value}{base:Heap}(T:Tx K mg):FnOk P w K mg base CX0 2 T.Ps T.Pt ["vectors","columns"] (Ln K):=by
 refine T.QH.ok sc_degree_bound (λvs H Q E h=>?_) (λcdv A outer s H vs Q E hr h=>?_)
 ·obtain⟨A,B,us,qs,cs,rfl,_⟩:=h;rfl
 obtain⟨A,B,us,qs,cs,rfl,hA,hV,hB,q0,l20,c20,hw,q⟩:=h;refine⟨_,((ah (wf (i:=2) rfl (qt rfl (dj rfl cM) (d_ 1 "columns" (by decide) rfl (Or.inl rfl) (Or.inl rfl) ⟨_,rfl⟩ cV)) (dC (pv 0)) (λ_ _ _ _=>(aK (FnOk.mono (DZ T) (by decide)) hr rfl T.QF T.Pr.kp T.QG .nil aB (aa (e_ rfl (dD rfl (dj rfl cM) (d_ 0 "vector" (by decide) rfl (Or.inl rfl) (Or.inl rfl) ⟨_,rfl⟩ cV)) (lM (K:=K) rfl (pv 1)) (λ_ _ _ _=>(aR (qP (K:=K) rfl) (pv 1) (pv 0) (λ_ _=>rfl)))) ae))) sc_degree_bound.nd rfl rfl)
  (ah (wf (i:=3) rfl (qt rfl (dj rfl cM) (d_ 0 "vectors" (by decide) rfl (Or.inl rfl) (Or.inl rfl) ⟨_,rfl⟩ cV)) (dC (pv 1)) (λ_ _ _ _=>(aK (FnOk.mono (DZ T) (by decide)) hr rfl T.QF T.Pr.kp T.QG .nil aB (aa (e_ rfl (dD rfl (dj rfl cM) (d_ 0 "column" (by decide) rfl (Or.inl rfl) (Or.inl rfl) ⟨_,rfl⟩ cV)) (lM (K:=K) rfl (pv 1)) (λ_ _ _ _=>(aR (qP (K:=K) rfl) (pv 0) (pv 1) (λ_ _=>rfl)))) ae))) sc_degree_bound.nd rfl rfl)
  (ao (aM (aG (BS rfl) rfl T.Qn vT (aa (ak dg (aG (CY rfl) rfl T.Q2 boot_sum (aa (pv 2) ae)) (aG (JI rfl) rfl T.Qn vT (aa (pv 2) ae))) (aa (aG (CY rfl) rfl T.Q2 boot_sum (aa (pv 3) ae)) ae)))))))),?_⟩
 have lu:=hV.len;dsimp only[aC]
 k_typeOf
 refine⟨⟨_,hA⟩,λD nD=>?_⟩;obtain⟨Pc,hPc⟩:∃Pc:Nat->Hp->Prop,∀j Hx,Pc j Hx↔∃bv:List Int,Hx D=some (.lst (bv.map V.int))∧bv.length=j∧(∀(i:Nat) (b:Int) (q:List (List Int)),bv[i]?=some b->qs[i]?=some q->g_ (hU q cs) b)∧Same H Hx:=⟨_,λ_ _=>Iff.rfl⟩
 refine ff (xs:=us.map V.ref) Pc ((hPc _ _).mpr ⟨[],ag,rfl,λi b q e=>by simp at e,aw nD _⟩) (λi Hx _ y=>by obtain⟨_,_,_,_,y⟩:=(hPc i Hx).mp y;exact y.seq hA) ?_ ?_
 ·intro j v Hx hv hc;obtain⟨bv,k1,k2,k3,k4⟩:=(hPc _ _).mp hc;rw[aA]at hv;obtain⟨u,hu,rfl⟩:=cO.mp hv;have hj:j<qs.length:=by have:=(aU.mp hu).1;omega
  have hqj:qs[j]?=some qs[j]:=aj hj;obtain⟨as,sA,lA⟩:=hV.get j u _ hu hqj;have hwq:=hw _ (bH hj)
  (iterate 3 (k_units;(try simp only[bst,dr]));k_units)
  generalize qs[j]=qv at lA hwq hqj;refine⟨⟨_,k4.seq hB⟩,λD1 nD1=>?_⟩;obtain⟨Pi,hPi⟩:∃Pi:Nat->Hp->Prop,∀i Hy,Pi i Hy↔∃rs:List Addr,Hy D1=some (.lst (rs.map V.ref))∧rs.length=i∧(∀(t:Nat) (r:Addr) (p:List Int),rs[t]?=some r->(hU qv cs)[t]?=some p->SqL K H r (p.map V.int))∧Same Hx Hy:=⟨_,λ_ _=>Iff.rfl⟩
  refine ff (xs:=(cs.map λc:Nat=>(c:Int)).map V.int) Pi ((hPi _ _).mpr ⟨[],ag,rfl,λt r p e=>by simp at e,aw nD1 _⟩) (λi Hy _ y=>by obtain⟨_,_,_,_,y⟩:=(hPi i Hy).mp y;exact (k4.trans y).seq hB) ?_ ?_
  ·intro i v Hy hv2 hi;obtain⟨rs,m1,m2,m3,m4⟩:=(hPi _ _).mp hi;rw[aA,aA]at hv2;obtain⟨z,hz,rfl⟩:=cO.mp hv2;obtain⟨c,hc',rfl⟩:=cO.mp hz;have hcl:=hwq c (bJ hc');have hca:c<as.length:=by have:=lA.len;omega
   have hic:i<cs.length:=(aU.mp hc').1
   (iterate 3 (k_units;(try simp only[bst,dr]));k_units)
   refine⟨_,(k4.trans m4).seq sA,V.ref as[c],gW (by rw[aA,aj hca];rfl),_,m1,by rw[ac];exact bC (by omega),(hPi _ _).mpr ⟨rs++[as[c]],by rw[ag,aV];rfl,by simp[m2],jv m3 λp hp=>?_,m4.more nD1⟩⟩;rw[m2]at hp;unfold hU at hp;rw[aA,hc']at hp;obtain rfl:=Option.some.inj hp;exact lA.get c _ _ (aj hca) (qQ hcl)
  intro Hy hi;obtain⟨rs,m1,m2,m3,m4⟩:=(hPi _ _).mp hi;rw[ac,ac]at m2;have hR:LL K Hy rs (hU qv cs):=⟨by unfold hU;rw[ac];exact m2,λt r p e1 e2=>(k4.trans m4).seq (m3 t r p e1 e2)⟩
  refine⟨D1,rs,_,rfl,SqL.of m1,hR,by unfold hU;rw[ac];omega,λM H2 s2 hM=>⟨_,s2 _ _ (m4 _ _ k1),by rw[ac];exact bC (by omega),(hPc _ _).mpr ⟨bv++[M],by rw[ag,aV];rfl,by simp[k2],?_,(k4.trans (m4.trans s2)).more nD⟩⟩⟩;refine jv (Φ:=λb q=>g_ (hU q cs) b) k3 λq hq=>?_;rw[k2,hqj]at hq;obtain rfl:=Option.some.inj hq;exact hM
 intro H1 hc;obtain⟨bv,k1,k2,k3,k4⟩:=(hPc _ _).mp hc;rw[ac,lu]at k2;clear hc hPc Pc;dsimp only[aC]
 k_typeOf
 refine⟨⟨_,k4.seq hB⟩,λD2 nD2=>?_⟩;obtain⟨Pc,hPc⟩:∃Pc:Nat->Hp->Prop,∀j Hx,Pc j Hx↔∃bc:List Int,Hx D2=some (.lst (bc.map V.int))∧bc.length=j∧(∀(i:Nat) (b:Int) (c:Nat),bc[i]?=some b->cs[i]?=some c->g_ (h_ qs c) b)∧Same H1 Hx:=⟨_,λ_ _=>Iff.rfl⟩
 refine ff (xs:=(cs.map λc:Nat=>(c:Int)).map V.int) Pc ((hPc _ _).mpr ⟨[],ag,rfl,λi b q e=>by simp at e,aw nD2 _⟩) (λi Hx _ y=>by obtain⟨_,_,_,_,y⟩:=(hPc i Hx).mp y;exact (k4.trans y).seq hB) ?_ ?_
 ·intro j v Hx hv hc;obtain⟨bc,c1,c2,c3,c4⟩:=(hPc _ _).mp hc;rw[aA,aA]at hv;obtain⟨z,hz,rfl⟩:=cO.mp hv;obtain⟨c,hc',rfl⟩:=cO.mp hz;have hj:j<cs.length:=(aU.mp hc').1;have s1x:=k4.trans c4
  (iterate 3 (k_units;(try simp only[bst,dr]));k_units)
  refine⟨⟨_,s1x.seq hA⟩,λD1 nD1=>?_⟩;obtain⟨Pi,hPi⟩:∃Pi:Nat->Hp->Prop,∀i Hy,Pi i Hy↔∃rs:List Addr,Hy D1=some (.lst (rs.map V.ref))∧rs.length=i∧(∀(t:Nat) (r:Addr) (p:List Int),rs[t]?=some r->(h_ qs c)[t]?=some p->SqL K H r (p.map V.int))∧Same Hx Hy:=⟨_,λ_ _=>Iff.rfl⟩
  refine ff (xs:=us.map V.ref) Pi ((hPi _ _).mpr ⟨[],ag,rfl,λt r p e=>by simp at e,aw nD1 _⟩) (λi Hy _ y=>by obtain⟨_,_,_,_,y⟩:=(hPi i Hy).mp y;exact (s1x.trans y).seq hA) ?_ ?_
  ·intro i v Hy hv2 hi;obtain⟨rs,m1,m2,m3,m4⟩:=(hPi _ _).mp hi;rw[aA]at hv2;obtain⟨u,hu,rfl⟩:=cO.mp hv2;have hiq:i<qs.length:=by have:=(aU.mp hu).1;omega
   have hqi:qs[i]?=some qs[i]:=aj hiq;obtain⟨as,sA,lA⟩:=hV.get i u _ hu hqi;have hcl:=hw _ (bH hiq) c (bJ hc');generalize qs[i]=qv at lA hcl hqi;have hca:c<as.length:=by have:=lA.len;omega
   (iterate 3 (k_units;(try simp only[bst,dr]));k_units)
   refine⟨_,(s1x.trans m4).seq sA,V.ref as[c],gW (by rw[aA,aj hca];rfl),_,m1,by rw[ac];exact bC (by omega),(hPi _ _).mpr ⟨rs++[as[c]],by rw[ag,aV];rfl,by simp[m2],jv m3 λp hp=>?_,m4.more nD1⟩⟩;rw[m2]at hp;unfold h_ at hp;rw[aA,hqi]at hp;obtain rfl:=Option.some.inj hp;exact lA.get c _ _ (aj hca) (qQ hcl)
  intro Hy hi;obtain⟨rs,m1,m2,m3,m4⟩:=(hPi _ _).mp hi;rw[ac,lu]at m2;have hR:LL K Hy rs (h_ qs c):=⟨by unfold h_;rw[ac];exact m2,λt r p e1 e2=>(s1x.trans m4).seq (m3 t r p e1 e2)⟩
  refine⟨D1,rs,_,rfl,SqL.of m1,hR,by unfold h_;rw[ac];omega,λM H2 s2 hM=>⟨_,s2 _ _ (m4 _ _ c1),by rw[ac];exact bC (by omega),(hPc _ _).mpr ⟨bc++[M],by rw[ag,aV];rfl,by simp[c2],?_,(c4.trans (m4.trans s2)).more nD2⟩⟩⟩;refine jv (Φ:=λb c=>g_ (h_ qs c) b) c3 λc'' hq=>?_;rw[c2,hc']at hq;obtain rfl:=Option.some.inj hq;exact hM
 intro H2 hc;obtain⟨bc,c1,c2,c3,c4⟩:=(hPc _ _).mp hc;rw[ac,ac]at c2;have bv0:bv≠[]:=λz=>by rw[z]at k2;exact q0 (bK k2.symm)
 k_units
 exact⟨bv,SqL.of (c4 _ _ k1),bv,SqL.of (c4 _ _ k1),bv0,λm hm hle=>⟨bc,SqL.of c1,q bv bc m _ H2 (k4.trans c4) k2 c2 k3 c3 hm hle rfl⟩⟩
structure LH (H:Hp)(as:List Addr)(ps:List (List Int)):Prop where
 len:as.length=ps.length
 get:∀(i:Nat) (a:Addr) (p:List Int),as[i]?=some a->ps[i]?=some p->H a=some (.lst (p.map V.int))
theorem LH.ll {K:PySem.W.Frag}{H:Hp}{as:List Addr}{ps:List (List Int)}(h:LH H as ps):LL K H as ps:=⟨h.len,λi a p h1 h2=>SqL.of (h.get i a p h1 h2)⟩
theorem LH.same {H H':Hp}{as:List Addr}{ps:List (List Int)}(h:LH H as ps)(s:Same H H'):LH H' as ps:=⟨h.len,λi a p h1 h2=>s _ _ (h.get i a p h1 h2)⟩
theorem LH.nil (H:Hp):LH H [] []:=⟨rfl,λi a p h1 _=>by simp at h1⟩
theorem LH.snoc {H:Hp}{as:List Addr}{ps:List (List Int)}{a:Addr}{p:List Int}(h:LH H as ps)(e:H a=some (.lst (p.map V.int))):LH H (as++[a]) (ps++[p]):=by
 refine⟨by simp[h.len],λi b r h1 h2=>?_⟩;by_cases z:i<as.length
 ·rw[b_ z]at h1;rw[b_ (by rw[←h.len];exact z)]at h2;exact h.get i b r h1 h2
 ·rw[dz (by omega)]at h1;rw[dz (by rw[←h.len];omega),←h.len]at h2;have z2:i-as.length=0:=by
   rcases Gf (i-as.length) with y|y
   ·exact y
   ·rw[gz (by simp;omega)]at h1;cases h1
  rw[z2]at h1 h2;simp at h1 h2;rw[←h1,←h2];exact e
theorem LH.set {H:Hp}{as:List Addr}{ps:List (List Int)}{a:Addr}{p:List Int}(h:LH H as ps)(e:H a=some (.lst (p.map V.int)))(i:Nat):LH H (as.set i a) (ps.set i p):=by
 refine⟨by simp[h.len],λj b r h1 h2=>?_⟩;by_cases z:i=j
 ·subst z;have l1:i<as.length:=by have:=(aU.mp h1).1;simpa using this
  rw[kr l1]at h1;rw[kr (by rw[←h.len];exact l1)]at h2;rw[←Option.some.inj h1,←Option.some.inj h2];exact e
 ·rw[i4 z]at h1 h2;exact h.get j b r h1 h2
theorem LH.upd {H:Hp}{as:List Addr}{ps:List (List Int)}{b:Addr}{o:HO}(h:LH H as ps)(n:b∉as):LH (L2.upd H b o) as ps:=⟨h.len,λi a p h1 h2=>by
 rw[ar (λz=>n (by rw[←z];exact bJ h1))];exact h.get i a p h1 h2⟩
theorem LH.mem {H:Hp}{as:List Addr}{ps:List (List Int)}(h:LH H as ps){a:Addr}(ha:a∈as):∃p:List Int,H a=some (.lst (p.map V.int)):=by
 obtain⟨i,hi,e⟩:=dq.mp ha;have hp:i<ps.length:=by rw[←h.len];exact hi
 exact⟨ps[i],h.get i a ps[i] (by rw[←e];exact aj hi) (aj hp)⟩
theorem LH.notin {H:Hp}{as:List Addr}{ps:List (List Int)}(h:LH H as ps){a:Addr}(ha:H a=none):a∉as:=λz=>by
 obtain⟨p,e⟩:=h.mem z;rw[ha]at e;cases e
def cR (w:Nat)(RP:List (List (List Int)))(cs:List Nat)(p:Int):Nat->List (List Int)
 | 0=>[]
 | n+1=>cR w RP cs p n++[(cH (bI w (RP.getD n []) n p) (cR w RP cs p n) cs n).2]
def eK (w:Nat)(RP:List (List (List Int)))(cs:List Nat)(p:Int)(n:Nat):List Int:=(cH (bI w (RP.getD n []) n p) (cR w RP cs p n) cs n).2
theorem dJ (w:Nat)(RP:List (List (List Int)))(cs:List Nat)(p:Int):∀n,(cR w RP cs p n).length=n
 | 0=>rfl
 | n+1=>by rw[cR,bM,dJ w RP cs p n];rfl
def Piv (w:Nat)(RP:List (List (List Int)))(cs:List Nat)(p:Int)(n:Nat):Prop:=∀i,i<n->co (eK w RP cs p i) (cs.getD i 0)≠0
def VecAt (H:Hp)(M:List Addr)(u:Addr)(q:List (List Int)):Prop:=∃as:List Addr,H u=some (.lst (as.map V.ref))∧LH H as q∧u∉M∧∀a∈as,a∉M
def TabAt (H:Hp)(M:List Addr)(w:Nat)(RP:List (List (List Int)))(cs:List Nat)(e:Key×V):Prop:=∃(p:Int) (ta:Addr) (n:Nat) (rs:List Addr),e=(.inl p,.ref ta)∧ta∈M∧H ta=some (.lst (rs.map V.ref))∧LH H rs (cR w RP cs p n)∧n<=RP.length∧Piv w RP cs p n∧∀r∈rs,r∉M
structure Spn {K:PySem.W.Frag}{mg:Str->Option Value}(T:Tx K mg)(H:Hp)(x dx Kp Cl Tb:Addr)(us:List Addr)(kvs:List (Key×V))(M:List Addr)(w:Nat)(RP:List (List (List Int)))(cs:List Nat)(pl:Int):Prop where
 hx:H x=some (.ins T.NH dx (iI w Kp Cl pl Tb))
 hK:H Kp=some (.lst (us.map V.ref))
 hC:H Cl=some (.lst ((cs.map λc:Nat=>(c:Int)).map V.int))
 hT:H Tb=some (.dK kvs)
 lk:us.length=RP.length
 lc:cs.length=RP.length
 vec:∀(i:Nat) (u:Addr) (q:List (List Int)),us[i]?=some u->RP[i]?=some q->VecAt H M u q
 tab:∀e∈kvs,TabAt H M w RP cs e
 inj:∀e∈kvs,∀e'∈kvs,e.2=e'.2->e.1=e'.1
 mem:x∈M∧Kp∈M∧Cl∈M∧Tb∈M
 out:∀e∈kvs,e.2≠.ref Kp∧e.2≠.ref Cl
 ne:Kp≠Cl
 al:∀a∈M,∃o,H a=some o
def KX (M:List Addr)(H H':Hp):Prop:=∀y o,y∉M->H y=some o->H' y=some o
theorem LH.kx {H H':Hp}{as:List Addr}{ps:List (List Int)}{M:List Addr}(h:LH H as ps)(k:KX M H H')(n:∀a∈as,a∉M):LH H' as ps:=⟨h.len,λi a p e1 e2=>k _ _ (n a (bJ e1)) (h.get i a p e1 e2)⟩
theorem VecAt.same {H H':Hp}{M:List Addr}{u:Addr}{q:List (List Int)}(h:VecAt H M u q)(s:Same H H'):VecAt H' M u q:=by
 obtain⟨as,h1,h2,h3,h4⟩:=h;exact⟨as,s _ _ h1,h2.same s,h3,h4⟩
theorem TabAt.same {H H':Hp}{M:List Addr}{w:Nat}{RP:List (List (List Int))}{cs:List Nat}{e:Key×V}(h:TabAt H M w RP cs e)(s:Same H H'):TabAt H' M w RP cs e:=by
 obtain⟨p,ta,n,rs,h1,h2,h3,h4,h5⟩:=h;exact⟨p,ta,n,rs,h1,h2,s _ _ h3,h4.same s,h5⟩
section
variable {K:PySem.W.Frag}{mg:Str->Option Value}{T:Tx K mg}{H H':Hp}{x dx Kp Cl Tb:Addr}{us:List Addr}{kvs:List (Key×V)}{M:List Addr}{w:Nat}{RP:List (List (List Int))}{cs:List Nat}{pl:Int}
theorem Spn.same (S:Spn T H x dx Kp Cl Tb us kvs M w RP cs pl)(s:Same H H'):Spn T H' x dx Kp Cl Tb us kvs M w RP cs pl:=
 ⟨s _ _ S.hx,s _ _ S.hK,s _ _ S.hC,s _ _ S.hT,S.lk,S.lc,λi u q e1 e2=>(S.vec i u q e1 e2).same s,λe he=>(S.tab e he).same s,S.inj,S.mem,S.out,S.ne,λa ha=>by obtain⟨o,e⟩:=S.al a ha;exact⟨o,s _ _ e⟩⟩
theorem Spn.put {p:Int}{D:Addr}(S:Spn T H x dx Kp Cl Tb us kvs M w RP cs pl)(nD:H D=none)(hn:∀e∈kvs,e.1≠.inl p):
  Spn T (L2.upd (L2.upd H D (.lst [])) Tb (.dK (kvs++[(.inl p,.ref D)]))) x dx Kp Cl Tb us (kvs++[(.inl p,.ref D)]) (D :: M) w RP cs pl:=by
 obtain⟨m1,m2,m3,m4⟩:=S.mem;have u:=aw nD (.lst []);have nT:∀{y:Addr}{o:HO},H y=some o->(∀z,o≠.dK z)->L2.upd (L2.upd H D (.lst [])) Tb (.dK (kvs++[(.inl p,.ref D)])) y=some o:=λ{y o} e hz=>by
  have:y≠Tb:=λz=>by rw[z,S.hT]at e;cases e;exact hz _ rfl
  rw[ar this];exact u _ _ e
 have hD:∀{y:Addr}{o:HO},H y=some o->y≠D:=λ{y o} e z=>by rw[z,nD]at e;cases e
 have dT:D≠Tb:=λz=>by rw[z,S.hT]at nD;cases nD
 have lh:∀{as:List Addr}{ps:List (List Int)},LH H as ps->LH (L2.upd (L2.upd H D (.lst [])) Tb (.dK (kvs++[(.inl p,.ref D)]))) as ps:=λh=>⟨h.len,λi a p' e1 e2=>nT (h.get i a p' e1 e2) (λz y=>nomatch y)⟩
 have nin:∀{as:List Addr}{ps:List (List Int)},LH H as ps->(∀a∈as,a∉M)->∀a∈as,a∉D :: M:=λ{as ps} h n a ha z=>by
  rcases a_.mp z with z|z
  ·obtain⟨i,hi,rfl⟩:=dq.mp ha;have:=h.get i _ _ (aj hi) (aj (by rw[←h.len];exact hi));exact hD this z
  ·exact n a ha z
 refine⟨nT S.hx (λz y=>nomatch y),nT S.hK (λz y=>nomatch y),nT S.hC (λz y=>nomatch y),ag,S.lk,S.lc,λi v q e1 e2=>?_,λe he=>?_,λe he e' he' z=>?_,⟨.tail _ m1,.tail _ m2,.tail _ m3,.tail _ m4⟩,λe he=>?_,S.ne,λa ha=>?_⟩
 ·obtain⟨as,h1,h2,h3,h4⟩:=S.vec i v q e1 e2;refine⟨as,nT h1 (λz y=>nomatch y),lh h2,λz=>?_,nin h2 h4⟩;rcases a_.mp z with z|z
  ·exact hD h1 z
  ·exact h3 z
 ·rcases bj.mp he with he|he
  ·obtain⟨p',ta,n,rs,h1,h2,h3,h4,h5,h6,h7⟩:=S.tab e he;exact⟨p',ta,n,rs,h1,.tail _ h2,nT h3 (λz y=>nomatch y),lh h4,h5,h6,nin h4 h7⟩
  ·rw[aQ.mp he];exact⟨p,D,0,[],rfl,.head _,by rw[ar dT];exact ag,LH.nil _,aI _,λi hi=>by omega,λr hr=>by simp at hr⟩
 ·have old:∀e∈kvs,e.2≠.ref D:=λe he z=>by
   obtain⟨p',ta,n,rs,h1,h2,h3,_⟩:=S.tab e he;rw[h1]at z;have:ta=D:=by injection z
   exact hD h3 this
  rcases bj.mp he with he|he <;> rcases bj.mp he' with he'|he'
  ·exact S.inj e he e' he' z
  ·rw[aQ.mp he']at z ⊢;exact absurd z (old e he)
  ·rw[aQ.mp he]at z ⊢;exact absurd z.symm (old e' he')
  ·rw[aQ.mp he,aQ.mp he']
 ·rcases bj.mp he with he|he
  ·exact S.out e he
  ·rw[aQ.mp he];refine⟨λz=>?_,λz=>?_⟩
   ·injection z with z;rw[z,S.hK]at nD;cases nD
   ·injection z with z;rw[z,S.hC]at nD;cases nD
 ·by_cases z:a=Tb
  ·rw[z];exact⟨_,ag⟩
  ·rw[ar z];rcases a_.mp ha with y|y
   ·rw[y];exact⟨_,ag⟩
   ·obtain⟨o,e⟩:=S.al a y;exact⟨o,u _ _ e⟩
theorem Spn.row {p:Int}{ta R:Addr}{n:Nat}{rs:List Addr}(S:Spn T H x dx Kp Cl Tb us kvs M w RP cs pl)(he:(Sum.inl p,V.ref ta)∈kvs)(hta:H ta=some (.lst (rs.map V.ref)))(hrs:LH H rs (cR w RP cs p n))(nrs:∀r∈rs,r∉M)(hn:n<RP.length)(hp:Piv w RP cs p (n+1))(eR:H R=some (.lst ((eK w RP cs p n).map V.int)))(nR:R∉M):
  Spn T (L2.upd H ta (.lst ((rs++[R]).map V.ref))) x dx Kp Cl Tb us kvs M w RP cs pl:=by
 obtain⟨p0,ta0,n0,rs0,g1,g2,g3,_⟩:=S.tab _ he;have tM:ta∈M:=by injection g1 with _ z;injection z with z;rw[z];exact g2
 have kx:KX M H (L2.upd H ta (.lst ((rs++[R]).map V.ref))):=λy o ny e=>by
  have d:y≠ta:=λz=>ny (by rw[z];exact tM);rw[ar d];exact e
 have o:=S.out _ he;have nl:∀{y:Addr}{u:HO},H y=some u->(∀z,u≠.lst z)->L2.upd H ta (.lst ((rs++[R]).map V.ref)) y=some u:=λ{y u} e hz=>by
  rw[ar (λz=>by rw[z,hta]at e;cases e;exact hz _ rfl)];exact e
 refine⟨nl S.hx (λz y=>nomatch y),?_,?_,nl S.hT (λz y=>nomatch y),S.lk,S.lc,λi v q e1 e2=>?_,λe he'=>?_,S.inj,S.mem,S.out,S.ne,λa ha=>?_⟩
 ·rw[ar (λz=>o.1 (by rw[z]))];exact S.hK
 ·rw[ar (λz=>o.2 (by rw[z]))];exact S.hC
 ·obtain⟨as,h1,h2,h3,h4⟩:=S.vec i v q e1 e2;exact⟨as,kx _ _ h3 h1,h2.kx kx h4,h3,h4⟩
 ·by_cases z:e.2=.ref ta
  ·have ek:=S.inj _ he' _ he z;have ee:e=(.inl p,.ref ta):=Prod.ext ek z;rw[ee];refine⟨p,ta,n+1,rs++[R],rfl,tM,ag,?_,hn,hp,λr hr=>?_⟩
   ·exact (hrs.kx kx nrs).snoc (kx _ _ nR eR)
   ·rcases bj.mp hr with h|h
    ·exact nrs r h
    ·rw[aQ.mp h];exact nR
  ·obtain⟨p',ta',n',rs',h1,h2,h3,h4,h5,h6,h7⟩:=S.tab e he';have d:ta'≠ta:=λy=>z (by rw[h1,y]);exact⟨p',ta',n',rs',h1,h2,by rw[ar d];exact h3,h4.kx kx h7,h5,h6,h7⟩
 ·by_cases z:a=ta
  ·rw[z];exact⟨_,ag⟩
  ·rw[ar z];exact S.al a ha
end
def KW (x Kp Cl Tb:Addr)(kvs:List (Key×V))(H H':Hp):Prop:=∀y o,y≠x->y≠Kp->y≠Cl->y≠Tb->(∀e∈kvs,e.2≠V.ref y)->H y=some o->H' y=some o
theorem Spn.kx {K:PySem.W.Frag}{mg:Str->Option Value}{T:Tx K mg}{H H':Hp}{x dx Kp Cl Tb:Addr}{us:List Addr}{kvs:List (Key×V)}{M:List Addr}{w:Nat}{RP:List (List (List Int))}{cs:List Nat}{pl:Int}(S:Spn T H x dx Kp Cl Tb us kvs M w RP cs pl)(k:KW x Kp Cl Tb kvs H H'):KX M H H':=λy o ny e=>by
 obtain⟨m1,m2,m3,m4⟩:=S.mem;have d:∀{z:Addr},z∈M->y≠z:=λ{z} hz h=>ny (by rw[h];exact hz);refine k y o (d m1) (d m2) (d m3) (d m4) (λe' he z=>?_) e;obtain⟨p,ta,n,rs,h1,h2,_⟩:=S.tab e' he;rw[h1]at z;injection z with z;exact ny (by rw[←z];exact h2)
structure TBd (w:Nat)(RP:List (List (List Int)))(cs:List Nat)(p:Int):Prop where
 w20:w<=20
 bp:Bd 40 p
 low:∀n,n<RP.length->Piv w RP cs p n->LowOk (bI w (RP.getD n []) n p) (cR w RP cs p n) cs
 vec:∀q∈RP,q.length<=20∧∀f∈q,f.length<=60∧∀c∈f,Bd 1000 c
theorem Lp {K:PySem.W.Frag}{H:Hp}{a:Addr}{kvs:List (Key×V)}(h:H a=some (.dK kvs)):tyV K "dict" (.ref a) H:=.inr (.inr (.inl ⟨rfl,.inl ⟨_,h⟩⟩))
def Lq {K:PySem.W.Frag}{mg:Str->Option Value}(T:Tx K mg):Sp:=λvs H Q _=>∃(x dx Kp Cl Tb:Addr) (us:List Addr) (kvs:List (Key×V)) (M:List Addr) (w:Nat) (RP:List (List (List Int))) (cs:List Nat) (pl p:Int),vs=[.ref x,.int p]∧Spn T H x dx Kp Cl Tb us kvs M w RP cs pl∧TBd w RP cs p∧kvs.length<=900∧RP.length<=20∧
 ∀(H':Hp) (kvs':List (Key×V)) (M':List Addr),Spn T H' x dx Kp Cl Tb us kvs' M' w RP cs pl->KW x Kp Cl Tb kvs H H'->(∀a∈M,a∈M')->(∀a∈M',a∈M∨H a=none)->kvs'.length<=kvs.length+1->(∀e∈kvs',e∈kvs∨∀a,e.2=V.ref a->H a=none)->
  (∀(ta:Addr) (rs:List Addr),ta∈M'->H' ta=some (.lst (rs.map V.ref))->LH H' rs (cR w RP cs p RP.length)->Piv w RP cs p RP.length->Q (.ref ta) H')∧(¬Piv w RP cs p RP.length->Q .non H')
theorem Lr {kvs:List (Key×V)}{k:Key}(h:eo kvs k=none):(∀e∈kvs,e.1≠k)∧∀v,gh kvs k v=kvs++[(k,v)]:=by
 have a:∀e∈kvs,e.1≠k:=λe he z=>by
  unfold eo at h;rw[Option.map_eq_none_iff,List.find?_eq_none]at h;exact h e he (by simp[z])
 refine⟨a,λv=>?_⟩;unfold gh;rw[if_neg];rw[List.any_eq_true]
 rintro ⟨e,he,z⟩
 exact a e he (by simpa using z)
theorem Ls {kvs:List (Key×V)}{k:Key}{u:V}(h:eo kvs k=some u):(k,u)∈kvs:=by
 unfold eo at h;obtain⟨e,h1,rfl⟩:=cO.mp h;have h2:=List.find?_some h1;have h3:=List.mem_of_find?_eq_some h1;have:e.1=k:=by simpa using h2
 rw[←this];exact h3
theorem D3 {P:Program}{w:World}{K:PySem.W.Frag}{mg:Str->Option Value}{base:Heap}(T:Tx K mg):FnOk P w K mg base CX0 3 T.P9 T.P_ ["self","place"] (Lq T):=by
 refine T.Ru.ok sc_Span_table_at (λvs H Q E h=>?_) (λcdv A outer s H vs Q E hr h=>?_)
 ·obtain⟨x,dx,Kp,Cl,Tb,us,kvs,M,w,RP,cs,pl,p,rfl,_⟩:=h;rfl
 obtain⟨x,dx,Kp,Cl,Tb,us,kvs,M,w,RP,cs,pl,p,rfl,S,B,l9,l20,q⟩:=h;refine⟨_,((iD (ax (i:=2) sc_Span_table_at.nd rfl (Or.inl rfl) (gD PySem.F.plainAttrs_dict PySem.F.slot_dict_setdefault PySem.F.type_dict_setdefault Kd (cU (pv 0) rfl) (aa (pv 1) (aa (bU ae) ae))))
  (ah (ga PassesOwn.never (aO iT (aG aX rfl T.NF aZ (aa (pv 2) ae)) (aG aX rfl T.NF aZ (aa (cU (pv 0) rfl) ae)) (aN _)) (ah (ax (i:=3) sc_Span_table_at.nd rfl (Or.inl rfl) (aG aX rfl T.NF aZ (aa (pv 2) ae)))
  (ah (ax (i:=4) sc_Span_table_at.nd rfl (Or.inl rfl) (aK (FnOk.mono (DU T) (by decide)) hr rfl T.QC T.Pk.kp T.QD .nil aB (aa (fq (pv 0) T.NG T.QX (FnOk.mono (DY T) (by decide)) hr T.QR .nil aB (aa (aR bL (cU (pv 0) rfl) (pv 3) (λ_ _=>rfl)) (aa (pv 3) (aa (pv 1) ae)))) (aa (pv 2) (aa (cU (pv 0) rfl) ae)))))
  (ah (bY (aO e9 (aR bL (pv 4) (aR bL (cU (pv 0) rfl) (pv 3) (λ_ _=>rfl)) (λ_ _=>rfl)) ai (aN _)) (ao (aM df)) b4)
  (ao (e7 (gD PySem.F.plainAttrs_list PySem.F.slot_list_append PySem.F.type_list_append fM (pv 2) (aa (pv 4) ae))))))))
  (ao (aM (pv 2)))))),?_⟩
 obtain⟨J,hJ⟩:∃J:Nat->L2.St->Hp->Prop,∀m σ H',J m σ H'↔∃(ta:Addr) (n:Nat) (rs:List Addr) (kvs':List (Key×V)) (M':List Addr) (r3 r4:Option V),σ=[some (V.ref x),some (V.int p),some (V.ref ta),r3,r4]∧Spn T H' x dx Kp Cl Tb us kvs' M' w RP cs pl∧(Sum.inl p,V.ref ta)∈kvs'∧H' ta=some (.lst (rs.map V.ref))∧LH H' rs (cR w RP cs p n)∧n<=RP.length∧Piv w RP cs p n∧(∀r∈rs,r∉M')∧KW x Kp Cl Tb kvs H H'∧(∀a∈M,a∈M')∧(∀a∈M',a∈M∨H a=none)∧kvs'.length<=kvs.length+1∧(∀e∈kvs',e∈kvs∨∀a,e.2=V.ref a->H a=none)∧m=RP.length-n:=⟨_,λ_ _ _=>Iff.rfl⟩
 refine gY (λσ H'=>∃m,J m σ H') ?_ ?_
 ·k_units
  refine⟨_,_,_,S.hx,T.NG,T.Q1,_,rfl,Lp S.hT,aI _,λD nD=>⟨Tb,rfl,kvs,.inl p,rfl,aw nD _ _ _ S.hT,l9,λu hu=>?_,λhn=>?_⟩⟩
  ·have u1:=aw nD (.lst []);have he:=Ls hu;obtain⟨p',ta,n,rs,h1,h2,h3,h4,h5,h6,h7⟩:=S.tab _ he;injection h1 with z1 z2;injection z1 with z1;subst z1 z2;exact⟨_,(hJ _ _ _).mpr ⟨ta,n,rs,kvs,M,none,none,rfl,S.same u1,he,u1 _ _ h3,h4.same u1,h5,h6,h7,λy o _ _ _ _ _ e=>u1 _ _ e,λ_ h=>h,λ_ h=>.inl h,by omega,λ_ h=>.inl h,rfl⟩⟩
  ·obtain⟨hn1,hn2⟩:=Lr hn;rw[hn2];have S2:=S.put nD hn1;have dT:D≠Tb:=λz=>by rw[z,S.hT]at nD;cases nD
   refine⟨_,(hJ _ _ _).mpr ⟨D,0,[],_,D :: M,none,none,rfl,S2,by simp,by rw[ar dT];exact ag,LH.nil _,aI _,λi hi=>by omega,λr hr=>by simp at hr,λy o _ _ _ d _ e=>?_,λa h=>.tail _ h,λa h=>?_,by simp,λe h=>?_,rfl⟩⟩
   ·rw[ar d];exact aw nD _ _ _ e
   ·rcases a_.mp h with z|z
    ·exact .inr (by rw[z];exact nD)
    ·exact .inl z
   ·rcases bj.mp h with z|z
    ·exact .inl z
    ·rw[aQ.mp z];exact .inr λa y=>by injection y with y;rw[←y];exact nD
 rintro σ H1 ⟨m,hm⟩
 dsimp only[aC]
 k_typeOf
 refine gg J m hm ?_;clear hm;intro m σ H2 hm;obtain⟨ta,n,rs,kvs',M',r3,r4,rfl,S2,he,eta,hrs,nk,pv,nrs,kx,ms,mf,lk',tk,rfl⟩:=(hJ _ _ _).mp hm;have lrs:(rs.map V.ref).length=n:=by rw[ac,hrs.len,dJ]
 have lus:(us.map V.ref).length=RP.length:=by rw[ac];exact S2.lk
 obtain⟨q1,q2⟩:=q H2 kvs' M' S2 kx ms mf lk' tk;obtain⟨_,ta0,_,_,g1,g2,_⟩:=S2.tab _ he;have tM:ta∈M':=by injection g1 with _ z;injection z with z;rw[z];exact g2
 k_units
 refine⟨_,.inl (SqL.of eta),_,_,_,S2.hx,T.NG,T.NJ,_,rfl,Kp,rfl,_,.inl (SqL.of S2.hK),?_⟩;rw[lrs,lus];refine bR (λz=>?_) (λz=>?_)
 ·have hn:n<RP.length:=by omega
  have hu:n<us.length:=by have:=S2.lk;omega
  have hkn:RP[n]?=some RP[n]:=aj hn;obtain⟨as,v1,v2,v3,v4⟩:=S2.vec n _ _ (aj hu) hkn;have ek:RP.getD n []=RP[n]:=by rw[av,hkn];rfl
  obtain⟨b1,b2⟩:=B.vec _ (bH hn);have lo:=B.low n hn pv;have hcn:n<cs.length:=by have:=S2.lc;omega
  refine⟨J (RP.length-(n+1)),λσ' H' z=>⟨_,by omega,z⟩,_,.inl (SqL.of eta),_,_,S2.hx,rfl,_,_,_,S2.hx,T.NG,T.NJ,_,rfl,Kp,rfl,?_⟩;rw[lrs];refine⟨_,SqL.of S2.hK,V.ref us[n],gW (by rw[aA,aj hu];rfl),x,dx,Kp,Cl,Tb,us[n],pl,w,n,p,as,RP[n],rfl,S2.hx,SqL.of v1,v2.ll,B.w20,b1,B.bp,b2,λR H3 s3 nR eR=>?_⟩;have S3:=S2.same s3;rw[←ek]at eR;refine⟨_,_,_,S3.hx,T.NG,T.NM,_,rfl,R,ta,Cl,_,rs,_,cs,rfl,SqL.of eR,SqL.of (s3 _ _ eta),(hrs.same s3).ll,SqL.of S3.hC,lo,λR' H4 s4 dR sqR=>?_⟩;have S4:=S3.same s4;have s24:=s3.trans s4;rw[dJ]at dR sqR;have eR':H4 R'=some (.lst ((eK w RP cs p n).map V.int))∧H2 R'=none:=by
   rcases dR with ⟨z1,z2⟩|⟨z1,z2⟩
   ·have n0:n=0:=by have:=dJ w RP cs p n;rw[z2]at this;exact this.symm
    subst n0;rw[z1];exact⟨s4 _ _ eR,nR⟩
   ·exact⟨z2,s3.free z1⟩
  obtain⟨eR1,nR1⟩:=eR';have ll:=lK lo n (by rw[dJ];exact am _);have lcol:=lo.col _ (bH hcn);refine⟨_,_,_,S4.hx,T.NG,T.NM,_,rfl,Cl,rfl,_,SqL.of S4.hC,V.int (cs[n]:Int),gW (by rw[aA,aA,aj hcn];rfl),R',rfl,_,_,rfl,SqL.of eR1,_,j6 (show cs[n]<(eK w RP cs p n).length by unfold eK;rw[ll];exact lcol),?_⟩;have ec:cs.getD n 0=cs[n]:=by rw[av,aj hcn];rfl
  have kx4:KW x Kp Cl Tb kvs H H4:=λy o a1 a2 a3 a4 a5 e=>s24 _ _ (kx y o a1 a2 a3 a4 a5 e);have nRM:R'∉M':=λz=>by obtain⟨o,e⟩:=S2.al _ z;rw[nR1]at e;cases e
  k_units
  refine bR (λz0=>?_) (λz0=>?_)
  ·exact (q H4 kvs' M' S4 kx4 ms mf lk' tk).2 λhp=>hp n hn (by rw[ec];exact z0)
  have hp1:Piv w RP cs p (n+1):=λi hi=>by
   by_cases z:i<n
   ·exact pv i z
   ·rw[show i=n by omega,ec];exact z0
  have S5:=S4.row he (s24 _ _ eta) (hrs.same s24) nrs hn hp1 eR1 nRM;have dta:∀r∈rs++[R'],r∉M':=λr hr=>by
   rcases bj.mp hr with h|h
   ·exact nrs r h
   ·rw[aQ.mp h];exact nRM
  have kt:KX M' H4 (L2.upd H4 ta (.lst ((rs++[R']).map V.ref))):=λy o ny e=>by
   have d:y≠ta:=λz=>ny (by rw[z];exact tM);rw[ar d];exact e
  have et:(rs++[R']).map V.ref=rs.map V.ref++[V.ref R']:=by rw[aV];rfl
  rw[et]at S5 kt;refine⟨fV (SqL.of (s24 _ _ eta)),_,s24 _ _ eta,by rw[lrs];exact bC (by omega),(hJ _ _ _).mpr ⟨ta,n+1,rs++[R'],kvs',M',_,_,rfl,S5,he,by rw[ag,et],?_,by omega,hp1,dta,λy o a1 a2 a3 a4 a5 e=>?_,ms,mf,lk',tk,rfl⟩⟩
  ·exact ((hrs.same s24).kx kt nrs).snoc (kt _ _ nRM eR1)
  ·have e4:=kx4 y o a1 a2 a3 a4 a5 e;have d:y≠ta:=λz=>by
    rcases tk _ he with h|h
    ·exact a5 _ h (by rw[z])
    ·rw[z,h ta rfl]at e;cases e
   rw[ar d];exact e4
 ·have e:n=RP.length:=by omega
  rw[e]at hrs pv;exact q1 ta rs tM eta hrs pv
def cI (w:Nat)(RP:List (List (List Int)))(cs:List Nat)(q:List (List Int))(p:Int):List Int:=(cH (bI w q RP.length p) (cR w RP cs p RP.length) cs RP.length).2
theorem VecAt.kx {H H':Hp}{M:List Addr}{u:Addr}{q:List (List Int)}(h:VecAt H M u q)(k:KX M H H'):VecAt H' M u q:=by
 obtain⟨as,h1,h2,h3,h4⟩:=h;exact⟨as,k _ _ h3 h1,h2.kx k h4,h3,h4⟩
theorem VecAt.more {H:Hp}{M M':List Addr}{u:Addr}{q:List (List Int)}(h:VecAt H M u q)(mf:∀a∈M',a∈M∨H a=none):VecAt H M' u q:=by
 obtain⟨as,h1,h2,h3,h4⟩:=h;have ne:∀{y:Addr}{o:HO},H y=some o->y∉M->y∉M':=λ{y o} e n z=>by
  rcases mf y z with h|h
  ·exact n h
  ·rw[h]at e;cases e
 refine⟨as,h1,h2,ne h1 h3,λa ha=>?_⟩;obtain⟨i,hi,rfl⟩:=dq.mp ha;exact ne (h2.get i _ _ (aj hi) (aj (by rw[←h2.len];exact hi))) (h4 _ (bH hi))
def Lt {K:PySem.W.Frag}{mg:Str->Option Value}(T:Tx K mg):Sp:=λvs H Q _=>∃(x dx Kp Cl Tb Vc:Addr) (us:List Addr) (kvs:List (Key×V)) (M:List Addr) (w:Nat) (RP:List (List (List Int))) (cs:List Nat) (pl p:Int) (q:List (List Int)),vs=[.ref x,.ref Vc,.int p]∧Spn T H x dx Kp Cl Tb us kvs M w RP cs pl∧TBd w RP cs p∧kvs.length<=900∧RP.length<=20∧VecAt H M Vc q∧q.length<=20∧(∀f∈q,f.length<=60∧∀c∈f,Bd 1000 c)∧(Piv w RP cs p RP.length->LowOk (bI w q RP.length p) (cR w RP cs p RP.length) cs)∧
 ∀(H':Hp) (kvs':List (Key×V)) (M':List Addr),Spn T H' x dx Kp Cl Tb us kvs' M' w RP cs pl->KW x Kp Cl Tb kvs H H'->(∀a∈M,a∈M')->(∀a∈M',a∈M∨H a=none)->kvs'.length<=kvs.length+1->(∀e∈kvs',e∈kvs∨∀a,e.2=V.ref a->H a=none)->
  (∀R:Addr,R∉M'->H' R=some (.lst ((cI w RP cs q p).map V.int))->Piv w RP cs p RP.length->Q (.ref R) H')∧(¬Piv w RP cs p RP.length->Q .non H')
theorem D4 {P:Program}{w:World}{K:PySem.W.Frag}{mg:Str->Option Value}{base:Heap}(T:Tx K mg):FnOk P w K mg base CX0 4 T.Qa T.Qb ["self","vector","place"] (Lt T):=by
 refine T.Rv.ok sc_Span_lowered_at (λvs H Q E h=>?_) (λcdv A outer s H vs Q E hr h=>?_)
 ·obtain⟨x,dx,Kp,Cl,Tb,Vc,us,kvs,M,w,RP,cs,pl,p,q,rfl,_⟩:=h;rfl
 obtain⟨x,dx,Kp,Cl,Tb,Vc,us,kvs,M,w,RP,cs,pl,p,q,rfl,S,B,l9,l20,hV,q20,bq,lo,fin⟩:=h;refine⟨_,((ah (ax (i:=3) sc_Span_lowered_at.nd rfl (Or.inl rfl) (fq (pv 0) T.NG T.QY (FnOk.mono (D3 T) (by decide)) hr T.QS .nil aB (aa (pv 2) ae)))
  (ah (bY (aO jS (pv 3) df (aN _)) (ao (aM df)) b4)
  (ao (aM (aK (FnOk.mono (DU T) (by decide)) hr rfl T.QC T.Pk.kp T.QD .nil aB (aa (fq (pv 0) T.NG T.QX (FnOk.mono (DY T) (by decide)) hr T.QR .nil aB (aa (pv 1) (aa (aG aX rfl T.NF aZ (aa (cU (pv 0) rfl) ae)) (aa (pv 2) ae)))) (aa (pv 3) (aa (cU (pv 0) rfl) ae))))))))),?_⟩
 dsimp only[aC]
 k_typeOf
 refine⟨dx,_,S.hx,rfl,x,dx,Kp,Cl,Tb,us,kvs,M,w,RP,cs,pl,p,rfl,S,B,l9,l20,λH1 kvs' M' S1 kx ms mf lk tk=>⟨λta rs tM eta hrs pv=>?_,λnp=>?_⟩⟩
 ·obtain⟨as,v1,v2,v3,v4⟩:=hV.kx (S.kx kx)
  k_units
  rw[if_neg (λz=>nomatch z)];have lus:(us.map V.ref).length=RP.length:=by rw[ac];exact S1.lk
  refine⟨_,_,S1.hx,rfl,_,_,_,S1.hx,T.NG,T.NJ,_,rfl,Kp,rfl,_,.inl (SqL.of S1.hK),?_⟩;rw[lus];refine⟨x,dx,Kp,Cl,Tb,Vc,pl,w,RP.length,p,as,q,rfl,S1.hx,SqL.of v1,v2.ll,B.w20,q20,B.bp,bq,λR H3 s3 nR eR=>?_⟩;have S3:=S1.same s3;refine⟨_,_,_,S3.hx,T.NG,T.NM,_,rfl,R,ta,Cl,_,rs,_,cs,rfl,SqL.of eR,SqL.of (s3 _ _ eta),(hrs.same s3).ll,SqL.of S3.hC,lo pv,λR' H4 s4 dR sqR=>?_⟩;have S4:=S3.same s4;rw[dJ]at dR sqR;have eR':H4 R'=some (.lst ((cI w RP cs q p).map V.int))∧H1 R'=none:=by
   rcases dR with ⟨z1,z2⟩|⟨z1,z2⟩
   ·have n0:RP.length=0:=by have:=dJ w RP cs p RP.length;rw[z2]at this;exact this.symm
    unfold cI;rw[n0]at eR ⊢;rw[z1];exact⟨s4 _ _ eR,nR⟩
   ·exact⟨z2,s3.free z1⟩
  have nRM:R'∉M':=λz=>by obtain⟨o,e⟩:=S1.al _ z;rw[eR'.2]at e;cases e
  exact (fin H4 kvs' M' S4 (λy o a1 a2 a3 a4 a5 e=>s4 _ _ (s3 _ _ (kx y o a1 a2 a3 a4 a5 e))) ms mf lk tk).1 R' nRM eR'.1 pv
 ·k_units
  exact (fin H1 kvs' M' S1 kx ms mf lk tk).2 np
def dN (qs:List (List (List Int)))(ws:List (List Int))(c:Nat):Nat->List Int
 | 0=>[]
 | n+1=>fg (dN qs ws c n) (dI ((qs.getD n []).getD c []) (ws.getD n []))
theorem mem_getD {α:Type}{xs:List α}{i:Nat}{d:α}(h:i<xs.length):xs.getD i d∈xs:=by rw[av,aj h];exact bH _
structure FcOk (w:Nat)(qs:List (List (List Int)))(ws:List (List Int)):Prop where
 len:ws.length=qs.length
 few:qs.length<=20
 w20:w<=20
 wid:∀q∈qs,q.length=w
 bq:∀q∈qs,∀f∈q,f.length<=40∧∀c∈f,Bd 1000 c
 bw:∀f∈ws,f.length<=40∧∀c∈f,Bd 20000 c
theorem wQ {w:Nat}{qs:List (List (List Int))}{ws:List (List Int)}{c:Nat}(o:FcOk w qs ws)(hc:c<w):∀n,n<=qs.length->(dN qs ws c n).length<=80∧∀x∈dN qs ws c n,Bd (21010+n) x
 | 0,_=>⟨aI _,λx hx=>by simp[dN]at hx⟩
 | n+1,hn=>by
  obtain⟨i1,i2⟩:=wQ o hc n (by omega);have hq:(qs.getD n [])∈qs:=mem_getD (by omega);have hw:(ws.getD n [])∈ws:=mem_getD (by have:=o.len;omega);have hl:=o.wid _ hq;have hf:((qs.getD n []).getD c [])∈qs.getD n []:=mem_getD (by omega);obtain⟨f1,f2⟩:=o.bq _ hq _ hf;obtain⟨w1,w2⟩:=o.bw _ hw;have lm:(dI ((qs.getD n []).getD c []) (ws.getD n [])).length<=80:=by
   by_cases z:ws.getD n []=[]
   ·rw[z,wJ];exact aI _
   ·have:=wM ((qs.getD n []).getD c []) (ws.getD n []) z;omega
  have bm:∀k,Bd 21006 (co (dI ((qs.getD n []).getD c []) (ws.getD n [])) k):=λk=>by
   rw[lJ];exact iH (c:=6) f2 w2 (aP f1 (by decide)) k
  refine⟨aP (qO _ _) (by omega),cW λk=>?_⟩;show Bd _ (co (fg _ _) k);rw[ju];exact (cF (P:=λv=>Bd (21010+n) v) i2 (Bd.zero _) k).add ((bm k).mono (by omega))
def Lu {K:PySem.W.Frag}{mg:Str->Option Value}(T:Tx K mg):Sp:=λvs H Q _=>∃(x dx Kp Cl Tb Vc Wt:Addr) (us:List Addr) (kvs:List (Key×V)) (M:List Addr) (w:Nat) (RP:List (List (List Int))) (cs:List Nat) (pl:Int) (q:List (List Int)) (ad:List Addr) (ws:List (List Int)),vs=[.ref x,.ref Vc,.ref Wt]∧Spn T H x dx Kp Cl Tb us kvs M w RP cs pl∧VecAt H M Vc q∧SqL K H Wt (ad.map V.ref)∧LL K H ad ws∧FcOk w (RP++[q]) ws∧
 ∀H',Same H H'->(∀c:Nat,c<w->c∉cs->dN (RP++[q]) ws c (RP.length+1)≠[]->(∀c',c'<c->c'∉cs->dN (RP++[q]) ws c' (RP.length+1)=[])->Q (.int (c:Int)) H')∧((∀c,c<w->c∉cs->dN (RP++[q]) ws c (RP.length+1)=[])->Q .non H')
theorem Lv {P:Program}{w:World}{K:PySem.W.Frag}{mg:Str->Option Value}{base:Heap}(T:Tx K mg):FnOk P w K mg base CX0 4 T.Qe T.Qf ["self","vector","weights"] (Lu T):=by
 refine T.Rz.ok sc_Span_failing_column (λvs H Q E h=>?_) (λcdv A outer s H vs Q E hr h=>?_)
 ·obtain⟨x,dx,Kp,Cl,Tb,Vc,Wt,us,kvs,M,w,RP,cs,pl,q,ad,ws,rfl,_⟩:=h;rfl
 obtain⟨x,dx,Kp,Cl,Tb,Vc,Wt,us,kvs,M,w,RP,cs,pl,q,ad,ws,rfl,S,hV,hW,lW,o,fin⟩:=h;refine⟨_,((ah (cy PassesOwn.never rfl (fo rfl T.NI (aa (cU (pv 0) rfl) ae)) (bN (i:=3) sc_Span_failing_column.nd rfl (Or.inl rfl)) (ah (bY (aO IK (pv 3) (cU (pv 0) rfl) (by with_unfolding_all rfl)) (ao HW) b4)
  (ah (ax (i:=4) sc_Span_failing_column.nd rfl (Or.inl rfl) (bU ae))
  (ah (cy PassesOwn.never rfl (jp rfl T.NO (aa (ak iV (cU (pv 0) rfl) (bU (aa (pv 1) ae))) (aa (pv 2) ae))) (gS rfl (dZ (bN (i:=5) sc_Span_failing_column.nd rfl (Or.inl rfl)) (dZ (bN (i:=6) sc_Span_failing_column.nd rfl (Or.inl rfl)) gQ))) (ao (ax (i:=4) sc_Span_failing_column.nd rfl (Or.inl rfl) (aK (FnOk.mono (DN T) (by decide)) hr rfl T.Qo T.Ov.kp T.Qp .nil aB (aa (pv 4) (aa (aK (FnOk.mono (DO T) (by decide)) hr rfl T.Qq T.Oy.kp T.Qr .nil aB (aa (aR bL (pv 5) (pv 3) (λ_ _=>rfl)) (aa (pv 6) ae))) ae))))))
  (ao (bY (aO gT (aG aX rfl T.NF aZ (aa (pv 4) ae)) ai (aN _)) (ao (aM (pv 3))) b4))))))
  (ao (aM df)))),?_⟩
 k_units
 refine⟨_,_,_,S.hx,T.NG,T.NN,_,rfl,_,rfl,by have:=o.w20;omega,by have:=o.w20;omega,?_⟩;rw[dU];have w20:=o.w20;obtain⟨Pv,hPv⟩:∃Pv:Nat->L2.St->Hp->Prop,∀i σ H',Pv i σ H'↔∃r3 r4 r5 r6:Option V,σ=[some (V.ref x),some (V.ref Vc),some (V.ref Wt),r3,r4,r5,r6]∧Same H H'∧∀c,c<i->c∉cs->dN (RP++[q]) ws c (RP.length+1)=[]:=⟨_,λ_ _ _=>Iff.rfl⟩
 refine gE Pv ((hPv _ _ _).mpr ⟨none,none,none,none,rfl,Same.refl _,λc hc=>by omega⟩) ?_ ?_
 ·intro i σ H1 hi hp;obtain⟨r3,r4,r5,r6,rfl,s1,hz⟩:=(hPv _ _ _).mp hp;have e0:(0:Int)+(i:Int)=(i:Int):=f_ _;have S1:=S.same s1;have fl:((cs.map λc:Nat=>(c:Int)).map V.int).all gf=true:=by simp[gf]
  dsimp only[aC]
  k_typeOf
  rw[e0];refine⟨_,_,_,S1.hx,T.NG,T.NM,_,rfl,Cl,rfl,_,.inl (SqL.of S1.hC),rfl,fl,?_⟩;rw[JV];have hmem:((i:Int)∈cs.map λc:Nat=>(c:Int))↔i∈cs:=by
   rw[aW];constructor
   ·rintro ⟨c,hc,e⟩
    rw[show i=c by omega];exact hc
   ·intro h;exact⟨i,h,rfl⟩
  refine bR (λz=>?_) (λz=>?_)
  ·have hin:=hmem.mp (by simpa using z);refine (hPv _ _ _).mpr ⟨_,_,_,_,rfl,s1,λc hc hn=>?_⟩;by_cases y:c=i
   ·rw[y]at hn;exact absurd hin hn
   ·exact hz c (by omega) hn
  have hout:i∉cs:=λh=>z (by simpa using hmem.mpr h);dsimp only[aC]
  k_typeOf
  refine⟨aI _,λA0 nA0=>?_⟩;have u0:=aw nA0 (.lst []);have eA0:=ag (H:=H1) (a:=A0) (o:=.lst []);generalize L2.upd H1 A0 (.lst [])=H2 at u0 eA0 ⊢;have S2:=S1.same u0;dsimp only[aC]
  k_typeOf
  refine⟨_,_,_,S2.hx,T.NG,T.NJ,_,rfl,by decide,λq1 m1=>?_⟩;have u1:=aw m1 (.lst [V.ref Vc]);refine⟨Kp,rfl,_,u1 _ _ S2.hK,_,ag,?_,λq2 m2=>?_⟩
  ·rw[ac];have:=S.lk;have:=o.few;simp at this;exact b5 (bC (by simp;omega))
  have u2:=aw m2 (.lst (us.map V.ref++[V.ref Vc]));have e2:=ag (H:=L2.upd H2 q1 (.lst [V.ref Vc])) (a:=q2) (o:=.lst (us.map V.ref++[V.ref Vc]));have s2:=s1.trans (u0.trans (u1.trans u2));have eA:=(u1.trans u2) _ _ eA0;generalize L2.upd (L2.upd H2 q1 (.lst [V.ref Vc])) q2 (.lst (us.map V.ref++[V.ref Vc]))=H3 at e2 s2 eA ⊢;have lk:=S.lk;have few:=o.few;rw[bM]at few;simp only[ck,rK]at few;have lq:(RP++[q]).length=RP.length+1:=by simp
  have vecs:=jv (Φ:=λu qv=>VecAt H M u qv) (L:=RP++[q]) (rs:=us) (r:=Vc) (λt u qv e1 e2=>by
   have ht:t<RP.length:=by have:=(aU.mp e1).1;omega
   rw[b_ ht]at e2;exact S.vec t u qv e1 e2) (λqv e2=>by
   rw[dz (by omega),show us.length-RP.length=0 by omega]at e2
   cases Option.some.inj e2
   exact hV)
  have e2':H3 q2=some (.lst ((us++[Vc]).map V.ref)):=by rw[e2,aV];rfl
  obtain⟨Pz,hPz⟩:∃Pz:Nat->L2.St->Hp->Prop,∀n σ H',Pz n σ H'↔∃(An:Addr) (r5 r6:Option V),σ=[some (V.ref x),some (V.ref Vc),some (V.ref Wt),some (V.int (i:Int)),some (V.ref An),r5,r6]∧H' An=some (.lst ((dN (RP++[q]) ws i n).map V.int))∧Same H3 H':=⟨_,λ_ _ _=>Iff.rfl⟩
  refine⟨_,SqL.of e2',_,s2.seq hW,kX (xs:=(us++[Vc]).map V.ref) (ys:=ad.map V.ref) Pz ((hPz _ _ _).mpr ⟨A0,r5,r6,rfl,eA,Same.refl _⟩) (λn σ H' _ _ y=>by obtain⟨_,_,_,_,_,y⟩:=(hPz n σ H').mp y;exact⟨SqL.of (y _ _ e2'),(s2.trans y).seq hW⟩) ?_ ?_⟩
  ·intro n v1 v2 pr σ H4 e1 e3 hp' npr;obtain⟨An,t5,t6,rfl,eAn,s4⟩:=(hPz _ _ _).mp hp';rw[aA]at e1;obtain⟨u,hu,rfl⟩:=cO.mp e1;have hn:n<(RP++[q]).length:=by have:=(aU.mp hu).1;simp at this ⊢;omega
   obtain⟨a,f,rfl,ha,hf,sqf⟩:=lW.nth e3;have hqn:(RP++[q])[n]?=some ((RP++[q]).getD n []):=qQ hn;obtain⟨as,v1,v2,v3,v4⟩:=vecs n u _ hu hqn;have hqm:=mem_getD (d:=([]:List (List Int))) hn;have hwid:=o.wid _ hqm;have hic:i<as.length:=by rw[v2.len,hwid];exact hi
   obtain⟨b1,b2⟩:=wQ o hi n (by omega);have hfm:=bJ hf;obtain⟨c1,c2⟩:=o.bw _ hfm;have hpm:=mem_getD (d:=([]:List Int)) (show i<((RP++[q]).getD n []).length by rw[hwid];exact hi);obtain⟨d1,d2⟩:=o.bq _ hqm _ hpm;have efw:ws.getD n []=f:=by rw[av,hf];rfl
   have epoly:=v2.get i _ _ (aj hic) (qQ (d:=[]) (show i<((RP++[q]).getD n []).length by rw[hwid];exact hi));have st:dN (RP++[q]) ws i (n+1)=fg (dN (RP++[q]) ws i n) (dI (((RP++[q]).getD n []).getD i []) f):=by rw[dN,efw]
   obtain⟨g1,g2⟩:=wQ o hi (n+1) (by omega);have w1:=aw npr (.tup [V.ref u,V.ref a]);have s24:=s2.trans (s4.trans w1);generalize ((RP++[q]).getD n []).getD i []=pq at d1 d2 epoly st;have bm:∀k,Bd 21006 (co (dI pq f) k):=λk=>by
    rw[lJ];exact iH (c:=6) d2 c2 (aP d1 (by decide)) k
   have lm:(dI pq f).length<=80:=by
    by_cases z:f=[]
    ·rw[z,wJ];exact aI _
    ·have:=wM pq f z;omega
   k_units
   refine⟨_,SqT.of ag,rfl,_,_,rfl,_,_,rfl,rfl,?_⟩;refine⟨u,rfl,_,SqL.of (s24 _ _ v1),V.ref as[i],gW (by rw[aA,aj hic];rfl),as[i],a,pq,f,rfl,SqL.of (s24 _ _ epoly),s24.seq sqf,by omega,by omega,λc hc=>(d2 c hc).mono (by decide),λc hc=>(c2 c hc).mono (by decide),λR1 H5 s5 nR1 eR1=>?_⟩;refine⟨An,R1,_,_,rfl,SqL.of (s5 _ _ (w1 _ _ eAn)),SqL.of eR1,by omega,by omega,λc hc=>(b2 c hc).mono (by omega),cW λk=>(bm k).mono (by decide),λR2 H6 s6 nR2 eR2=>?_⟩;exact (hPz _ _ _).mpr ⟨R2,_,_,rfl,by rw[eR2,st],s4.trans (w1.trans (s5.trans s6))⟩
  intro σ H4 hp';obtain⟨An,t5,t6,rfl,eAn,s4⟩:=(hPz _ _ _).mp hp';have hmin:min ((us++[Vc]).map V.ref).length (ad.map V.ref).length=RP.length+1:=by
   have h1:=lW.len;have h2:=o.len;rw[lq]at h2;simp;omega
  rw[hmin]at eAn
  k_units
  refine⟨_,.inl (SqL.of eAn),?_⟩;rw[ac];refine bR (λz=>?_) (λz=>?_)
  ·exact (fin H4 (s2.trans s4)).1 i hi hout (λy=>by rw[y]at z;simp at z) hz
  ·refine (hPv _ _ _).mpr ⟨_,_,_,_,rfl,s2.trans s4,λc hc hn=>?_⟩;by_cases y:c=i
   ·rw[y];exact bK (by omega)
   ·exact hz c (by omega) hn
 intro σ H1 hp;obtain⟨r3,r4,r5,r6,rfl,s1,hz⟩:=(hPv _ _ _).mp hp
 k_units
 exact (fin H1 s1).2 hz
theorem qR {row:List Int}{tb:List (List Int)}{cs:List Nat}{c:Nat}:∀i,i<=cs.length->cH row tb (cs++[c]) i=cH row tb cs i
 | 0,_=>rfl
 | i+1,h=>by
  have e:(cs++[c]).getD i 0=cs.getD i 0:=by rw[av,av,b_ (by omega)]
  rw[cH,cH,qR i (by omega),e]
theorem qS {w:Nat}{RP:List (List (List Int))}{cs:List Nat}{q:List (List Int)}{c:Nat}{p:Int}(hl:cs.length=RP.length):∀n,n<=RP.length->cR w (RP++[q]) (cs++[c]) p n=cR w RP cs p n
 | 0,_=>rfl
 | n+1,h=>by
  have e:(RP++[q]).getD n []=RP.getD n []:=by rw[av,av,b_ (by omega)]
  rw[cR,cR,qS hl n (by omega),e,qR n (by omega)]
theorem D5 {w:Nat}{RP:List (List (List Int))}{cs:List Nat}{q:List (List Int)}{c:Nat}{p:Int}{n:Nat}(hl:cs.length=RP.length)(h:n<=RP.length)(hp:Piv w RP cs p n):Piv w (RP++[q]) (cs++[c]) p n:=λi hi=>by
 have e:(RP++[q]).getD i []=RP.getD i []:=by rw[av,av,b_ (by omega)]
 have e2:(cs++[c]).getD i 0=cs.getD i 0:=by rw[av,av,b_ (by omega)]
 have h1:=hp i hi;unfold eK at h1 ⊢;rw[qS hl i (by omega),e,qR i (by omega),e2];exact h1
section
variable {K:PySem.W.Frag}{mg:Str->Option Value}{T:Tx K mg}{H:Hp}{x dx Kp Cl Tb:Addr}{us:List Addr}{kvs:List (Key×V)}{M:List Addr}{w:Nat}{RP:List (List (List Int))}{cs:List Nat}{pl:Int}
theorem Spn.keep {Vc:Addr}{q:List (List Int)}{c:Nat}(S:Spn T H x dx Kp Cl Tb us kvs M w RP cs pl)(hV:VecAt H M Vc q):
  Spn T (L2.upd (L2.upd H Kp (.lst ((us++[Vc]).map V.ref))) Cl (.lst (((cs++[c]).map λc:Nat=>(c:Int)).map V.int))) x dx Kp Cl Tb (us++[Vc]) kvs M w (RP++[q]) (cs++[c]) pl:=by
 obtain⟨m1,m2,m3,m4⟩:=S.mem;have kx:KX M H (L2.upd (L2.upd H Kp (.lst ((us++[Vc]).map V.ref))) Cl (.lst (((cs++[c]).map λc:Nat=>(c:Int)).map V.int))):=λy o ny e=>by
  have d1:y≠Cl:=λz=>ny (by rw[z];exact m3);have d2:y≠Kp:=λz=>ny (by rw[z];exact m2);rw[ar d1,ar d2];exact e
 have nl:∀{y:Addr}{u:HO},H y=some u->(∀z,u≠.lst z)->L2.upd (L2.upd H Kp (.lst ((us++[Vc]).map V.ref))) Cl (.lst (((cs++[c]).map λc:Nat=>(c:Int)).map V.int)) y=some u:=λ{y u} e hz=>by
  have d1:y≠Cl:=λz=>by rw[z,S.hC]at e;cases e;exact hz _ rfl
  have d2:y≠Kp:=λz=>by rw[z,S.hK]at e;cases e;exact hz _ rfl
  rw[ar d1,ar d2];exact e
 refine⟨nl S.hx (λz y=>nomatch y),by rw[ar S.ne];exact ag,ag,nl S.hT (λz y=>nomatch y),by simp[S.lk],by simp[S.lc],?_,λe he=>?_,S.inj,S.mem,S.out,S.ne,λa ha=>?_⟩
 ·refine jv (Φ:=λu qv=>VecAt _ M u qv) (λt u qv e1 e2=>?_) λqv e2=>?_
  ·have ht:t<RP.length:=by have:=(aU.mp e1).1;have:=S.lk;omega
   rw[b_ ht]at e2;exact (S.vec t u qv e1 e2).kx kx
  ·rw[dz (by have:=S.lk;omega),show us.length-RP.length=0 by have:=S.lk;omega]at e2
   cases Option.some.inj e2
   exact hV.kx kx
 ·obtain⟨p,ta,n,rs,h1,h2,h3,h4,h5,h6,h7⟩:=S.tab e he;have o:=S.out e he;have d1:ta≠Cl:=λz=>o.2 (by rw[h1,z]);have d2:ta≠Kp:=λz=>o.1 (by rw[h1,z]);refine⟨p,ta,n,rs,h1,h2,by rw[ar d1,ar d2];exact h3,?_,by simp;omega,D5 S.lc h5 h6,h7⟩;rw[qS S.lc n h5];exact h4.kx kx h7
 ·by_cases z1:a=Cl
  ·rw[z1];exact⟨_,ag⟩
  ·rw[ar z1];by_cases z2:a=Kp
   ·rw[z2];exact⟨_,ag⟩
   ·rw[ar z2];exact S.al a ha
theorem Spn.go {pl':Int}(S:Spn T H x dx Kp Cl Tb us kvs M w RP cs pl):Spn T (L2.upd H x (.ins T.NH dx (iI w Kp Cl pl' Tb))) x dx Kp Cl Tb us kvs M w RP cs pl':=by
 have kx:KX M H (L2.upd H x (.ins T.NH dx (iI w Kp Cl pl' Tb))):=λy o ny e=>by
  have d:y≠x:=λz=>ny (by rw[z];exact S.mem.1);rw[ar d];exact e
 have nl:∀{y:Addr}{u:HO},H y=some u->(∀C d f,u≠.ins C d f)->L2.upd H x (.ins T.NH dx (iI w Kp Cl pl' Tb)) y=some u:=λ{y u} e hz=>by
  have d:y≠x:=λz=>by rw[z,S.hx]at e;cases e;exact hz _ _ _ rfl
  rw[ar d];exact e
 refine⟨ag,nl S.hK (λ_ _ _ y=>nomatch y),nl S.hC (λ_ _ _ y=>nomatch y),nl S.hT (λ_ _ _ y=>nomatch y),S.lk,S.lc,λi u q e1 e2=>(S.vec i u q e1 e2).kx kx,λe he=>?_,S.inj,S.mem,S.out,S.ne,λa ha=>?_⟩
 ·obtain⟨p,ta,n,rs,h1,h2,h3,h4,h5,h6,h7⟩:=S.tab e he;exact⟨p,ta,n,rs,h1,h2,nl h3 (λ_ _ _ y=>nomatch y),h4.kx kx h7,h5,h6,h7⟩
 ·by_cases z:a=x
  ·rw[z];exact⟨_,ag⟩
  ·rw[ar z];exact S.al a ha
theorem Spn.more {D:Addr}{o:HO}(S:Spn T H x dx Kp Cl Tb us kvs M w RP cs pl)(nD:H D=none):Spn T (L2.upd H D o) x dx Kp Cl Tb us kvs (D :: M) w RP cs pl:=by
 obtain⟨m1,m2,m3,m4⟩:=S.mem;have u:=aw nD o;have hD:∀{y:Addr}{o:HO},H y=some o->y≠D:=λ{y o} e z=>by rw[z,nD]at e;cases e
 have out:∀{y:Addr}{o:HO},H y=some o->y∉M->y∉D :: M:=λ{y o} e n z=>by
  rcases a_.mp z with z|z
  ·exact hD e z
  ·exact n z
 have nin:∀{as:List Addr}{ps:List (List Int)},LH H as ps->(∀a∈as,a∉M)->∀a∈as,a∉D :: M:=λ{as ps} h n a ha=>by
  obtain⟨i,hi,rfl⟩:=dq.mp ha;exact out (h.get i _ _ (aj hi) (aj (by rw[←h.len];exact hi))) (n _ ha)
 refine⟨u _ _ S.hx,u _ _ S.hK,u _ _ S.hC,u _ _ S.hT,S.lk,S.lc,λi v q e1 e2=>?_,λe he=>?_,S.inj,⟨.tail _ m1,.tail _ m2,.tail _ m3,.tail _ m4⟩,S.out,S.ne,λa ha=>?_⟩
 ·obtain⟨as,h1,h2,h3,h4⟩:=S.vec i v q e1 e2;exact⟨as,u _ _ h1,h2.same u,out h1 h3,nin h2 h4⟩
 ·obtain⟨p,ta,n,rs,h1,h2,h3,h4,h5,h6,h7⟩:=S.tab e he;exact⟨p,ta,n,rs,h1,.tail _ h2,u _ _ h3,h4.same u,h5,h6,nin h4 h7⟩
 ·rcases a_.mp ha with z|z
  ·rw[z];exact⟨_,ag⟩
  ·obtain⟨o',e⟩:=S.al a z;exact⟨o',u _ _ e⟩
theorem Spn.other {D:Addr}{o:HO}(S:Spn T H x dx Kp Cl Tb us kvs M w RP cs pl)(mD:D∈M)(n1:D≠x)(n2:D≠Kp)(n3:D≠Cl)(n4:D≠Tb)(nt:∀e∈kvs,e.2≠.ref D):Spn T (L2.upd H D o) x dx Kp Cl Tb us kvs M w RP cs pl:=by
 have kx:KX M H (L2.upd H D o):=λy u ny e=>by
  have d:y≠D:=λz=>ny (by rw[z];exact mD);rw[ar d];exact e
 refine⟨by rw[ar (Ne.symm n1)];exact S.hx,by rw[ar (Ne.symm n2)];exact S.hK,by rw[ar (Ne.symm n3)];exact S.hC,by rw[ar (Ne.symm n4)];exact S.hT,S.lk,S.lc,λi v q e1 e2=>(S.vec i v q e1 e2).kx kx,λe he=>?_,S.inj,S.mem,S.out,S.ne,λa ha=>?_⟩
 ·obtain⟨p,ta,n,rs,h1,h2,h3,h4,h5,h6,h7⟩:=S.tab e he;have d:ta≠D:=λz=>nt e he (by rw[h1,z]);exact⟨p,ta,n,rs,h1,h2,by rw[ar d];exact h3,h4.kx kx h7,h5,h6,h7⟩
 ·by_cases z:a=D
  ·rw[z];exact⟨_,ag⟩
  ·rw[ar z];exact S.al a ha
end
theorem KX.trans {M M':List Addr}{H H1 H2:Hp}(k:KX M H H1)(k2:KX M' H1 H2)(mf:∀a∈M',a∈M∨H a=none):KX M H H2:=λy o ny e=>by
 refine k2 y o (λz=>?_) (k y o ny e);rcases mf y z with h|h
 ·exact ny h
 ·rw[h]at e;cases e
theorem jw {M M' M2:List Addr}{H H1:Hp}(k:KX M H H1)(mf:∀a∈M',a∈M∨H a=none)(mf2:∀a∈M2,a∈M'∨H1 a=none):∀a∈M2,a∈M∨H a=none:=λa ha=>by
 rcases mf2 a ha with h|h
 ·exact mf a h
 ·by_cases z:a∈M
  ·exact .inl z
  ·refine .inr ?_
   cases e:H a with
   | none=>rfl
   | some o=>rw[k a o z e]at h;cases h
def Lw {K:PySem.W.Frag}{mg:Str->Option Value}(T:Tx K mg):Sp:=λvs H Q _=>∃(x dx Kp Cl Tb Vc:Addr) (us:List Addr) (kvs:List (Key×V)) (M:List Addr) (w:Nat) (RP:List (List (List Int))) (cs:List Nat) (pl:Int) (q:List (List Int)) (c N:Nat),vs=[.ref x,.ref Vc,.int (c:Int)]∧Spn T H x dx Kp Cl Tb us kvs M w RP cs pl∧VecAt H M Vc q∧RP.length<20∧kvs.length+N+1<=900∧(∀t:Nat,t<=N->TBd w (RP++[q]) (cs++[c]) (pl+(t:Int)))∧Piv w (RP++[q]) (cs++[c]) (pl+(N:Int)) (RP.length+1)∧
 ∀(H':Hp) (kvs':List (Key×V)) (M':List Addr) (t:Nat),t<=N->Spn T H' x dx Kp Cl Tb (us++[Vc]) kvs' M' w (RP++[q]) (cs++[c]) (pl+(t:Int))->Piv w (RP++[q]) (cs++[c]) (pl+(t:Int)) (RP.length+1)->KX M H H'->(∀a∈M,a∈M')->(∀a∈M',a∈M∨H a=none)->kvs'.length<=kvs.length+t+1->Q .non H'
theorem D6 {P:Program}{w:World}{K:PySem.W.Frag}{mg:Str->Option Value}{base:Heap}(T:Tx K mg):FnOk P w K mg base CX0 4 T.Qg T.Qh ["self","vector","column"] (Lw T):=by
 refine T.RB.ok K5 (λvs H Q E h=>?_) (λcdv A outer s H vs Q E hr h=>?_)
 ·obtain⟨x,dx,Kp,Cl,Tb,Vc,us,kvs,M,w,RP,cs,pl,q,c,N,rfl,_⟩:=h;rfl
 obtain⟨x,dx,Kp,Cl,Tb,Vc,us,kvs,M,w,RP,cs,pl,q,c,N,rfl,S,hV,k20,l9,B,pN,fin⟩:=h;refine⟨_,((ah (e7 (gD PySem.F.plainAttrs_list PySem.F.slot_list_append PySem.F.type_list_append fM (cU (pv 0) rfl) (aa (pv 1) ae)))
  (ah (e7 (gD PySem.F.plainAttrs_list PySem.F.slot_list_append PySem.F.type_list_append fM (cU (pv 0) rfl) (aa (pv 2) ae)))
  (ao (ga PassesOwn.never (aO jS (fq (pv 0) T.NG T.QY (FnOk.mono (D3 T) (by decide)) hr T.QS .nil aB (aa (cU (pv 0) rfl) ae)) df (aN _)) (ao (Iv (pv 0) ai Iw))))))),?_⟩
 have lk:=S.lk;have lc:=S.lc;dsimp only[aC]
 k_typeOf
 refine⟨_,_,_,S.hx,T.NG,T.NJ,_,rfl,fV (SqL.of S.hK),Kp,rfl,_,S.hK,by rw[ac];exact bC (by omega),?_⟩;have hx1:L2.upd H Kp (.lst (us.map V.ref++[V.ref Vc])) x=some (.ins T.NH dx (iI w Kp Cl pl Tb)):=by
  rw[ar (HG S.hx S.hK (λz=>nomatch z))];exact S.hx
 have hC1:L2.upd H Kp (.lst (us.map V.ref++[V.ref Vc])) Cl=some (.lst ((cs.map λc:Nat=>(c:Int)).map V.int)):=by
  rw[ar (Ne.symm S.ne)];exact S.hC
 dsimp only[aC]
 k_typeOf
 refine⟨_,_,_,hx1,T.NG,T.NM,_,rfl,fV (SqL.of hC1),Cl,rfl,_,hC1,by rw[ac,ac];exact bC (by omega),?_⟩;have S1:=S.keep (c:=c) hV;have eu:(us++[Vc]).map V.ref=us.map V.ref++[V.ref Vc]:=by rw[aV];rfl
 have ec:((cs++[c]).map λc:Nat=>(c:Int)).map V.int=(cs.map λc:Nat=>(c:Int)).map V.int++[V.int (c:Int)]:=by rw[aV,aV];rfl
 rw[eu,ec]at S1;have kx1:KX M H (L2.upd (L2.upd H Kp (.lst (us.map V.ref++[V.ref Vc]))) Cl (.lst ((cs.map λc:Nat=>(c:Int)).map V.int++[V.int (c:Int)]))):=λy o ny e=>by
  have d1:y≠Cl:=λz=>ny (by rw[z];exact S.mem.2.2.1);have d2:y≠Kp:=λz=>ny (by rw[z];exact S.mem.2.1);rw[ar d1,ar d2];exact e
 generalize L2.upd (L2.upd H Kp (.lst (us.map V.ref++[V.ref Vc]))) Cl (.lst ((cs.map λc:Nat=>(c:Int)).map V.int++[V.int (c:Int)]))=H1 at S1 kx1 ⊢;clear hx1 hC1;have lk1:(RP++[q]).length=RP.length+1:=by simp
 k_units
 obtain⟨J,hJ⟩:∃J:Nat->L2.St->Hp->Prop,∀m σ H',J m σ H'↔∃(t:Nat) (kvs':List (Key×V)) (M':List Addr),σ=[some (V.ref x),some (V.ref Vc),some (V.int (c:Int))]∧t<=N∧m=N-t∧Spn T H' x dx Kp Cl Tb (us++[Vc]) kvs' M' w (RP++[q]) (cs++[c]) (pl+(t:Int))∧KX M H H'∧(∀a∈M,a∈M')∧(∀a∈M',a∈M∨H a=none)∧kvs'.length<=kvs.length+t:=⟨_,λ_ _ _=>Iff.rfl⟩
 refine gg J N ((hJ _ _ _).mpr ⟨0,kvs,M,rfl,aI _,by omega,by rw[show pl+((0:Nat):Int)=pl by omega];exact S1,kx1,λ_ h=>h,λ_ h=>.inl h,by omega⟩) ?_;intro m σ H2 hm;obtain⟨t,kvs',M',rfl,tN,rfl,S2,kx2,ms,mf,l2⟩:=(hJ _ _ _).mp hm
 k_units
 refine⟨dx,_,S2.hx,rfl,_,_,_,S2.hx,T.NG,T.Ol,_,rfl,x,dx,Kp,Cl,Tb,us++[Vc],kvs',M',w,RP++[q],cs++[c],_,pl+(t:Int),rfl,S2,B t tN,by omega,by rw[lk1];omega,λH3 kvs3 M3 S3 kw3 ms3 mf3 l3 tk3=>⟨λta rs tM eta hrs pv=>?_,λnp=>?_⟩⟩
 ·show if V.ref ta=V.non then _ else Q V.non H3
  rw[if_neg (λz=>nomatch z)];rw[lk1]at pv;exact fin H3 kvs3 M3 t tN S3 pv (kx2.trans (S2.kx kw3) mf) (λa h=>ms3 a (ms a h)) (jw kx2 mf mf3) (by omega)
 ·show if V.non=V.non then _ else Q V.non H3
  rw[if_pos rfl];rw[lk1]at np;have tl:t<N:=by
   rcases Gg t N with h|h
   ·exact h
   ·rw[show t=N by omega]at np;exact absurd pN np
  refine⟨J (N-(t+1)),λσ' H' z=>⟨_,by omega,z⟩,_,_,_,S3.hx,T.NG,T.Ol,_,rfl,_,rfl,_,_,S3.hx,by show 5<1000;decide,(hJ _ _ _).mpr ⟨t+1,kvs3,M3,rfl,tl,rfl,?_,?_,λa h=>ms3 a (ms a h),jw kx2 mf mf3,by omega⟩⟩
  ·have S4:=S3.go (pl':=pl+((t+1:Nat):Int));have e:aJ (Str.ofString "place") (V.int (pl+(t:Int)+1)) (iI w Kp Cl (pl+(t:Int)) Tb)=iI w Kp Cl (pl+((t+1:Nat):Int)) Tb:=by
    rw[show pl+((t+1:Nat):Int)=pl+(t:Int)+1 by omega];rfl
   rw[e];exact S4
  ·refine (kx2.trans (S2.kx kw3) mf).trans (M':=M3) (λy o ny e=>?_) (jw kx2 mf mf3);have d:y≠x:=λz=>ny (by rw[z];exact S3.mem.1);rw[ar d];exact e
theorem lN (a:Int):(if a<0 then -a else a)=((a.natAbs:Nat):Int):=by split <;> omega
theorem Lx {a b u0 u1 l0 l1 s:Int}(hs:s=1∨s=-1)(hd:u0*l1-u1*l0=s):bW (u0*a+u1*b).natAbs (l0*a+l1*b).natAbs=bW a.natAbs b.natAbs:=by
 have key:∀{x y p q r t:Int},((bW x.natAbs y.natAbs:Nat):Int)∣p*x+q*y:=λ{x y p q r t}=>by
  have h1:((bW x.natAbs y.natAbs:Nat):Int)∣x:=mI.mpr (mB _ _);have h2:((bW x.natAbs y.natAbs:Nat):Int)∣y:=mI.mpr (mC _ _);exact xI (fj h1 (kD _ _)) (fj h2 (kD _ _))
 have ss:s*s=1:=by rcases hs with rfl|rfl <;> rfl
 refine Gh (rT ?_ ?_) (rT ?_ ?_)
 ·refine mI.mp ?_;have e:a=(s*l1)*(u0*a+u1*b)+(-(s*u1))*(l0*a+l1*b):=by
   have:(s*l1)*(u0*a+u1*b)+(-(s*u1))*(l0*a+l1*b)=s*(u0*l1-u1*l0)*a:=by grind
   rw[this,hd,ss,fH]
  conv=>rhs;rw[e]
  exact key (r:=0) (t:=0)
 ·refine mI.mp ?_;have e:b=(-(s*l0))*(u0*a+u1*b)+(s*u0)*(l0*a+l1*b):=by
   have:(-(s*l0))*(u0*a+u1*b)+(s*u0)*(l0*a+l1*b)=s*(u0*l1-u1*l0)*b:=by grind
   rw[this,hd,ss,fH]
  conv=>rhs;rw[e]
  exact key (r:=0) (t:=0)
 ·exact mI.mp (key (r:=0) (t:=0))
 ·exact mI.mp (key (r:=0) (t:=0))
structure Lh (a0 b0 x y P Q R S:Nat)(s:Int):Prop where
 hs:s=1∨s=-1
 det:(P:Int)*S-Q*R=s
 hx:s*(P*a0-Q*b0)=(x:Int)
 hy:s*(S*b0-R*a0)=(y:Int)
 xh:2 ^ 150<=x
 yx:y<=x
 hP:P<=a0+b0+1
 hQ:Q<=a0+b0+1
theorem Lh.sizes {a0 b0 x y P Q R S:Nat}{s:Int}(h:Lh a0 b0 x y P Q R S s):S*x+Q*y=a0∧R*x+P*y=b0:=by
 have ss:s*s=1:=by rcases h.hs with z|z <;> rw[z] <;> rfl
 have e1:(S:Int)*x+Q*y=a0:=by
  rw[←h.hx,←h.hy];have:(S:Int)*(s*(P*a0-Q*b0))+Q*(s*(S*b0-R*a0))=s*(P*S-Q*R)*a0:=by grind
  rw[this,h.det,ss,fH]
 have e2:(R:Int)*x+P*y=b0:=by
  rw[←h.hx,←h.hy];have:(R:Int)*(s*(P*a0-Q*b0))+P*(s*(S*b0-R*a0))=s*(P*S-Q*R)*b0:=by grind
  rw[this,h.det,ss,fH]
 exact⟨by exact_mod_cast e1,by exact_mod_cast e2⟩
theorem Lh.few {a0 b0 x y P Q R S:Nat}{s:Int}(h:Lh a0 b0 x y P Q R S s):R<=a0+b0+1∧S<=a0+b0+1∧x<=a0+b0:=by
 obtain⟨h1,h2⟩:=h.sizes;have x1:1<=x:=aP (dX 150) h.xh;have hR:R<=R*x:=kz _ x1;have hS:S<=S*x:=kz _ x1;refine⟨by omega,by omega,?_⟩;by_cases z:S=0
 ·by_cases z2:R=0
  ·have:=h.det;rw[z,z2]at this;rcases h.hs with y|y <;> rw[y]at this <;> simp at this
  ·have:x<=R*x:=gB _ (by omega);omega
 ·have:x<=S*x:=gB _ (by omega);omega
theorem Lh.step {a0 b0 x y P Q R S:Nat}{s:Int}(h:Lh a0 b0 x y P Q R S s)(hy:2 ^ 150<=y):Lh a0 b0 y (x % y) R S (P+x / y*R) (Q+x / y*S) (-s):=by
 obtain⟨f1,f2,_⟩:=h.few;have ex:(x:Int)=(x / y:Nat)*(y:Int)+(x % y:Nat):=by exact_mod_cast (xO x y).symm
 refine⟨by rcases h.hs with z|z <;> simp[z],?_,?_,?_,hy,b5 (jK _ (by have:=dX 150;omega)),f1,f2⟩
 ·have:=h.det
  push_cast
  generalize ((x / y:Nat):Int)=t;grind
 ·rw[←h.hy];grind
 ·have h1:=h.hx;have h2:=h.hy;have e:((x % y:Nat):Int)=x-(x / y:Nat)*y:=by omega
  rw[e,←h1,←h2]
  push_cast
  generalize ((x / y:Nat):Int)=t;grind
theorem Lh.less {a b x y P Q R S c:Nat}{s:Int}(h:Lh (a / 2 ^ c) (b / 2 ^ c) x y P Q R S s)(ha:2 ^ (c+299)<=a)(ha2:a<2 ^ (c+300))(hba:b<=a)(hy:y<2 ^ 150):((-s*R)*(a:Int)+(s*S)*b).natAbs<a:=by
 obtain⟨h1,h2⟩:=h.sizes;have c0:=dX c;have a3:a / 2 ^ c<2 ^ 300:=by rw[Np c0,←dm,rG 300 c];exact ha2
 have b3:b / 2 ^ c<=a / 2 ^ c:=Nq hba;have p3:(2:Nat) ^ 300=2 ^ 150*2 ^ 150:=by rw[←dm]
 have hS:S<2 ^ 150:=by
  refine kC λz=>?_;have:=eC z h.xh;omega
 have hR:R<2 ^ 150:=by
  refine kC λz=>?_;have:=eC z h.xh;omega
 have ea:(a:Int)=(a / 2 ^ c:Nat)*(2 ^ c:Nat)+(a % 2 ^ c:Nat):=by exact_mod_cast (xO a (2 ^ c)).symm
 have eb:(b:Int)=(b / 2 ^ c:Nat)*(2 ^ c:Nat)+(b % 2 ^ c:Nat):=by exact_mod_cast (xO b (2 ^ c)).symm
 have ra:a % 2 ^ c<2 ^ c:=jK _ c0;have rb:b % 2 ^ c<2 ^ c:=jK _ c0;have e:(-s*R)*(a:Int)+(s*S)*b=(y:Int)*(2 ^ c:Nat)+(s*(S*(b % 2 ^ c:Nat))-s*(R*(a % 2 ^ c:Nat))):=by
  rw[←h.hy];generalize a % 2 ^ c=ra at ea ra ⊢;generalize b % 2 ^ c=rb at eb rb ⊢;generalize ((a / 2 ^ c:Nat):Int)=A at ea ⊢;generalize ((b / 2 ^ c:Nat):Int)=Bb at eb ⊢;generalize ((2 ^ c:Nat):Int)=C at ea eb ⊢;rw[ea,eb];grind
 rw[e];have t1:((y:Int)*(2 ^ c:Nat)).natAbs<=2 ^ 150*2 ^ c:=by
  rw[bV,dB,dB];exact fS _ (b5 hy)
 have sz:∀t r:Nat,t<2 ^ 150->r<2 ^ c->(s*((t:Int)*(r:Int))).natAbs<=2 ^ 150*2 ^ c:=λt r h1 h2=>by
  rw[bV,bV,dB,dB];have:s.natAbs=1:=by rcases h.hs with z|z <;> rw[z] <;> rfl
  rw[this,fG];exact eC (b5 h1) (b5 h2)
 have t2:=sz S (b % 2 ^ c) hS rb;have t3:=sz R (a % 2 ^ c) hR ra;have big:4*(2 ^ 150*2 ^ c)<=2 ^ (c+299):=by
  have:(4:Nat)*(2 ^ 150*2 ^ c)=2 ^ (c+152):=by
   rw[show c+152=2+(150+c) by omega,dm,dm]
  rw[this];exact fE (by decide) (by omega)
 have pos:0<2 ^ 150*2 ^ c:=iO (dX _) c0;generalize 2 ^ 150*2 ^ c=Z at t1 t2 t3 big pos;have:=mo ((y:Int)*(2 ^ c:Nat)) (s*(S*(b % 2 ^ c:Nat))-s*(R*(a % 2 ^ c:Nat)));have:=Int.natAbs_sub_le (s*(S*(b % 2 ^ c:Nat))) (s*(R*(a % 2 ^ c:Nat)));omega
def Ly:Sp:=λvs H Q _=>∃(a b:Nat),vs=[.int (a:Int),.int (b:Int)]∧b<=a∧4000<Builtin.Int.intBits (a:Int)∧Bd 1000000 (a:Int)∧∀(c d:Nat) (r:Addr) (H':Hp),Same H H'->H' r=some (.tup [.int (c:Int),.int (d:Int)])->bW c d=bW a b->d<a->Q (.ref r) H'
theorem Lz {P:Program}{w:World}{K:PySem.W.Frag}{mg:Str->Option Value}{base:Heap}(T:Tx K mg):FnOk P w K mg base CX0 1 T.OH T.OI ["big","small"] Ly:=by
 refine T.Qs.ok sc_shortened (λvs H Q E h=>?_) (λcdv A outer s H vs Q E hr h=>?_)
 ·obtain⟨a,b,rfl,_⟩:=h;rfl
 obtain⟨a,b,rfl,hba,ha,ha2,q⟩:=h;refine⟨_,((ah (ax (i:=2) sc_shortened.nd rfl (Or.inl rfl) (ak dg (kP PySem.F.plainAttrs_int PySem.F.slot_int_bit_length PySem.F.type_int_bit_length CF (pv 0)) (mL (v:=.int 300) rfl T.Q4.2 ⟨_,rfl⟩)))
  (ah (ax (i:=3) sc_shortened.nd rfl (Or.inl rfl) (ak BL (pv 0) (pv 2)))
  (ah (ax (i:=4) sc_shortened.nd rfl (Or.inl rfl) (ak BL (pv 1) (pv 2)))
  (ah (ax (i:=5) sc_shortened.nd rfl (Or.inl rfl) (ak Ij ai (ak ji (mL (v:=.int 300) rfl T.Q4.2 ⟨_,rfl⟩) ai)))
  (ah (ax (i:=6) sc_shortened.nd rfl (Or.inl rfl) (mY (aa ai (aa ai ae))))
  (ah (ax (i:=7) sc_shortened.nd rfl (Or.inl rfl) (mY (aa ai (aa ai ae))))
  (ah (ga PassesOwn.never (aO BP (pv 4) (pv 5) (aN _)) (ah (ax (i:=8) sc_shortened.nd rfl (Or.inl rfl) (ak jn (pv 3) (pv 4)))
  (ah (ax (i:=9) sc_shortened.nd rfl (Or.inl rfl) (ak dg (pv 3) (ak eJ (pv 8) (pv 4))))
  (ah (ax (i:=3) sc_shortened.nd rfl (Or.inl rfl) (pv 4))
  (ah (ax (i:=4) sc_shortened.nd rfl (Or.inl rfl) (pv 9))
  (ah (ax (i:=10) sc_shortened.nd rfl (Or.inl rfl) (mY (aa (ak dg (aR gX (pv 6) ai (λ_ _=>rfl)) (ak eJ (pv 8) (aR gX (pv 7) ai (λ_ _=>rfl)))) (aa (ak dg (aR gX (pv 6) ai (λ_ _=>rfl)) (ak eJ (pv 8) (aR gX (pv 7) ai (λ_ _=>rfl)))) ae))))
  (ah (ax (i:=6) sc_shortened.nd rfl (Or.inl rfl) (pv 7))
  (ao (ax (i:=7) sc_shortened.nd rfl (Or.inl rfl) (pv 10))))))))))
  (ao (aM (mY (aa (aG kJ rfl T.N5 kU (aa (ak ci (ak eJ (aR gX (pv 6) ai (λ_ _=>rfl)) (pv 0)) (ak eJ (aR gX (pv 6) ai (λ_ _=>rfl)) (pv 1))) ae)) (aa (aG kJ rfl T.N5 kU (aa (ak ci (ak eJ (aR gX (pv 7) ai (λ_ _=>rfl)) (pv 0)) (ak eJ (aR gX (pv 7) ai (λ_ _=>rfl)) (pv 1))) ae)) ae))))))))))))),?_⟩
 obtain⟨bl,hbl,hb1,hb2⟩:∃bl:Nat,Builtin.Int.intBits (a:Int)=bl∧2 ^ (bl-1)<=a∧a<2 ^ bl:=by
  refine⟨_,rfl,?_,?_⟩
  ·refine rJ λz=>?_;have:=vR (i:=(a:Int)) (k:=Builtin.Int.intBits (a:Int)-1) (by rw[dB];exact z);omega
  ·have:=(intBits_le_iff (m:=Builtin.Int.intBits (a:Int)) (x:=(a:Int))).mp (am _);rw[dB]at this;exact this
 rw[hbl]at ha;have hb3:4000<=bl:=by omega
 obtain⟨c,hc⟩:∃c,bl=c+300:=⟨bl-300,by omega⟩
 have ea:(a:Int) / 2 ^ c=((a / 2 ^ c:Nat):Int):=by push_cast;rfl
 have eb:(b:Int) / 2 ^ c=((b / 2 ^ c:Nat):Int):=by push_cast;rfl
 have c0:=dX c;have a299:2 ^ 299<=a / 2 ^ c:=by
  rw[Nat.le_div_iff_mul_le c0,←dm];rw[hc,show c+300-1=299+c by omega]at hb1;exact hb1
 have a300:a / 2 ^ c<2 ^ 300:=by
  rw[Np c0,←dm,rG 300 c,←hc];exact hb2
 have b0a:b / 2 ^ c<=a / 2 ^ c:=Nq hba;have p1:(2:Nat) ^ 150<=2 ^ 299:=fE (by decide) (by decide);dsimp only[aC]
 k_typeOf
 rw[hbl,show ((bl:Nat):Int)-300=(c:Int) by omega];dsimp only[aC]
 k_typeOf
 refine⟨by omega,?_⟩;rw[dU,ea];dsimp only[aC]
 k_typeOf
 refine⟨by omega,?_⟩;rw[dU,eb];dsimp only[aC]
 k_typeOf
 refine⟨⟨by decide,by decide⟩,⟨by decide,by decide,by decide⟩,?_⟩;obtain⟨hf,ehf,hhf⟩:∃hf:Nat,(1:Int)*2 ^ ((300:Int) / 2).toNat=(hf:Int)∧hf=2 ^ 150:=⟨2 ^ 150,by decide,rfl⟩
 rw[ehf];clear ehf;dsimp only[aC]
 k_typeOf
 refine⟨by decide,λU0 n0=>?_⟩;have u0:=aw n0 (.tup [V.int 1,V.int 0]);have e0:=ag (H:=H) (a:=U0) (o:=.tup [V.int 1,V.int 0]);generalize L2.upd H U0 (.tup [V.int 1,V.int 0])=H0 at u0 e0 ⊢;dsimp only[aC]
 k_typeOf
 refine⟨by decide,λL0 n1=>?_⟩;have u1:=aw n1 (.tup [V.int 0,V.int 1]);have e1:=ag (H:=H0) (a:=L0) (o:=.tup [V.int 0,V.int 1]);have f1:=u1 _ _ e0;have s1:=u0.trans u1;generalize L2.upd H0 L0 (.tup [V.int 0,V.int 1])=H1 at s1 e1 f1 ⊢;clear u0 u1 e0 n0 n1;generalize ha0:a / 2 ^ c=a0 at a299 a300 b0a ⊢;generalize hb0:b / 2 ^ c=b0 at b0a ⊢;have p302:(2:Nat) ^ 302=4*2 ^ 300:=by rw[show (302:Nat)=2+300 by rfl,dm]
 have bk:∀{k:Nat},k<=a0+b0+1->Bd 302 (k:Int):=λ{k} hk=>by
  show k<2 ^ 302;omega
 have bs:∀{k:Nat}{t:Int},k<=a0+b0+1->(t=1∨t=-1)->Bd 302 (t*(k:Int)):=λ{k t} hk ht=>by
  rcases ht with rfl|rfl
  ·rw[fH];exact bk hk
  ·rw[show (-1:Int)*k=-k by omega];exact (bk hk).neg
 clear p302;dsimp only[aC]
 k_typeOf
 obtain⟨J,hJ⟩:∃J:Nat->L2.St->Hp->Prop,∀m σ H',J m σ H'↔∃(x y P Q R S:Nat) (s:Int) (U L:Addr) (r8 r9 r10:Option V),σ=[some (V.int (a:Int)),some (V.int (b:Int)),some (V.int (c:Int)),some (V.int (x:Int)),some (V.int (y:Int)),some (V.int (hf:Int)),some (V.ref U),some (V.ref L),r8,r9,r10]∧m=y∧Lh a0 b0 x y P Q R S s∧H' U=some (.tup [V.int (s*P),V.int (-s*Q)])∧H' L=some (.tup [V.int (-s*R),V.int (s*S)])∧Same H H':=⟨_,λ_ _ _=>Iff.rfl⟩
 refine gg J b0 ((hJ _ _ _).mpr ⟨a0,b0,1,0,0,1,1,U0,L0,none,none,none,rfl,rfl,⟨.inl rfl,by simp,by simp,by simp,aP p1 a299,b0a,by omega,by omega⟩,by rw[f1];rfl,by rw[e1];rfl,s1⟩) ?_;intro m σ H2 hm;obtain⟨x,y,P',Q',R',S',s',U,L,r8,r9,r10,rfl,rfl,lh,eU,eL,s2⟩:=(hJ _ _ _).mp hm;obtain⟨g1,g2,g3⟩:=lh.few;have hs':-s'=1∨-s'=-1:=by rcases lh.hs with z|z <;> simp[z]
 k_units
 refine bR (λz=>?_) (λz=>?_)
 ·have zy:2 ^ 150<=m:=by rw[←hhf];exact_mod_cast z
  have m0:m≠0:=by have:=dX 150;omega
  have ef:(x:Int).fdiv (m:Int)=((x / m:Nat):Int):=by rw[xv _ (by omega)];exact_mod_cast rfl
  have er:(x:Int)-((x / m:Nat):Int)*(m:Int)=((x % m:Nat):Int):=by
   have:(x:Int)=(x / m:Nat)*(m:Int)+(x % m:Nat):=by exact_mod_cast (xO x m).symm
   omega
  have st:=lh.step zy;have yx:=lh.yx;have bx:Bd 302 (((x / m:Nat)):Int):=bk (aP (Nat.div_le_self _ _) (by omega));have bm:Bd 302 (m:Int):=bk (by omega);rw[ef];refine⟨J (x % m),λσ' H' h=>⟨_,jK _ (by omega),h⟩,by omega,bZ (show ((m:Nat):Int).natAbs<2 ^ 302 from bm) (fE (by decide) (by decide)),bx.fits bm (by decide),_,SqT.of eU,_,rfl,_,SqT.of eL,_,rfl,_,rfl,bx.fits (bs g1 hs') (by decide),_,rfl,_,SqT.of eU,_,rfl,_,SqT.of eL,_,rfl,_,rfl,bx.fits (bs g2 lh.hs) (by decide),_,rfl,by decide,λp np=>?_⟩;have w1:=aw np (.tup [V.int (s'*P'-((x / m:Nat):Int)*(-s'*R')),V.int (-s'*Q'-((x / m:Nat):Int)*(s'*S'))]);rw[er];refine (hJ _ _ _).mpr ⟨m,x % m,R',S',_,_,_,L,p,_,_,_,rfl,rfl,st,?_,?_,s2.trans w1⟩
  ·rw[w1 _ _ eL];simp
  ·rw[ag];congr 4
   ·push_cast
    generalize ((x / m:Nat):Int)=t;grind
   ·push_cast
    generalize ((x / m:Nat):Int)=t;congr 2;grind
 ·have zy:m<2 ^ 150:=by rw[←hhf];exact kC λy=>z (by exact_mod_cast y)
  have bb:Bd 1000000 (b:Int):=cZ (show (b:Int).natAbs<=(a:Int).natAbs by omega) ha2;have ls:((-s'*R')*(a:Int)+(s'*S')*b).natAbs<a:=by
   rw[←ha0,←hb0]at lh;refine lh.less ?_ ?_ hba zy
   ·rw[show c+299=bl-1 by omega];exact hb1
   ·rw[←hc];exact hb2
  have bP:=bs lh.hP lh.hs;have bQ:=bs lh.hQ hs';refine⟨_,SqT.of eU,_,rfl,_,rfl,bP.fits ha2 (by decide),_,SqT.of eU,_,rfl,_,rfl,bQ.fits bb (by decide),_,SqT.of eL,_,rfl,_,rfl,(bs g1 hs').fits ha2 (by decide),_,SqT.of eL,_,rfl,_,rfl,(bs g2 lh.hs).fits bb (by decide),by decide,λp np=>?_⟩;rw[lN,lN];refine q _ _ p _ (s2.trans (aw np _)) ag ?_ ls
  ·have:=Lx (a:=(a:Int)) (b:=(b:Int)) (u0:=s'*P') (u1:=-s'*Q') (l0:=-s'*R') (l1:=s'*S') (s:=s') lh.hs (by
    have h1:=lh.det;have h2:s'*s'=1:=by rcases lh.hs with z|z <;> rw[z] <;> rfl
    grind)
   rw[this,dB,dB]
def LA:Sp:=λvs H Q _=>∃a b:Int,vs=[.int a,.int b]∧Bd 1000000 b∧∀H',Same H H'->Q (.int (bW a.natAbs b.natAbs:Nat)) H'
theorem wR {P:Program}{w:World}{K:PySem.W.Frag}{mg:Str->Option Value}{base:Heap}(T:Tx K mg):FnOk P w K mg base CX0 2 T.OJ T.OK ["one","other"] LA:=by
 refine T.N_.ok sc_divisor (λvs H Q E h=>?_) (λcdv A outer s H vs Q E hr h=>?_)
 ·obtain⟨a,b,rfl,_⟩:=h;rfl
 obtain⟨a,b,rfl,hb,q⟩:=h;refine⟨_,((ah (ax (i:=2) sc_divisor.nd rfl (Or.inl rfl) (aG kJ rfl T.N5 kU (aa (pv 0) ae)))
  (ah (ax (i:=3) sc_divisor.nd rfl (Or.inl rfl) (aG kJ rfl T.N5 kU (aa (pv 1) ae)))
  (ah (ga PassesOwn.never (aO gT (kP PySem.F.plainAttrs_int PySem.F.slot_int_bit_length PySem.F.type_int_bit_length CF (pv 3)) (mL (v:=.int 4000) rfl T.RL.2 ⟨_,rfl⟩) (aN _)) (ah (ax (i:=4) sc_divisor.nd rfl (Or.inl rfl) (aK (FnOk.mono (Lz T) (by decide)) hr rfl T.Q5 T.Qs.kp T.Q6 .nil aB (aa (pv 3) (aa (ak fK (pv 2) (pv 3)) ae))))
  (ah (ax (i:=2) sc_divisor.nd rfl (Or.inl rfl) (aR gX (pv 4) ai (λ_ _=>rfl)))
  (ao (ax (i:=3) sc_divisor.nd rfl (Or.inl rfl) (aR gX (pv 4) ai (λ_ _=>rfl)))))))
  (ah (ga PassesOwn.never (aO iS (pv 3) ai (aN _)) (ah (ax (i:=5) sc_divisor.nd rfl (Or.inl rfl) (ak fK (pv 2) (pv 3)))
  (ah (ax (i:=2) sc_divisor.nd rfl (Or.inl rfl) (pv 3))
  (ao (ax (i:=3) sc_divisor.nd rfl (Or.inl rfl) (pv 5))))))
  (ao (aM (pv 2)))))))),?_⟩
 (iterate 3 (k_units;(try simp only[lN]));k_units)
 obtain⟨J,hJ⟩:∃J:Nat->L2.St->Hp->Prop,∀m σ H',J m σ H'↔∃(x y:Nat) (r4:Option V),σ=[some (V.int a),some (V.int b),some (V.int (x:Int)),some (V.int (y:Int)),r4,none]∧m=y∧bW x y=bW a.natAbs b.natAbs∧Bd 1000000 (y:Int)∧Same H H':=⟨_,λ_ _ _=>Iff.rfl⟩
 refine gg J b.natAbs ((hJ _ _ _).mpr ⟨a.natAbs,b.natAbs,none,rfl,rfl,rfl,by show ((b.natAbs:Nat):Int).natAbs<_;rw[dB];exact hb,Same.refl _⟩) ?_;intro m σ H1 hm;obtain⟨x,y,r4,rfl,rfl,hg,by',s1⟩:=(hJ _ _ _).mp hm
 k_units
 refine bR (λz=>?_) (λz=>?_)
 ·have m0:m≠0:=λy=>by rw[y]at z;revert z;decide
  have em:(x:Int) % (m:Int)=((x % m:Nat):Int):=by exact_mod_cast rfl
  rw[em];refine⟨λσ' H'=>∃m',m'<m∧J m' σ' H',λσ' H' h=>h,by omega,m,x % m,rfl,b5 (jK _ (by omega)),by exact_mod_cast z,by',λc d r H2 s2 er hg2 hd=>⟨r,rfl,_,SqT.of er,_,rfl,r,rfl,_,SqT.of er,_,rfl,d,hd,(hJ _ _ _).mpr ⟨c,d,_,rfl,rfl,?_,?_,s1.trans s2⟩⟩⟩
  ·rw[hg2,←hg,xP m,←Nat.gcd_rec,xP]
  ·exact cZ (show (d:Int).natAbs<=(m:Int).natAbs by omega) by'
 ·clear hm hJ J;refine gg (λk σ H2=>∃(x y:Nat) (r:Option V),σ=[some (V.int a),some (V.int b),some (.int x),some (.int y),r4,r]∧H2=H1∧k=y∧bW x y=bW a.natAbs b.natAbs) m ⟨x,m,none,rfl,rfl,rfl,hg⟩ ?_
  rintro k σ H2 ⟨x,y,r,rfl,rfl,rfl,hg⟩
  k_units
  refine bR (λh=>?_) (λh=>?_)
  ·refine⟨λσ' H3=>σ'=[some (V.int a),some (V.int b),some (V.int k),some (V.int ((x:Int) % (k:Int))),r4,some (V.int ((x:Int) % (k:Int)))]∧H3=H2,?_,by omega,rfl,rfl⟩
   rintro σ' H3 ⟨rfl,rfl⟩
   refine⟨x % k,jK _ (by omega),k,x % k,_,by rw[←Int.natCast_emod],rfl,rfl,?_⟩;rw[xP k,←Nat.gcd_rec,xP];exact hg
  ·have h0:k=0:=by omega
   subst h0;rw[Nat.gcd_zero_right]at hg;rw[hg];exact q H2 s1
def D7 (K:PySem.W.Frag)(c:Addr):Sp:=λvs H Q E=>∃(a b:Addr) (one RS:List Int) (k l:Nat),vs=[.ref a,.ref b]∧SqL K H a (one.map V.int)∧SqL K H b (RS.map V.int)∧one.length<=64∧RS.length<=64∧Nml one∧Nml RS∧
 (∀x∈one,Bd k x)∧(∀y∈RS,Bd l y)∧k<=100000∧l<=8995∧
 ((RS=[]∧E (.ref c) none H)∨(RS≠[]∧((∃q,Nml q∧Div one RS q∧dE H Q (q.map V.int))∨((∀q,¬Div one RS q)∧∀H',Same H H'->Q .non H'))))
theorem D8 {k:Nat}{x d:Int}(h:Bd k x)(hd:d≠0):Bd (k+1) (x.fdiv d):=by
 unfold Bd at *;have e:=Int.fmod_add_mul_fdiv x d;have r:(x.fmod d).natAbs<d.natAbs:=by
  rcases rV hd with g|g
  ·have h1:=Nr (-x) (show 0 < -d by omega);have h2:=Int.fmod_lt_of_pos (-x) (show 0 < -d by omega);rw[Int.neg_fmod_neg]at h1 h2;omega
  ·have h1:=Nr x g;have h2:=Int.fmod_lt_of_pos x g;omega
 have a:(d*x.fdiv d).natAbs=d.natAbs*(x.fdiv d).natAbs:=bV _ _;have s:d.natAbs*(x.fdiv d).natAbs<2 ^ k+d.natAbs:=by omega
 have d1:1<=d.natAbs:=by omega
 rw[jC];by_cases z:(x.fdiv d).natAbs<=1
 ·have:=dX k;omega
 ·have m:d.natAbs*2<=d.natAbs*(x.fdiv d).natAbs:=fh _ (by omega);have m2:(x.fdiv d).natAbs<=d.natAbs*(x.fdiv d).natAbs:=gB _ (by omega);omega
theorem wS {P:Program}{w:World}{K:PySem.W.Frag}{mg:Str->Option Value}{base:Heap}(T:Tx K mg):FnOk P w K mg base (CXE P w) 3 T.OD T.OE ["one","other"] (D7 K T.Qk):=by
 refine T.N9.okE sc_quotient (λvs H Q E h=>?_) (λcdv A outer s H vs Q E hr h=>?_)
 ·obtain⟨a,b,one,RS,k,l,rfl,_⟩:=h;rfl
 obtain⟨a,b,one,RS,k,l,rfl,hA,hB,la,lb,no,nt,bk,bl,hk,hl,q⟩:=h;refine⟨_,((ah (bY (PT.nox (aO e9 (aG aX rfl T.NF aZ (aa (pv 1) ae)) ai (aN _))) (ao (JD rfl JC rfl T.RE T.RF (aa HN ae))) b4)
  (ah (PS.nox (ax (i:=2) sc_quotient.nd rfl (Or.inl rfl) (iU jV rfl T.NK iC (aa (pv 0) ae))))
  (ah (PS.nox (ax (i:=3) sc_quotient.nd rfl (Or.inl rfl) (aG (mW rfl) rfl T.NU jX (aa ai (aa (ak ci (ak dg (aG aX rfl T.NF aZ (aa (pv 0) ae)) (aG aX rfl T.NF aZ (aa (pv 1) ae))) ai) ae)))))
  (ah (PS.nox (ax (i:=4) sc_quotient.nd rfl (Or.inl rfl) (ak jk (bU (aa ai ae)) (pv 3))))
  (ah (PS.nox (cy PassesOwn.never rfl (vP rfl T.NI (aa (ak dg (pv 3) ai) (aa (d8 d9 ai) (aa (d8 d9 ai) ae)))) (bN (i:=5) sc_quotient.nd rfl (Or.inl rfl)) (ah (ax (i:=6) sc_quotient.nd rfl (Or.inl rfl) (aR bL (pv 2) (ak dg (ak ci (pv 5) (aG aX rfl T.NF aZ (aa (pv 1) ae))) ai) (λ_ _=>rfl)))
  (ah (ax (i:=7) sc_quotient.nd rfl (Or.inl rfl) (ak jn (pv 6) (aR bL (pv 1) (d8 d9 ai) (λ_ _=>rfl))))
  (ah (bY (aO iS (ak eJ (pv 7) (aR bL (pv 1) (d8 d9 ai) (λ_ _=>rfl))) (pv 6) (aN _)) (ao (aM df)) b4)
  (ah (iA (pv 7) (iz (pv 4) (pv 5) ge))
  (ao (cy PassesOwn.never rfl (pB rfl T.Om (aa (pv 1) ae)) (gS rfl (dZ (bN (i:=8) sc_quotient.nd rfl (Or.inl rfl)) (dZ (bN (i:=9) sc_quotient.nd rfl (Or.inl rfl)) gQ))) (ao (vj (pv 2) (ak ci (pv 5) (pv 8)) vV (ak eJ (pv 7) (pv 9)) vn ge))))))))))
  (ah (PS.nox (bY (aO gT (aG aX rfl T.NF aZ (aa (aK (FnOk.mono (wH T) (by decide)) hr rfl T.Oq T.N7.kp T.Os .nil aB (aa (pv 2) ae)) ae)) ai (aN _)) (ao (aM df)) b4))
  (ao (PS.nox (aM (pv 4))))))))))),?_⟩
 k_units
 refine⟨_,.inl hB,?_⟩;rw[ac];refine bR (λh0=>?_) (λh0=>?_)
 ·rcases q with ⟨_,q⟩|⟨hn,_⟩
  ·exact⟨by decide,q⟩
  ·exact absurd (bK (by omega)) hn
 have hne:RS≠[]:=by intro z;rw[z]at h0;simp at h0
 have q:=(q.resolve_left λz=>hne z.1).2;have lo:=cK.mpr hne;refine⟨_,.inl hA,λR nR=>?_⟩;have s1:=aw nR (.lst (one.map V.int));refine⟨_,.inl (s1.seq hA),_,.inl (s1.seq hB),by decide,λp np=>⟨_,ag,?_⟩⟩;have s2:=aw np (.lst [V.int 0]);rw[ac,ac,lI];obtain⟨n,hn⟩:∃n:Nat,(if (one.length:Int)-(RS.length:Int)+1 > 0 then (one.length:Int)-(RS.length:Int)+1 else 0)=(n:Int):=⟨one.length+1-RS.length,by split <;> omega⟩
 have hn':n=one.length+1-RS.length:=by split at hn <;> omega
 rw[hn,dU];refine⟨by omega,by omega,b5 (bC (by simp;omega)),λA0 nA=>?_⟩;have s3:=aw nA (.lst ((aL n (0:Int)).map V.int));have sG:=s1.trans (s2.trans s3);have gR:=s3 _ _ (s2 _ _ (ag (H:=H) (a:=R) (o:=.lst (one.map V.int))));have gA:upd (upd (upd H R (.lst (one.map V.int))) p (.lst [V.int 0])) A0 (.lst ((aL n (0:Int)).map V.int)) A0=_:=ag;have hRA:R≠A0:=dG (s2 _ _ (ag (H:=H) (a:=R) (o:=.lst (one.map V.int)))) nA;have fA:=(s1.trans s2).free nA;generalize upd (upd (upd H R (.lst (one.map V.int))) p (.lst [V.int 0])) A0 (.lst ((aL n (0:Int)).map V.int))=G at sG gR gA ⊢;clear s1 s2 s3 nA np;refine⟨by decide,by decide,vZ (by omega) (by omega) (by omega) (by omega),n,v5 (by omega),?_⟩;have fin:∀(rest ans:List Int) (r1 r2 r3 r4 r5:Option V) (H':Hp),(∀q,Div one RS q->∀k,co rest k=0)->((∀k,co rest k=0)->Div one RS ans∧Nml ans)->H' R=some (.lst (rest.map V.int))->H' A0=some (.lst (ans.map V.int))->Same H H'->rest.length<=64->
   DL K [V.ref R] H' (λx H1=>∃p,x=V.ref p∧∃x,(SqL K H1 p x∨SqT K H1 p x)∧if 0<(x.length:Int) then Q V.non H1 else Q (V.ref A0) H1) E0:=by
  intro rest ans r1 r2 r3 r4 r5 H' e1 e2 hR hA' sH lr;refine⟨R,rest,rfl,SqL.of hR,by omega,λf H2 s2 nf ef=>⟨f,rfl,_,.inl (SqL.of ef),?_⟩⟩;rw[ac];refine bR (λh=>?_) (λh=>?_)
  ·rcases q with ⟨q0,_,hd,_⟩|⟨_,q⟩
   ·have:=qC.mpr (e1 q0 hd);rw[this]at h;simp at h
   ·exact q _ (sH.trans s2)
  ·have tz:aF rest=[]:=bK (by omega);obtain⟨d1,d2⟩:=e2 (qC.mp tz);rcases q with ⟨q0,n0,hd,q⟩|⟨q,_⟩
   ·rw[Kl nt hne n0 d2 hd d1]at q;exact q A0 _ (sH.trans s2) fA (s2 _ _ hA')
   ·exact absurd d1 (q ans)
 by_cases hc:one.length+1<RS.length
 ·have n0:n=0:=by omega
  subst n0;refine pk (λi σ H'=>σ=[some (V.ref a),some (V.ref b),some (V.ref R),some (V.int ((0:Nat):Int)),some (V.ref A0),none,none,none,none,none]∧H'=G) ⟨rfl,rfl⟩ (λi σ H' hi=>by omega) ?_
  rintro σ H' ⟨rfl,rfl⟩
  k_units
  refine fin one [] none none none none none H' (λq hq k=>?_) (λhz=>?_) gR gA sG la
  ·by_cases ho:one=[]
   ·rw[ho];rfl
   ·by_cases hq':Nml q
    ·obtain⟨y1,y2⟩:=wn nt hne no hq' hq ho;have:=cK.mpr y1;omega
    ·obtain⟨y1,y2⟩:=wn (q:=aF q) nt hne no (cC q) (λk=>by rw[hq k];unfold pm;exact cQ λj _=>by rw[cP]) ho;have:=cK.mpr y1;omega
  ·have ho:=j3 no hz;rw[ho];exact⟨Ku,cD⟩
 have hla:n+RS.length=one.length+1:=by omega
 have elast:co RS (RS.length-1)=RS.getLast hne:=by
  rw[aE (by omega),Gi]
 have l0:RS.getLast hne≠0:=by rw[←elast];exact cN nt hne
 have bl0:Bd l (RS.getLast hne):=bl _ (List.getLast_mem hne);obtain⟨Pv,hPv⟩:∃Pv:Nat->L2.St->Hp->Prop,∀i σ H',Pv i σ H'↔∃(ans rest:List Int) (r1 r2 r3 r4 r5:Option V),σ=[some (V.ref a),some (V.ref b),some (V.ref R),some (V.int (n:Int)),some (V.ref A0),r1,r2,r3,r4,r5]∧H' R=some (.lst (rest.map V.int))∧H' A0=some (.lst (ans.map V.int))∧
  DivAt one RS ans rest (n-i)∧(∀x∈rest,Bd (k+(l+2)*i) x)∧Same H H':=⟨_,λ_ _ _=>Iff.rfl⟩
 refine pk Pv ((hPv _ _ _).mpr ⟨_,one,none,none,none,none,none,rfl,gR,gA,Kn hne hla,λx hx=>(bk x hx).mono (by omega),sG⟩) ?_ ?_
 ·intro i σ H' hi hp;obtain⟨ans,rest,r1,r2,r3,r4,r5,rfl,hR,hA',D,hb,sH⟩:=(hPv _ _ _).mp hp;obtain⟨low,hlow⟩:∃low,n-i=low+1:=⟨n-i-1,by omega⟩
  rw[hlow]at D;have ei:(n:Int)-1+(i:Int) * -1=(low:Int):=by omega
  have ix:(low:Int)+(RS.length:Int)-1=((low+(RS.length-1):Nat):Int):=by omega
  have hlr:=D.lr;have hla':=D.la;have hin:low+(RS.length-1)<rest.length:=by omega
  have i64:(l+2)*i<=(l+2)*64:=fh _ (by omega)
  (iterate 3 (k_units;(try simp only[ei]));k_units)
  refine⟨_,.inl (sH.seq hB),?_⟩;rw[ac];simp only[ix];refine⟨_,SqL.of hR,_,en hin,?_⟩;have ct:co rest (low+(RS.length-1))=rest[low+(RS.length-1)]:=aE hin;have bt:=hb _ (bH hin);generalize rest[low+(RS.length-1)]=tp at ct bt ⊢;have bf:=D8 bt l0;refine⟨_,sH.seq hB,_,jo hne,tp,rfl,_,rfl,l0,bZ bl0 (fE (by decide) (by omega)),_,sH.seq hB,_,jo hne,_,rfl,bf.fits bl0 (by omega),?_⟩
  k_units
  refine bR (λh=>?_) (λh=>?_)
  ·rcases q with ⟨q0,_,hd,_⟩|⟨_,q⟩
   ·have z:=Ks nt hne D hd;rw[ct,elast]at z;exact absurd z h
   ·exact q _ sH
  have hf:tp.fdiv (RS.getLast hne)*RS.getLast hne=tp:=by simpa using h
  generalize tp.fdiv (RS.getLast hne)=f at hf bf ⊢;refine⟨_,hA',low,gF (by rw[ac];omega),?_⟩;rw[map_set];have s5:=sH.more fA (o:=.lst ((ans.set low f).map V.int));have R5:=(ar hRA:upd H' A0 (.lst ((ans.set low f).map V.int)) R=H' R).trans hR;have A5:upd H' A0 (.lst ((ans.set low f).map V.int)) A0=_:=ag;generalize upd H' A0 (.lst ((ans.set low f).map V.int))=H5 at s5 R5 A5 ⊢;refine⟨_,s5.seq hB,?_⟩;obtain⟨Pw,hPw⟩:∃Pw:Nat->L2.St->Hp->Prop,∀j σ Hx,Pw j σ Hx↔∃(rs:List Int) (r4 r5:Option V),σ=[some (V.ref a),some (V.ref b),some (V.ref R),some (V.int (n:Int)),some (V.ref A0),some (V.int (low:Int)),some (V.int tp),some (V.int f),r4,r5]∧Hx R=some (.lst (rs.map V.int))∧Hx A0=some (.lst ((ans.set low f).map V.int))∧rs.length=rest.length∧
   (∀u,co rs u=co rest u-if low<=u∧u<low+j then f*co RS (u-low) else 0)∧Same H Hx:=⟨_,λ_ _ _=>Iff.rfl⟩
  refine pP Pw ((hPw _ _ _).mpr ⟨rest,_,_,rfl,R5,A5,rfl,λu=>by rw[if_neg (by omega)];omega,s5⟩) (λj σ Hx _ z=>by obtain⟨_,_,_,_,_,_,_,_,z5⟩:=(hPw j σ Hx).mp z;exact z5.seq hB) ?_ ?_
  ·intro j v pt σ Hx hv hp' hpt;obtain⟨rs,r4,r5,rfl,xR,xA,xl,xc,xs⟩:=(hPw _ _ _).mp hp';have hj:j<RS.length:=by have:=(aU.mp hv).1;rw[ac]at this;exact this
   rw[aA,aj hj]at hv;obtain rfl:V.int RS[j]=v:=Option.some.inj hv;have st:=aw hpt (.tup [V.int j,V.int RS[j]]);have eij:(low:Int)+(j:Int)=((low+j:Nat):Int):=rfl
   k_units
   refine⟨_,SqT.of ag,rfl,?_⟩
   (iterate 3 (k_units;(try simp only[eij]));k_units)
   have hiz:low+j<rs.length:=by omega
   have yR:=st _ _ xR;have yA:=st _ _ xA;refine⟨_,SqL.of yR,_,en hiz,bf.fits (bl _ (bH hj)) (by omega),_,rfl,_,yR,low+j,gF (by rw[ac];exact hiz),(hPw _ _ _).mpr ⟨rs.set (low+j) (rs[low+j]-f*RS[j]),_,_,rfl,by rw[ag,map_set],by rw[ar (Ne.symm hRA)];exact yA,by rw[ik];exact xl,λu=>?_,(xs.trans st).more nR⟩⟩;rw[iX _ _ _ _ hiz];by_cases e:u=low+j
   ·subst e;have z:=xc (low+j);rw[if_neg (show ¬(low<=low+j∧low+j<low+j) by omega),aE hiz]at z;rw[if_pos (show low+j=low+j from rfl),if_pos (show low<=low+j∧low+j<low+(j+1) by omega),show low+j-low=j by omega,aE hj];omega
   ·rw[if_neg e,xc u];by_cases h3:low<=u∧u<low+j
    ·rw[if_pos h3,if_pos (show low<=u∧u<low+(j+1) by omega)]
    ·rw[if_neg h3,if_neg (show ¬(low<=u∧u<low+(j+1)) by omega)]
  ·intro σ Hx hp';obtain⟨rs,r4,r5,rfl,xR,xA,xl,xc,xs⟩:=(hPw _ _ _).mp hp';rw[ac]at xc;have D':DivAt one RS (ans.set low f) rs low:=Kq hne D (by omega) (by rw[elast,ct];exact hf) xl λu=>by
    rw[xc u];by_cases h3:low<=u
    ·rw[if_pos h3];by_cases h4:u<low+RS.length
     ·rw[if_pos ⟨h3,h4⟩]
     ·rw[if_neg (by omega),ay (xs:=RS) (by omega),c_]
    ·rw[if_neg (by omega),if_neg h3]
   refine (hPv _ _ _).mpr ⟨_,rs,_,_,_,_,_,rfl,xR,xA,by rw[show n-(i+1)=low by omega];exact D',λx hx=>?_,xs⟩;obtain⟨u,hu,rfl⟩:=dq.mp hx;have eu:=xc u;rw[aE hu,aE (show u<rest.length by omega)]at eu;have b1:=hb _ (bH (show u<rest.length by omega));have b2:Bd (k+(l+2)*i+1+l) (if low<=u∧u<low+RS.length then f*co RS (u-low) else 0):=by
    split
    ·rcases Gg (u-low) RS.length with z|z
     ·rw[aE z];exact bf.mul (bl _ (bH z))
     ·rw[ay z,c_];exact Bd.zero _
    ·exact Bd.zero _
   rw[eu];have e2:(l+2)*(i+1)=(l+2)*i+(l+2):=Ge _ _;exact ((b1.mono (by omega)).sub b2).mono (by omega)
 ·intro σ H' hp;obtain⟨ans,rest,r1,r2,r3,r4,r5,rfl,hR,hA',D,hb,sH⟩:=(hPv _ _ _).mp hp;rw[jJ]at D
  k_units
  refine fin rest ans r1 r2 r3 r4 r5 H' (λq hq=>Kr nt hne D q hq) (λhz=>⟨Dk D hz,?_⟩) hR hA' sH (by have:=D.lr;omega);by_cases ho:one=[]
  ·have:ans.length=0:=by have:=D.la;rw[ho]at this;simp at this;omega
   rw[bK this];exact cD
  ·exact Kt hne no ho D.la (Dk D hz)
theorem D9 {n:Nat}(h:n<=5000):n<sizeLine:=cZ h (by decide)
def af (xs:List Int):Nat:=xs.foldl (λg x=>bW x.natAbs g) 0
theorem qT (xs:List Int)(x:Int):af (xs++[x])=bW x.natAbs (af xs):=by unfold af;rw[List.foldl_append];rfl
theorem wT {b:Nat}(hb:0<b):∀xs:List Int,(∀x∈xs,x.natAbs<b)->af xs<b:=λxs=>by
 refine kY (P:=λxs=>(∀x∈xs,x.natAbs<b)->af xs<b) (λ_=>hb) (λxs x ih h=>?_) xs;rw[qT];by_cases z:x.natAbs=0
 ·rw[z,Nat.gcd_zero_left];exact ih λy hy=>h y (by simp[hy])
 ·exact cZ (Nat.gcd_le_left _ (by omega)) (h x (by simp))
theorem fQ (xs:List Int):∀x∈xs,((af xs:Nat):Int)∣x:=by
 refine kY (P:=λxs=>∀x∈xs,((af xs:Nat):Int)∣x) (by simp) (λxs y ih x hx=>?_) xs;rw[qT];rcases bj.mp hx with z|z
 ·exact fj (im.mpr (mC _ _)) (ih x z)
 ·rw[aQ.mp z];exact xQ.mp (im.mpr (mB _ _))
theorem jx (d:Nat)(xs:List Int):(∀x∈xs,(d:Int)∣x)->d∣af xs:=by
 refine kY (P:=λxs=>(∀x∈xs,(d:Int)∣x)->d∣af xs) (λ_=>Nat.dvd_zero d) (λxs y ih h=>?_) xs;rw[qT];refine rT ?_ (ih λx hx=>h x (by simp[hx]));exact im.mp (xQ.mpr (h y (by simp)))
def LB (K:PySem.W.Frag):Sp:=λvs H Q _=>∃(a:Addr) (xs:List Int),vs=[.ref a]∧SqL K H a (xs.map V.int)∧(∀x∈xs,Bd 900000 x)∧∀H',Same H H'->Q (.int (af xs:Nat)) H'
theorem wU {P:Program}{w:World}{K:PySem.W.Frag}{mg:Str->Option Value}{base:Heap}(T:Tx K mg):FnOk P w K mg base CX0 3 T.ON T.OO ["poly"] (LB K):=by
 refine T.Oa.ok sc_content (λvs H Q E h=>?_) (λcdv A outer s H vs Q E hr h=>?_)
 ·obtain⟨a,xs,rfl,_⟩:=h;rfl
 obtain⟨a,xs,rfl,hS,hb,q⟩:=h;refine⟨_,((ah (ax (i:=1) sc_content.nd rfl (Or.inl rfl) ai)
  (ah (cy PassesOwn.never rfl (dC (pv 0)) (bN (i:=2) sc_content.nd rfl (Or.inl rfl)) (ao (ax (i:=1) sc_content.nd rfl (Or.inl rfl) (aK (FnOk.mono (wR T) (by decide)) hr rfl T.OL T.N_.kp T.OM .nil aB (aa (pv 2) (aa (pv 1) ae))))))
  (ao (aM (pv 1)))))),?_⟩
 k_units
 refine⟨⟨_,hS⟩,?_⟩;obtain⟨Pv,hPv⟩:∃Pv:Nat->L2.St->Hp->Prop,∀i σ H',Pv i σ H'↔∃r:Option V,σ=[some (V.ref a),some (V.int (af (xs.take i):Nat)),r]∧Same H H':=⟨_,λ_ _ _=>Iff.rfl⟩
 refine pj (xs:=xs.map V.int) Pv ((hPv _ _ _).mpr ⟨_,rfl,Same.refl _⟩) (λi σ H' _ z=>by obtain⟨_,_,z⟩:=(hPv i σ H').mp z;exact z.seq hS) ?_ ?_
 ·intro i v σ H' hv hp;obtain⟨r,rfl,sP⟩:=(hPv _ _ _).mp hp;have hi:i<xs.length:=by have:=(aU.mp hv).1;rw[ac]at this;exact this
  rw[aA,aj hi]at hv;obtain rfl:V.int xs[i]=v:=Option.some.inj hv;have et:xs.take (i+1)=xs.take i++[xs[i]]:=by rw[de,aj hi];rfl
  k_units
  refine⟨_,_,rfl,?_,λH2 s2=>(hPv _ _ _).mpr ⟨some (V.int xs[i]),?_,sP.trans s2⟩⟩
  ·have:Bd 900000 ((af (xs.take i):Nat):Int):=by
    show ((af (xs.take i):Nat):Int).natAbs<2 ^ 900000;rw[dB];exact wT (dX _) _ λx hx=>hb x (iR hx)
   exact this.mono (by decide)
  ·rw[et,qT,dB]
 ·intro σ H' hp;obtain⟨r,rfl,sP⟩:=(hPv _ _ _).mp hp;rw[ac,fT]
  k_units
  exact q _ sP
def LC (K:PySem.W.Frag):Sp:=λvs H Q _=>∃(a:Addr) (xs:List Int) (c:Int),vs=[.ref a,.int c]∧SqL K H a (xs.map V.int)∧xs.length<=5000∧c≠0∧c.natAbs<2 ^ 9000∧dE H Q ((xs.map λx=>x.fdiv c).map V.int)
theorem wV {P:Program}{w:World}{K:PySem.W.Frag}{mg:Str->Option Value}{base:Heap}(T:Tx K mg):FnOk P w K mg base CX0 1 T.OR T.OS ["poly","number"] (LC K):=by
 refine T.Ob.ok KZ (λvs H Q E h=>?_) (λcdv A outer s H vs Q E hr h=>?_)
 ·obtain⟨a,xs,c,rfl,_⟩:=h;rfl
 obtain⟨a,xs,c,rfl,hS,hl,c0,cb,q⟩:=h;refine⟨_,((ao (aM (e_ rfl (dD rfl (dj rfl cM) (d_ 1 "number" (by decide) rfl (Or.inl rfl) (Or.inl rfl) ⟨_,rfl⟩ cV)) (dC (pv 0)) (λ_ _ _ _=>(ak jn (pv 0) (pv 1))))))),?_⟩
 k_units
 refine⟨⟨_,hS⟩,λC hC=>?_⟩;obtain⟨Pc,hPc⟩:∃Pc:Nat->Hp->Prop,∀i H',Pc i H'↔H' C=some (.lst (((xs.take i).map λx=>x.fdiv c).map V.int))∧Same H H':=⟨_,λ_ _=>Iff.rfl⟩
 refine ff (xs:=xs.map V.int) Pc ((hPc _ _).mpr ⟨by rw[ag];rfl,aw hC _⟩) (λi Hx _ z=>((hPc i Hx).mp z).2.seq hS) ?_ ?_
 ·intro i v Hx hv hc;obtain⟨k1,k2⟩:=(hPc _ _).mp hc;have hi:i<xs.length:=by have:=(aU.mp hv).1;rw[ac]at this;exact this
  rw[aA,aj hi]at hv;obtain rfl:V.int xs[i]=v:=Option.some.inj hv
  (iterate 3 (k_units;(try simp only[bst,dr]));k_units)
  have et:xs.take (i+1)=xs.take i++[xs[i]]:=by rw[de,aj hi];rfl
  refine⟨c0,cb,_,k1,D9 (by simp;omega),(hPc _ _).mpr ⟨?_,k2.more hC⟩⟩;rw[ag,et,aV,aV];rfl
 intro H1 hc;obtain⟨k1,k2⟩:=(hPc _ _).mp hc;rw[ac,fT]at k1;exact q C _ k2 hC k1
def bD (xs:List Int):List Int:=if xs≠[]∧co xs (xs.length-1)<0 then xs.map λx=>-x else xs
def LD (K:PySem.W.Frag):Sp:=λvs H Q _=>∃(a:Addr) (xs:List Int),vs=[.ref a]∧SqL K H a (xs.map V.int)∧xs.length<=1000∧dE H Q ((bD xs).map V.int)
theorem D_ {P:Program}{w:World}{K:PySem.W.Frag}{mg:Str->Option Value}{base:Heap}(T:Tx K mg):FnOk P w K mg base CX0 1 T.OV T.OW ["poly"] (LD K):=by
 refine T.OX.ok K0 (λvs H Q E h=>?_) (λcdv A outer s H vs Q E hr h=>?_)
 ·obtain⟨a,xs,rfl,_⟩:=h;rfl
 obtain⟨a,xs,rfl,hS,hl,q⟩:=h;refine⟨_,((ah (bY (PW.pt (jR (aO gT (aG aX rfl T.NF aZ (aa (pv 0) ae)) ai (aN _)) (jP (aO iT (aR bL (pv 0) (d8 d9 ai) (λ_ _=>rfl)) ai (aN _))))) (ao (aM (e_ rfl (dD rfl cM cV) (dC (pv 0)) (λ_ _ _ _=>(d8 d9 (pv 0)))))) b4)
  (ao (aM (iU jV rfl T.NK iC (aa (pv 0) ae)))))),?_⟩
 k_units
 refine⟨_,.inl hS,?_⟩;rw[ac];unfold bD at q;have lst:¬(xs≠[]∧co xs (xs.length-1)<0)->∃x,(SqL K H a x∨SqT K H a x)∧∀l,H l=none->Q (V.ref l) (upd H l (HO.lst x)):=λh=>by
  rw[if_neg h]at q;exact⟨_,.inl hS,λl hl=>q l _ (aw hl _) hl ag⟩
 refine bR (λh=>?_) (λh=>lst λz=>?_)
 ·have hne:xs≠[]:=by intro z;rw[z]at h;simp at h
  refine⟨_,hS,_,jo hne,?_⟩
  k_units
  have ec:co xs (xs.length-1)=xs.getLast hne:=by rw[aE (by omega),Gi]
  refine bR (λh0=>?_) (λh0=>lst λz=>h0 (by rw[←ec];exact z.2));rw[if_pos ⟨hne,by rw[ec];exact h0⟩]at q;refine⟨⟨_,hS⟩,λC hC=>?_⟩;obtain⟨Pc,hPc⟩:∃Pc:Nat->Hp->Prop,∀i H',Pc i H'↔H' C=some (.lst (((xs.take i).map λx=>-x).map V.int))∧Same H H':=⟨_,λ_ _=>Iff.rfl⟩
  refine ff (xs:=xs.map V.int) Pc ((hPc _ _).mpr ⟨by rw[ag];rfl,aw hC _⟩) (λi Hx _ z=>((hPc i Hx).mp z).2.seq hS) ?_ ?_
  ·intro i v Hx hv hc;obtain⟨k1,k2⟩:=(hPc _ _).mp hc;have hi:i<xs.length:=by have:=(aU.mp hv).1;rw[ac]at this;exact this
   rw[aA,aj hi]at hv;obtain rfl:V.int xs[i]=v:=Option.some.inj hv
   (iterate 3 (k_units;(try simp only[bst,dr]));k_units)
   have et:xs.take (i+1)=xs.take i++[xs[i]]:=by rw[de,aj hi];rfl
   refine⟨_,k1,bC (by simp;omega),(hPc _ _).mpr ⟨?_,k2.more hC⟩⟩;rw[ag,et,aV,aV];rfl
  intro H1 hc;obtain⟨k1,k2⟩:=(hPc _ _).mp hc;rw[ac,fT]at k1;exact q C _ k2 hC k1
 ·have:0<xs.length:=cK.mpr z.1;omega
def LF (K:PySem.W.Frag):Sp:=λvs H Q _=>∃(a:Addr) (xs:List Int),vs=[.ref a]∧SqL K H a (xs.map V.int)∧xs≠[]∧xs.length<=1000∧∀(M:Nat) H',Same H H'->(∀x∈xs,x.natAbs<=M)->(∃x∈xs,x.natAbs=M)->Q (.int (M:Int)) H'
theorem Ea {P:Program}{w:World}{K:PySem.W.Frag}{mg:Str->Option Value}{base:Heap}(T:Tx K mg):FnOk P w K mg base CX0 1 T.O0 T.O8 ["poly"] (LF K):=by
 refine T.O9.ok K1 (λvs H Q E h=>?_) (λcdv A outer s H vs Q E hr h=>?_)
 ·obtain⟨a,xs,rfl,_⟩:=h;rfl
 obtain⟨a,xs,rfl,hS,hne,hl,q⟩:=h;refine⟨_,((ao (aM (aG (JJ rfl) rfl T.NU jX (aa (e_ rfl (dD rfl cM cV) (dC (pv 0)) (λ_ _ _ _=>(aG kJ rfl T.N5 kU (aa (pv 0) ae)))) ae))))),?_⟩
 (iterate 3 (k_units;(try simp only[lN]));k_units)
 refine⟨⟨_,hS⟩,λC hC=>?_⟩;obtain⟨Pc,hPc⟩:∃Pc:Nat->Hp->Prop,∀i H',Pc i H'↔H' C=some (.lst (((xs.take i).map λx=>((x.natAbs:Nat):Int)).map V.int))∧Same H H':=⟨_,λ_ _=>Iff.rfl⟩
 refine ff (xs:=xs.map V.int) Pc ((hPc _ _).mpr ⟨by rw[ag];rfl,aw hC _⟩) (λi Hx _ z=>((hPc i Hx).mp z).2.seq hS) ?_ ?_
 ·intro i v Hx hv hc;obtain⟨k1,k2⟩:=(hPc _ _).mp hc;have hi:i<xs.length:=by have:=(aU.mp hv).1;rw[ac]at this;exact this
  rw[aA,aj hi]at hv;obtain rfl:V.int xs[i]=v:=Option.some.inj hv
  (iterate 3 (k_units;(try simp only[bst,dr,lN]));k_units)
  have et:xs.take (i+1)=xs.take i++[xs[i]]:=by rw[de,aj hi];rfl
  refine⟨_,k1,bC (by simp;omega),(hPc _ _).mpr ⟨?_,k2.more hC⟩⟩;rw[ag,et,aV,aV];rfl
 intro H1 hc;obtain⟨k1,k2⟩:=(hPc _ _).mp hc;rw[ac,fT]at k1;refine⟨C,rfl,_,SqL.of k1,by simpa using hne,λM hM1 hM2=>?_⟩;obtain⟨x,hx,rfl⟩:=aW.mp hM1;exact q _ _ k2 (λy hy=>by have:=hM2 _ (aW.mpr ⟨y,hy,rfl⟩);omega) ⟨x,hx,rfl⟩
def LG (K:PySem.W.Frag):Sp:=λvs H Q _=>∃(n b:Int) (k:Nat),vs=[.int n,.int b]∧0<n∧2 ^ k*n<b ^ k∧k<=900∧29<=b∧b.natAbs<2 ^ 9000∧
 ∀f:List Int,val b f=n->(∀x∈f,2*x.natAbs<=b.natAbs)->f≠[]->0<co f (f.length-1)->f.length<=900->dE H Q (f.map V.int)
theorem LI {P:Program}{w:World}{K:PySem.W.Frag}{mg:Str->Option Value}{base:Heap}(T:Tx K mg):FnOk P w K mg base CX0 1 T.OY T.OZ ["number","base"] (LG K):=by
 refine T.Qv.ok sc_spread (λvs H Q E h=>?_) (λcdv A outer s H vs Q E hr h=>?_)
 ·obtain⟨n,b,k,rfl,_⟩:=h;rfl
 obtain⟨n,b,k0,rfl,n0,nb,k9,b29,bb,q⟩:=h;refine⟨_,((ah (ax (i:=2) sc_spread.nd rfl (Or.inl rfl) (bU ae))
  (ah (ga PassesOwn.never (aO iS (pv 0) ai (aN _)) (ah (ax (i:=3) sc_spread.nd rfl (Or.inl rfl) (ak fK (pv 0) (pv 1)))
  (iD (bY (aO gT (ak iB ai (pv 3)) (pv 1) (aN _)) (ao (vi (i:=3) sc_spread.nd rfl (Or.inl rfl) (pv 1) vn)) b4)
  (ah (e7 (gD PySem.F.plainAttrs_list PySem.F.slot_list_append PySem.F.type_list_append fM (pv 2) (aa (pv 3) ae)))
  (ao (ax (i:=0) sc_spread.nd rfl (Or.inl rfl) (ak jn (ak dg (pv 0) (pv 3)) (pv 1))))))))
  (ao (aM (pv 2)))))),?_⟩
 k_units
 refine⟨aI _,λA0 hA=>?_⟩;refine gg (λm σ H'=>∃(n':Int) (ds:List Int) (k:Nat) (r:Option V),m=n'.natAbs∧σ=[some (V.int n'),some (V.int b),some (V.ref A0),r]∧H' A0=some (.lst (ds.map V.int))∧Same H H'∧0<=n'∧2 ^ k*n'<b ^ k∧ds.length+k<=k0∧(∀x∈ds,2*x.natAbs<=b.natAbs)∧(0<n'∨ds≠[]∧0<co ds (ds.length-1))∧∀rest,val b rest=n'->val b (ds++rest)=n) n.natAbs ?_ ?_
 ·exact⟨n,[],k0,none,rfl,rfl,ag,aw hA _,by omega,nb,by simp,by simp,.inl n0,λrest h=>h⟩
 rintro m σ H' ⟨n',ds,k,r,rfl,rfl,hz,sz,h0,hk,hl,hb,hp,hv⟩
 k_units
 refine bR (λh=>?_) (λh=>?_)
 ·have hn:n'≠0:=by simpa using h
  refine⟨λσ' H1=>∃low t:Int,σ'=[some (V.int t),some (V.int b),some (V.ref A0),some (V.int low)]∧H1=upd H' A0 (.lst ((ds++[low]).map V.int))∧n'=low+b*t∧2*low.natAbs<=b.natAbs∧0<=t,?_,by omega,?_⟩
  ·rintro σ' H1 ⟨low,t,rfl,rfl,hnt,hlow,ht⟩
   have tb:b*t<=2*n':=by
    by_cases z:t=0
    ·rw[z];omega
    ·have z1:b*1<=b*t:=gL (by omega) (by omega);generalize b*t=X at z1 hnt ⊢;omega
   have tn:t<n':=by
    by_cases z:t=0
    ·omega
    ·have z2:29*t<=b*t:=xL b29 ht;omega
   obtain⟨k',rfl⟩:∃k',k=k'+1:=⟨k-1,by
    by_cases z:k=0
    ·rw[z]at hk;simp at hk;omega
    ·omega⟩
   refine⟨t.natAbs,by omega,t,rfl,ds++[low],k',_,rfl,ag,sz.more hA,ht,?_,by simp;omega,λx hx=>?_,?_,λrest hr'=>?_⟩
   ·rw[jH,jH]at hk;have e1:2 ^ k'*(b*t)<=2 ^ k'*(2*n'):=gL tb (Int.pow_nonneg (by decide));have e2:(2:Int) ^ k'*(2*n')=2 ^ k'*2*n':=by grind
    have e3:(2 ^ k'*t)*b<b ^ k'*b:=by
     have:(2:Int) ^ k'*(b*t)=(2 ^ k'*t)*b:=by grind
     omega
    exact Int.lt_of_mul_lt_mul_right e3 (by omega)
   ·rcases bj.mp hx with z|z
    ·exact hb x z
    ·rw[aQ.mp z];exact hlow
   ·by_cases z:t=0
    ·refine .inr ⟨by simp,?_⟩;rw[show (ds++[low]).length-1=ds.length by simp,j1,if_pos rfl];rw[z,c_]at hnt;omega
    ·exact .inl (by omega)
   ·rw[FY];refine hv ([low]++rest) ?_;show low+b*val b rest=n';rw[hr',hnt]
  ·obtain⟨M,hM⟩:∃M:L2.St->Hp->Prop,∀σ H1,M σ H1↔∃low t:Int,σ=[some (V.int n'),some (V.int b),some (V.ref A0),some (V.int low)]∧H1=H'∧n'=low+b*t∧2*low.natAbs<=b.natAbs∧0<=t:=⟨_,λ_ _=>Iff.rfl⟩
   have m1:=Int.emod_nonneg n' (show b≠0 by omega);have m2:=Int.emod_lt_of_pos n' (show 0<b by omega);have m3:=Int.emod_add_mul_ediv n' b;have m4:=Int.ediv_nonneg h0 (show 0<=b by omega);have bb':=bb;clear hk bb nb;refine gY M ?_ ?_
   ·k_units
    refine⟨.inl ⟨by decide,by decide⟩,bR (λh2=>(hM _ _).mpr ⟨_,n' / b+1,rfl,rfl,?_,by omega,by omega⟩) (λh2=>(hM _ _).mpr ⟨_,n' / b,rfl,rfl,by omega,by omega,m4⟩)⟩;rw[jE,xu];omega
   ·intro σ H1 hm;obtain⟨low,t,rfl,rfl,hnt,hlow,ht⟩:=(hM _ _).mp hm
    k_units
    have et:(n'-low).fdiv b=t:=by
     rw[show n'-low=b*t by omega];exact my _ (by omega)
    rw[et];refine⟨fV (SqL.of hz),_,hz,bC (by simp;omega),by omega,bb',by rw[aV];rfl,hnt,hlow,ht⟩
 ·have e0:n'=0:=by simpa using h
  subst e0;rcases hp with z|⟨z1,z2⟩
  ·omega
  have v:=hv [] rfl;rw[rD]at v;exact q ds v hb z1 z2 (by omega) A0 _ sz hA hz
structure Two (a b g:List Int)(G:Nat):Prop where
 na:Nml a
 nb:Nml b
 a0:a≠[]
 b0:b≠[]
 la:a.length<=40
 lb:b.length<=40
 ba:∀z∈a,Bd 5000 z
 bb:∀z∈b,Bd 5000 z
 pg:gH (co g)
 ng:Nml g
 lg:g.length<=40
 up:0<co g (g.length-1)
 bG:Bd 4480 (G:Int)
 da:∃x,Div a g x
 db:∃y,Div b g y
 bz:∃(U V:List Int) (m:Int),m≠0∧(∀z∈g,m.natAbs*z.natAbs<=G)∧∀n,val n U*val n a+val n V*val n b=m*val n g
theorem Eb {p:Int}(hp:1<=p){a:List Int}(na:Nml a)(a0:a≠[])(h:∀z∈a,2*z.natAbs<=p.natAbs):val p a≠0:=by
 have l0:=cN na a0;rcases rV l0 with g|g
 ·have e:∀j,co (a.map λz=>-1*z) j=-1*co a j:=λj=>by
   by_cases h:j<a.length
   ·rw[aE (xs:=a.map _) (by simpa using h),aE h,bO]
   ·rw[ay (xs:=a.map _) (by simp;omega),ay (by omega),c_]
  have:=(qI hp (a.map λz=>-1*z) (by simpa using a0) (λx hx=>by
   obtain⟨z,hz,rfl⟩:=aW.mp hx;have:=h z hz;omega) (by rw[ac,e];omega)).2
  rw[aS]at this;omega
 ·have:=(qI hp a a0 h g).2;omega
theorem Ec {p:Int}(hp:1<=p):∀a:List Int,(∀z∈a,2*z.natAbs<=p.natAbs)->(val p a).natAbs<p.natAbs ^ a.length
 | [],_=>by simp[val]
 | x :: a,h=>by
  have i:=Ec hp a λz hz=>h z (by simp[hz]);have hx:=h x (by simp);have e:val p (x :: a)=x+p*val p a:=rfl;rw[e,ck,jC];have m:p.natAbs*((val p a).natAbs+1)<=p.natAbs*p.natAbs ^ a.length:=fh _ i;rw[Nat.mul_add,rW,gI _ (p.natAbs ^ a.length)]at m;have n:(p*val p a).natAbs=p.natAbs*(val p a).natAbs:=bV _ _;omega
theorem few {p L:Nat}(hp:29<=p)(h:p ^ L<2 ^ L*p ^ 40):L<=52:=by
 refine rJ λhl=>?_;obtain⟨r,rfl⟩:∃r,L=52+r:=⟨L-52,by omega⟩
 have e1:p ^ (52+r)=p ^ 40*(p ^ 12*p ^ r):=by rw[←dm,←dm];congr 1;omega
 have e2:(2:Nat) ^ (52+r)=2 ^ 52*2 ^ r:=dm 2 52 r;have m1:29 ^ 12<=p ^ 12:=rX hp 12;have m2:2 ^ r<=p ^ r:=rX (by omega) r;have m3:2 ^ 52*2 ^ r<=p ^ 12*p ^ r:=eC (by omega) m2;rw[e1,e2,gI (2 ^ 52*2 ^ r)]at h;exact absurd h (Nat.not_lt.mpr (fh (p ^ 40) m3))
theorem LJ {p:Nat}(hp:29<=p){n:Nat}(h:n<p ^ 40):2 ^ 60*n<p ^ 60:=by
 have e1:p ^ 60=p ^ 20*p ^ 40:=by rw[←dm]
 have m1:29 ^ 20<=p ^ 20:=rX hp 20;have m2:2 ^ 60*n<29 ^ 20*p ^ 40:=by
  refine cZ (fS n (show 2 ^ 60<=29 ^ 20 by decide)) (Gd h (by decide))
 rw[e1];exact bZ m2 (fS _ m1)
theorem Ed (f:Nat->Int)(c:Int)(j:Nat):pm f (λi=>if i=0 then c else 0) j=c*f j:=by
 unfold pm;rw[k7 (i:=j) (by omega) λi hi hne=>?_]
 ·show f j*(if j-j=0 then c else 0)=_;rw[if_pos (jJ j),dY]
 ·show f i*(if j-i=0 then c else 0)=0;rw[if_neg (by omega),c_]
theorem LK {a b g:List Int}{G:Nat}(tw:Two a b g G){p:Int}{M:Nat}(hp:2*(M:Int)+29<=p)(hM:(∀z∈a,z.natAbs<=M)∨(∀z∈b,z.natAbs<=M)):
  (0<bW (val p a).natAbs (val p b).natAbs∧bW (val p a).natAbs (val p b).natAbs<p.natAbs ^ 40)∧∀f:List Int,val p f=(bW (val p a).natAbs (val p b).natAbs:Nat)->(∀x∈f,2*x.natAbs<=p.natAbs)->f≠[]->0<co f (f.length-1)->
   f.length<=60∧0<af f∧Nml (f.map λx=>x.fdiv (af f))∧(∀qa qb,Div a (f.map λx=>x.fdiv (af f)) qa->Div b (f.map λx=>x.fdiv (af f)) qb->f.map (λx=>x.fdiv (af f))=g)∧(2*(G:Int)+1<=p->f.map (λx=>x.fdiv (af f))=g):=by
 obtain⟨U,V,m,m0,hG,bz⟩:=tw.bz;obtain⟨x,hx⟩:=tw.da;obtain⟨y,hy⟩:=tw.db;have vx:=gm.mp hx;have vy:=gm.mp hy;have small:∃d:List Int,(val p d≠0∧(val p d).natAbs<p.natAbs ^ 40)∧(bW (val p a).natAbs (val p b).natAbs)∣(val p d).natAbs:=by
  have pw:∀d:List Int,d.length<=40->(∀z∈d,z.natAbs<=M)->(val p d).natAbs<p.natAbs ^ 40:=λd hd hz=>
   bZ (Ec (by omega) d λz hz'=>by have:=hz z hz';omega) (fE (by omega) hd)
  rcases hM with h|h
  ·exact⟨a,⟨Eb (by omega) tw.na tw.a0 λz hz=>by have:=h z hz;omega,pw a tw.la h⟩,mB _ _⟩
  ·exact⟨b,⟨Eb (by omega) tw.nb tw.b0 λz hz=>by have:=h z hz;omega,pw b tw.lb h⟩,mC _ _⟩
 obtain⟨d,⟨d0,dl⟩,dd⟩:=small;have gpos:0<bW (val p a).natAbs (val p b).natAbs:=iQ λz=>by
  rw[z]at dd;exact d0 (Int.natAbs_eq_zero.mp (xH dd))
 have gle:=mw (iP.mpr d0) dd;refine⟨⟨gpos,cZ gle dl⟩,λf fv fs f0 ft=>?_⟩;have fl:f.length<=60:=by
  have t:=(qI (by omega) f f0 fs ft).1;rw[fv]at t;have e:(p.natAbs:Int)=p:=by omega
  have t':p.natAbs ^ (f.length-1)<=2 ^ (f.length-1)*bW (val p a).natAbs (val p b).natAbs:=by
   have:((p.natAbs ^ (f.length-1):Nat):Int)<=((2 ^ (f.length-1)*bW (val p a).natAbs (val p b).natAbs:Nat):Int):=by
    rw[xS,iq,xS,e];exact t
   exact Int.ofNat_le.mp this
  have:=few (p:=p.natAbs) (L:=f.length-1) (by omega) (cZ t' (Gd (by omega) (dX _)));omega
 have hl:f.length-1<f.length:=by have:=cK.mpr f0;omega
 have cpos:0<af f:=iQ λz=>by
  have:=fQ f _ (bH hl);rw[z]at this;have:=xJ.mp (by simpa using this);rw[aE hl,this]at ft;omega
 have c0:((af f:Nat):Int)≠0:=by omega
 have fz:∀z∈f,((af f:Nat):Int)*z.fdiv (af f:Nat)=z:=λz hz=>by
  obtain⟨t,ht⟩:=fQ f z hz;rw[ht,my _ c0]
 have fc:∀j,co f j=((af f:Nat):Int)*co (f.map λx=>x.fdiv (af f:Nat)) j:=λj=>by
  by_cases hj:j<f.length
  ·rw[aE hj,aE (xs:=f.map _) (by simpa using hj),bO];exact (fz _ (bH hj)).symm
  ·rw[ay (by omega),ay (xs:=f.map _) (by simp;omega),c_]
 have vf:val p f=((af f:Nat):Int)*val p (f.map λx=>x.fdiv (af f:Nat)):=by
  rw[←aS];refine f7 (λj=>?_) p;rw[fc j];by_cases hj:j<f.length
  ·rw[aE (xs:=(f.map _).map _) (by simpa using hj),bO,aE (xs:=f.map _) (by simpa using hj)]
  ·rw[ay (xs:=f.map _) (by simp;omega),ay (xs:=(f.map _).map _) (by simp;omega),c_]
 have fs':∀z∈f.map (λx=>x.fdiv (af f:Nat)),2*(((af f:Nat):Int)*z).natAbs<=p.natAbs:=λz hz=>by
  obtain⟨x,hx,rfl⟩:=aW.mp hz;rw[fz x hx];exact fs x hx
 have fl':(f.map λx=>x.fdiv (af f:Nat)).length=f.length:=ac _;have ft':0<co (f.map λx=>x.fdiv (af f:Nat)) (f.length-1):=by
  rw[fc]at ft;exact Nt ft (by omega)
 have fp:gH (co (f.map λx=>x.fdiv (af f:Nat))):=λe he=>by
  have:e*af f∣af f:=jx _ f λz hz=>by
   obtain⟨j,hj,rfl⟩:=dq.mp hz;rw[←aE hj,fc j,iq,dY];exact F6 _ (he j)
  obtain⟨t,ht⟩:=this;have:af f*1=af f*(e*t):=by rw[rW,←jb,gI _ e];exact ht
  have:=Nu cpos this;exact (xT this.symm)
 generalize hf':(f.map λx=>x.fdiv (af f:Nat))=f' at *;generalize af f=c at *;have f0':f'≠[]:=cK.mp (by omega);have fn':Nml f':=fB.mpr λz hz=>by
  rw[i6,fl',aj (by omega)]at hz;rw[aE (by omega)]at ft';rw[←Option.some.inj hz];omega
 obtain⟨h,hh⟩:((val p g).natAbs)∣bW (val p a).natAbs (val p b).natAbs:=rT (by rw[vx p,bV];exact Nat.dvd_mul_right _ _) (by rw[vy p,bV];exact Nat.dvd_mul_right _ _);have h1:1<=h:=iQ λz=>by rw[z,Nat.mul_zero]at hh;omega
 have fpos:0<val p f':=by
  have:0<(c:Int)*val p f':=by rw[←vf,fv];omega
  exact Nt this (by omega)
 have hv:(c:Int)*val p f'=(h:Int)*((val p g).natAbs:Int):=by rw[←vf,fv,hh,iq,dY]
 refine⟨fl,cpos,fn',λqa qb da db=>?_,λhpG=>?_⟩
 ·rcases KD (c:=c) (h:=h) hp fp fn' f0' (by omega) fs' tw.pg tw.ng hx hy (hM.imp (λz=>⟨tw.a0,tw.na,z⟩) λz=>⟨tw.b0,tw.nb,z⟩) da db m0 bz (by omega) fpos hv with e|e
  ·exact e
  ·exfalso;have lg:f'.length=g.length:=by rw[e,ac]
   rw[←fl',e]at ft';rw[ac]at ft';have hg:g.length-1<g.length:=by have:=cK.mpr f0';omega
   rw[aE (xs:=g.map _) (by simpa using hg),bO]at ft';have:=tw.up;rw[aE hg]at this;omega
 ·have hm:h∣m.natAbs:=by
   have dv:(bW (val p a).natAbs (val p b).natAbs:Int)∣m*val p g:=by
    rw[←bz p];exact xI (fj (xQ.mp (im.mpr (mB _ _))) (kD _ _)) (fj (xQ.mp (im.mpr (mC _ _))) (kD _ _))
   have dn:=mv.mpr dv;rw[dB,bV,hh,gI m.natAbs]at dn;have gp:0<(val p g).natAbs:=iQ λz=>by rw[z,Nat.zero_mul]at hh;omega
   exact Nat.dvd_of_mul_dvd_mul_left gp dn
  have hle:=mw (iP.mpr m0) hm;have m1:=iP.mpr m0;have g0:g≠[]:=λz=>by have:=tw.up;rw[z]at this;simp[co]at this
  have gs:∀z∈g,2*z.natAbs<=p.natAbs:=λz hz=>by
   have:=hG z hz;have:z.natAbs<=m.natAbs*z.natAbs:=gB _ m1;omega
  have gpos':=(qI (by omega) g g0 gs tw.up).2;have hc:∀k,co f k=co (g.map λz=>(h:Int)*z) k:=KE (by omega) f _ fs (λz hz=>by
   obtain⟨y,hy,rfl⟩:=aW.mp hz;have h2:=hG y hy;have h3:h*y.natAbs<=m.natAbs*y.natAbs:=fS _ hle;rw[bV,dB];omega) (by rw[aS,vf,hv];congr 1;omega)
  have hc':∀k,(c:Int)*co f' k=(h:Int)*co g k:=λk=>by
   rw[←fc k,hc k];by_cases hj:k<g.length
   ·rw[aE (xs:=g.map _) (by simpa using hj),aE hj,bO]
   ·rw[ay (xs:=g.map _) (by simp;omega),ay (by omega),c_]
  have hc1:h∣c:=by
   refine im.mp (Classical.byContradiction λhno=>?_);have z:=qF fp h h1 (λj=>if j=0 then (c:Int) else 0) (λj=>by
    rw[Ed,hc' j];exact i9 _ _) 0
   exact hno (by simpa using z)
  have hc2:c∣h:=by
   refine im.mp (Classical.byContradiction λhno=>?_);have z:=qF tw.pg c cpos (λj=>if j=0 then (h:Int) else 0) (λj=>by
    rw[Ed,←hc' j];exact i9 _ _) 0
   exact hno (by simpa using z)
  have ch:c=h:=Gh hc2 hc1;refine gj fn' tw.ng λk=>?_;have:=hc' k;rw[ch]at this;exact mE (by omega) this
def LM (K:PySem.W.Frag):Sp:=λvs H Q _=>∃(p q:Addr) (a b g:List Int) (G:Nat),vs=[.ref p,.ref q]∧SqL K H p (a.map V.int)∧SqL K H q (b.map V.int)∧Two a b g G∧dE H Q (g.map V.int)
theorem Ee {one RS q:List Int}(h:Div one RS q):Div one RS (aF q):=λk=>by
 rw[h k];unfold pm;exact cQ λj _=>by rw[cP]
theorem Ef {K:PySem.W.Frag}{c:Addr}{H:Hp}{h1 h2:Addr}{one RS:List Int}{k l:Nat}{R:VK}(a1:SqL K H h1 (one.map V.int)) (a2:SqL K H h2 (RS.map V.int)) (l1:one.length<=64) (l2:RS.length<=64) (n1:Nml one) (n2:Nml RS) (hne:RS≠[])
  (b1:∀x∈one,Bd k x) (b2:∀y∈RS,Bd l y) (hk:k<=100000) (hl:l<=8995)
  (hR:∀x H',Same H H'->((x=.non∧∀q,¬Div one RS q)∨∃(F:Addr) (q:List Int),x=.ref F∧H F=none∧H' F=some (.lst (q.map V.int))∧Nml q∧Div one RS q)->R x H'):
  D7 K c [.ref h1,.ref h2] H R E0:=by
 refine⟨h1,h2,one,RS,k,l,rfl,a1,a2,l1,l2,n1,n2,b1,b2,hk,by omega,.inr ⟨hne,?_⟩⟩;by_cases hq:∃q,Div one RS q
 ·obtain⟨q,hq⟩:=hq;exact .inl ⟨aF q,cC q,Ee hq,λF H' s f e=>hR _ _ s (.inr ⟨F,aF q,rfl,f,e,cC q,Ee hq⟩)⟩
 ·exact .inr ⟨λq h=>hq ⟨q,h⟩,λH' s=>hR _ _ s (.inl ⟨rfl,λq h=>hq ⟨q,h⟩⟩)⟩
theorem qU {k l:Nat}{n:Int}(hn:Bd l n):∀xs:List Int,(∀x∈xs,Bd k x)->Bd (k+(l+1)*xs.length) (val n xs)
 | [],_=>Bd.zero _
 | x :: xs,h=>by
  have i:=qU hn xs λy hy=>h y (by simp[hy]);have e:val n (x :: xs)=x+n*val n xs:=rfl;rw[e,ck,Ge];exact (((h x (by simp)).mono (l:=l+(k+(l+1)*xs.length)) (by omega)).add (hn.mul i)).mono (by omega)
theorem LN {P:Program}{w:World}{K:PySem.W.Frag}{mg:Str->Option Value}{base:Heap}(T:Tx K mg):FnOk P w K mg base CX0 4 T.O_ T.Pa ["one","other"] (LM K):=by
 refine T.Qy.ok sc_bare_common (λvs H Q E h=>?_) (λcdv A outer s H vs Q E hr h=>?_)
 ·obtain⟨p,q,a,b,g,G,rfl,_⟩:=h;rfl
 obtain⟨pa,pb,a,b,g,G,rfl,hA,hB,tw,q⟩:=h;refine⟨_,((ah (ax (i:=2) sc_bare_common.nd rfl (Or.inl rfl) (ak ci (ak iB ai (aG (BS rfl) rfl T.Qn vT (aa (aK (FnOk.mono (Ea T) (by decide)) hr rfl T.Qw T.O9.kp T.Qx .nil aB (aa (pv 0) ae)) (aa (aK (FnOk.mono (Ea T) (by decide)) hr rfl T.Qw T.O9.kp T.Qx .nil aB (aa (pv 1) ae)) ae)))) ai))
  (ao (ga PassesOwn.never (jO jN) (ah (ax (i:=3) sc_bare_common.nd rfl (Or.inl rfl) (aK (FnOk.mono (LI T) (by decide)) hr rfl T.Q7 T.Qv.kp T.Q8 .nil aB (aa (aK (FnOk.mono (wR T) (by decide)) hr rfl T.OL T.N_.kp T.OM .nil aB (aa (aK (FnOk.mono (wO T) (by decide)) hr rfl T.OB T.N8.kp T.OC .nil aB (aa (pv 0) (aa (pv 2) ae))) (aa (aK (FnOk.mono (wO T) (by decide)) hr rfl T.OB T.N8.kp T.OC .nil aB (aa (pv 1) (aa (pv 2) ae))) ae))) (aa (pv 2) ae))))
  (ah (ax (i:=3) sc_bare_common.nd rfl (Or.inl rfl) (aK (FnOk.mono (wV T) (by decide)) hr rfl T.OT T.Ob.kp T.OU .nil aB (aa (pv 3) (aa (aK (FnOk.mono (wU T) (by decide)) hr rfl T.OP T.Oa.kp T.OQ .nil aB (aa (pv 3) ae)) ae))))
  (ah (bY (PW.pt (jR (aO jT (aK (FnOk.mono (wS T) (by decide)) hr rfl T.OF T.N9.kp T.OG .nil v8 (aa (pv 0) (aa (pv 3) ae))) df (aN _)) (jP (aO jT (aK (FnOk.mono (wS T) (by decide)) hr rfl T.OF T.N9.kp T.OG .nil v8 (aa (pv 1) (aa (pv 3) ae))) df (aN _))))) (ao (aM (pv 3))) b4)
  (ao (ax (i:=2) sc_bare_common.nd rfl (Or.inl rfl) (ak ci (ak eJ (pv 2) (pv 2)) ai)))))))))),?_⟩
 k_units
 refine⟨pa,a,rfl,hA,tw.a0,by have:=tw.la;omega,λMa H1 s1 ma1 ma2=>⟨pb,b,rfl,s1.seq hB,tw.b0,by have:=tw.lb;omega,λMb H2 s2 mb1 mb2=>⟨_,rfl,_,rfl,.inl ⟨by decide,by decide⟩,?_⟩⟩⟩;have big:∀(M:Nat) (xs:List Int),(∀z∈xs,Bd 5000 z)->(∃z∈xs,z.natAbs=M)->Bd 5000 (M:Int):=λM xs hb ⟨z,hz,e⟩=>by rw[←e];exact hb z hz
 obtain⟨M,hMe,hM,hMb⟩:∃M:Nat,(2*if (Mb:Int)<(Ma:Int) then (Mb:Int) else (Ma:Int))+29=2*(M:Int)+29∧((∀z∈a,z.natAbs<=M)∨(∀z∈b,z.natAbs<=M))∧Bd 5000 (M:Int):=by
  by_cases h:(Mb:Int)<(Ma:Int)
  ·exact⟨Mb,by rw[if_pos h],.inr mb1,big _ _ tw.bb mb2⟩
  ·exact⟨Ma,by rw[if_neg h],.inl ma1,big _ _ tw.ba ma2⟩
 rw[hMe];have s3:=s1.trans s2;have bp0:Bd 8990 (2*(M:Int)+29):=(((Bd.of_lt (k:=2) (m:=3) (by decide) (by decide):Bd 2 (2:Int)).mul hMb).add ((Bd.of_lt (m:=30) (by decide) (by decide):Bd 5 (29:Int)).mono (by decide))).mono (by decide);refine gg (λk σ H'=>∃(p:Int) (r:Option V),k=(2*(G:Int)+1-p).toNat∧σ=[some (V.ref pa),some (V.ref pb),some (V.int p),r]∧Same H H'∧2*(M:Int)+29<=p∧Bd 8990 p) (2*(G:Int)+1-(2*(M:Int)+29)).toNat ⟨_,none,rfl,rfl,s3,by omega,bp0⟩ ?_
 rintro k σ H' ⟨p,r,rfl,rfl,sP,hp,bp⟩
 k_units
 obtain⟨⟨gpos,glt⟩,fi⟩:=LK tw hp hM;obtain⟨xg,hxg⟩:=tw.da;obtain⟨yg,hyg⟩:=tw.db;have la:=tw.la;have lb:=tw.lb;have bG:=tw.bG;have bva:=qU bp a tw.ba;have bvb:=qU bp b tw.bb;have bva':Bd 400000 (val p a):=bva.mono (by omega);have bvb':Bd 400000 (val p b):=bvb.mono (by omega);refine⟨λσ' H1=>∃r:Option V,σ'=[some (V.ref pa),some (V.ref pb),some (V.int (p*p+1)),r]∧Same H H1∧p<2*(G:Int)+1,?_,?_⟩
 ·rintro σ' H1 ⟨r,rfl,sN,hG⟩
  have pp:29*p<=p*p:=xL (by omega) (by omega);have b2G:Bd 4482 (2*(G:Int)):=((Bd.of_lt (k:=2) (m:=3) (by decide) (by decide):Bd 2 (2:Int)).mul bG).mono (by decide);have bq:Bd 4482 p:=cZ (show p.natAbs<=(2*(G:Int)).natAbs by omega) b2G;have bpp:=((bq.mul bq).add (Bd.one (by decide))).mono (l:=8990) (by decide);refine⟨_,?_,p*p+1,rfl,r,rfl,sN,by omega,bpp⟩;generalize p*p=X at pp;omega
 have pe:((p.natAbs:Nat):Int)=p:=by omega
 have sp60:(2:Int) ^ 60*((bW (val p a).natAbs (val p b).natAbs:Nat):Int)<p ^ 60:=by
  have h:=LJ (p:=p.natAbs) (by omega) glt;have h2:((2 ^ 60*bW (val p a).natAbs (val p b).natAbs:Nat):Int)<((p.natAbs ^ 60:Nat):Int):=Int.ofNat_lt.mpr h;rw[iq,xS,xS,pe]at h2;exact h2
 have b9:p.natAbs<2 ^ 9000:=bZ bp (fE (by decide) (by decide));refine⟨pa,a,p,5000,8990,rfl,sP.seq hA,by omega,tw.ba,bp,by decide,pb,b,p,5000,8990,rfl,sP.seq hB,by omega,tw.bb,bp,by decide,_,_,rfl,bvb'.mono (by decide),λH9 s9=>?_⟩;have sP:=sP.trans s9;refine⟨_,p,60,rfl,by omega,sp60,by decide,by omega,b9,λf fv fs f0 ft fl F G1 s1 nF eF=>?_⟩;obtain⟨f16,c0,fn,fg1,fg2⟩:=fi f fv fs f0 ft;have bf:∀x∈f,Bd 8990 x:=λx hx=>cZ (show x.natAbs<=p.natAbs by have:=fs x hx;omega) bp;have bf9:∀x∈f,Bd 900000 x:=λx hx=>(bf x hx).mono (by decide);have bc4:((af f:Nat):Int).natAbs<2 ^ 9000:=by
  rw[dB];exact bZ (wT (dX _) f bf) (fE (by decide) (by decide))
 clear sp60 b9 glt fl;refine⟨F,f,rfl,SqL.of eF,bf9,λG1' s1'=>⟨F,f,_,rfl,SqL.of (s1' _ _ eF),by omega,by omega,bc4,λF2 G2 s2 nF2 eF2=>?_⟩⟩;have hne:(f.map λx=>x.fdiv (af f:Nat))≠[]:=by simpa using f0
 have bf2:∀y∈f.map (λx=>x.fdiv (af f:Nat)),Bd 8991 y:=λy hy=>by
  obtain⟨x,hx,rfl⟩:=aW.mp hy;exact D8 (bf x hx) (by omega)
 have lf2:(f.map λx=>x.fdiv (af f:Nat)).length<=64:=by rw[ac];omega
 have sQ:=sP.trans (s1.trans (s1'.trans s2));have nF0:H F2=none:=(sP.trans (s1.trans s1')).free nF2;have pfit:IntMulOk p p:=bp.fits bp (by decide);generalize (f.map λx=>x.fdiv (af f:Nat))=f2 at fn fg1 fg2 eF2 hne bf2 lf2;refine Ef (one:=a) (RS:=f2) (k:=5000) (l:=8991) (sQ.seq hA) (SqL.of eF2) (by omega) lf2 tw.na fn hne tw.ba bf2 (by decide) (by decide) λx3 G3 s3' hx3=>?_;rcases hx3 with ⟨rfl,hno⟩|⟨Fq,qa,rfl,_,_,_,da⟩
 ·rw[if_neg (by simp)];refine⟨pfit,_,rfl,sQ.trans s3',Int.lt_of_not_ge λz=>?_⟩;rw[fg2 z]at hno;exact hno xg hxg
 rw[if_pos (by simp)];refine Ef (one:=b) (RS:=f2) (k:=5000) (l:=8991) ((sQ.trans s3').seq hB) (SqL.of (s3' _ _ eF2)) (by omega) lf2 tw.nb fn hne tw.bb bf2 (by decide) (by decide) λx4 G4 s4 hx4=>?_;rcases hx4 with ⟨rfl,hno⟩|⟨Fq2,qb,rfl,_,_,_,db⟩
 ·rw[if_neg (by simp)];refine⟨pfit,_,rfl,sQ.trans (s3'.trans s4),Int.lt_of_not_ge λz=>?_⟩;rw[fg2 z]at hno;exact hno yg hyg
 rw[if_pos (by simp)];have e:=s4 _ _ (s3' _ _ eF2);rw[fg1 qa qb da db]at e;exact q F2 _ (sQ.trans (s3'.trans s4)) nF0 e
def Eg (K:PySem.W.Frag):Sp:=λvs H Q _=>∃(pa pb:Addr) (a b:List Int),vs=[.ref pa,.ref pb]∧SqL K H pa (a.map V.int)∧SqL K H pb (b.map V.int)∧a.length<=1000∧b.length<=1000∧
 ((a=[]∧dE H Q ((bD b).map V.int))∨(a≠[]∧b=[]∧dE H Q ((bD a).map V.int))∨
  (a≠[]∧b≠[]∧0<af a∧0<af b∧(∀z∈a,Bd 5000 z)∧(∀z∈b,Bd 5000 z)∧∃(g:List Int) (G:Nat),Two (a.map λx=>x.fdiv (af a:Nat)) (b.map λx=>x.fdiv (af b:Nat)) g G∧dE H Q ((g.map λz=>((bW (af a) (af b):Nat):Int)*z).map V.int)))
theorem LO {P:Program}{w:World}{K:PySem.W.Frag}{mg:Str->Option Value}{base:Heap}(T:Tx K mg):FnOk P w K mg base CX0 5 T.Pb T.Pe ["one","other"] (Eg K):=by
 refine T.Qz.ok sc_common (λvs H Q E h=>?_) (λcdv A outer s H vs Q E hr h=>?_)
 ·obtain⟨p,q,a,b,rfl,_⟩:=h;rfl
 obtain⟨pa,pb,a,b,rfl,hA,hB,la,lb,q⟩:=h;refine⟨_,((ah (bY (aO e9 (aG aX rfl T.NF aZ (aa (pv 0) ae)) ai (aN _)) (ao (aM (aK (FnOk.mono (D_ T) (by decide)) hr rfl T.Qt T.OX.kp T.Qu .nil aB (aa (pv 1) ae)))) b4)
  (ah (bY (aO e9 (aG aX rfl T.NF aZ (aa (pv 1) ae)) ai (aN _)) (ao (aM (aK (FnOk.mono (D_ T) (by decide)) hr rfl T.Qt T.OX.kp T.Qu .nil aB (aa (pv 0) ae)))) b4)
  (ah (ax (i:=2) sc_common.nd rfl (Or.inl rfl) (aK (FnOk.mono (wU T) (by decide)) hr rfl T.OP T.Oa.kp T.OQ .nil aB (aa (pv 0) ae)))
  (ah (ax (i:=3) sc_common.nd rfl (Or.inl rfl) (aK (FnOk.mono (wU T) (by decide)) hr rfl T.OP T.Oa.kp T.OQ .nil aB (aa (pv 1) ae)))
  (ah (ax (i:=4) sc_common.nd rfl (Or.inr rfl) (aK (FnOk.mono (wR T) (by decide)) hr rfl T.OL T.N_.kp T.OM .nil aB (aa (pv 2) (aa (pv 3) ae))))
  (ao (aM (e_ rfl (dD rfl (dj rfl cM) (d_ 4 "shared" (by decide) rfl (Or.inl rfl) (Or.inl rfl) ⟨_,rfl⟩ cV)) (dC (aK (FnOk.mono (LN T) (by decide)) hr rfl T.Q9 T.Qy.kp T.Q_ .nil aB (aa (aK (FnOk.mono (wV T) (by decide)) hr rfl T.OT T.Ob.kp T.OU .nil aB (aa (pv 0) (aa (pv 2) ae))) (aa (aK (FnOk.mono (wV T) (by decide)) hr rfl T.OT T.Ob.kp T.OU .nil aB (aa (pv 1) (aa (pv 3) ae))) ae)))) (λ_ _ _ _=>(ak eJ (pv 1) (pv 0)))))))))))),?_⟩
 k_units
 refine⟨_,.inl hA,?_⟩;rw[ac];refine bR (λh=>?_) (λh=>⟨_,.inl hB,?_⟩)
 ·have a0:a=[]:=bK (by omega);rcases q with ⟨_,q⟩|⟨z,_⟩|⟨z,_⟩
  ·exact⟨pb,b,rfl,hB,lb,q⟩
  ·exact absurd a0 z
  ·exact absurd a0 z
 have a0:a≠[]:=by intro z;rw[z]at h;simp at h
 rw[ac];refine bR (λh=>?_) (λh=>?_)
 ·have b0:b=[]:=bK (by omega);rcases q with ⟨z,_⟩|⟨_,_,q⟩|⟨_,z,_⟩
  ·exact absurd z a0
  ·exact⟨pa,a,rfl,hA,la,q⟩
  ·exact absurd b0 z
 have b0:b≠[]:=by intro z;rw[z]at h;simp at h
 rcases q with ⟨z,_⟩|⟨_,z,_⟩|⟨_,_,ca,cb,ba,bb,g,G,tw,q⟩
 ·exact absurd z a0
 ·exact absurd z b0
 have c9:∀{xs:List Int},(∀z∈xs,Bd 5000 z)->Bd 5000 ((af xs:Nat):Int):=λ{xs} hx=>by
  show ((af xs:Nat):Int).natAbs<2 ^ 5000;rw[dB];exact wT (dX _) xs hx
 have l9:∀{x:Int},Bd 5000 x->x.natAbs<2 ^ 9000:=λ{x} hx=>bZ hx (fE (by decide) (by decide));refine⟨pa,a,rfl,hA,λx hx=>(ba x hx).mono (by decide),λH7 s7=>⟨pb,b,rfl,s7.seq hB,λx hx=>(bb x hx).mono (by decide),λH8 s8=>⟨_,_,rfl,(c9 bb).mono (by decide),λH9 s9=>?_⟩⟩⟩;have s0:=s7.trans (s8.trans s9);rw[dB,dB];refine⟨pa,a,_,rfl,s0.seq hA,by omega,by omega,l9 (c9 ba),λA1 H1 s1 n1 e1=>⟨pb,b,_,rfl,(s0.trans s1).seq hB,by omega,by omega,l9 (c9 bb),λB1 H2 s2 n2 e2=>⟨A1,B1,_,_,g,G,rfl,SqL.of (s2 _ _ e1),SqL.of e2,tw,λF H3 s3 n3 e3=>?_⟩⟩⟩;have sg:∀z∈g,Bd 4480 z:=λz hz=>by
  obtain⟨_,_,m,m0,hG,_⟩:=tw.bz;have h1:=hG z hz;have h2:z.natAbs<=m.natAbs*z.natAbs:=gB _ (iP.mpr m0);exact cZ (show z.natAbs<=(G:Int).natAbs by omega) tw.bG
 have gc:Bd 5000 ((bW (af a) (af b):Nat):Int):=cZ (show ((bW (af a) (af b):Nat):Int).natAbs<=((af a:Nat):Int).natAbs by have:=Nat.gcd_le_left (af b) ca;omega) (c9 ba);have lg:=tw.lg;refine⟨F,rfl,⟨_,SqL.of e3⟩,λC hC=>?_⟩;obtain⟨Pc,hPc⟩:∃Pc:Nat->Hp->Prop,∀i H',Pc i H'↔H' C=some (.lst (((g.take i).map λz=>((bW (af a) (af b):Nat):Int)*z).map V.int))∧Same H3 H':=⟨_,λ_ _=>Iff.rfl⟩
 refine ff (xs:=g.map V.int) Pc ((hPc _ _).mpr ⟨by rw[ag];rfl,aw hC _⟩) (λi Hx _ z=>SqL.of (((hPc i Hx).mp z).2 _ _ e3)) ?_ ?_
 ·intro i v Hx hv hc;obtain⟨k1,k2⟩:=(hPc _ _).mp hc;have hi:i<g.length:=by have:=(aU.mp hv).1;rw[ac]at this;exact this
  rw[aA,aj hi]at hv;obtain rfl:V.int g[i]=v:=Option.some.inj hv
  (iterate 3 (k_units;(try simp only[bst,dr]));k_units)
  have et:g.take (i+1)=g.take i++[g[i]]:=by rw[de,aj hi];rfl
  refine⟨gc.fits (sg _ (bH hi)) (by decide),_,k1,D9 (by simp;omega),(hPc _ _).mpr ⟨?_,k2.more hC⟩⟩;rw[ag,et,aV,aV];rfl
 intro H4 hc;obtain⟨k1,k2⟩:=(hPc _ _).mp hc;rw[ac,fT]at k1;have sA:=s0.trans (s1.trans (s2.trans s3));exact q C _ (sA.trans k2) (sA.free hC) k1
def dvL (xs:List Int)(c:Nat):List Int:=xs.map λx=>x.fdiv (c:Int)
theorem LP {c:Nat}(hc:0<c){x:Int}(h:(c:Int)∣x):(c:Int)*x.fdiv (c:Int)=x:=by
 rw[xv _ (by omega)];exact F5 h
theorem LQ (xs:List Int)(c:Nat)(j:Nat):co (dvL xs c) j=(co xs j).fdiv (c:Int):=by
 unfold dvL;by_cases h:j<xs.length
 ·rw[aE (by rw[ac];exact h),aE h,bO]
 ·rw[ay (by rw[ac];omega),ay (by omega)];simp
theorem iY {xs:List Int}(hc:0<af xs)(j:Nat):((af xs:Nat):Int)*co (dvL xs (af xs)) j=co xs j:=by
 rw[LQ];exact LP hc (cF (fQ xs) (jF _) j)
theorem j7 {xs:List Int}(hc:0<af xs)(n:Int):((af xs:Nat):Int)*val n (dvL xs (af xs))=val n xs:=by
 rw[←aS];refine f7 (λj=>?_) n;rw[←iY hc j];by_cases h:j<(dvL xs (af xs)).length
 ·rw[aE (by rw[ac];exact h),aE h,bO]
 ·rw[ay (by rw[ac];omega),ay (by omega)];simp
theorem iZ (xs:List Int)(c:Nat):(dvL xs c).length=xs.length:=ac ..
theorem ia {xs:List Int}(h:Nml xs)(hne:xs≠[]):0<af xs:=by
 refine iQ λz=>?_;have:=cN h hne;have h2:=cF (P:=λx=>((af xs:Nat):Int)∣x) (fQ xs) (jF _) (xs.length-1);rw[z]at h2;exact this (xJ.mp h2)
theorem qV {xs:List Int}(h:Nml xs)(hne:xs≠[]):Nml (dvL xs (af xs)):=by
 refine qM (.inr λz=>?_);rw[iZ]at z;have:=iY (ia h hne) (xs.length-1);rw[z,c_]at this;exact cN h hne this.symm
theorem qW {xs:List Int}(hc:0<af xs):gH (co (dvL xs (af xs))):=λd hd=>by
 have h:d*af xs∣af xs:=jx _ _ (cW λj=>by
  rw[←iY hc j,iq,dY (d:Int)];exact F6 _ (hd j))
 obtain⟨e,he⟩:=h;have h1:af xs*(d*e)=af xs*1:=by rw[rW,←jb,gI (af xs) d];exact he.symm
 have h2:=Nu hc h1;exact xT h2
theorem Eh {p g A:List Int}(hp:0<af p)(hg:0<af g)(h:∀j,co A j=pm (co p) (co g) j):af A=af p*af g:=by
 have e:∀j,co A j=((af p*af g:Nat):Int)*pm (co (dvL p (af p))) (co (dvL g (af g))) j:=λj=>by
  rw[h j,iq,di,←k_,←Kk];congr 1
  ·funext i;exact (iY hp i).symm
  ·funext i;exact (iY hg i).symm
 have d1:af p*af g∣af A:=jx _ _ (cW λj=>by rw[e j];exact i9 _ _);obtain⟨f,hf⟩:=d1;have hpg:0<af p*af g:=iO hp hg;have hf1:f=1:=KC (qW hp) (qW hg) f λj=>by
  have h2:=cF (P:=λx=>((af A:Nat):Int)∣x) (fQ A) (jF _) j;rw[e j,hf,iq _ f]at h2;exact Nh (by omega) h2
 rw[hf,hf1,rW]
theorem qX (xs:List Int):∃e:Int,(e=1∨e=-1)∧∀j,co (bD xs) j=e*co xs j:=by
 unfold bD
 split
 ·exact⟨-1,.inr rfl,λj=>by rw[Dg];omega⟩
 ·exact⟨1,.inl rfl,λj=>by omega⟩
theorem i0 (xs:List Int):(bD xs).length=xs.length:=by unfold bD;split <;> simp
theorem j8 {xs:List Int}(h:Nml xs)(hne:xs≠[]):0<co (bD xs) ((bD xs).length-1):=by
 have:=cN h hne;rw[i0];unfold bD
 split
 ·rename_i z;rw[Dg];omega
 ·rename_i z;have:¬co xs (xs.length-1)<0:=λy=>z ⟨hne,y⟩;omega
theorem Ei {xs ys:List Int}(hn:Nml xs)(hy:Nml ys){e:Int}(he:e=1∨e=-1)(h:∀j,co ys j=e*co xs j)(hp:ys≠[]->0<co ys (ys.length-1)):ys=bD xs:=by
 by_cases hx:xs=[]
 ·have:ys=[]:=j3 hy λk=>by rw[h k,hx,gi];simp
  rw[this,hx];rfl
 obtain⟨f,hf,hc⟩:=qX xs;have hl:ys.length=xs.length:=Nat.le_antisymm (gZ hy λk hk=>by rw[h k,ay hk];simp) (gZ hn λk hk=>by
  have:=h k;rw[ay hk]at this;rcases he with rfl|rfl <;> omega)
 have hy0:ys≠[]:=by intro z;rw[z]at hl;exact hx (bK hl.symm)
 have h1:=hp hy0;have h2:=j8 hn hx;rw[i0,hc]at h2;rw[hl,h]at h1;have:e=f:=by rcases he with rfl|rfl <;> rcases hf with rfl|rfl <;> first|rfl|omega
 exact wk (by rw[hl,i0]) λk _=>by rw[h k,hc k,this]
theorem j9 {xs:List Int}(h:Nml xs):Nml (bD xs):=by
 by_cases hx:xs=[]
 ·rw[hx];exact cD
 ·have:=j8 h hx;exact qM (.inr (by omega))
theorem LR {p q g A B U W:List Int}{m:Int}(np:Nml p) (nq:Nml q) (ng:Nml g) (nA:Nml A) (nB:Nml B) (p0:p≠[]) (q0:q≠[]) (g0:g≠[]) (lA:A.length<=40) (lB:B.length<=40) (lg:g.length<=40)
  (bA:∀z∈A,Bd 5000 z) (bB:∀z∈B,Bd 5000 z){G:Nat}(bg:∀z∈g,m.natAbs*z.natAbs<=G) (hm:m≠0) (bG:Bd 4480 (G:Int)) (hb:∀n,val n U*val n p+val n W*val n q=m)
  (hA:∀n,val n A=val n p*val n g) (hB:∀n,val n B=val n q*val n g):
  0<af A∧0<af B∧A≠[]∧B≠[]∧Two (dvL A (af A)) (dvL B (af B)) (bD (dvL g (af g))) G∧
   (bD (dvL g (af g))).map (λz=>((bW (af A) (af B):Nat):Int)*z)=bD (g.map λz=>((af (p++q):Nat):Int)*z):=by
 have cp:=ia np p0;have cq:=ia nq q0;have cg:=ia ng g0;have hA':∀j,co A j=pm (co p) (co g) j:=λj=>by rw[←fZ];exact fN (λn=>by rw[hA,du]) j
 have hB':∀j,co B j=pm (co q) (co g) j:=λj=>by rw[←fZ];exact fN (λn=>by rw[hB,du]) j
 have eA:=Eh cp cg hA';have eB:=Eh cq cg hB';have cA:0<af A:=by rw[eA];exact iO cp cg
 have cB:0<af B:=by rw[eB];exact iO cq cg
 have A0:A≠[]:=by intro z;rw[z]at cA;simp[af]at cA
 have B0:B≠[]:=by intro z;rw[z]at cB;simp[af]at cB
 obtain⟨e,he,hc⟩:=qX (dvL g (af g));have ee:e*e=1:=by rcases he with rfl|rfl <;> rfl
 have ng1:=qV ng g0;have g10:dvL g (af g)≠[]:=by intro z;have:=iZ g (af g);rw[z]at this;exact g0 (bK this.symm)
 have vu:∀n,val n (bD (dvL g (af g)))=e*val n (dvL g (af g)):=λn=>by
  rw[←aS];refine f7 (λj=>?_) n;rw[hc j];by_cases h:j<(dvL g (af g)).length
  ·rw[aE (xs:=rO _ _) (by rw[ac];exact h),aE h,bO]
  ·rw[ay (xs:=rO _ _) (by rw[ac];omega),ay (xs:=dvL _ _) (by omega)];simp
 have key:∀{r C:List Int},0<af r->af C=af r*af g->0<af C->(∀n,val n C=val n r*val n g)->∀n,val n (dvL C (af C))=val n (dvL r (af r))*val n (dvL g (af g)):=λ{r C} h1 h2 h3 h4 n=>by
  have a1:=j7 h3 n;rw[h4 n,←j7 h1 n,←j7 cg n]at a1;have a2:((af C:Nat):Int)*val n (dvL C (af C))=((af C:Nat):Int)*(val n (dvL r (af r))*val n (dvL g (af g))):=by
   rw[a1]
   conv=>rhs;rw[h2,iq]
   simp only[di,i_]
  exact mE (by omega) a2
 have kA:=key cp eA cA hA;have kB:=key cq eB cB hB;have small:∀{C:List Int},0<af C->(∀z∈C,Bd 5000 z)->∀z∈dvL C (af C),Bd 5000 z:=λ{C} h1 h2=>cW λj=>by
  have a1:=iY h1 j;have a2:Bd 5000 (co C j):=cF h2 (Bd.zero _) j;have a3:(co C j).natAbs=af C*(co (dvL C (af C)) j).natAbs:=by rw[←a1,bV,dB]
  have a4:(co (dvL C (af C)) j).natAbs<=af C*(co (dvL C (af C)) j).natAbs:=gB _ h1;exact cZ (show (co (dvL C (af C)) j).natAbs<=(co C j).natAbs by omega) a2
 refine⟨cA,cB,A0,B0,⟨qV nA A0,qV nB B0,by intro z;have:=iZ A (af A);rw[z]at this;exact A0 (bK this.symm),by intro z;have:=iZ B (af B);rw[z]at this;exact B0 (bK this.symm),
  by rw[iZ];exact lA,by rw[iZ];exact lB,small cA bA,small cB bB,?_,j9 ng1,by rw[i0,iZ];exact lg,j8 ng1 g10,bG,?_,?_,?_⟩,?_⟩
 ·intro d hd;refine qW cg d λj=>?_;have:=hd j;rw[hc j]at this;rcases he with rfl|rfl
  ·rwa [fH]at this
  ·rw[Int.neg_mul,fH]at this;exact Int.dvd_neg.mp this
 ·refine⟨(dvL p (af p)).map λx=>e*x,gm.mpr λn=>?_⟩;rw[kA n,vu n,aS];generalize val n (dvL p (af p))=u;generalize val n (dvL g (af g))=v
  calc u*v=(e*e)*(u*v):=by rw[ee,fH]
   _=e*v*(e*u):=by simp only[di,dY,i_]
 ·refine⟨(dvL q (af q)).map λx=>e*x,gm.mpr λn=>?_⟩;rw[kB n,vu n,aS];generalize val n (dvL q (af q))=u;generalize val n (dvL g (af g))=v
  calc u*v=(e*e)*(u*v):=by rw[ee,fH]
   _=e*v*(e*u):=by simp only[di,dY,i_]
 ·refine⟨U.map λx=>((af p:Nat):Int)*x,W.map λx=>((af q:Nat):Int)*x,m*e,?_,?_,λn=>?_⟩
  ·rcases he with rfl|rfl <;> omega
  ·refine cW λj=>?_;have a1:(m*e).natAbs=m.natAbs:=by rcases he with rfl|rfl <;> omega
   have a2:(co (bD (dvL g (af g))) j).natAbs=(co (dvL g (af g)) j).natAbs:=by rw[hc j];rcases he with rfl|rfl <;> omega
   have a3:=iY cg j;have a4:m.natAbs*(co g j).natAbs<=G:=cF (P:=λz=>m.natAbs*z.natAbs<=G) bg (by simp) j;have a5:(co g j).natAbs=af g*(co (dvL g (af g)) j).natAbs:=by rw[←a3,bV,dB]
   have a6:(co (dvL g (af g)) j).natAbs<=af g*(co (dvL g (af g)) j).natAbs:=gB _ cg;rw[a1,a2];exact aP (fh _ (by omega)) a4
  ·have a1:=hb n;rw[←j7 cp n,←j7 cq n]at a1;rw[aS,aS,kA n,kB n,vu n,←a1];generalize val n (dvL p (af p))=u;generalize val n (dvL q (af q))=u';generalize val n (dvL g (af g))=v;generalize ((af p:Nat):Int)=c1;generalize ((af q:Nat):Int)=c2
   calc c1*val n U*(u*v)+c2*val n W*(u'*v)=(val n U*(c1*u)+val n W*(c2*u'))*v:=by rw[F7];simp only[di,dY,i_]
    _=(val n U*(c1*u)+val n W*(c2*u'))*((e*e)*v):=by rw[ee,fH]
    _=_:=by simp only[di]
 ·have ec:bW (af A) (af B)=af (p++q)*af g:=by
   rw[eA,eB,Nat.gcd_mul_right];congr 1;refine Gh (jx _ _ λx hx=>?_) (rT (jx _ _ λx hx=>fQ _ x (by simp[hx])) (jx _ _ λx hx=>fQ _ x (by simp[hx])));rcases bj.mp hx with z|z
   ·exact fj (im.mpr (mB _ _)) (fQ p x z)
   ·exact fj (im.mpr (mC _ _)) (fQ q x z)
  have cpq:0<af (p++q):=iQ λz=>by
   rw[z]at ec;have:0<bW (af A) (af B):=Nv _ cA;omega
  have cm:∀(c:Int) (xs:List Int) j,co (xs.map λz=>c*z) j=c*co xs j:=λc xs j=>by
   by_cases h:j<xs.length
   ·rw[aE (by rw[ac];exact h),aE h,bO]
   ·rw[ay (by rw[ac];omega),ay (xs:=xs) (by omega)];simp
  have ut:=j8 ng1 g10;have cgcd:0<bW (af A) (af B):=Nv _ cA;have tp:0<co ((bD (dvL g (af g))).map λz=>((bW (af A) (af B):Nat):Int)*z) (((bD (dvL g (af g))).map λz=>((bW (af A) (af B):Nat):Int)*z).length-1):=by
   rw[ac,cm];exact Gj (by omega) ut
  refine Ei ?_ (qM (.inr (by omega))) he (λj=>?_) (λ_=>tp)
  ·refine qM (.inr ?_);rw[ac,cm];exact rY (by omega) (cN ng g0)
  ·rw[cm,cm,hc,ec,←iY cg j,iq];simp only[di,dY,i_]
def gq (A B R:List Int):Prop:=
 (A=[]∧R=bD B)∨(A≠[]∧B=[]∧R=bD A)∨
 (A≠[]∧B≠[]∧0<af A∧0<af B∧(∀z∈A,Bd 5000 z)∧(∀z∈B,Bd 5000 z)∧∃(g:List Int) (G:Nat),Two (dvL A (af A)) (dvL B (af B)) g G∧R=g.map λz=>((bW (af A) (af B):Nat):Int)*z)
theorem gr (c:Int)(xs:List Int)(j:Nat):co (xs.map λz=>c*z) j=c*co xs j:=by
 by_cases h:j<xs.length
 ·rw[aE (by rw[ac];exact h),aE h,bO]
 ·rw[ay (by rw[ac];omega),ay (xs:=xs) (by omega)];simp
theorem eQ (n:Int)(xs:List Int):val n (aF xs)=val n xs:=f7 (λk=>cP xs k) n
def pdL (g h:List Int):List Int:=aF (a7 g h)
theorem bT (g h:List Int):Nml (pdL g h):=cC _
theorem aH (n:Int)(g h:List Int):val n (pdL g h)=val n g*val n h:=by unfold pdL;rw[eQ,du]
theorem Ej (g:List Int):pdL g []=[]:=cG (bT _ _) cD λn=>by rw[aH];simp[val]
theorem f8 (g h:List Int)(j:Nat):co (pdL g h) j=pm (co g) (co h) j:=by unfold pdL;rw[cP,fZ]
theorem ib {g h:List Int}(ng:Nml g)(nh:Nml h)(g0:g≠[])(h0:h≠[]):pdL g h≠[]:=λz=>by
 have:=f8 g h (h.length-1+(g.length-1));rw[z,gi,jq (λj hj=>gk j hj) (λj hj=>gk j hj)]at this;exact rY (cN ng g0) (cN nh h0) this.symm
theorem gu {g h:List Int}(ng:Nml g)(nh:Nml h):(pdL g h).length<=g.length+h.length-1:=K9 ng nh (bT _ _) (f8 g h)
theorem Ek {g h:List Int}{M N:Nat}(hg:∀z∈g,z.natAbs<=M)(hh:∀z∈h,z.natAbs<=N):∀z∈pdL g h,z.natAbs<=g.length*(M*N):=cW λj=>by
 unfold pdL;rw[cP];exact wK hh g hg j
theorem qY (xs:List Int):∃e:Int,(e=1∨e=-1)∧∀n,val n (bD xs)=e*val n xs:=by
 obtain⟨e,he,hc⟩:=qX xs;exact⟨e,he,λn=>by rw[←aS];exact f7 (λj=>by rw[hc j,gr]) n⟩
theorem LS {xs ys:List Int}(hn:Nml xs)(hy:Nml ys){e:Int}(he:e=1∨e=-1)(h:∀n,val n ys=e*val n xs)(hp:ys≠[]->0<co ys (ys.length-1)):ys=bD xs:=
 Ei hn hy he (λj=>by rw[←gr];exact fN (λn=>by rw[h n,aS]) j) hp
theorem El {xs ys:List Int}(hx:Nml xs)(hy:Nml ys){e:Int}(he:e=1∨e=-1)(h:∀n,val n ys=e*val n xs):bD ys=bD xs:=by
 obtain⟨f,hf,hv⟩:=qY ys;refine LS (e:=f*e) hx (j9 hy) (by rcases hf with rfl|rfl <;> rcases he with rfl|rfl <;> simp) (λn=>by rw[hv,h,di]) λz=>?_;refine j8 hy λw=>z (by rw[w];rfl)
theorem wW {xs:List Int}(h:xs≠[]):bD xs≠[]:=λz=>h (bK (by rw[←i0,z];rfl))
theorem LU {K:PySem.W.Frag}{H:Hp}{pa pb:Addr}{A B R:List Int}{Q:VK}{E:XK}(hA:SqL K H pa (A.map V.int))(hB:SqL K H pb (B.map V.int))(la:A.length<=1000)(lb:B.length<=1000)(h:gq A B R)(q:dE H Q (R.map V.int)):Eg K [.ref pa,.ref pb] H Q E:=by
 refine⟨pa,pb,A,B,rfl,hA,hB,la,lb,?_⟩;rcases h with ⟨z,rfl⟩|⟨z1,z2,rfl⟩|⟨A0,B0,c1,c2,b1,b2,g,G,tw,rfl⟩
 ·exact .inl ⟨z,q⟩
 ·exact .inr (.inl ⟨z1,z2,q⟩)
 ·exact .inr (.inr ⟨A0,B0,c1,c2,b1,b2,g,G,tw,q⟩)
def LV (K:PySem.W.Frag):Sp:=λvs H Q _=>∃(R:Addr) (as:List Addr) (rows:List (List Int)) (f:Nat->List Int),vs=[.ref R]∧SqL K H R (as.map V.ref)∧LL K H as rows∧rows.length<=1000∧(∀r∈rows,r.length<=1000)∧(∀i,(f i).length<=1000)∧
 f 0=[]∧(∀i r,rows[i]?=some r->gq (f i) r (f (i+1)))∧dE H Q ((f rows.length).map V.int)
theorem LW {P:Program}{w:World}{K:PySem.W.Frag}{mg:Str->Option Value}{base:Heap}(T:Tx K mg):FnOk P w K mg base CX0 6 T.Pf T.Pg ["polys"] (LV K):=by
 refine T.QB.ok sc_common_of (λvs H Q E h=>?_) (λcdv A outer s H vs Q E hr h=>?_)
 ·obtain⟨R,as,rows,f,rfl,_⟩:=h;rfl
 obtain⟨R,as,rows,f,rfl,hR,hL,lr,br,bf,f0,fs,q⟩:=h;refine⟨_,((ah (ax (i:=1) sc_common_of.nd rfl (Or.inl rfl) (bU ae))
  (ah (cy PassesOwn.never rfl (dC (pv 0)) (bN (i:=2) sc_common_of.nd rfl (Or.inl rfl)) (ao (ax (i:=1) sc_common_of.nd rfl (Or.inl rfl) (aK (FnOk.mono (LO T) (by decide)) hr rfl T.Ra T.Qz.kp T.Rb .nil aB (aa (pv 1) (aa (pv 2) ae))))))
  (ao (aM (pv 1)))))),?_⟩
 k_units
 refine⟨aI _,λX0 hX=>?_⟩;have s1:=aw hX (.lst []);refine⟨⟨_,s1.seq hR⟩,?_⟩;obtain⟨Pv,hPv⟩:∃Pv:Nat->L2.St->Hp->Prop,∀i σ H',Pv i σ H'↔∃(X:Addr) (r2:Option V),σ=[some (V.ref R),some (V.ref X),r2]∧H' X=some (.lst ((f i).map V.int))∧H X=none∧Same H H':=⟨_,λ_ _ _=>Iff.rfl⟩
 refine pj (xs:=as.map V.ref) Pv ((hPv _ _ _).mpr ⟨X0,_,rfl,by rw[ag,f0];rfl,hX,s1⟩) (λi σ H' _ z=>by obtain⟨_,_,_,_,_,z⟩:=(hPv i σ H').mp z;exact z.seq hR) ?_ ?_
 ·intro i v σ H' hv hp;obtain⟨X,r2,rfl,eX,nX,sP⟩:=(hPv _ _ _).mp hp;obtain⟨a,r,rfl,ha,hr',hA⟩:=hL.nth hv
  k_units
  exact LU (SqL.of eX) (sP.seq hA) (bf i) (br r (bJ hr')) (fs i r hr') λY H2 s2 nY eY=>(hPv _ _ _).mpr ⟨Y,_,rfl,eY,sP.free nY,sP.trans s2⟩
 ·intro σ H' hp;obtain⟨X,r2,rfl,eX,nX,sP⟩:=(hPv _ _ _).mp hp
  k_units
  rw[ac,hL.len]at eX;exact q X _ sP nX eX
def eI (b:Bool)(R:List Int):List Int:=if b then R.map (λz=>-z) else R
def LY (K:PySem.W.Frag):Sp:=λvs H Q _=>∃(A:Addr) (as:List Addr) (ps:List (List Int)) (f:Nat->List Int) (qs:List (List Int)) (p0:List Int) (t:Int),vs=[.ref A]∧SqL K H A (as.map V.ref)∧LL K H as ps∧ps.length<=60∧(∀p∈ps,p.length<=64∧Nml p∧∀c∈p,Bd 5000 c)∧(∀i,(f i).length<=64)∧f 0=[]∧(∀i r,ps[i]?=some r->gq (f i) r (f (i+1)))∧
 ps.getLast?=some (p0++[t])∧f ps.length≠[]∧Nml (f ps.length)∧(∀c∈f ps.length,Bd 8000 c)∧qs.length=ps.length∧(∀(i:Nat) (p q:List Int),ps[i]?=some p->qs[i]?=some q->Nml q∧Div p (eI (decide (t<0)) (f ps.length)) q)∧
 ∀(D:Addr) (bs:List Addr) (H':Hp),Same H H'->H D=none->H' D=some (.lst (bs.map V.ref))->LH H' bs qs->(∀b∈bs,H b=none)->D∉bs->Q (.ref D) H'
theorem LZ {R:List Int}(h:Nml R):Nml (R.map λz=>-z):=fB.mpr λx hx=>by
 rw[Gk]at hx;obtain⟨y,hy,rfl⟩:=cO.mp hx;have:=fB.mp h y hy;omega
theorem L3 {P:Program}{w:World}{K:PySem.W.Frag}{mg:Str->Option Value}{base:Heap}(T:Tx K mg):FnOk P w K mg base CX0 7 T.Px T.Py ["polys"] (LY K):=by
 refine T.QI.ok sc_cleared (λvs H Q E h=>?_) (λcdv A outer s H vs Q E hr h=>?_)
 ·obtain⟨A,as,ps,f,qs,p0,t,rfl,_⟩:=h;rfl
 obtain⟨A,as,ps,f,qs,p0,t,rfl,hA,hL,l60,bp,bf,f0,fs,hl,fn,nf,bfn,lq,hq,fin⟩:=h;refine⟨_,((ah (ax (i:=1) sc_cleared.nd rfl (Or.inr rfl) (aK (FnOk.mono (LW T) (by decide)) hr rfl T.Rc T.QB.kp T.Re .nil aB (aa (pv 0) ae)))
  (iD (bY (aO iT (aR bL (aR bL (pv 0) (d8 d9 ai) (λ_ _=>rfl)) (d8 d9 ai) (λ_ _=>rfl)) ai (aN _)) (ao (ax (i:=1) sc_cleared.nd rfl (Or.inr rfl) (e_ rfl (dD rfl cM cV) (dC (pv 1)) (λ_ _ _ _=>(d8 d9 (pv 0)))))) b4)
  (ao (aM (e_ rfl (dD rfl (dj rfl cM) (d_ 1 "shared" (by decide) rfl (Or.inl rfl) (Or.inl rfl) ⟨_,rfl⟩ cV)) (dC (pv 0)) (λ_ _ _ _=>(aK (FnOk.mono (wS T) (by decide)) hr rfl T.OF T.N9.kp T.OG .nil v8 (aa (pv 0) (aa (pv 1) ae)))))))))),?_⟩
 have la:=hL.len;dsimp only[aC]
 k_typeOf
 refine⟨A,as,ps,f,rfl,hA,hL,by omega,λr hr=>by have:=(bp r hr).1;omega,λi=>by have:=bf i;omega,f0,fs,λS H1 s1 nS eS=>?_⟩;generalize hR:f ps.length=R at fn nf bfn hq eS;have lR:R.length<=64:=by rw[←hR];exact bf _
 obtain⟨M,hM⟩:∃M:L2.St->Hp->Prop,∀σ H',M σ H'↔∃S':Addr,σ=[some (V.ref A),some (V.ref S')]∧H' S'=some (.lst ((eI (decide (t<0)) R).map V.int))∧Same H H':=⟨_,λ_ _=>Iff.rfl⟩
 refine gY M ?_ ?_
 ·k_units
  obtain⟨ps1,rfl⟩:=rP.mp hl;obtain⟨as1,a,rfl⟩:∃as1 a,as=as1++[a]:=by
   cases z:as.getLast? with
   | none=>rw[xN]at z;rw[z]at la;simp at la
   | some a=>exact⟨_,a,(rP.mp z).choose_spec⟩
  have l1:as1.length=ps1.length:=by simpa using la
  have hlast:SqL K H a ((p0++[t]).map V.int):=hL.get as1.length a _ (by simp) (by rw[l1];simp);have e1:(as1++[a]).map V.ref=as1.map V.ref++[V.ref a]:=by rw[aV];rfl
  have e2:(p0++[t]).map V.int=p0.map V.int++[V.int t]:=by rw[aV];rfl
  rw[e1]at hA;rw[e2]at hlast;refine⟨_,s1.seq hA,_,Cj _ _,a,rfl,_,s1.seq hlast,_,Cj _ _,t,rfl,bR (λz=>⟨⟨_,SqL.of eS⟩,λD nD=>?_⟩) (λz=>(hM _ _).mpr ⟨S,rfl,?_,s1⟩)⟩
  ·obtain⟨Pc,hPc⟩:∃Pc:Nat->Hp->Prop,∀j Hx,Pc j Hx↔Hx D=some (.lst (((R.map λz=>-z).take j).map V.int))∧Same H1 Hx:=⟨_,λ_ _=>Iff.rfl⟩
   refine ff (xs:=R.map V.int) Pc ((hPc _ _).mpr ⟨ag,aw nD _⟩) (λi Hx _ y=>by obtain⟨_,y⟩:=(hPc i Hx).mp y;exact SqL.of (y _ _ eS)) ?_ ?_
   ·intro j v Hx hv hc;obtain⟨k1,k2⟩:=(hPc _ _).mp hc;rw[aA]at hv;obtain⟨c,hc',rfl⟩:=cO.mp hv;have hj:=(aU.mp hc').1
    (iterate 3 (k_units;(try simp only[bst,dr]));k_units)
    refine⟨_,k1,?_,(hPc _ _).mpr ⟨?_,k2.more nD⟩⟩
    ·rw[ac,b6];exact bC (by omega)
    ·rw[ag,de,aA,hc',aV];rfl
   intro Hx hc;obtain⟨k1,k2⟩:=(hPc _ _).mp hc;rw[ac,eZ (by rw[ac];exact am _)]at k1;refine (hM _ _).mpr ⟨D,rfl,?_,s1.trans k2⟩;rw[k1];unfold eI;rw[if_pos (by simpa using z)]
  ·rw[eS];unfold eI;rw[if_neg (by simpa using z)]
 intro σ H2 hm;obtain⟨S',rfl,eS',s2⟩:=(hM _ _).mp hm
 k_units
 have nR:Nml (eI (decide (t<0)) R)∧eI (decide (t<0)) R≠[]∧(eI (decide (t<0)) R).length<=64∧∀c∈eI (decide (t<0)) R,Bd 8000 c:=by
  unfold eI
  split
  ·refine⟨LZ nf,λz=>fn (jD.mp z),by rw[ac];exact lR,λc hc=>?_⟩;obtain⟨d,hd,rfl⟩:=aW.mp hc;exact (bfn d hd).neg
  ·exact⟨nf,fn,lR,bfn⟩
 generalize eI (decide (t<0)) R=R' at nR hq eS';obtain⟨n1,n2,n3,n4⟩:=nR;refine⟨⟨_,s2.seq hA⟩,λD nD=>?_⟩;obtain⟨Pc,hPc⟩:∃Pc:Nat->Hp->Prop,∀j Hx,Pc j Hx↔∃bs:List Addr,Hx D=some (.lst (bs.map V.ref))∧LH Hx bs (qs.take j)∧D∉bs∧Same H2 Hx∧∀b∈bs,H2 b=none:=⟨_,λ_ _=>Iff.rfl⟩
 refine ff (xs:=as.map V.ref) Pc ((hPc _ _).mpr ⟨[],ag,LH.nil _,by simp,aw nD _,by simp⟩) (λi Hx _ y=>by obtain⟨_,_,_,_,y,_⟩:=(hPc i Hx).mp y;exact (s2.trans y).seq hA) ?_ ?_
 ·intro j v Hx hv hc;obtain⟨bs,k1,k2,k3,k4,k5⟩:=(hPc _ _).mp hc;obtain⟨a,p,rfl,ha,hp,sq⟩:=hL.nth hv;have hj:j<ps.length:=(aU.mp hp).1;obtain⟨b1,b2,b3⟩:=bp p (bJ hp);have hqj:qs[j]?=some qs[j]:=aj (by omega);obtain⟨d1,d2⟩:=hq j p _ hp hqj
  (iterate 3 (k_units;(try simp only[bst,dr]));k_units)
  refine⟨a,S',p,R',5000,8000,rfl,(s2.trans k4).seq sq,SqL.of (k4 _ _ eS'),b1,n3,b2,n1,b3,n4,by decide,by decide,.inr ⟨n2,.inl ⟨qs[j],d1,d2,λr Hy s3 nr er=>?_⟩⟩⟩;have lb:=k2.len;rw[b6]at lb;have ne:r≠D:=λz=>by rw[z,k1]at nr;cases nr
  refine⟨_,s3 _ _ k1,by rw[ac];exact bC (by omega),(hPc _ _).mpr ⟨bs++[r],by rw[ag,aV];rfl,?_,by simp[k3];exact λz=>ne z.symm,(k4.trans s3).more nD,λb hb=>?_⟩⟩
  rotate_left
  ·rcases bj.mp hb with h|h
   ·exact k5 b h
   ·rw[aQ.mp h];exact k4.free nr
  rw[de,hqj];refine LH.snoc ⟨k2.len,λi b q e1 e2=>?_⟩ (by rw[ar ne];exact er);have hb:b≠D:=λz=>k3 (by rw[←z];exact bJ e1);rw[ar hb];exact s3 _ _ (k2.get i b q e1 e2)
 intro Hx hc;obtain⟨bs,k1,k2,k3,k4,k5⟩:=(hPc _ _).mp hc;rw[ac,la,eZ (by omega)]at k2;exact fin D bs Hx (s2.trans k4) (s2.free nD) k1 k2 (λb hb=>s2.free (k5 b hb)) k3
def iJ (w:Nat)(RP:List (List (List Int)))(cs:List Nat)(p:Int)(n:Nat):Bool:=(aD n).all λi=>co (eK w RP cs p i) (cs.getD i 0) != 0
theorem qZ {w:Nat}{RP:List (List (List Int))}{cs:List Nat}{p:Int}{n:Nat}:iJ w RP cs p n=true↔Piv w RP cs p n:=by
 unfold iJ Piv;rw[List.all_eq_true];constructor
 ·intro h i hi;have:=h i (dS.mpr hi)
  simpa using this
 ·intro h i hi
  simpa using h i (dS.mp hi)
def plc (w:Nat)(RP:List (List (List Int)))(cs:List Nat)(t:Nat):List Int:=((aD t).filter λp:Nat=>iJ w RP cs (p:Int) RP.length).map λp:Nat=>(p:Int)
theorem lP {w:Nat}{RP:List (List (List Int))}{cs:List Nat}{t:Nat}(h:Piv w RP cs (t:Int) RP.length):plc w RP cs (t+1)=plc w RP cs t++[(t:Int)]:=by
 unfold plc;rw[mH,Gm,aV];simp[qZ.mpr h]
theorem lU {w:Nat}{RP:List (List (List Int))}{cs:List Nat}{t:Nat}(h:¬Piv w RP cs (t:Int) RP.length):plc w RP cs (t+1)=plc w RP cs t:=by
 have hf:iJ w RP cs (t:Int) RP.length=false:=by
  cases e:iJ w RP cs (t:Int) RP.length with
  | false=>rfl
  | true=>exact absurd (qZ.mp e) h
 unfold plc;rw[mH,Gm,aV];simp[hf]
theorem Em {w:Nat}{RP:List (List (List Int))}{cs:List Nat}{t:Nat}{p:Int}(h:p∈plc w RP cs t):∃n:Nat,p=(n:Int)∧n<t∧Piv w RP cs p RP.length:=by
 unfold plc at h;obtain⟨n,hn,rfl⟩:=aW.mp h;obtain⟨h1,h2⟩:=rB.mp hn;exact⟨n,rfl,dS.mp h1,qZ.mp h2⟩
theorem En {w:Nat}{RP:List (List (List Int))}{cs:List Nat}:∀t,(plc w RP cs t).length<=t
 | 0=>am _
 | t+1=>by
  have ih:=En (w:=w) (RP:=RP) (cs:=cs) t;by_cases hp:Piv w RP cs (t:Int) RP.length
  ·rw[lP hp,bM];simp;omega
  ·rw[lU hp];omega
theorem L4 {w:Nat}{RP:List (List (List Int))}{cs:List Nat}{t:Nat}:(plc w RP cs (t+1)).length<=(plc w RP cs t).length+1:=by
 by_cases hp:Piv w RP cs (t:Int) RP.length
 ·rw[lP hp,bM];exact am _
 ·rw[lU hp];omega
theorem Eo (w:Nat)(RP:List (List (List Int)))(cs:List Nat):∀t,(plc w RP cs t).Nodup
 | 0=>rQ
 | t+1=>by
  have ih:=Eo w RP cs t;by_cases hp:Piv w RP cs (t:Int) RP.length
  ·rw[lP hp,rR];refine⟨ih,by simp,λa ha b hb=>?_⟩;rw[aQ.mp hb];obtain⟨n,rfl,hn,_⟩:=Em ha;omega
  ·rw[lU hp];exact ih
structure OcOk (w:Nat)(RP:List (List (List Int)))(cs:List Nat)(q:List (List Int))(gs:List (List Int))(Pn:Nat):Prop where
 k19:RP.length<=19
 kw:RP.length<=w
 wid:∀v∈RP++[q],v.length=w
 col:∀c∈cs,c<w
 cl:cs.length<=19
 len:gs.length=RP.length+1
 P7:Pn<=700
 tb:∀p:Nat,p<Pn->TBd w RP cs (p:Int)
 lo:∀p:Nat,p<Pn->Piv w RP cs (p:Int) RP.length->LowOk (bI w q RP.length (p:Int)) (cR w RP cs (p:Int) RP.length) cs
 vq:q.length<=20∧∀f∈q,f.length<=60∧∀c∈f,Bd 1000 c
 mrk:∀p:Nat,p<Pn->Piv w RP cs (p:Int) RP.length->∀(i:Nat) (g:List Int),gs[i]?=some g->co (cI w RP cs q (p:Int)) (w+i)=val (p:Int) g
 ng:∀g∈gs,Nml g∧∀p:Nat,p<Pn->Bd 10000 (val (p:Int) g)
def lY (qs:List (List (List Int)))(cs:List Nat)(N:Int):Prop:=∃(bv bc:List Int) (m:Int),bv.length=qs.length∧bc.length=cs.length∧(∀(i:Nat) (b:Int) (q:List (List Int)),bv[i]?=some b->qs[i]?=some q->g_ (hU q cs) b)∧(∀(i:Nat) (b:Int) (c:Nat),bc[i]?=some b->cs[i]?=some c->g_ (h_ qs c) b)∧m∈bv∧(∀b∈bv,m<=b)∧N=(if bc.sum<bv.sum-m then bc.sum else bv.sum-m)
def L5 {K:PySem.W.Frag}{mg:Str->Option Value}(T:Tx K mg):Sp:=λvs H Q _=>∃(x dx Kp Cl Tb Vc:Addr) (us:List Addr) (kvs:List (Key×V)) (M:List Addr) (w:Nat) (RP:List (List (List Int))) (cs:List Nat) (pl:Int) (q gs:List (List Int)) (Pn:Nat) (f:Nat->List Int) (qs:List (List Int)) (p0:List Int) (t0:Int),vs=[.ref x,.ref Vc]∧Spn T H x dx Kp Cl Tb us kvs M w RP cs pl∧VecAt H M Vc q∧OcOk w RP cs q gs Pn∧kvs.length+Pn<=900∧(∀N,lY (RP++[q]) cs N->0<=N∧N<60∧(∀g∈gs,(g.length:Int)<=N+1)∧N<((plc w RP cs Pn).length:Int))∧
 ((∀p∈gs,p.length<=64∧Nml p∧∀c∈p,Bd 5000 c)∧(∀i,(f i).length<=64)∧f 0=[]∧(∀i r,gs[i]?=some r->gq (f i) r (f (i+1)))∧gs.getLast?=some (p0++[t0])∧f gs.length≠[]∧Nml (f gs.length)∧(∀c∈f gs.length,Bd 8000 c)∧qs.length=gs.length∧(∀(i:Nat) (p q:List Int),gs[i]?=some p->qs[i]?=some q->Nml q∧Div p (eI (decide (t0<0)) (f gs.length)) q))∧
 ∀(H':Hp) (kvs':List (Key×V)) (M':List Addr) (D:Addr) (bs:List Addr),Spn T H' x dx Kp Cl Tb us kvs' M' w RP cs pl->KX M H H'->(∀a∈M,a∈M')->(∀a∈M',a∈M∨H a=none)->kvs'.length<=kvs.length+Pn->D∉M'->H D=none->H' D=some (.lst (bs.map V.ref))->LH H' bs qs->(∀b∈bs,b∉M'∧H b=none)->D∉bs->Q (.ref D) H'
theorem L6 (bs:List Int)(k:Nat):dH (bs.map V.int) (some (k:Int)) none=(bs.drop k).map V.int:=by
 unfold dH;rw[HT.sIx_nat,HT.sIx_none,ac,←xz,eZ (by rw[ac,xw];omega)];congr 1;by_cases z:k<=bs.length
 ·rw[rS z]
 ·rw[Nat.min_eq_right (by omega),Nw (am _),Nw (by omega)]
theorem KW.trans {x Kp Cl Tb:Addr}{kvs kvs1:List (Key×V)}{H H1 H2:Hp}(k:KW x Kp Cl Tb kvs H H1)(tk:∀e∈kvs1,e∈kvs∨∀a,e.2=V.ref a->H a=none)(k2:KW x Kp Cl Tb kvs1 H1 H2):KW x Kp Cl Tb kvs H H2:=λy o a1 a2 a3 a4 a5 e=>by
 refine k2 y o a1 a2 a3 a4 (λe' he z=>?_) (k y o a1 a2 a3 a4 a5 e);rcases tk e' he with h|h
 ·exact a5 e' h z
 ·rw[h y z]at e;cases e
theorem L7 {M M1:List Addr}{kvs kvs1 kvs2:List (Key×V)}{H H1:Hp}(kx:KX M H H1)(ms:∀a∈M,a∈M1)(al:∀a∈M1,∃o,H1 a=some o)(tk:∀e∈kvs1,e∈kvs∨∀a,e.2=V.ref a->H a=none)(tk2:∀e∈kvs2,e∈kvs1∨∀a,e.2=V.ref a->H1 a=none):∀e∈kvs2,e∈kvs∨∀a,e.2=V.ref a->H a=none:=λe he=>by
 rcases tk2 e he with h|h
 ·exact tk e h
 ·refine .inr λa ea=>?_;have h1:=h a ea
  cases z:H a with
  | none=>rfl
  | some o=>
   by_cases m:a∈M
   ·obtain⟨o',e'⟩:=al a (ms a m);rw[h1]at e';cases e'
   ·rw[kx a o m z]at h1;cases h1
theorem L8 {P:Program}{w:World}{K:PySem.W.Frag}{mg:Str->Option Value}{base:Heap}(T:Tx K mg):FnOk P w K mg base CX0 8 T.Qc T.Qd ["self","vector"] (L5 T):=by
 refine T.Rx.ok sc_Span_only_choice (λvs H Q E h=>?_) (λcdv A outer s H vs Q E hr h=>?_)
 ·obtain⟨x,dx,Kp,Cl,Tb,Vc,us,kvs,M,w,RP,cs,pl,q,gs,Pn,f,qs,p0,t0,rfl,_⟩:=h;rfl
 obtain⟨x,dx,Kp,Cl,Tb,Vc,us,kvs,M,w,RP,cs,pl,q,gs,Pn,f,qs,p0,t0,rfl,S,hV,O,l9,hN,hC,fin⟩:=h;refine⟨_,((ah (ax (i:=2) sc_Span_only_choice.nd rfl (Or.inl rfl) (ak ci ai (aK (FnOk.mono (Lo T) (by decide)) hr rfl T.Rh T.QH.kp T.Ri .nil aB (aa (ak iV (cU (pv 0) rfl) (bU (aa (pv 1) ae))) (aa (cU (pv 0) rfl) ae)))))
  (ah (ax (i:=3) sc_Span_only_choice.nd rfl (Or.inr rfl) (bU ae))
  (ah (ax (i:=4) sc_Span_only_choice.nd rfl (Or.inr rfl) (bU ae))
  (ah (ax (i:=5) sc_Span_only_choice.nd rfl (Or.inl rfl) ai)
  (ah (ga PassesOwn.never (aO iT (aG aX rfl T.NF aZ (aa (pv 3) ae)) (pv 2) (aN _)) (ah (ax (i:=6) sc_Span_only_choice.nd rfl (Or.inl rfl) (fq (pv 0) T.NG T.QZ (FnOk.mono (D4 T) (by decide)) hr T.QU .nil aB (aa (pv 1) (aa (pv 5) ae))))
  (iD (bY (aO jT (pv 6) df (aN _)) (ah (e7 (gD PySem.F.plainAttrs_list PySem.F.slot_list_append PySem.F.type_list_append fM (pv 3) (aa (pv 5) ae)))
  (ao (e7 (gD PySem.F.plainAttrs_list PySem.F.slot_list_append PySem.F.type_list_append fM (pv 4) (aa (kL kO (pv 6) (jU (cU (pv 0) rfl)) mZ) ae))))) b4)
  (ao (vi (i:=5) sc_Span_only_choice.nd rfl (Or.inl rfl) ai vm)))))
  (ao (aM (aK (FnOk.mono (L3 T) (by decide)) hr rfl T.Rj T.QI.kp T.Rk .nil aB (aa (Kb rfl (qt rfl (dj rfl (dj rfl cM)) (d_ 3 "places" (by decide) rfl (Or.inl rfl) (Or.inl rfl) ⟨_,rfl⟩ (d_ 4 "marks" (by decide) rfl (Or.inl rfl) (Or.inl rfl) ⟨_,rfl⟩ cV))) (fo rfl T.NI (aa (ak ci (aG aX rfl T.NF aZ (aa (cU (pv 0) rfl) ae)) ai) ae)) (λ_ _ _ _=>(aK (FnOk.mono (Lc T) (by decide)) hr rfl T.Rf T.QE.kp T.Rg .nil aB (aa (pv 1) (aa (e_ rfl (dD rfl (dj rfl cM) (d_ 0 "number" (by decide) rfl (Or.inl rfl) (Or.inl rfl) ⟨_,rfl⟩ cV)) (lM (K:=K) rfl (pv 2)) (λ_ _ _ _=>(aR (qP (K:=K) rfl) (pv 0) (pv 1) (λ_ _=>rfl)))) ae))))) ae)))))))))),?_⟩
 have lk:=S.lk;have k19:=O.k19;have lq:(RP++[q]).length=RP.length+1:=by simp
 have vecs:=jv (Φ:=λu qv=>VecAt H M u qv) (L:=RP++[q]) (rs:=us) (r:=Vc) (λt u qv e1 e2=>by
  have ht:t<RP.length:=by have:=(aU.mp e1).1;omega
  rw[b_ ht]at e2;exact S.vec t u qv e1 e2) (λqv e2=>by
  rw[dz (by omega),show us.length-RP.length=0 by omega]at e2
  cases Option.some.inj e2
  exact hV)
 dsimp only[aC]
 k_typeOf
 refine⟨_,_,_,S.hx,T.NG,T.NJ,_,rfl,by decide,λq1 m1=>?_⟩;have u1:=aw m1 (.lst [V.ref Vc]);refine⟨Kp,rfl,_,u1 _ _ S.hK,_,ag,?_,λq2 m2=>?_⟩
 ·rw[ac];exact b5 (bC (by simp;omega))
 have u2:=aw m2 (.lst (us.map V.ref++[V.ref Vc]));have e2:=ag (H:=L2.upd H q1 (.lst [V.ref Vc])) (a:=q2) (o:=.lst (us.map V.ref++[V.ref Vc]));have s2:=u1.trans u2;generalize L2.upd (L2.upd H q1 (.lst [V.ref Vc])) q2 (.lst (us.map V.ref++[V.ref Vc]))=H3 at e2 s2 ⊢;clear u1 u2 m1 m2;have e2':H3 q2=some (.lst ((us++[Vc]).map V.ref)):=by rw[e2,aV];rfl
 have S3:=S.same s2;have vl:VL K H3 (us++[Vc]) (RP++[q]):=⟨by simp[lk],λi v qv e1 e3=>by
  obtain⟨as,v1,v2,_⟩:=vecs i v qv e1 e3;exact⟨as,SqL.of (s2 _ _ v1),(v2.same s2).ll⟩⟩
 refine⟨_,_,_,S3.hx,T.NG,T.NM,_,rfl,q2,Cl,us++[Vc],RP++[q],cs,rfl,SqL.of e2',vl,SqL.of S3.hC,by simp,by rw[lq];omega,by have:=O.cl;omega,λv hv c hc=>by rw[O.wid v hv];exact O.col c hc,λbv bc m N H4 s4 d1 d2 d3 d4 d5 d6 d7=>?_⟩;obtain⟨N0,N6,gN,pN⟩:=hN N ⟨bv,bc,m,d1,d2,d3,d4,d5,d6,d7⟩;obtain⟨Nn,rfl⟩:∃Nn:Nat,N=(Nn:Int):=⟨N.toNat,by omega⟩
 clear d1 d2 d3 d4 d5 d6 d7 bv bc m;have s04:=s2.trans s4;have S4:=S.same s04;clear S3 vl e2' e2 s2 s4;refine⟨_,rfl,?_⟩;dsimp only[aC]
 k_typeOf
 refine⟨aI _,λPl nPl=>?_⟩;have S5:=S4.more (o:=.lst []) nPl;have u5:=aw nPl (.lst []);have e5:=ag (H:=H4) (a:=Pl) (o:=.lst []);generalize L2.upd H4 Pl (.lst [])=H5 at S5 u5 e5 ⊢;dsimp only[aC]
 k_typeOf
 refine⟨aI _,λMk nMk=>?_⟩;have S6:=S5.more (o:=.lst []) nMk;have u6:=aw nMk (.lst []);have e6:=ag (H:=H5) (a:=Mk) (o:=.lst []);have f6:=u6 _ _ e5;have dPM:Pl≠Mk:=λz=>by rw[←z,e5]at nMk;cases nMk
 generalize L2.upd H5 Mk (.lst [])=H6 at S6 u6 e6 f6 ⊢;have s06:=s04.trans (u5.trans u6);have n0P:=s04.free nPl;have n0M:=s04.free (u5.free nMk);have mf6:∀a∈Mk :: Pl :: M,a∈M∨H a=none:=λa ha=>by
  rcases a_.mp ha with z|ha
  ·exact .inr (by rw[z];exact n0M)
  ·rcases a_.mp ha with z|z
   ·exact .inr (by rw[z];exact n0P)
   ·exact .inl z
 have V6:=(hV.more mf6).same s06;have nk:∀e∈kvs,e.2≠V.ref Pl∧e.2≠V.ref Mk:=λe he=>by
  obtain⟨p,ta,n,rs,h1,h2,h3,_⟩:=S.tab e he;refine⟨λz=>?_,λz=>?_⟩
  ·rw[h1]at z;injection z with z;rw[z,n0P]at h3;cases h3
  ·rw[h1]at z;injection z with z;rw[z,n0M]at h3;cases h3
 have dP:Pl≠x∧Pl≠Kp∧Pl≠Cl∧Pl≠Tb:=⟨(λz=>by rw[z,S.hx]at n0P;cases n0P),(λz=>by rw[z,S.hK]at n0P;cases n0P),(λz=>by rw[z,S.hC]at n0P;cases n0P),(λz=>by rw[z,S.hT]at n0P;cases n0P)⟩
 have dM:Mk≠x∧Mk≠Kp∧Mk≠Cl∧Mk≠Tb:=⟨(λz=>by rw[z,S.hx]at n0M;cases n0M),(λz=>by rw[z,S.hK]at n0M;cases n0M),(λz=>by rw[z,S.hC]at n0M;cases n0M),(λz=>by rw[z,S.hT]at n0M;cases n0M)⟩
 clear S4 S5 u5 u6 e5 nPl nMk;dsimp only[aC]
 k_typeOf
 dsimp only[aC]
 k_typeOf
 obtain⟨J,hJ⟩:∃J:Nat->L2.St->Hp->Prop,∀m σ H',J m σ H'↔∃(t:Nat) (kvs':List (Key×V)) (M':List Addr) (r6:Option V) (mks:List Addr),σ=[some (V.ref x),some (V.ref Vc),some (V.int (1+(Nn:Int))),some (V.ref Pl),some (V.ref Mk),some (V.int (t:Int)),r6]∧Spn T H' x dx Kp Cl Tb us kvs' M' w RP cs pl∧VecAt H' M' Vc q∧H' Pl=some (.lst ((plc w RP cs t).map V.int))∧H' Mk=some (.lst (mks.map V.ref))∧LH H' mks ((plc w RP cs t).map λp=>(cI w RP cs q p).drop w)∧(∀a∈mks,a∉M')∧Pl∈M'∧Mk∈M'∧KW x Kp Cl Tb kvs H H'∧(∀a∈M,a∈M')∧(∀a∈M',a∈M∨H a=none)∧(∀e∈kvs',e.2≠V.ref Pl∧e.2≠V.ref Mk)∧(∀e∈kvs',e∈kvs∨∀a,e.2=V.ref a->H a=none)∧kvs'.length<=kvs.length+t∧t<=Pn∧(plc w RP cs t).length<=Nn+1∧m=Pn-t:=⟨_,λ_ _ _=>Iff.rfl⟩
 refine gg J Pn ((hJ _ _ _).mpr ⟨0,kvs,Mk :: Pl :: M,none,[],rfl,S6,V6,f6,e6,LH.nil _,λa ha=>by simp at ha,.tail _ (.head _),.head _,λy o _ _ _ _ _ e=>s06 _ _ e,λa h=>.tail _ (.tail _ h),mf6,nk,λ_ h=>.inl h,by omega,aI _,aI _,rfl⟩) ?_;intro m σ H7 hm;obtain⟨t,kvs',M',r6,mks,rfl,S7,V7,eP,eM,hMk,nMk,mP,mM,kw,ms,mf,nt,tk,lk7,tP,ln1,rfl⟩:=(hJ _ _ _).mp hm
 k_units
 refine⟨_,.inl (SqL.of eP),?_⟩;rw[ac];refine bR (λz=>?_) (λz=>?_)
 ·have ht:t<Pn:=by
   rcases Gg t Pn with h|h
   ·exact h
   ·rw[show t=Pn by omega]at z;omega
  refine⟨J (Pn-(t+1)),λσ' H' z=>⟨_,by omega,z⟩,dx,_,S7.hx,rfl,x,dx,Kp,Cl,Tb,Vc,us,kvs',M',w,RP,cs,pl,(t:Int),q,rfl,S7,O.tb t ht,by omega,by omega,V7,O.vq.1,O.vq.2,O.lo t ht,λH8 kvs8 M8 S8 kw8 ms8 mf8 l8 tk8=>?_⟩;have kx8:=S7.kx kw8;have kx8':KX M8 H7 H8:=λy o ny e=>kx8 y o (λz=>ny (ms8 y z)) e;have V8:=(V7.more mf8).kx kx8';have nt7:=nt;have eP8:=kw8 Pl _ dP.1 dP.2.1 dP.2.2.1 dP.2.2.2 (λe he=>(nt e he).1) eP;have eM8:=kw8 Mk _ dM.1 dM.2.1 dM.2.2.1 dM.2.2.2 (λe he=>(nt e he).2) eM;have hMk8:=hMk.kx kx8 nMk;have nMk8:∀a∈mks,a∉M8:=λa ha z=>by
   rcases mf8 a z with h|h
   ·exact nMk a ha h
   ·obtain⟨i,hi,rfl⟩:=dq.mp ha;have:=hMk.get i _ _ (aj hi) (aj (by rw[←hMk.len];exact hi));rw[h]at this;cases this
  have nt8:∀e∈kvs8,e.2≠V.ref Pl∧e.2≠V.ref Mk:=λe he=>by
   rcases tk8 e he with h|h
   ·exact nt e h
   ·refine⟨λz=>?_,λz=>?_⟩
    ·have y:=h Pl z;rw[eP]at y;cases y
    ·have y:=h Mk z;rw[eM]at y;cases y
  have kwT:=kw.trans tk kw8;have tkT:=L7 (S.kx kw) ms S7.al tk tk8;have mfT:=jw (S.kx kw) mf mf8;have msT:∀a∈M,a∈M8:=λa h=>ms8 a (ms a h);obtain⟨Mx,hMx⟩:∃Mx:L2.St->Hp->Prop,∀σ H',Mx σ H'↔∃(r6:Option V) (mks':List Addr),σ=[some (V.ref x),some (V.ref Vc),some (V.int (1+(Nn:Int))),some (V.ref Pl),some (V.ref Mk),some (V.int (t:Int)),r6]∧Spn T H' x dx Kp Cl Tb us kvs8 M8 w RP cs pl∧VecAt H' M8 Vc q∧H' Pl=some (.lst ((plc w RP cs (t+1)).map V.int))∧H' Mk=some (.lst (mks'.map V.ref))∧LH H' mks' ((plc w RP cs (t+1)).map λp=>(cI w RP cs q p).drop w)∧(∀a∈mks',a∉M8)∧KW x Kp Cl Tb kvs H H':=⟨_,λ_ _=>Iff.rfl⟩
  have tail:∀σ H',Mx σ H'->∃r6:Option V,σ=[some (V.ref x),some (V.ref Vc),some (V.int (1+(Nn:Int))),some (V.ref Pl),some (V.ref Mk),some (V.int (t:Int)),r6]∧J (Pn-(t+1)) [some (V.ref x),some (V.ref Vc),some (V.int (1+(Nn:Int))),some (V.ref Pl),some (V.ref Mk),some (V.int ((t:Int)+1)),r6] H':=λσ H' h=>by
   obtain⟨r6,mks',rfl,g1,g2,g3,g4,g5,g6,g7⟩:=(hMx _ _).mp h;exact⟨r6,rfl,(hJ _ _ _).mpr ⟨t+1,kvs8,M8,r6,mks',rfl,g1,g2,g3,g4,g5,g6,ms8 _ mP,ms8 _ mM,g7,msT,mfT,nt8,tkT,by omega,by omega,by have:=L4 (w:=w) (RP:=RP) (cs:=cs) (t:=t);omega,rfl⟩⟩
  refine⟨λR nR eR pv=>?_,λnp=>?_⟩
  ·refine gY Mx ?_ ?_
   ·k_units
    rw[if_pos (λz=>nomatch z)];have mP8:=ms8 _ mP;have mM8:=ms8 _ mM;have dR:R≠Pl:=λz=>nR (by rw[z];exact mP8);have lpl:=En (w:=w) (RP:=RP) (cs:=cs) t;have P7:=O.P7;have S9:=S8.other (o:=.lst ((plc w RP cs t).map V.int++[V.int (t:Int)])) mP8 dP.1 dP.2.1 dP.2.2.1 dP.2.2.2 λe he=>(nt8 e he).1;have k9:KX M8 H8 (L2.upd H8 Pl (.lst ((plc w RP cs t).map V.int++[V.int (t:Int)]))):=λy o ny e=>by
     have d:y≠Pl:=λz=>ny (by rw[z];exact mP8);rw[ar d];exact e
    have eP9:=ag (H:=H8) (a:=Pl) (o:=.lst ((plc w RP cs t).map V.int++[V.int (t:Int)]));have eM9:=(ar (H:=H8) (o:=.lst ((plc w RP cs t).map V.int++[V.int (t:Int)])) (Ne.symm dPM)).trans eM8;have eR9:=(ar (H:=H8) (o:=.lst ((plc w RP cs t).map V.int++[V.int (t:Int)])) dR).trans eR;have kw9:KW x Kp Cl Tb kvs H (L2.upd H8 Pl (.lst ((plc w RP cs t).map V.int++[V.int (t:Int)]))):=λy o a1 a2 a3 a4 a5 e=>by
     have d:y≠Pl:=λz=>by rw[z,n0P]at e;cases e
     rw[ar d];exact kwT y o a1 a2 a3 a4 a5 e
    refine⟨fV (SqL.of eP8),_,eP8,by rw[ac];exact bC (by omega),?_⟩;generalize L2.upd H8 Pl (.lst ((plc w RP cs t).map V.int++[V.int (t:Int)]))=H9 at S9 k9 eP9 eM9 eR9 kw9 ⊢;refine⟨fV (SqL.of eM9),_,_,_,S9.hx,T.NG,T.NN,_,rfl,_,rfl,_,SqL.of eR9,λD nD=>?_⟩;rw[L6];have u:=aw nD (.lst (((cI w RP cs q (t:Int)).drop w).map V.int));have SA:=S9.same u;have eD:=ag (H:=H9) (a:=D) (o:=.lst (((cI w RP cs q (t:Int)).drop w).map V.int));have nDM:D∉M8:=λz=>by obtain⟨o,e⟩:=S9.al D z;rw[nD]at e;cases e
    have dDM:D≠Mk:=λz=>nDM (by rw[z];exact mM8);have eMA:=u _ _ eM9;have ePA:=u _ _ eP9;have hMA:=(hMk8.kx k9 nMk8).same u;have VA:=(V8.kx k9).same u;have kwA:KW x Kp Cl Tb kvs H (L2.upd H9 D (.lst (((cI w RP cs q (t:Int)).drop w).map V.int))):=λy o a1 a2 a3 a4 a5 e=>u _ _ (kw9 y o a1 a2 a3 a4 a5 e);generalize L2.upd H9 D (.lst (((cI w RP cs q (t:Int)).drop w).map V.int))=HA at SA eD eMA ePA hMA VA kwA ⊢;have lmk:mks.length<=t:=by have:=hMk.len;rw[ac]at this;omega
    have kB:KX M8 HA (L2.upd HA Mk (.lst (mks.map V.ref++[V.ref D]))):=λy o ny e=>by
     have d:y≠Mk:=λz=>ny (by rw[z];exact mM8);rw[ar d];exact e
    refine⟨_,eMA,by rw[ac];exact bC (by omega),(hMx _ _).mpr ⟨_,mks++[D],rfl,SA.other mM8 dM.1 dM.2.1 dM.2.2.1 dM.2.2.2 λe he=>(nt8 e he).2,VA.kx kB,?_,by rw[ag,aV];rfl,?_,λa ha=>?_,λy o a1 a2 a3 a4 a5 e=>?_⟩⟩
    ·rw[ar dPM,lP pv,aV];exact ePA
    ·rw[lP pv,aV];exact (hMA.kx kB nMk8).snoc (by rw[ar dDM];exact eD)
    ·rcases bj.mp ha with h|h
     ·exact nMk8 a h
     ·rw[aQ.mp h];exact nDM
    ·have d:y≠Mk:=λz=>by rw[z,n0M]at e;cases e
     rw[ar d];exact kwA y o a1 a2 a3 a4 a5 e
   ·intro σ H9 h9;obtain⟨r6',rfl,hj⟩:=tail σ H9 h9
    k_units
    exact hj
  ·refine gY Mx ?_ ?_
   ·k_units
    refine (hMx _ _).mpr ⟨_,mks,rfl,S8,V8,?_,eM8,?_,nMk8,kwT⟩
    ·rw[lU np];exact eP8
    ·rw[lU np];exact hMk8
   ·intro σ H9 h9;obtain⟨r6',rfl,hj⟩:=tail σ H9 h9
    k_units
    exact hj
 ·have gt:Nn+1<=(plc w RP cs t).length:=by omega
  refine⟨_,_,_,S7.hx,T.NG,T.NJ,_,rfl,Kp,rfl,_,.inl (SqL.of S7.hK),?_⟩;have lus:(us.map V.ref).length=RP.length:=by rw[ac];exact lk
  rw[lus];refine⟨by omega,by omega,λD nD=>?_⟩;rw[show ((RP.length:Int)+1).toNat=RP.length+1 by omega];have P7:=O.P7;have lg:=O.len;have hps:∀p∈plc w RP cs t,∃n:Nat,p=(n:Int)∧n<Pn∧Piv w RP cs p RP.length:=λp hp=>by
   obtain⟨n,h1,h2,h3⟩:=Em hp;exact⟨n,h1,by omega,h3⟩
  have nd:=Eo w RP cs t;obtain⟨psx,hpsx⟩:∃psx,plc w RP cs t=psx:=⟨_,rfl⟩
  rw[hpsx]at hps nd gt ln1 eP hMk;have lmk:=hMk.len;rw[ac]at lmk;obtain⟨Pc,hPc⟩:∃Pc:Nat->Hp->Prop,∀j Hx,Pc j Hx↔∃bs:List Addr,Hx D=some (.lst (bs.map V.ref))∧LH Hx bs (gs.take j)∧D∉bs∧Same H7 Hx:=⟨_,λ_ _=>Iff.rfl⟩
  refine vU Pc ((hPc _ _).mpr ⟨[],ag,LH.nil _,by simp,aw nD _⟩) ?_ ?_
  ·intro j Hx hj hc;obtain⟨bs,k1,k2,k3,k4⟩:=(hPc _ _).mp hc;have hgj:gs[j]?=some gs[j]:=aj (by omega);obtain⟨n1,n2⟩:=O.ng _ (bH (show j<gs.length by omega));have n3:=gN _ (bH (show j<gs.length by omega));have e0:(0:Int)+(j:Int)=(j:Int):=f_ _;have kj:=O.kw;generalize gs[j]=g at hgj n1 n2 n3
   (iterate 3 (k_units;(try simp only[bst,dr,e0]));k_units)
   refine⟨⟨_,SqL.of (k4 _ _ eM)⟩,λD1 nD1=>?_⟩;obtain⟨Pi,hPi⟩:∃Pi:Nat->Hp->Prop,∀i Hy,Pi i Hy↔Hy D1=some (.lst (((psx.map λp=>val p g).take i).map V.int))∧Same Hx Hy:=⟨_,λ_ _=>Iff.rfl⟩
   refine ff (xs:=mks.map V.ref) Pi ((hPi _ _).mpr ⟨ag,aw nD1 _⟩) (λi Hy _ y=>by obtain⟨_,y⟩:=(hPi i Hy).mp y;exact SqL.of ((k4.trans y) _ _ eM)) ?_ ?_
   ·intro i v Hy hv hi;obtain⟨m1,m2⟩:=(hPi _ _).mp hi;rw[aA]at hv;obtain⟨a,ha,rfl⟩:=cO.mp hv;have hip:i<psx.length:=by have:=(aU.mp ha).1;omega
    have hpi:psx[i]?=some psx[i]:=aj hip;obtain⟨n,hn1,hn2,hn3⟩:=hps _ (bH hip);generalize psx[i]=p at hpi hn1 hn3;subst hn1;have ea:=hMk.get i a _ ha (by rw[aA,hpi];rfl);have hlow:=lK (O.lo n hn2 hn3) RP.length (by rw[dJ];exact am _);have hwq:q.length=w:=O.wid q (by simp);have hll:(cI w RP cs q (n:Int)).length=w+(w+1):=by
     unfold cI;rw[hlow];unfold bI;rw[bM,ac,ac,fI,hwq]
    have hjl:j<((cI w RP cs q (n:Int)).drop w).length:=by rw[xw,hll];omega
    have hco:co ((cI w RP cs q (n:Int)).drop w) j=val (n:Int) g:=by
     rw[←O.mrk n hn2 hn3 j g hgj];unfold co;rw[av,av,List.getElem?_drop]
    (iterate 3 (k_units;(try simp only[bst,dr]));k_units)
    refine⟨_,SqL.of ((k4.trans m2) _ _ ea),_,j6 hjl,_,m1,?_,(hPi _ _).mpr ⟨?_,m2.more nD1⟩⟩
    ·rw[ac,b6];exact bC (by omega)
    ·rw[ag,de,aA,hpi,aV,hco];rfl
   intro Hy hi;obtain⟨m1,m2⟩:=(hPi _ _).mp hi;rw[ac,lmk,eZ (by rw[ac];exact am _)]at m1;refine⟨Pl,D1,psx,g,rfl,SqL.of ((k4.trans m2) _ _ eP),SqL.of m1,⟨by omega,n1,by omega,λa b ha hb hne h=>by
    rcases Nat.lt_or_gt_of_ne hne with y|y
    ·exact jd.mp nd a b ha hb y h
    ·exact jd.mp nd b a hb ha y h.symm,λp hp=>?_,λp hp=>?_⟩,λR Hz sz nR eR=>?_⟩
   ·obtain⟨n,rfl,h2,_⟩:=hps p hp;exact Bd.of_lt (m:=701) (by omega) (by decide)
   ·obtain⟨n,rfl,h2,_⟩:=hps p hp;exact n2 n h2
   have lb:=k2.len;rw[b6]at lb;have ne:R≠D:=λz=>by rw[z,m2 _ _ k1]at nR;cases nR
   refine⟨_,sz _ _ (m2 _ _ k1),by rw[ac];exact bC (by omega),(hPc _ _).mpr ⟨bs++[R],by rw[ag,aV];rfl,?_,by simp[k3];exact λz=>ne z.symm,(k4.trans (m2.trans sz)).more nD⟩⟩;rw[de,hgj];refine LH.snoc ⟨k2.len,λi b' p e1 e2=>?_⟩ (by rw[ar ne];exact eR);have hb:b'≠D:=λz=>k3 (by rw[←z];exact bJ e1);rw[ar hb];exact sz _ _ (m2 _ _ (k2.get i b' p e1 e2))
  intro Hx hc;obtain⟨bs,k1,k2,k3,k4⟩:=(hPc _ _).mp hc;rw[eZ (by omega)]at k2;obtain⟨c1,c2,c3,c4,c5,c6,c7,c8,c9,c10⟩:=hC;refine⟨D,bs,gs,f,qs,p0,t0,rfl,SqL.of k1,k2.ll,by omega,c1,c2,c3,c4,c5,c6,c7,c8,c9,c10,λD2 bs2 Hz sz nD2 eD2 lD2 nb2 nDb=>?_⟩;have S8:=(S7.same k4).same sz;have fr:∀y,Hx y=none->y∉M'∧H y=none:=λy hy=>by
   have h1:y∉M':=λz=>by obtain⟨o,e⟩:=(S7.same k4).al y z;rw[hy]at e;cases e
   refine⟨h1,?_⟩
   cases e:H y with
   | none=>rfl
   | some o=>
    have:=k4 _ _ (S.kx kw y o (λz=>h1 (ms y z)) e);rw[hy]at this;cases this
  exact fin Hz kvs' M' D2 bs2 S8 (S.kx λy o a1 a2 a3 a4 a5 e=>sz _ _ (k4 _ _ (kw y o a1 a2 a3 a4 a5 e))) ms mf (by omega) (fr D2 nD2).1 (fr D2 nD2).2 eD2 lD2 (λb hb=>fr b (nb2 b hb)) nDb
def spw (n:Nat)(few:List Nat)(ws:List (List Int)):Nat->List (List Int)
 | 0=>aL n []++[ws.getD few.length []]
 | t+1=>(spw n few ws t).set (few.getD t 0) (ws.getD t [])
theorem q8 (n:Nat)(few:List Nat)(ws:List (List Int)):∀t,(spw n few ws t).length=n+1
 | 0=>by simp[spw]
 | t+1=>by rw[spw,ik];exact q8 n few ws t
theorem L9 {w:Nat}{RP:List (List (List Int))}{cs:List Nat}{q:List (List Int)}{c:Nat}{p:Int}(hl:cs.length=RP.length)(hp:Piv w RP cs p RP.length)(h:co (cI w RP cs q p) c≠0):Piv w (RP++[q]) (cs++[c]) p (RP.length+1):=λi hi=>by
 by_cases z:i<RP.length
 ·exact D5 hl (am _) hp i z
 ·have e:i=RP.length:=by omega
  subst e;unfold eK;rw[qS hl _ (am _),qR _ (by omega)];have e1:(RP++[q]).getD RP.length []=q:=by simp
  have e2:(cs++[c]).getD RP.length 0=c:=by rw[←hl];simp
  rw[e1,e2];exact h
structure SpTh (w B KM:Nat)(St:List (List (List Int))->List Nat->Int->Prop)(Vq:List (List (List Int))->List (List Int)->Prop)(Rl:List (List (List Int))->List (List Int)->List (List Int)->Prop):Prop where
 b3:(KM+2)*(2*B+2)<=900
 k18:KM<=18
 st0:St [] [] 97
 stS:∀RP cs pl q c (t:Nat),St RP cs pl->Vq RP q->c<w->c∉cs->t<=B->Piv w (RP++[q]) (cs++[c]) (pl+(t:Int)) (RP.length+1)->St (RP++[q]) (cs++[c]) (pl+(t:Int))
 bd:∀RP cs pl q,St RP cs pl->Vq RP q->RP.length<=KM∧q.length=w∧∀f∈q,f.length<=40∧∀c∈f,Bd 1000 c
 tb:∀RP cs pl q,St RP cs pl->Vq RP q->TBd w RP cs pl∧Piv w RP cs pl RP.length∧LowOk (bI w q RP.length pl) (cR w RP cs pl RP.length) cs
 hit:∀RP cs pl q c,St RP cs pl->Vq RP q->c<w->co (cI w RP cs q pl) c≠0->c∉cs∧TBd w (RP++[q]) (cs++[c]) pl
 oc:∀RP cs pl q,St RP cs pl->Vq RP q->(∀c,c<w->co (cI w RP cs q pl) c=0)->∃(gs:List (List Int)) (Pn:Nat) (f:Nat->List Int) (qs:List (List Int)) (p0:List Int) (t0:Int),OcOk w RP cs q gs Pn∧Pn<=B∧(∀N,lY (RP++[q]) cs N->0<=N∧N<60∧(∀g∈gs,(g.length:Int)<=N+1)∧N<((plc w RP cs Pn).length:Int))∧
  ((∀p∈gs,p.length<=64∧Nml p∧∀c∈p,Bd 5000 c)∧(∀i,(f i).length<=64)∧f 0=[]∧(∀i r,gs[i]?=some r->gq (f i) r (f (i+1)))∧gs.getLast?=some (p0++[t0])∧f gs.length≠[]∧Nml (f gs.length)∧(∀c∈f gs.length,Bd 8000 c)∧qs.length=gs.length∧(∀(i:Nat) (p q:List Int),gs[i]?=some p->qs[i]?=some q->Nml q∧Div p (eI (decide (t0<0)) (f gs.length)) q))∧
  FcOk w (RP++[q]) qs∧((∀c,c<w->c∉cs->dN (RP++[q]) qs c (RP.length+1)=[])->Rl RP q qs)∧
  ∀c,c<w->c∉cs->dN (RP++[q]) qs c (RP.length+1)≠[]->∃N,N<=B∧(∀t:Nat,t<=N->TBd w (RP++[q]) (cs++[c]) (pl+(t:Int)))∧Piv w (RP++[q]) (cs++[c]) (pl+(N:Int)) (RP.length+1)
 sub:∀RP cs pl q (few:List Nat),St RP cs pl->Vq RP q->few.Pairwise (· < ·)->(∀i∈few,i<RP.length)->few.length<RP.length->
  Vq (few.map λi=>RP.getD i []) q∧(∀(i j:Nat),few[i]?=some j->Vq ((few.take i).map λi=>RP.getD i []) (RP.getD j [])∧∀ws,¬Rl ((few.take i).map λi=>RP.getD i []) (RP.getD j []) ws)
 len:∀RP q ws,Rl RP q ws->ws.length=RP.length+1
 up:∀RP cs pl q (few:List Nat) ws,St RP cs pl->Vq RP q->few.Pairwise (· < ·)->(∀i∈few,i<RP.length)->few.length<RP.length->Rl (few.map λi=>RP.getD i []) q ws->Rl RP q (spw RP.length few ws few.length)
def Ep {K:PySem.W.Frag}{mg:Str->Option Value}(T:Tx K mg)(w B:Nat)(St:List (List (List Int))->List Nat->Int->Prop)(Vq:List (List (List Int))->List (List Int)->Prop)(Rl:List (List (List Int))->List (List Int)->List (List Int)->Prop)(d:Nat):Sp:=λvs H Q _=>∃(x dx Kp Cl Tb Vc:Addr) (us:List Addr) (kvs:List (Key×V)) (M:List Addr) (RP:List (List (List Int))) (cs:List Nat) (pl:Int) (as:List Addr) (q:List (List Int)),vs=[.ref x,.ref Vc]∧Spn T H x dx Kp Cl Tb us kvs M w RP cs pl∧SqL K H Vc (as.map V.ref)∧LL K H as q∧St RP cs pl∧Vq RP q∧RP.length<d∧kvs.length+(2*B+2)<=900∧
 (∀(H':Hp) (us':List Addr) (kvs':List (Key×V)) (M':List Addr) (c:Nat) (pl':Int),Spn T H' x dx Kp Cl Tb us' kvs' M' w (RP++[q]) (cs++[c]) pl'->St (RP++[q]) (cs++[c]) pl'->KX M H H'->(∀a∈M,a∈M')->(∀a∈M',a∈M∨H a=none)->kvs'.length<=kvs.length+(2*B+2)->Q .non H')∧
 (∀(H':Hp) (kvs':List (Key×V)) (M':List Addr) (D:Addr) (bs:List Addr) (ws:List (List Int)),Spn T H' x dx Kp Cl Tb us kvs' M' w RP cs pl->Rl RP q ws->KX M H H'->(∀a∈M,a∈M')->(∀a∈M',a∈M∨H a=none)->kvs'.length<=kvs.length+(2*B+2)->D∉M'->H D=none->H' D=some (.lst (bs.map V.ref))->LH H' bs ws->(∀b∈bs,b∉M'∧H b=none)->D∉bs->Q (.ref D) H')
def L_ {K:PySem.W.Frag}{mg:Str->Option Value}(T:Tx K mg)(w B:Nat)(St:List (List (List Int))->List Nat->Int->Prop)(Vq:List (List (List Int))->List (List Int)->Prop)(Rl:List (List (List Int))->List (List Int)->List (List Int)->Prop)(d:Nat):Sp:=λvs H Q _=>∃(x dx Kp Cl Tb Vc Fw:Addr) (us:List Addr) (kvs:List (Key×V)) (M:List Addr) (RP:List (List (List Int))) (cs:List Nat) (pl:Int) (q:List (List Int)) (few:List Nat),vs=[.ref x,.ref Vc,.ref Fw]∧Spn T H x dx Kp Cl Tb us kvs M w RP cs pl∧VecAt H M Vc q∧H Fw=some (.lst ((few.map λc:Nat=>(c:Int)).map V.int))∧St RP cs pl∧Vq RP q∧RP.length<=d∧few.Pairwise (· < ·)∧(∀i∈few,i<RP.length)∧few.length<RP.length∧
 (∀H':Hp,Same H H'->Q .non H')∧
 (∀(H':Hp) (D:Addr) (bs:List Addr) (ws:List (List Int)),Same H H'->Rl RP q ws->H D=none->H' D=some (.lst (bs.map V.ref))->LH H' bs ws->(∀b∈bs,H b=none)->D∉bs->Q (.ref D) H')
theorem Mc {H:Hp}{x dx:Addr}{o u:HO}(hx:H x=none)(hd:H dx=none):Same H (L2.upd (L2.upd H dx u) x o):=λb v e=>by rw[ar (dG e hx),ar (dG e hd)];exact e
theorem Er {K:PySem.W.Frag}{mg:Str->Option Value}{T:Tx K mg}{H:Hp}{Q:Addr->Hp->Prop}{E:XK}{w:Nat}(k:∀(x dx Kp Cl Tb:Addr) (M:List Addr) (H':Hp),Same H H'->(∀a∈M,H a=none)->Spn T H' x dx Kp Cl Tb [] [] M w [] [] 97->Q x H')(x dx:Addr)(hx:H x=none)(hd:H dx=none)(_:dx≠x):
  DX T.NH [.ref x,.int (w:Int)] (L2.upd (L2.upd H dx (.own x)) x (.ins T.NH dx [])) (λv H2=>v=V.non∧Q x H2) E:=by
 have s1:Same H (L2.upd (L2.upd H dx (.own x)) x (.ins T.NH dx [])):=Mc hx hd;refine⟨x,dx,(w:Int),rfl,ag,λKp Cl Tb H' s2 n1 n2 n3 d1 d2 d3 ex e1 e2 e3=>⟨rfl,?_⟩⟩;have s3:Same H H':=λy o e=>s2 y o (dG e hx) (s1 y o e);refine k x dx Kp Cl Tb [x,Kp,Cl,Tb] H' s3 (λa ha=>?_) ⟨ex,e1,e2,e3,rfl,rfl,λi u q e=>by simp at e,λe he=>by simp at he,λe he=>by simp at he,by simp,λe he=>by simp at he,d1,λa ha=>?_⟩
 ·simp only[a_,mr,or_false]at ha;rcases ha with rfl|rfl|rfl|rfl
  ·exact hx
  ·exact s1.free n1
  ·exact s1.free n2
  ·exact s1.free n3
 ·simp only[a_,mr,or_false]at ha;rcases ha with rfl|rfl|rfl|rfl
  ·exact⟨_,ex⟩
  ·exact⟨_,e1⟩
  ·exact⟨_,e2⟩
  ·exact⟨_,e3⟩
theorem Md (xs:List Addr)(a:Addr):dH ((xs++[a]).map V.ref) (some (-1)) none=[V.ref a]:=by
 unfold dH;have e:HT.sIx ((xs++[a]).map V.ref).length 0 (some (-1))=xs.length:=by
  unfold HT.sIx;dsimp only;rw[if_pos (by decide)];simp;omega
 rw[e,HT.sIx_none,←xz];simp
theorem Me {P:Program}{wd:World}{K:PySem.W.Frag}{mg:Str->Option Value}{base:Heap}(T:Tx K mg){w B KM:Nat}{St:List (List (List Int))->List Nat->Int->Prop}{Vq:List (List (List Int))->List (List Int)->Prop}{Rl:List (List (List Int))->List (List Int)->List (List Int)->Prop}(Z:SpTh w B KM St Vq Rl) (d:Nat) (F:FnOk P wd K mg base CX0 (2*d+9) T.Og T.Oh ["self","vector"] (Ep T w B St Vq Rl d)):FnOk P wd K mg base CX0 (2*d+10) T.Qi T.Qj ["self","vector","few"] (L_ T w B St Vq Rl d):=by
 refine T.RC.ok sc_Span_by_few (λvs H Q E h=>?_) (λcdv A outer s H vs Q E hr h=>?_)
 ·obtain⟨x,dx,Kp,Cl,Tb,Vc,Fw,us,kvs,M,RP,cs,pl,q,few,rfl,_⟩:=h;rfl
 obtain⟨x,dx,Kp,Cl,Tb,Vc,Fw,us,kvs,M,RP,cs,pl,q,few,rfl,S,hV,hF,hSt,hVq,kd,fp,fk,fl,q1,q2⟩:=h;refine⟨_,((ah (ax (i:=3) sc_Span_by_few.nd rfl (Or.inl rfl) (vH T.Qm (FnOk.mono (wP T) (by omega)) hr rfl T.Ql T.P5 .nil aB (aa (cU (pv 0) rfl) ae)))
  (ah (cy PassesOwn.never rfl (dC (pv 2)) (bN (i:=4) sc_Span_by_few.nd rfl (Or.inl rfl)) (ao (e7 (fq (pv 3) T.NG T.Oj (FnOk.mono F (by omega)) hr T.Oi .nil aB (aa (aR bL (cU (pv 0) rfl) (pv 4) (λ_ _=>rfl)) ae)))))
  (ah (ax (i:=5) sc_Span_by_few.nd rfl (Or.inl rfl) (fq (pv 3) T.NG T.Oj (FnOk.mono F (by omega)) hr T.Oi .nil aB (aa (pv 1) ae)))
  (ah (bY (aO jS (pv 5) df (aN _)) (ao (aM df)) b4)
  (ah (ax (i:=6) sc_Span_by_few.nd rfl (Or.inl rfl) (ak iV (e_ rfl (dD rfl cM cV) (dC (cU (pv 0) rfl)) (λ_ _ _ _=>(bU ae))) (kL kO (pv 5) (jU (d8 d9 ai)) mZ)))
  (ah (cy PassesOwn.never rfl (jp rfl T.NO (aa (pv 2) (aa (pv 5) ae))) (gS rfl (dZ (bN (i:=4) sc_Span_by_few.nd rfl (Or.inl rfl)) (dZ (bN (i:=7) sc_Span_by_few.nd rfl (Or.inl rfl)) gQ))) (ao (iA (pv 7) (iz (pv 6) (pv 4) ge))))
  (ao (aM (pv 6)))))))))),?_⟩
 obtain⟨k18,qw,bq⟩:=Z.bd RP cs pl q hSt hVq;have b3:=Z.b3;have kM:=Z.k18;dsimp only[aC]
 k_typeOf
 refine⟨_,_,_,S.hx,T.NG,T.NN,_,rfl,Er λx2 dx2 Kp2 Cl2 Tb2 M2 H1 s1 m1 S1=>?_⟩;obtain⟨sub1,sub2⟩:=Z.sub RP cs pl q few hSt hVq fp fk fl;dsimp only[aC]
 k_typeOf
 obtain⟨Pv,hPv⟩:∃Pv:Nat->L2.St->Hp->Prop,∀i σ H',Pv i σ H'↔∃(us2:List Addr) (kvs2:List (Key×V)) (M2:List Addr) (cs2:List Nat) (pl2:Int) (r4:Option V),σ=[some (V.ref x),some (V.ref Vc),some (V.ref Fw),some (V.ref x2),r4,none,none,none]∧Spn T H' x2 dx2 Kp2 Cl2 Tb2 us2 kvs2 M2 w ((few.take i).map λi=>RP.getD i []) cs2 pl2∧St ((few.take i).map λi=>RP.getD i []) cs2 pl2∧(∀a∈M2,H a=none)∧kvs2.length<=i*(2*B+2)∧Same H H':=⟨_,λ_ _ _=>Iff.rfl⟩
 have lf:(few.map λc:Nat=>(c:Int)).length=few.length:=ac ..;refine⟨⟨_,SqL.of (s1 _ _ hF)⟩,pj (xs:=(few.map λc:Nat=>(c:Int)).map V.int) Pv ((hPv _ _ _).mpr ⟨[],[],M2,[],97,none,rfl,S1,Z.st0,m1,aI _,s1⟩) (λi σ H' _ z=>by obtain⟨_,_,_,_,_,_,_,_,_,_,_,z⟩:=(hPv i σ H').mp z;exact SqL.of (z _ _ hF)) ?_ ?_⟩
 ·intro i v σ H2 hv hp;obtain⟨us2,kvs2,M2,cs2,pl2,r4,rfl,S2,t2,m2,l2,s2⟩:=(hPv _ _ _).mp hp;rw[aA,aA]at hv;obtain⟨j',hj',rfl⟩:=cO.mp hv;obtain⟨j,hj,rfl⟩:=cO.mp hj';have hi:i<few.length:=(aU.mp hj).1;have hjk:=fk j (bJ hj);obtain⟨v1,v2⟩:=sub2 i j hj;have hu:j<us.length:=by have:=S.lk;omega
  have hkn:RP[j]?=some RP[j]:=aj hjk;obtain⟨as,w1,w2,w3,w4⟩:=S.vec j _ _ (aj hu) hkn;have ek:RP.getD j []=RP[j]:=by rw[av,hkn];rfl
  have et:few.take (i+1)=few.take i++[j]:=by rw[de,hj];rfl
  have lt:((few.take i).map λi=>RP.getD i []).length=i:=by rw[ac,b6];omega
  have S0:=S.same s2;have lb:i*(2*B+2)+(2*B+2)<=900:=by
   have:(i+1)*(2*B+2)<=(KM+2)*(2*B+2):=fS _ (by omega);rw[gM,fG]at this;omega
  k_units
  refine⟨dx2,_,S2.hx,rfl,_,_,_,S0.hx,T.NG,T.NJ,_,rfl,Kp,rfl,_,SqL.of S0.hK,V.ref us[j],gW (by rw[aA,aj hu];rfl),x2,dx2,Kp2,Cl2,Tb2,us[j],us2,kvs2,M2,_,cs2,pl2,as,RP[j],rfl,S2,SqL.of (s2 _ _ w1),(w2.same s2).ll,t2,by rw[←ek];exact v1,by rw[lt];omega,by omega,λH3 us3 kvs3 M3 c pl3 S3 t3 kx ms mf l3=>?_,λH3 kvs3 M3 D bs ws _ hR _ _ _ _ _ _ _ _ _ _=>by rw[←ek]at hR;exact absurd hR (v2 ws)⟩;have s3:Same H H3:=λy o e=>kx y o (λz=>by rw[m2 y z]at e;cases e) (s2 y o e);have ea:((few.take (i+1)).map λi=>RP.getD i [])=((few.take i).map λi=>RP.getD i [])++[RP[j]]:=by rw[et,aV,dy,rH,ek]
  refine (hPv _ _ _).mpr ⟨us3,kvs3,M3,_,pl3,_,rfl,by rw[ea];exact S3,by rw[ea];exact t3,λa ha=>?_,by rw[gM,fG];omega,s3⟩;rcases mf a ha with h|h
  ·exact m2 a h
  ·exact s2.free h
 intro σ H2 hp;obtain⟨us2,kvs2,M2,cs2,pl2,r4,rfl,S2,t2,m2,l2,s2⟩:=(hPv _ _ _).mp hp;rw[ac,lf]at S2 t2 l2;rw[eZ (am _)]at S2 t2;clear hp hPv Pv;have lt:(few.map λi=>RP.getD i []).length=few.length:=ac ..;have lb:few.length*(2*B+2)+(2*B+2)<=900:=by
  have:(few.length+1)*(2*B+2)<=(KM+2)*(2*B+2):=fS _ (by omega);rw[gM,fG]at this;omega
 obtain⟨asV,w1,w2,_,_⟩:=hV;dsimp only[aC]
 k_typeOf
 refine⟨dx2,_,S2.hx,rfl,x2,dx2,Kp2,Cl2,Tb2,Vc,us2,kvs2,M2,_,cs2,pl2,asV,q,rfl,S2,SqL.of (s2 _ _ w1),(w2.same s2).ll,t2,sub1,by rw[lt];omega,by omega,λH3 us3 kvs3 M3 c pl3 S3 t3 kx ms mf l3=>?_,λH3 kvs3 M3 D bs ws S3 hR kx ms mf l3 nDM nD eD lD nb Db=>?_⟩
 ·k_units
  exact q1 H3 λy o e=>kx y o (λz=>by rw[m2 y z]at e;cases e) (s2 y o e)
 have s3:Same H H3:=λy o e=>kx y o (λz=>by rw[m2 y z]at e;cases e) (s2 y o e);have S0:=S.same s3;have hR':=Z.up RP cs pl q few ws hSt hVq fp fk fl hR;have lw:=Z.len _ _ _ hR;rw[lt]at lw;have lbs:=lD.len;dsimp only[aC]
 k_typeOf
 rw[if_neg (λz=>nomatch z)];dsimp only[aC]
 k_typeOf
 have lus:(us.map V.ref).length=RP.length:=by rw[ac];exact S.lk
 refine⟨_,_,_,S0.hx,T.NG,T.NJ,_,rfl,Kp,rfl,⟨_,SqL.of S0.hK⟩,λD1 nD1=>?_⟩;obtain⟨Pc,hPc⟩:∃Pc:Nat->Hp->Prop,∀j Hx,Pc j Hx↔∃rs:List Addr,Hx D1=some (.lst (rs.map V.ref))∧LH Hx rs (aL j [])∧D1∉rs∧Same H3 Hx∧∀b∈rs,H3 b=none:=⟨_,λ_ _=>Iff.rfl⟩
 refine ff (xs:=us.map V.ref) Pc ((hPc _ _).mpr ⟨[],ag,LH.nil _,by simp,aw nD1 _,by simp⟩) (λi Hx _ y=>by obtain⟨_,_,_,_,y,_⟩:=(hPc i Hx).mp y;exact SqL.of (y _ _ S0.hK)) ?_ ?_
 ·intro j v Hx hv hc;obtain⟨rs,k1,k2,k3,k4,k5⟩:=(hPc _ _).mp hc;have hj:j<RP.length:=by have:=(aU.mp hv).1;omega
  have lr:=k2.len;rw[me]at lr
  k_units
  refine⟨aI _,λp np=>?_⟩;have ne:p≠D1:=λz=>by rw[z,k1]at np;cases np
  have u1:=aw np (.lst []);refine⟨_,u1 _ _ k1,by rw[ac];exact bC (by omega),(hPc _ _).mpr ⟨rs++[p],by rw[ag,aV];rfl,?_,by simp[k3];exact λz=>ne z.symm,(k4.trans u1).more nD1,λb hb=>?_⟩⟩
  ·rw[List.replicate_succ'];refine LH.snoc ((k2.same u1).upd k3) (by rw[ar ne];exact ag)
  ·rcases bj.mp hb with h|h
   ·exact k5 b h
   ·rw[aQ.mp h];exact k4.free np
 intro H4 hc;obtain⟨rs,k1,k2,k3,k4,k5⟩:=(hPc _ _).mp hc;rw[lus]at k2;clear hc hPc Pc;have lr:=k2.len;rw[me]at lr;have eD4:=k4 _ _ eD;have lD4:=lD.same k4;obtain⟨bi,bl,rfl⟩:∃bi bl,bs=bi++[bl]:=by
  cases z:bs.getLast? with
  | none=>rw[xN]at z;rw[z]at lbs;simp at lbs;omega
  | some a=>exact⟨_,a,(rP.mp z).choose_spec⟩
 have lbi:bi.length=few.length:=by simp at lbs;omega
 refine⟨_,SqL.of eD4,λD2 nD2=>⟨D1,rfl,?_⟩⟩;rw[Md];have u2:=aw nD2 (.lst [V.ref bl]);refine⟨_,u2 _ _ k1,_,ag,by rw[ac];exact b5 (bC (by simp;omega)),λWt nW=>?_⟩;have u3:=aw nW (.lst (rs.map V.ref++[V.ref bl]));have s4:=s3.trans (k4.trans (u2.trans u3));have eW:=ag (H:=L2.upd H4 D2 (.lst [V.ref bl])) (a:=Wt) (o:=.lst (rs.map V.ref++[V.ref bl]));have nW0:H Wt=none:=s3.free (k4.free (u2.free nW));have s34:=k4.trans (u2.trans u3);have lD5:=lD.same s34;have eD5:=s34 _ _ eD;have nWD:Wt≠D:=λz=>by rw[←z]at eD4;rw[u2 _ _ eD4]at nW;cases nW
 have nWb:Wt∉bi++[bl]:=(lD4.same u2).notin nW;have nWr:Wt∉rs:=(k2.same u2).notin nW;have k25:=(k2.same u2).same u3;have eWm:L2.upd (L2.upd H4 D2 (.lst [V.ref bl])) Wt (.lst (rs.map V.ref++[V.ref bl])) Wt=some (.lst ((rs++[bl]).map V.ref)):=by rw[eW,aV];rfl
 have hF5:=s4 _ _ hF;have nWF:Wt≠Fw:=λz=>by rw[z,hF]at nW0;cases nW0
 generalize L2.upd (L2.upd H4 D2 (.lst [V.ref bl])) Wt (.lst (rs.map V.ref++[V.ref bl]))=H5 at s4 lD5 eD5 k25 eWm hF5 s34 ⊢;have hbl:H5 bl=some (.lst ((ws.getD few.length []).map V.int)):=by
  refine lD5.get few.length bl _ (by rw[←lbi];simp) ?_;rw[av,aj (by omega)];rfl
 have nbH:∀b∈bi++[bl],H b=none:=λb hb=>s2.free (nb b hb).2;have nrH:∀b∈rs,H b=none:=λb hb=>s3.free (k5 b hb);clear u2 u3 nD2 nW eW k1 k2 eD4 lD4 s34;dsimp only[aC]
 k_typeOf
 obtain⟨Pz,hPz⟩:∃Pz:Nat->L2.St->Hp->Prop,∀n σ H',Pz n σ H'↔∃(wb:List Addr) (r4 r7:Option V),σ=[some (V.ref x),some (V.ref Vc),some (V.ref Fw),some (V.ref x2),r4,some (V.ref D),some (V.ref Wt),r7]∧H' Wt=some (.lst (wb.map V.ref))∧LH H' wb (spw RP.length few ws n)∧(∀b∈wb,H b=none∧b≠Wt)∧KB Wt H5 H':=⟨_,λ_ _ _=>Iff.rfl⟩
 have keepF:∀{H':Hp},KB Wt H5 H'->SqL K H' Fw ((few.map λc:Nat=>(c:Int)).map V.int)∧SqL K H' D ((bi++[bl]).map V.ref):=λ{H'} k=>⟨SqL.of (k _ _ (Ne.symm nWF) hF5),SqL.of (k _ _ (Ne.symm nWD) eD5)⟩
 obtain⟨kf1,kf2⟩:=keepF (KB.of (Same.refl H5));refine⟨_,kf1,_,kf2,kX (xs:=(few.map λc:Nat=>(c:Int)).map V.int) (ys:=(bi++[bl]).map V.ref) Pz ((hPz _ _ _).mpr ⟨rs++[bl],_,_,rfl,eWm,by rw[spw];exact k25.snoc hbl,λb hb=>?_,KB.of (Same.refl _)⟩) (λn σ H' _ _ y=>by obtain⟨_,_,_,_,_,_,_,y⟩:=(hPz n σ H').mp y;exact keepF y) ?_ ?_⟩
 ·rcases bj.mp hb with h|h
  ·exact⟨nrH b h,λz=>nWr (by rw[←z];exact h)⟩
  ·rw[aQ.mp h];exact⟨nbH bl (by simp),λz=>nWb (by rw[←z];simp)⟩
 ·intro n v1 v2 pr σ H6 e1 e3 hp' npr;obtain⟨wb,t4,t7,rfl,eW,lW,nW',kb⟩:=(hPz _ _ _).mp hp';rw[aA,aA]at e1;obtain⟨j',hj',rfl⟩:=cO.mp e1;obtain⟨j,hj,rfl⟩:=cO.mp hj';rw[aA]at e3;obtain⟨b,hb,rfl⟩:=cO.mp e3;have hn:n<few.length:=(aU.mp hj).1;have hjk:=fk j (bJ hj);have w1:=aw npr (.tup [V.int (j:Int),V.ref b]);have nbW:b≠Wt:=λz=>nWb (by rw[←z];exact bJ hb);have hws:ws[n]?=some (ws.getD n []):=by rw[av,aj (by omega)];rfl
  have hb5:=lD5.get n b _ hb hws;have lwb:=lW.len;rw[q8]at lwb;have ef:few.getD n 0=j:=by rw[av,hj];rfl
  k_units
  refine⟨_,SqT.of ag,rfl,_,_,rfl,_,_,rfl,rfl,_,(j:Int),rfl,w1 _ _ eW,j,gF (by rw[ac];omega),(hPz _ _ _).mpr ⟨wb.set j b,_,_,rfl,by rw[ag,xB],?_,λc hc=>?_,(kb.on w1).set⟩⟩
  ·rw[spw,ef];exact ((lW.same w1).upd (λz=>(nW' _ z).2 rfl)).set (by rw[ar nbW];exact w1 _ _ (kb _ _ nbW hb5)) j
  ·rcases xU hc with h|h
   ·exact nW' c h
   ·rw[h];exact⟨nbH b (bJ hb),nbW⟩
 intro σ H6 hp';obtain⟨wb,t4,t7,rfl,eW,lW,nW',kb⟩:=(hPz _ _ _).mp hp';have hmin:min ((few.map λc:Nat=>(c:Int)).map V.int).length ((bi++[bl]).map V.ref).length=few.length:=by simp;omega
 rw[hmin]at lW
 k_units
 refine q2 H6 Wt wb _ (λy o e=>kb y o (λz=>by rw[z,nW0]at e;cases e) (s4 y o e)) hR' nW0 eW lW (λb hb=>(nW' b hb).1) λz=>(nW' _ z).2 rfl
def q9 (H:Hp)(Q:VK)(ds:List (List Int)):Prop:=∀(D:Addr) (bs:List Addr) H',Same H H'->H D=none->H' D=some (.lst (bs.map V.ref))->LH H' bs ds->(∀b∈bs,H b=none)->D∉bs->bs.Nodup->Q (.ref D) H'
theorem q_ {K:PySem.W.Frag}{a:Addr}{as:List Addr}{ps ds:List (List Int)}{fv:List (Nat×Str)}{te:TE}{Q:VK}{σ:L2.St}{H1:Hp}{D:Addr}(nD:H1 D=none) (hA:SqL K H1 a (as.map V.ref)) (hL:LL K H1 as ps) (hd:ds.length=ps.length) (hl:ps.length<=900)
  (hs:∀(i:Nat) (b:Addr) (p d:List Int) (Hx:Hp) (R:VK),ps[i]?=some p->ds[i]?=some d->Same H1 Hx->SqL K Hx b (p.map V.int)->dE Hx R (d.map V.int)->te (bst fv σ (some (V.ref b))) Hx R) (he:q9 H1 Q ds):jW (Itl K a) fv te Q σ H1 D:=by
 obtain⟨Pc,hPc⟩:∃Pc:Nat->Hp->Prop,∀j Hx,Pc j Hx↔∃bs:List Addr,Hx D=some (.lst (bs.map V.ref))∧LH Hx bs (ds.take j)∧D∉bs∧bs.Nodup∧(∀b∈bs,H1 b=none)∧Same H1 Hx:=⟨_,λ_ _=>Iff.rfl⟩
 refine ff (xs:=as.map V.ref) Pc ((hPc _ _).mpr ⟨[],ag,LH.nil _,by simp,rQ,by simp,aw nD _⟩) (λi Hx _ z=>by obtain⟨_,_,_,_,_,_,z⟩:=(hPc i Hx).mp z;exact z.seq hA) ?_ ?_
 ·intro j v Hx hv hc;obtain⟨bs,k1,k2,k3,k4,k5,k6⟩:=(hPc _ _).mp hc;obtain⟨b,p,rfl,hb,hp,hB⟩:=hL.nth hv;have hj:j<ps.length:=(aU.mp hp).1;have hdj:ds[j]?=some ds[j]:=aj (by omega);refine hs j b p _ Hx _ hp hdj k6 (k6.seq hB) λF H2 s2 nF eF=>?_;have lk:=k2.len;rw[b6]at lk;have nFD:F≠D:=λz=>by rw[z,k1]at nF;cases nF
  have nFb:F∉bs:=k2.notin nF;have m1:D∉bs++[F]:=λz=>by
   rcases bj.mp z with z|z
   ·exact k3 z
   ·exact nFD (aQ.mp z).symm
  refine⟨_,s2 _ _ k1,by rw[ac];exact bC (by omega),(hPc _ _).mpr ⟨bs++[F],by rw[ag];simp,?_,m1,?_,?_,(k6.trans s2).more nD⟩⟩
  ·have e:ds.take (j+1)=ds.take j++[ds[j]]:=by rw[de,hdj];rfl
   rw[e];exact ((k2.same s2).snoc eF).upd m1
  ·exact rR.mpr ⟨k4,by simp,λx hx y hy z=>nFb (by rw[aQ.mp hy]at z;rw[←z];exact hx)⟩
  ·intro x hx;rcases bj.mp hx with z|z
   ·exact k5 x z
   ·rw[aQ.mp z];exact k6.free nF
 ·intro H' hc;obtain⟨bs,k1,k2,k3,k4,k5,k6⟩:=(hPc _ _).mp hc;rw[ac,hL.len,←hd,fT]at k2;exact he D bs H' k6 nD k1 k2 k5 k3 k4
theorem Mf {lo:Int}{n:Nat}{σ:L2.St}{H1:Hp}{fv:List (Nat×Str)}{tt:TT}{te:TE}{Q:VK}{L:Addr}(Pv:Nat->Hp->Prop) (h0:Pv 0 (L2.upd H1 L (.lst [])))
  (hs:∀i H,i<n->Pv i H->tt (bst fv σ (some (.int (lo+i)))) H λb Hb=>if b=true then te (bst fv σ (some (.int (lo+i)))) Hb λy H2=>∃ys,H2 L=some (.lst ys)∧ys.length<sizeLine∧Pv (i+1) (L2.upd H2 L (.lst (ys++[y]))) else Pv (i+1) Hb) (hd:∀H,Pv n H->Q (.ref L) H):
  v9 (Itr lo n) fv tt te Q σ H1 L:=by
 refine⟨λi m H=>m=n-i∧i<=n∧Pv i H,⟨n,by simp,aI _,h0⟩,?_⟩
 rintro i m H ⟨rfl,hi,p⟩
 by_cases hlt:i<n
 ·refine .inr ⟨hlt,Pv (i+1),λH' p'=>⟨n-(i+1),by omega,rfl,hlt,p'⟩,λv H' y=>?_⟩;obtain⟨e,y⟩:=y;subst e y;exact hs i _ hlt p
 ·have e:i=n:=by omega
  subst e;exact .inl ⟨am _,hd H p⟩
theorem wX {P:Program}{wd:World}{K:PySem.W.Frag}{mg:Str->Option Value}{base:Heap}(T:Tx K mg){w B KM:Nat}{St:List (List (List Int))->List Nat->Int->Prop}{Vq:List (List (List Int))->List (List Int)->Prop}{Rl:List (List (List Int))->List (List Int)->List (List Int)->Prop}(Z:SpTh w B KM St Vq Rl):∀d:Nat,FnOk P wd K mg base CX0 (2*d+9) T.Og T.Oh ["self","vector"] (Ep T w B St Vq Rl d)
 | 0=>T.QW.ok sc_Span_take (λ_ _ _ _ h=>by obtain⟨_,_,_,_,_,_,_,_,_,_,_,_,_,_,_,_,_,_,_,_,z,_⟩:=h;exact absurd z (Nat.not_lt_zero _)) (λ_ _ _ _ _ _ _ _ _ h=>by obtain⟨_,_,_,_,_,_,_,_,_,_,_,_,_,_,_,_,_,_,_,_,z,_⟩:=h;exact absurd z (Nat.not_lt_zero _))
 | d+1=>by
  have F:=Me (P:=P) (wd:=wd) (base:=base) T Z d (wX T Z d);refine T.QW.ok sc_Span_take (λvs H Q E h=>?_) (λcdv A outer s H vs Q E hr h=>?_)
  ·obtain⟨x,dx,Kp,Cl,Tb,Vc,us,kvs,M,RP,cs,pl,as,q,rfl,_⟩:=h;rfl
  obtain⟨x,dx,Kp,Cl,Tb,Vc,us,kvs,M,RP,cs,pl,as,q,rfl,S,hV,hL,hSt,hVq,kd,l9,q1,q2⟩:=h;refine⟨_,((ah (kS (i:=2) rfl (dD rfl cM cV) (dC (pv 1)) (λ_ _ _ _=>(iU (DS (K:=K) rfl) rfl T.NK iC (aa (pv 0) ae))) sc_Span_take.nd rfl rfl)
  (ah (ax (i:=3) sc_Span_take.nd rfl (Or.inr rfl) (fq (pv 0) T.NG T.QZ (FnOk.mono (D4 T) (by omega)) hr T.QU .nil aB (aa (pv 2) (aa (cU (pv 0) rfl) ae))))
  (ah (cy PassesOwn.never rfl (fo rfl T.NI (aa (cU (pv 0) rfl) ae)) (bN (i:=4) sc_Span_take.nd rfl (Or.inl rfl)) (ao (bY (aO iS (aR bL (pv 3) (pv 4) (λ_ _=>rfl)) ai (aN _)) (ah (e7 (fq (pv 0) T.NG T.Q0 (FnOk.mono (D6 T) (by omega)) hr T.QV .nil aB (aa (pv 2) (aa (pv 4) ae))))
  (ao (aM df))) b4)))
  (ah (JQ (i:=5) rfl (dD rfl (dj rfl (dj rfl cM)) (d_ 3 "row" (by decide) rfl (Or.inl rfl) (Or.inl rfl) ⟨_,rfl⟩ (d_ 0 "self" (by decide) rfl (Or.inl rfl) (Or.inl rfl) ⟨_,rfl⟩ cV))) (fo rfl T.NI (aa (aG aX rfl T.NF aZ (aa (cU (pv 0) rfl) ae)) ae)) (λ_ _ _ _=>(aO iS (aR (qP (K:=K) rfl) (pv 1) (ak ci (Kc (K:=K) rfl (pv 2) rfl) (pv 0)) (λ_ _=>rfl)) ai (aN _))) (λ_ _ _ _=>(pv 0)) sc_Span_take.nd rfl rfl)
  (iD (ax (i:=6) sc_Span_take.nd rfl (Or.inl rfl) (Bt (aO iT (aG aX rfl T.NF aZ (aa (pv 5) ae)) (aG aX rfl T.NF aZ (aa (cU (pv 0) rfl) ae)) (aN _)) (fq (pv 0) T.NG T.RI (FnOk.mono F (by omega)) hr T.RD .nil aB (aa (pv 2) (aa (pv 5) ae))) df))
  (ah (bY (aO jT (pv 6) df (aN _)) (ao (aM (pv 6))) b4)
  (ah (ax (i:=6) sc_Span_take.nd rfl (Or.inl rfl) (fq (pv 0) T.NG T.RG (FnOk.mono (L8 T) (by omega)) hr T.Ry .nil aB (aa (pv 2) ae)))
  (ah (ax (i:=4) sc_Span_take.nd rfl (Or.inl rfl) (fq (pv 0) T.NG T.RH (FnOk.mono (Lv T) (by omega)) hr T.RA .nil aB (aa (pv 2) (aa (pv 6) ae))))
  (ah (bY (aO jS (pv 4) df (aN _)) (ao (aM (pv 6))) b4)
  (ah (e7 (fq (pv 0) T.NG T.Q0 (FnOk.mono (D6 T) (by omega)) hr T.QV .nil aB (aa (pv 2) (aa (pv 4) ae))))
  (ao (aM df))))))))))))),?_⟩
  obtain⟨k18,qw,bq⟩:=Z.bd RP cs pl q hSt hVq;obtain⟨tb,pv,lo⟩:=Z.tb RP cs pl q hSt hVq;have kM:=Z.k18;have b3:=Z.b3;have b1:2*(2*B+2)<=900:=aP (fS _ (by omega)) b3;have w20:=tb.w20;have lk:=S.lk;have lc:=S.lc;dsimp only[aC]
  k_typeOf
  refine⟨⟨_,hV⟩,λD nD=>q_ (ps:=q) (ds:=q) nD hV hL rfl (by omega) (λi b p d Hx R' hp hd sx hb hR'=>?_) (λO ob H1 s1 nO eO lO nOb Oob nd=>?_)⟩
  ·have e:d=p:=by rw[hp]at hd;exact (Option.some.inj hd).symm
   subst e
   (iterate 3 (k_units;(try simp only[bst]));k_units)
   exact⟨_,.inl hb,λl hl=>hR' l _ (aw hl _) hl ag⟩
  have S1:=S.same s1;have nM:∀a,H a=none->a∉M:=λa ha z=>by obtain⟨o,e⟩:=S.al a z;rw[ha]at e;cases e
  have V1:VecAt H1 M O q:=⟨ob,eO,lO,nM O nO,λa ha=>nM a (nOb a ha)⟩
  clear eO lO nOb Oob nd;dsimp only[aC]
  k_typeOf
  refine⟨dx,_,S1.hx,rfl,_,_,_,S1.hx,T.NG,T.Ol,_,rfl,x,dx,Kp,Cl,Tb,O,us,kvs,M,w,RP,cs,pl,pl,q,rfl,S1,tb,by omega,by omega,V1,by omega,λf hf=>⟨by have:=(bq f hf).1;omega,(bq f hf).2⟩,λ_=>lo,λH2 kvs2 M2 S2 kw2 ms2 mf2 l2 tk2=>⟨λR nR eR _=>?_,λnp=>absurd pv np⟩⟩;have kx2:KX M H H2:=λy o ny e=>S1.kx kw2 y o ny (s1 y o e);have V2:=(V1.more mf2).kx (λy o ny e=>S1.kx kw2 y o (λz=>ny (ms2 y z)) e);have mf2':∀a∈M2,a∈M∨H a=none:=λa ha=>(mf2 a ha).imp (λh=>h) s1.free;clear mf2 tk2 kw2 V1 S1;have hll:(cI w RP cs q pl).length=w+(w+1):=by
   unfold cI;rw[lK lo RP.length (by rw[dJ];exact am _)];unfold bI;rw[bM,ac,ac,fI,qw]
  dsimp only[aC]
  k_typeOf
  refine⟨_,_,_,S2.hx,T.NG,T.NN,_,rfl,_,rfl,by omega,by omega,?_⟩;rw[dU];obtain⟨Pv,hPv⟩:∃Pv:Nat->L2.St->Hp->Prop,∀i σ H',Pv i σ H'↔∃r4:Option V,σ=[some (V.ref x),some (V.ref Vc),some (V.ref O),some (V.ref R),r4,none,none]∧H'=H2∧∀c,c<i->co (cI w RP cs q pl) c=0:=⟨_,λ_ _ _=>Iff.rfl⟩
  refine gE Pv ((hPv _ _ _).mpr ⟨none,rfl,rfl,λc hc=>by omega⟩) ?_ ?_
  ·intro i σ H' hi hp;obtain⟨r4,rfl,rfl,hz⟩:=(hPv _ _ _).mp hp;have e0:(0:Int)+(i:Int)=(i:Int):=f_ _
   (iterate 3 (k_units;(try simp only[e0]));k_units)
   refine⟨_,SqL.of eR,_,j6 (by omega),?_⟩
   k_units
   refine bR (λz=>?_) (λz=>(hPv _ _ _).mpr ⟨_,rfl,rfl,λc hc=>?_⟩)
   ·obtain⟨ht1,ht2⟩:=Z.hit RP cs pl q i hSt hVq hi (by simpa using z);have pv1:=L9 lc pv (show co (cI w RP cs q pl) i≠0 by simpa using z);have e00:pl+((0:Nat):Int)=pl:=by omega
    refine⟨dx,_,S2.hx,rfl,x,dx,Kp,Cl,Tb,O,us,kvs2,M2,w,RP,cs,pl,q,i,0,rfl,S2,V2,by omega,by omega,λt ht=>?_,by rw[e00];exact pv1,λH3 kvs3 M3 t ht S3 pv3 kx3 ms3 mf3 l3=>?_⟩
    ·rw[show t=0 by omega,e00];exact ht2
    ·have et:t=0:=by omega
     subst et;have hs:=Z.stS RP cs pl q i 0 hSt hVq hi ht1 (aI _) pv3;exact q1 H3 _ kvs3 M3 i _ S3 hs (kx2.trans kx3 mf2') (λa h=>ms3 a (ms2 a h)) (jw kx2 mf2' mf3) (by omega)
   ·by_cases y:c=i
    ·rw[y];simpa using z
    ·exact hz c (by omega)
  intro σ H' hp;obtain⟨r4,rfl,rfl,hz⟩:=(hPv _ _ _).mp hp;clear hp hPv Pv;obtain⟨gs,Pn,f,qs,p0,t0,O1,O2,O3,O4,O5,O6,O7⟩:=Z.oc RP cs pl q hSt hVq hz;have lus:(us.map V.ref).length=RP.length:=by rw[ac];exact S.lk
  dsimp only[aC]
  k_typeOf
  refine⟨_,_,_,S2.hx,T.NG,T.NJ,_,rfl,Kp,rfl,_,.inl (SqL.of S2.hK),by rw[lus];omega,by rw[lus];omega,λFw nFw=>?_⟩;rw[lus,dU];obtain⟨fw,hfw⟩:∃fw:Nat->List Nat,∀j,fw j=(aD j).filter λn=>decide (co (cI w RP cs q pl) (w+n)≠0):=⟨_,λ_=>rfl⟩
  have fw0:fw 0=[]:=by rw[hfw];rfl
  have fwl:∀j,(fw j).length<=j:=λj=>by rw[hfw];exact aP (List.length_filter_le _ _) (by rw[fI];exact am _)
  have fws:∀j,fw (j+1)=if co (cI w RP cs q pl) (w+j)≠0 then fw j++[j] else fw j:=λj=>by
   rw[hfw,hfw,mH,Gm];by_cases z:co (cI w RP cs q pl) (w+j)=0 <;> simp[z]
  have fp:(fw RP.length).Pairwise (· < ·):=by rw[hfw];exact List.pairwise_lt_range.filter _
  have fk:∀i∈fw RP.length,i<RP.length:=λi hi=>by rw[hfw]at hi;exact dS.mp (rB.mp hi).1
  obtain⟨Pc,hPc⟩:∃Pc:Nat->Hp->Prop,∀j Hx,Pc j Hx↔Hx Fw=some (.lst (((fw j).map λc:Nat=>(c:Int)).map V.int))∧Same H' Hx:=⟨_,λ_ _=>Iff.rfl⟩
  have kw:=O1.kw;refine Mf Pc ((hPc _ _).mpr ⟨by rw[ag,fw0];rfl,aw nFw _⟩) ?_ ?_
  ·intro j Hx hj hc;obtain⟨k1,k2⟩:=(hPc _ _).mp hc;have e0:(0:Int)+(j:Int)=(j:Int):=f_ _;have e1:(w:Int)+(j:Int)=((w+j:Nat):Int):=by omega
   have S2x:=S2.same k2;have lj:=fwl j
   (iterate 3 (k_units;(try simp only[dh,bst,e0,dr]));k_units)
   refine⟨_,_,_,S2x.hx,T.NG,T.NN,_,rfl,_,rfl,_,SqL.of (k2 _ _ eR),_,by rw[e1];exact j6 (by omega),?_⟩
   k_units
   refine bR (λz=>⟨_,k1,by rw[ac,ac];exact bC (by omega),(hPc _ _).mpr ⟨?_,k2.more nFw⟩⟩) (λz=>(hPc _ _).mpr ⟨?_,k2⟩)
   ·rw[ag,fws,if_pos (by simpa using z),aV,aV];rfl
   ·rw[k1,fws,if_neg (by simpa using z)]
  intro H3 hc;obtain⟨eF,s3⟩:=(hPc _ _).mp hc;clear hc hPc Pc;generalize fw RP.length=few at fp fk eF;clear hfw fw0 fwl fws;have S3:=S2.same s3;have V3:=V2.same s3;have kx3:KX M H H3:=λy o ny e=>s3 _ _ (kx2 y o ny e);have nM2:∀a,H' a=none->a∉M2:=λa ha z=>by obtain⟨o,e⟩:=S2.al a z;rw[ha]at e;cases e
  have nH2:∀a,H' a=none->H a=none:=λa ha=>by
   cases e:H a with
   | none=>rfl
   | some o=>
    by_cases m:a∈M
    ·exact absurd (ms2 a m) (nM2 a ha)
    ·rw[kx2 a o m e]at ha;cases ha
  obtain⟨Mx,hMx⟩:∃Mx:L2.St->Hp->Prop,∀σ H',Mx σ H'↔∃v6:V,σ=[some (V.ref x),some (V.ref Vc),some (V.ref O),some (V.ref R),r4,some (V.ref Fw),some v6]∧Same H3 H'∧(v6=.non∨∃(D:Addr) (bs:List Addr) (ws:List (List Int)),v6=.ref D∧Rl RP q ws∧H3 D=none∧H' D=some (.lst (bs.map V.ref))∧LH H' bs ws∧(∀b∈bs,H3 b=none)∧D∉bs):=⟨_,λ_ _=>Iff.rfl⟩
  refine gY Mx ?_ ?_
  ·k_units
   refine⟨_,.inl (SqL.of eF),_,_,_,S3.hx,T.NG,T.NJ,_,rfl,Kp,rfl,_,.inl (SqL.of S3.hK),?_⟩;rw[lus,ac,ac];refine bR (λz=>?_) (λz=>(hMx _ _).mpr ⟨_,rfl,Same.refl _,.inl rfl⟩);refine⟨dx,_,S3.hx,rfl,x,dx,Kp,Cl,Tb,O,Fw,us,kvs2,M2,RP,cs,pl,q,few,rfl,S3,V3,eF,hSt,hVq,by omega,fp,fk,by omega,λH4 s4=>(hMx _ _).mpr ⟨_,rfl,s4,.inl rfl⟩,λH4 D bs ws s4 hR nD eD lD nb Db=>(hMx _ _).mpr ⟨_,rfl,s4,.inr ⟨D,bs,ws,rfl,hR,nD,eD,lD,nb,Db⟩⟩⟩
  intro σ H4 hm;obtain⟨v6,rfl,s4,hv6⟩:=(hMx _ _).mp hm;clear hm hMx Mx;have S4:=S3.same s4;have V4:=V3.same s4;have kx4:KX M H H4:=λy o ny e=>s4 _ _ (kx3 y o ny e);dsimp only[aC]
  k_typeOf
  rcases hv6 with rfl|⟨D,bs,ws,rfl,hR,nD,eD,lD,nb,Db⟩
  ·rw[if_neg (λz=>z rfl)];dsimp only[aC]
   k_typeOf
   refine⟨dx,_,S4.hx,rfl,x,dx,Kp,Cl,Tb,O,us,kvs2,M2,w,RP,cs,pl,q,gs,Pn,f,qs,p0,t0,rfl,S4,V4,O1,by omega,O3,O4,λH5 kvs5 M5 D bs S5 kx5 ms5 mf5 l5 nDM nD eD lD nb Db=>?_⟩;have kx05:=kx4.trans kx5 mf2';have mf05:=jw kx4 mf2' mf5;have V5:=(V4.more mf5).kx (λy o ny e=>kx5 y o (λz=>ny (ms5 y z)) e);have n5:∀a,H4 a=none->H a=none:=λa ha=>nH2 a (s3.free (s4.free ha));dsimp only[aC]
   k_typeOf
   refine⟨dx,_,S5.hx,rfl,x,dx,Kp,Cl,Tb,O,D,us,kvs5,M5,w,RP,cs,pl,q,bs,qs,rfl,S5,V5,SqL.of eD,lD.ll,O5,λH6 s6=>⟨λc hcw hcn hs hb=>?_,λhall=>?_⟩⟩
   ·obtain⟨N,N1,N2,N3⟩:=O7 c hcw hcn hs;have S6:=S5.same s6
    k_units
    rw[if_neg (λz=>nomatch z)];refine⟨dx,_,S6.hx,rfl,x,dx,Kp,Cl,Tb,O,us,kvs5,M5,w,RP,cs,pl,q,c,N,rfl,S6,V5.same s6,by omega,by omega,N2,N3,λH7 kvs7 M7 t ht S7 pv7 kx7 ms7 mf7 l7=>?_⟩;have hs:=Z.stS RP cs pl q c t hSt hVq hcw hcn (by omega) pv7;have kx06:KX M H H6:=λy o ny e=>s6 _ _ (kx05 y o ny e);exact q1 H7 _ kvs7 M7 c _ S7 hs (kx06.trans kx7 mf05) (λa h=>ms7 a (ms5 a (ms2 a h))) (jw kx06 mf05 mf7) (by omega)
   ·have S6:=S5.same s6
    k_units
    exact q2 H6 kvs5 M5 D bs qs S6 (O6 hall) (λy o ny e=>s6 _ _ (kx05 y o ny e)) (λa h=>ms5 a (ms2 a h)) mf05 (by omega) nDM (n5 D nD) (s6 _ _ eD) (lD.same s6) (λb hb=>⟨(nb b hb).1,n5 b (nb b hb).2⟩) Db
  ·rw[if_pos (λz=>nomatch z)];have n4:∀a,H3 a=none->a∉M2∧H a=none:=λa ha=>⟨nM2 a (s3.free ha),nH2 a (s3.free ha)⟩
   exact q2 H4 kvs2 M2 D bs ws S4 hR kx4 ms2 mf2' (by omega) (n4 D nD).1 (n4 D nD).2 eD lD (λb hb=>n4 b (nb b hb)) Db
def Es {K:PySem.W.Frag}(w B KM:Nat)(St:List (List (List Int))->List Nat->Int->Prop)(Vq:List (List (List Int))->List (List Int)->Prop)(Rl:List (List (List Int))->List (List Int)->List (List Int)->Prop):Sp:=λvs H Q _=>∃(A:Addr) (us:List Addr) (qs:List (List (List Int))),vs=[.ref A]∧SqL K H A (us.map V.ref)∧VL K H us qs∧(∀q,qs[0]?=some q->q.length=w)∧qs≠[]∧(∀(i:Nat) (q:List (List Int)) (cs:List Nat) (pl:Int),qs[i]?=some q->St (qs.take i) cs pl->Vq (qs.take i) q)∧
 (∀(H':Hp) (i:Nat) (q:List (List Int)) (D:Addr) (bs:List Addr) (ws:List (List Int)) (cs:List Nat) (pl:Int),qs[i]?=some q->St (qs.take i) cs pl->Rl (qs.take i) q ws->Same H H'->H D=none->H' D=some (.lst (bs.map V.ref))->LH H' bs ws->(∀b∈bs,H b=none)->D∉bs->Q (.ref D) H')∧
 (∀(H':Hp) (cs:List Nat) (pl:Int),St qs cs pl->Same H H'->Q .non H')
theorem Et {P:Program}{wd:World}{K:PySem.W.Frag}{mg:Str->Option Value}{base:Heap}(T:Tx K mg){w B KM:Nat}{St:List (List (List Int))->List Nat->Int->Prop}{Vq:List (List (List Int))->List (List Int)->Prop}{Rl:List (List (List Int))->List (List Int)->List (List Int)->Prop}(Z:SpTh w B KM St Vq Rl):FnOk P wd K mg base CX0 (2*(KM+2)+10) T.NV T.NW ["vectors"] (Es (K:=K) w B KM St Vq Rl):=by
 have F:=wX (P:=P) (wd:=wd) (base:=base) T Z (KM+2);refine T.NP.ok sc_relation (λvs H Q E h=>?_) (λcdv A outer s H vs Q E hr h=>?_)
 ·obtain⟨A,us,qs,rfl,_⟩:=h;rfl
 obtain⟨A,us,qs,rfl,hA,hL,hw,ne,hVq,q1,q2⟩:=h;refine⟨_,((ah (bY (aO e9 (aG aX rfl T.NF aZ (aa (pv 0) ae)) ai (aN _)) (ao (aM df)) b4)
  (ah (ax (i:=1) sc_relation.nd rfl (Or.inl rfl) (vH T.Qm (FnOk.mono (wP T) (by omega)) hr rfl T.Ql T.P5 .nil aB (aa (aG aX rfl T.NF aZ (aa (aR bL (pv 0) ai (λ_ _=>rfl)) ae)) ae)))
  (ah (cy PassesOwn.never rfl (dC (pv 0)) (bN (i:=2) sc_relation.nd rfl (Or.inl rfl)) (ah (ax (i:=3) sc_relation.nd rfl (Or.inl rfl) (fq (pv 1) T.NG T.Oj (FnOk.mono F (by omega)) hr T.Oi .nil aB (aa (pv 2) ae)))
  (ao (bY (aO jT (pv 3) df (aN _)) (ao (aM (pv 3))) b4))))
  (ao (aM df)))))),?_⟩
 have lu:=hL.len;have b3:=Z.b3;have l0:0<qs.length:=cK.mpr ne;dsimp only[aC]
 k_typeOf
 refine⟨_,.inl hA,?_⟩;rw[if_neg (by rw[ac];omega)];dsimp only[aC]
 k_typeOf
 have hu0:us[0]?=some us[0]:=aj (by omega);have hq0:qs[0]?=some qs[0]:=aj l0;obtain⟨as0,a1,a2⟩:=hL.get 0 _ _ hu0 hq0;have ew:(as0.map V.ref).length=w:=by rw[ac,a2.len,hw _ hq0]
 refine⟨_,hA,_,gW (j:=0) (by rw[aA,hu0];rfl),_,rfl,_,.inl a1,?_⟩;rw[ew];refine Er λx dx Kp Cl Tb M H1 s1 m1 S1=>?_;dsimp only[aC]
 k_typeOf
 obtain⟨Pv,hPv⟩:∃Pv:Nat->L2.St->Hp->Prop,∀i σ H',Pv i σ H'↔∃(vs:List Addr) (kvs:List (Key×V)) (M:List Addr) (cs:List Nat) (pl:Int) (r2 r3:Option V),σ=[some (V.ref A),some (V.ref x),r2,r3]∧Spn T H' x dx Kp Cl Tb vs kvs M w (qs.take i) cs pl∧St (qs.take i) cs pl∧(∀a∈M,H a=none)∧kvs.length<=i*(2*B+2)∧Same H H':=⟨_,λ_ _ _=>Iff.rfl⟩
 refine⟨⟨_,s1.seq hA⟩,pj (xs:=us.map V.ref) Pv ((hPv _ _ _).mpr ⟨[],[],M,[],97,none,none,rfl,S1,Z.st0,m1,aI _,s1⟩) (λi σ H' _ z=>by obtain⟨_,_,_,_,_,_,_,_,_,_,_,_,z⟩:=(hPv i σ H').mp z;exact z.seq hA) ?_ ?_⟩
 ·intro i v σ H2 hv hp;obtain⟨vs,kvs,M,cs,pl,r2,r3,rfl,S2,t2,m2,l2,s2⟩:=(hPv _ _ _).mp hp;rw[aA]at hv;obtain⟨u,hu,rfl⟩:=cO.mp hv;have hi:i<qs.length:=by have:=(aU.mp hu).1;omega
  have hq:qs[i]?=some qs[i]:=aj hi;obtain⟨as,w1,w2⟩:=hL.get i u _ hu hq;have vq:=hVq i _ cs pl hq t2;have iK:=(Z.bd _ _ _ _ t2 vq).1;rw[b6]at iK;have et:qs.take (i+1)=qs.take i++[qs[i]]:=by rw[de,hq];rfl
  have lb:i*(2*B+2)+(2*B+2)<=900:=by
   have:(i+1)*(2*B+2)<=(KM+2)*(2*B+2):=fS _ (by omega);rw[gM,fG]at this;omega
  k_units
  refine⟨dx,_,S2.hx,rfl,x,dx,Kp,Cl,Tb,u,vs,kvs,M,_,cs,pl,as,qs[i],rfl,S2,s2.seq w1,w2.same s2,t2,vq,by rw[b6];omega,by omega,λH3 us3 kvs3 M3 c pl3 S3 t3 kx ms mf l3=>?_,λH3 kvs3 M3 D bs ws S3 hR kx ms mf l3 nDM nD eD lD nb Db=>?_⟩
  ·show if ¬V.non=V.non then _ else Pv (i+1) _ H3
   rw[if_neg (λz=>z rfl)];have s3:Same H H3:=λy o e=>kx y o (λz=>by rw[m2 y z]at e;cases e) (s2 y o e);refine (hPv _ _ _).mpr ⟨us3,kvs3,M3,_,pl3,_,_,rfl,by rw[et];exact S3,by rw[et];exact t3,λa ha=>?_,by rw[gM,fG];omega,s3⟩;rcases mf a ha with h|h
   ·exact m2 a h
   ·exact s2.free h
  ·show if ¬V.ref D=V.non then Q (V.ref D) H3 else _
   rw[if_pos (λz=>nomatch z)];exact q1 H3 i _ D bs ws cs pl hq t2 hR (λy o e=>kx y o (λz=>by rw[m2 y z]at e;cases e) (s2 y o e)) (s2.free nD) eD lD (λb hb=>s2.free (nb b hb).2) Db
 intro σ H2 hp;obtain⟨vs,kvs,M,cs,pl,r2,r3,rfl,S2,t2,m2,l2,s2⟩:=(hPv _ _ _).mp hp;rw[ac,eZ (by omega)]at t2
 k_units
 exact q2 H2 cs pl t2 s2
def wY (K:PySem.W.Frag):Sp:=λvs H Q E=>∃(w B KM:Nat) (St:List (List (List Int))->List Nat->Int->Prop) (Vq:List (List (List Int))->List (List Int)->Prop) (Rl:List (List (List Int))->List (List Int)->List (List Int)->Prop),SpTh w B KM St Vq Rl∧KM<=4∧Es (K:=K) w B KM St Vq Rl vs H Q E
theorem Mg {f:List Int}(nf:Nml f){ps:List Int}(nd:ps.Nodup)(hl:f.length<=ps.length)(hz:∀p∈ps,val p f=0):f=[]:=by
 have dis:∀i j (hi:i<ps.length) (hj:j<ps.length),i≠j->ps[i]≠ps[j]:=λa b ha hb hne h=>by
  rcases Nat.lt_or_gt_of_ne hne with y|y
  ·exact jd.mp nd a b ha hb y h
  ·exact jd.mp nd b a hb ha y h.symm
 have z:∀t,t<ps.length->dd f (ps.take (t+1))=0:=λt ht=>by
  have h:=qK f dis (B:=0) (λi h=>by rw[hz _ (bH h)];exact am _) t 0 (by omega);have e2:run ps 0 (t+1)=ps.take (t+1):=by unfold run;rw[mF]
  rw[e2]at h;omega
 have qE:∀k t,t+k=ps.length->∀n,dd f (ps.take t++[n])=0:=λk=>by
  induction k with
  | zero=>intro t ht n;exact Dv (by rw[bM,b6];simp;omega)
  | succ k ih=>
   intro t ht n;have hl':t<ps.length:=by omega
   have e1:ps.take (t+1)=ps.take t++[ps[t]]:=by rw[de,aj hl'];rfl
   rw[Dy f (ps.take t) ps[t] n,←e1,z t hl',ih (t+1) (by omega) n];simp
 exact cG nf cD λn=>by
  have:=qE ps.length 0 (by omega) n;rw[List.take_zero,il,qJ]at this;rw[this];rfl
theorem Mh {w:Nat}{RP:List (List (List Int))}{cs:List Nat}{d:List Int}(nd:Nml d)(d0:d≠[]){Pn:Nat}(h:∀p:Nat,p<Pn->val (p:Int) d≠0->Piv w RP cs (p:Int) RP.length):Pn<(plc w RP cs Pn).length+d.length:=by
 have cnt:∀(g:Nat->Bool) (xs:List Nat),(xs.filter g).length+(xs.filter λx=>! g x).length=xs.length:=λg xs=>by
  induction xs with
  | nil=>rfl
  | cons x xs ih=>cases e:g x <;> simp[List.filter_cons,e] <;> omega
 have e:=cnt (λp:Nat=>iJ w RP cs (p:Int) RP.length) (aD Pn);rw[fI]at e;have l1:(plc w RP cs Pn).length=((aD Pn).filter λp:Nat=>iJ w RP cs (p:Int) RP.length).length:=by unfold plc;rw[ac]
 rw[l1];have l2:((aD Pn).filter λp:Nat=>! iJ w RP cs (p:Int) RP.length).length<d.length:=by
  refine kC λhle=>d0 (Mg nd (ps:=((aD Pn).filter λp:Nat=>! iJ w RP cs (p:Int) RP.length).map λp:Nat=>(p:Int)) ?_ (by rw[ac];exact hle) λp hp=>?_)
  ·refine List.Pairwise.map _ (λa b hab=>?_) ((List.nodup_range (n:=Pn)).filter _);intro e;apply hab;omega
  ·obtain⟨t,ht,rfl⟩:=aW.mp hp;obtain⟨h1,h2⟩:=rB.mp ht;by_cases z:val (t:Int) d=0
   ·exact z
   ·have:=qZ.mpr (h t (dS.mp h1) z);rw[this]at h2;simp at h2
 omega
theorem Mi {g:Int->Int->Int}{a b:List Int}{j:Nat}(ha:j<a.length)(hb:j<b.length):co (i8 g a b) j=g (co a j) (co b j):=by
 rw[aE (by rw[mG];omega),List.getElem_zipWith,aE ha,aE hb]
theorem jy {w:Nat}{vec:List (List Int)}{num:Nat}{p:Int}(hv:vec.length=w):(bI w vec num p).length=w+(w+1):=by
 unfold bI;rw[bM,ac,ac,fI,hv]
theorem j_ {w:Nat}{vec:List (List Int)}{num:Nat}{p:Int}{j:Nat}(hj:j<vec.length):co (bI w vec num p) j=val p (vec.getD j []):=by
 unfold bI co;rw[av,av,b_ (by rw[ac];exact hj),aA,aj hj];rfl
theorem ic {w:Nat}{vec:List (List Int)}{num:Nat}{p:Int}{i:Nat}(hv:vec.length=w)(hi:i<=w):co (bI w vec num p) (w+i)=if i=num then 1 else 0:=by
 unfold bI co;rw[av,dz (by rw[ac];omega),ac,hv,Nat.add_sub_cancel_left,aA,jI (by omega)];rfl
theorem wZ {w:Nat}{vec:List (List Int)}{num:Nat}{p:Int}{k l L:Nat}(hp:Bd l p)(hb:∀f∈vec,f.length<=L∧∀c∈f,Bd k c)(hk:0<k):∀y∈bI w vec num p,Bd (k+(l+1)*L) y:=λy hy=>by
 unfold bI at hy;rcases bj.mp hy with h|h
 ·obtain⟨f,hf,rfl⟩:=aW.mp h;obtain⟨h1,h2⟩:=hb f hf;exact (qU hp f h2).mono (Nat.add_le_add_left (fh _ h1) _)
 ·obtain⟨o,_,rfl⟩:=aW.mp h
  split
  ·exact Bd.one (by omega)
  ·exact Bd.zero _
theorem Eu {z e:Int}(he:e≠0)(h:e∣z):z.fdiv e*e=z:=by
 obtain⟨k,rfl⟩:=h;rw[my _ he,dY]
theorem re {e:Int}(he:e≠0)(n:Int):∀xs:List Int,(∀z∈xs,e∣z)->val n (xs.map λz=>z.fdiv e)*e=val n xs
 | [],_=>by simp[val]
 | z :: xs,h=>by
  have i:=re he n xs λa ha=>h a (by simp[ha]);show (z.fdiv e+n*val n (xs.map λz=>z.fdiv e))*e=z+n*val n xs;rw[F7,Eu he (h z (by simp)),di,i]
theorem Mj {e:Int}(he:e≠0){xs:List Int}(nx:Nml xs)(h:∀z∈xs,e∣z):Nml (xs.map λz=>z.fdiv e):=fB.mpr λa ha=>by
 rw[Gk]at ha;obtain⟨z,hz,rfl⟩:=cO.mp ha;have h0:=fB.mp nx z hz;have h1:=Eu he (h z (List.mem_of_getLast? hz));intro y;rw[y]at h1;simp at h1;exact h0 h1.symm
theorem Ml (n:Int)(b:Bool)(R:List Int):val n (eI b R)=(if b then -1 else 1)*val n R:=by
 unfold eI
 cases b
 ·simp
 ·have:(R.map λz=>-z)=R.map λz=>-1*z:=jc λa _=>by omega
  rw[if_pos rfl,if_pos rfl,this,aS]
theorem ie {e:Int}(he:e≠0){y:List Int}(ny:Nml y):Nml (y.map λz=>e*z):=fB.mpr λa ha=>by
 rw[Gk]at ha;obtain⟨z,hz,rfl⟩:=cO.mp ha;exact rY he (fB.mp ny z hz)
theorem gw {x u:List Int}(nx:Nml x)(nu:Nml u)(x0:x≠[])(u0:u≠[]):(pdL x u).length=x.length+u.length-1∧co (pdL x u) ((pdL x u).length-1)=co x (x.length-1)*co u (u.length-1):=by
 have lx:x.length≠0:=λz=>x0 (bK z);have lu:u.length≠0:=λz=>u0 (bK z);have t:co (pdL x u) (x.length+u.length-2)=co x (x.length-1)*co u (u.length-1):=by
  rw[f8,show x.length+u.length-2=u.length-1+(x.length-1) by omega,jq (λj hj=>gk j hj) (λj hj=>gk j hj)]
 have l1:=gu nx nu;have l2:x.length+u.length-1<=(pdL x u).length:=by
  refine rJ λh=>?_;rw[ay (by omega)]at t;exact rY (cN nx x0) (cN nu u0) t.symm
 have l3:(pdL x u).length=x.length+u.length-1:=by omega
 exact⟨l3,by rw[l3,show x.length+u.length-1-1=x.length+u.length-2 by omega];exact t⟩
theorem gx (g:List Int):pdL [] g=[]:=cG (bT _ _) cD λn=>by rw[aH];simp[val]
def xp (d:Nat):List Int:=aL d 0++[1]
theorem Mm (d:Nat):Nml (xp d):=K8 _
theorem Mn (d:Nat):xp d≠[]:=by unfold xp;simp
theorem Ev (d:Nat):(xp d).length=d+1:=by unfold xp;simp
theorem Mo (d:Nat):co (xp d) ((xp d).length-1)=1:=by
 rw[Ev];unfold xp co;simp
theorem Ew {p:List Int}(np:Nml p)(p0:p≠[]):Nml (dvL p (af p))∧dvL p (af p)≠[]∧gH (co (dvL p (af p)))∧p=pdL [((af p:Nat):Int)] (dvL p (af p)):=by
 have c:=ia np p0;refine⟨qV np p0,λz=>p0 (bK (by rw[←iZ p (af p),z];rfl)),qW c,cG np (bT _ _) λn=>?_⟩;rw[aH,←j7 c n];simp[val]
structure Gc (p q g a b U W:List Int)(m:Int):Prop where
 ng:Nml g
 g0:g≠[]
 pg:gH (co g)
 na:Nml a
 nb:Nml b
 pa:p=pdL a g
 qb:q=pdL b g
 m0:m≠0
 bz:∀n,val n U*val n a+val n W*val n b=m
theorem Gc.swap {p q g a b U W:List Int}{m:Int}(h:Gc p q g a b U W m):Gc q p g b a W U m:=⟨h.ng,h.g0,h.pg,h.nb,h.na,h.qb,h.pa,h.m0,λn=>by rw[←h.bz n];omega⟩
theorem Ex:∀(n:Nat) (p q:List Int),p.length+q.length<=n->Nml p->Nml q->(p≠[]∨q≠[])->∃(g a b U W:List Int) (m:Int),Gc p q g a b U W m
 | 0,p,q,h,_,_,hz=>by
  have h1:p=[]:=bK (by omega);have h2:q=[]:=bK (by omega);rcases hz with z|z
  ·exact absurd h1 z
  ·exact absurd h2 z
 | n+1,p,q,h,np,nq,hz=>by
  have side:∀{p q:List Int},p.length+q.length<=n+1->Nml p->Nml q->q≠[]->q.length<=p.length->∃(g a b U W:List Int) (m:Int),Gc p q g a b U W m:=λ{p q} h np nq q0 hl=>by
   have p0:p≠[]:=λz=>q0 (bK (by rw[z]at hl;simpa using hl));have lq0:q.length≠0:=λz=>q0 (bK z);have c0:=cN nq q0;generalize hc:co q (q.length-1)=c at c0;generalize hlp:co p (p.length-1)=l;obtain⟨d,hd⟩:∃d,p.length=d+q.length:=⟨p.length-q.length,by omega⟩
   obtain⟨t1,t2⟩:=gw (Mm d) nq (Mn d) q0;rw[Ev]at t1;rw[Mo,hc,fH]at t2;obtain⟨r,hr⟩:∃r,r=aF (cE (p.map λz=>c*z) ((pdL (xp d) q).map λz=>-l*z)):=⟨_,rfl⟩
   have nr:Nml r:=by rw[hr];exact cC _
   have rc:∀j,co r j=c*co p j-l*co (pdL (xp d) q) j:=λj=>by rw[hr,cP,iG,gr,gr];grind
   have rv:∀n,val n r=c*val n p-l*(val n (xp d)*val n q):=λn=>by rw[hr,eQ,fY,aS,aS,aH];grind
   have lr:r.length<=p.length-1:=gZ nr λk hk=>by
    rw[rc];by_cases z:k=p.length-1
    ·have e:(pdL (xp d) q).length-1=k:=by omega
     rw[e]at t2;rw[t2,z,hlp];grind
    ·rw[ay (xs:=p) (by omega),ay (xs:=pdL (xp d) q) (by omega)];simp
   obtain⟨g,a',b,U,W,m,G⟩:=Ex n r q (by omega) nr nq (.inr q0);have A:∀n,c*val n p=(val n a'+l*(val n (xp d)*val n b))*val n g:=λn=>by
    have e1:=rv n;have e2:val n r=val n a'*val n g:=by rw[G.pa,aH]
    have e3:val n q=val n b*val n g:=by rw[G.qb,aH]
    rw[e2,e3]at e1;grind
   obtain⟨A1,hA1⟩:∃A1,A1=aF (cE a' ((pdL (xp d) b).map λz=>l*z)):=⟨_,rfl⟩
   have nA:Nml A1:=by rw[hA1];exact cC _
   have vA:∀n,val n A1=val n a'+l*(val n (xp d)*val n b):=λn=>by rw[hA1,eQ,fY,aS,aH]
   have dv:∀j,c∣co A1 j:=by
    have h1:=qF G.pg c.natAbs (by omega) (co A1) λj=>by
     have e:pm (co g) (co A1) j=c*co p j:=by
      rw[←fZ,←gr];exact fN (λn=>by rw[du,aS,A n,vA n];grind) j
     rw[e];exact fj (rN.mpr (F_ c)) (i9 _ _)
    exact λj=>rN.mp (h1 j)
   have dA:∀z∈A1,c∣z:=cW dv;obtain⟨a,ha⟩:∃a,a=A1.map λz=>z.fdiv c:=⟨_,rfl⟩
   have na:Nml a:=by rw[ha];exact Mj c0 nA dA
   have va:∀n,val n a*c=val n A1:=λn=>by rw[ha];exact re c0 n A1 dA
   refine⟨g,a,b,U.map λz=>c*z,aF (cE W ((pdL (xp d) U).map λz=>-l*z)),m,G.ng,G.g0,G.pg,na,G.nb,?_,G.qb,G.m0,λn=>?_⟩
   ·refine cG np (bT _ _) λn=>?_;rw[aH];have e1:=A n;rw[←vA n,←va n]at e1;exact mE c0 (by rw[e1];grind)
   ·rw[aS,eQ,fY,aS,aH];have e1:=G.bz n;have e2:=va n;rw[vA n]at e2;have e3:val n a'=val n a*c-l*(val n (xp d)*val n b):=by omega
    rw[e3]at e1;grind
  by_cases q0:q=[]
  ·subst q0;have p0:p≠[]:=by
    rcases hz with z|z
    ·exact z
    ·exact absurd rfl z
   obtain⟨h1,h2,h3,h4⟩:=Ew np p0;refine⟨_,[((af p:Nat):Int)],[],[1],[],((af p:Nat):Int),h1,h2,h3,fP (by have:=ia np p0;omega),cD,h4,(gx _).symm,by have:=ia np p0;omega,λn=>by simp[val]⟩
  ·by_cases hl:q.length<=p.length
   ·exact side h np nq q0 hl
   ·by_cases p0:p=[]
    ·subst p0;obtain⟨h1,h2,h3,h4⟩:=Ew nq q0;exact⟨_,[],[((af q:Nat):Int)],[],[1],((af q:Nat):Int),h1,h2,h3,cD,fP (by have:=ia nq q0;omega),(gx _).symm,h4,by have:=ia nq q0;omega,λn=>by simp[val]⟩
    ·obtain⟨g,a,b,U,W,m,G⟩:=side (by omega) nq np p0 (by omega);exact⟨g,b,a,W,U,m,G.swap⟩
def dF (f:Nat->Int):Nat->List Rw
 | 0=>[]
 | k+1=>f :: dF (sh f) k
theorem ka:∀(k:Nat) (f:Nat->Int),(dF f k).length=k
 | 0,_=>rfl
 | k+1,f=>by rw[dF,ck,ka k]
theorem w6 {B:Nat}:∀(k:Nat) (f:Nat->Int),(∀J,(f J).natAbs<=B)->∀r∈dF f k,∀J,(r J).natAbs<=B
 | 0,_,_,r,hr,_=>by simp[dF]at hr
 | k+1,f,h,r,hr,J=>by
  rw[dF]at hr;rcases a_.mp hr with z|z
  ·rw[z];exact h J
  ·refine w6 k (sh f) (λJ=>?_) r z J;unfold sh;split
   ·simp
   ·exact h _
theorem w8 {L:Nat}:∀(k:Nat) (f:Nat->Int),(∀J,L+1<=J->f J=0)->∀r∈dF f k,∀J,L+k<=J->r J=0
 | 0,_,_,r,hr,_,_=>by simp[dF]at hr
 | k+1,f,h,r,hr,J,hJ=>by
  rw[dF]at hr;rcases a_.mp hr with z|z
  ·rw[z];exact h J (by omega)
  ·refine w8 (L:=L+1) k (sh f) (λJ hJ=>?_) r z J (by omega);unfold sh;rw[if_neg (by omega)];exact h _ (by omega)
theorem Mp (u:Int)(us:List Int)(f:Nat->Int)(J:Nat):pm (co (u :: us)) f J=u*f J+pm (co us) (sh f) J:=by
 rw[Dm];unfold pm sh;rw[jr];congr 1;by_cases z:J=0
 ·rw[if_pos z,z];rfl
 ·rw[if_neg z];obtain⟨i,rfl⟩:∃i,J=i+1:=⟨J-1,by omega⟩
  exact cQ λj hj=>by
   show co us j*f (i+1-(j+1))=co us j*f (i+1-1-j);congr 2;omega
theorem w_:∀(us:List Int) (f:Nat->Int) (J:Nat),dot us (dF f us.length) J=pm (co us) f J
 | [],f,J=>by
  rw[show pm (co []) f J=az (J+1) (λj=>co [] j*f (J-j)) from rfl,fX λj _=>by rw[gi];simp];rfl
 | u :: us,f,J=>by rw[ck,dF,dot,w_ us (sh f) J,Mp]
theorem rf:∀(N e:Nat) (cs:List Nat),cs.Nodup->(∀c∈cs,e<=c∧c<e+N)->cs.length<=N
 | 0,e,cs,_,h=>by
  cases cs with
  | nil=>exact am _
  | cons c cs=>have:=h c dw;omega
 | N+1,e,cs,nd,h=>by
  by_cases z:e+N∈cs
  ·have:=rf N e (cs.erase (e+N)) (nd.erase _) λc hc=>by
    have h1:=(nd.mem_erase_iff).mp hc;have:=h c h1.2;have:=h1.1;omega
   rw[List.length_erase_of_mem z]at this;omega
  ·have:=rf N e cs nd λc hc=>by
    have:=h c hc;have:c≠e+N:=λy=>z (by rw[←y];exact hc);omega
   omega
theorem Mq {N e:Nat}{cs:List Nat}(nd:cs.Nodup)(h:∀c∈cs,e<=c∧c<e+N)(hl:cs.length=N){J:Nat}(h1:e<=J)(h2:J<e+N):J∈cs:=by
 by_cases z:J∈cs
 ·exact z
 ·have:=rf N e (J :: cs) (md.mpr ⟨z,nd⟩) λc hc=>by
   rcases a_.mp hc with y|y
   ·rw[y];exact⟨h1,h2⟩
   ·exact h c y
  rw[ck]at this;omega
theorem Mr {p q g a b U W:List Int}{m:Int}(G:Gc p q g a b U W m)(p0:p≠[])(q0:q≠[]){Bp Bq N k1 n1:Nat}(hp:∀z∈p,z.natAbs<=Bp)(hq:∀z∈q,z.natAbs<=Bq)(hBp:1<=Bp)(hBq:1<=Bq)(hk1:b.length<=k1+1)(hn1:a.length<=n1+1)(hN:k1+n1=N):
  ∃(U' W':List Int) (m':Int),m'≠0∧(∀n,val n U'*val n p+val n W'*val n q=m'*val n g)∧∀z∈g,m'.natAbs*z.natAbs<=(N+1) ^ (N+1)*(Bp ^ k1*(Bq ^ n1*(Bp*Bq))):=by
 have a0:a≠[]:=λz=>p0 (by rw[G.pa,z,gx]);have b0:b≠[]:=λz=>q0 (by rw[G.qb,z,gx]);have la:a.length≠0:=λz=>a0 (bK z);have lb:b.length≠0:=λz=>b0 (bK z);have lg:g.length≠0:=λz=>G.g0 (bK z);have lp:=(gw G.na G.ng a0 G.g0).1;have lq:=(gw G.nb G.ng b0 G.g0).1;rw[←G.pa]at lp;rw[←G.qb]at lq;have vp:∀n,val n p=val n a*val n g:=λn=>by rw[G.pa,aH]
 have vq:∀n,val n q=val n b*val n g:=λn=>by rw[G.qb,aH]
 have pw:∀{x y z:Nat},1<=x->y<=z->x ^ y<=x ^ z:=λhx h=>fE hx h;have one:∀{x y:Nat},1<=x->1<=x ^ y:=λ{x y} hx=>Nat.pow_pos hx;have top:Bp<=(N+1) ^ (N+1)*(Bp ^ k1*(Bq ^ n1*(Bp*Bq))):=by
  have h0:=kz Bp hBq;have h1:=gB (Bp*Bq) (one (x:=Bq) (y:=n1) hBq);have h2:=gB (Bq ^ n1*(Bp*Bq)) (one (x:=Bp) (y:=k1) hBp);have h3:=gB (Bp ^ k1*(Bq ^ n1*(Bp*Bq))) (one (x:=N+1) (y:=N+1) (by omega));omega
 obtain⟨e,he⟩:∃e,g.length=e+1:=⟨g.length-1,by omega⟩
 obtain⟨k,hk⟩:∃k,b.length=k+1:=⟨b.length-1,by omega⟩
 obtain⟨n,hn⟩:∃n,a.length=n+1:=⟨a.length-1,by omega⟩
 by_cases N0:n+k=0
 ·-- both are the common times a number
  obtain⟨c,hc⟩:=xV.mp (show a.length=1 by omega);have c0:c≠0:=λz=>by have:=G.na;rw[hc,z]at this;exact fB.mp this 0 rfl rfl
  refine⟨[1],[],c,c0,λn=>by rw[vp n,hc];simp[val],cW λj=>?_⟩;have e1:co p j=c*co g j:=by
   rw[←gr];exact fN (λn=>by rw[vp n,aS,hc];simp[val]) j
  rw[←bV,←e1];exact aP (cF (P:=λz=>z.natAbs<=Bp) hp (by simp) j) top
 obtain⟨rs,hrs⟩:∃rs,rs=dF (co p) k++dF (co q) n:=⟨_,rfl⟩
 have lrs:rs.length=k+n:=by rw[hrs,bM,ka,ka]
 have b1:∀r∈dF (co p) k,∀J,(r J).natAbs<=Bp:=λr z=>w6 k _ (λJ=>cF (P:=λz=>z.natAbs<=Bp) hp (by simp) J) r z;have b2:∀r∈dF (co q) n,∀J,(r J).natAbs<=Bq:=λr z=>w6 n _ (λJ=>cF (P:=λz=>z.natAbs<=Bq) hq (by simp) J) r z;obtain⟨X,hX⟩:∃X:Rw,∀J,X J=if J=e then 1 else 0:=⟨_,λ_=>rfl⟩
 obtain⟨β,w1,w2,w3,w4,w5⟩:∃β:Rw->Nat,(∀r∈rs++[X],∀J,(r J).natAbs<=β r)∧(∀r∈rs++[X],1<=β r)∧(∀r∈dF (co p) k,β r<=Bp)∧(∀r∈dF (co q) n,β r<=Bq)∧∀r,β r<=Bp*Bq:=by
  classical
  refine⟨λr=>if r∈dF (co p) k then (if r∈dF (co q) n then min Bp Bq else Bp) else if r∈dF (co q) n then Bq else 1,λr hr J=>?_,λr hr=>?_,λr hr=>?_,λr hr=>?_,λr=>?_⟩
  ·dsimp only;have hx:r=X∨r∈dF (co p) k∨r∈dF (co q) n:=by
    rcases bj.mp hr with z|z
    ·rw[hrs]at z;exact .inr (bj.mp z)
    ·exact .inl (aQ.mp z)
   split
   ·rename_i h1
    split
    ·rename_i h2;have:=b1 r h1 J;have:=b2 r h2 J;omega
    ·exact b1 r h1 J
   ·rename_i h1
    split
    ·rename_i h2;exact b2 r h2 J
    ·rename_i h2;rcases hx with rfl|h|h
     ·rw[hX];split <;> simp
     ·exact absurd h h1
     ·exact absurd h h2
  ·dsimp only;split
   ·split <;> omega
   ·split <;> omega
  ·dsimp only;rw[if_pos hr];split <;> omega
  ·dsimp only;split
   ·omega
   ·exact am _
  ·have h1:=kz Bp hBq;have h2:=gB Bq hBp;have h3:1<=Bp*Bq:=iO hBp hBq;dsimp only;split
   ·split <;> omega
   ·split <;> omega
 have frs:∀r∈rs,∀J,e+(k+n)<=J->r J=0:=λr hr J hJ=>by
  rw[hrs]at hr;rcases bj.mp hr with z|z
  ·exact w8 (L:=e+n) k _ (λJ hJ=>ay (by omega)) r z J (by omega)
  ·exact w8 (L:=e+k) n _ (λJ hJ=>ay (by omega)) r z J (by omega)
 have sum:∀us ws:List Int,us.length=k->ws.length=n->∀J,dot (us++ws) rs J=co (cE (a7 us p) (a7 ws q)) J:=λus ws h1 h2 J=>by
  rw[hrs,DI (by rw[ka];exact h1),iG,fZ,fZ,←h1,←h2,w_,w_]
 have split:∀ms:List Int,ms.length=k+n->∃us ws:List Int,ms=us++ws∧us.length=k∧ws.length=n:=λms h=>⟨ms.take k,ms.drop k,(Nk k ms).symm,by rw[b6];omega,by rw[xw];omega⟩
 have vS:∀(us ws:List Int) n,val n (cE (a7 us p) (a7 ws q))=(val n us*val n a+val n ws*val n b)*val n g:=λus ws n=>by
  rw[fY,du,du,vp n,vq n];grind
 have eS:∀us ws:List Int,aF (cE (a7 us p) (a7 ws q))=pdL (aF (cE (a7 us a) (a7 ws b))) g:=λus ws=>cG (cC _) (bT _ _) λn=>by
  rw[eQ,vS,aH,eQ,fY,du,du]
 have noll:∀zs:List Int,aF zs=[]->∀z∈zs,z=0:=λzs h=>cW λj=>by
  rw[←cP,h,gi]
 have ind:∀ms:List Int,ms.length=rs.length->(∀J,e<=J->dot ms rs J=0)->∀z∈ms,z=0:=λms hl hz=>by
  obtain⟨us,ws,rfl,lu,lw⟩:=split ms (by omega);have T0:aF (cE (a7 us a) (a7 ws b))=[]:=by
   by_cases z:aF (cE (a7 us a) (a7 ws b))=[]
   ·exact z
   ·have h1:=gw (cC (cE (a7 us a) (a7 ws b))) G.ng z G.g0;have l1:(aF (cE (a7 us a) (a7 ws b))).length≠0:=λy=>z (bK y);have h2:=hz ((pdL (aF (cE (a7 us a) (a7 ws b))) g).length-1) (by omega);rw[sum us ws lu lw,←cP,eS]at h2;rw[h1.2]at h2;exact absurd h2 (rY (cN (cC _) z) (cN G.ng G.g0))
  have v0:∀n,val n us*val n a+val n ws*val n b=0:=λn=>by
   have:=eQ n (cE (a7 us a) (a7 ws b));rw[T0,fY,du,du]at this;rw[←this];rfl
  have u0:aF us=[]:=by
   by_cases z:aF us=[]
   ·exact z
   ·obtain⟨V,hV⟩:∃V,V=aF (cE (a7 W us) ((a7 U ws).map λz=>-1*z)):=⟨_,rfl⟩
    have e1:(aF us).map (λz=>m*z)=pdL b V:=cG (ie G.m0 (cC _)) (bT _ _) λn=>by
     rw[aS,eQ,aH,hV,eQ,fY,aS,du,du];have h1:=v0 n;have h2:=G.bz n;grind
    have V0:V≠[]:=λy=>by
     rw[y,Ej]at e1;exact z (jD.mp e1)
    have l1:=(gw G.nb (by rw[hV];exact cC _) b0 V0).1;have l2:=congrArg ij e1;rw[ac,l1]at l2;have l3:=kZ us;have l4:V.length≠0:=λy=>V0 (bK y);omega
  have w0:aF ws=[]:=by
   by_cases z:aF ws=[]
   ·exact z
   ·refine absurd (cG (bT _ _) cD λn=>?_) (ib (cC ws) G.nb z b0);have h1:=v0 n;have h2:val n us=0:=by rw[←eQ,u0];rfl
    rw[h2]at h1;rw[aH,eQ];show _=0;omega
  intro z hz';rcases bj.mp hz' with h|h
  ·exact noll us u0 z h
  ·exact noll ws w0 z h
 obtain⟨cs,c1,c2,c3,c4⟩:=DJ (e:=e) (N:=k+n) frs ind rs.length (am _);obtain⟨xs,x1,x2⟩:=g9 (rs:=rs) (cs:=cs) rs.length X;rw[fT]at x1 x2;have D0:=c4 rs.length (am _);have inn:∀J,e<=J->J<e+(k+n)->bo rs cs rs.length X J=0:=λJ h1 h2=>by
  obtain⟨l,hl,rfl⟩:=dq.mp (Mq c2 c3 (by omega) h1 h2);exact jt X (by omega) hl
 obtain⟨us,ws,rfl,lu,lw⟩:=split xs (by omega);have far:∀J,e+(k+n)<=J->dot (us++ws) rs J=0:=λJ hJ=>by
  have:∀(ms:List Int) (R:List Rw),(∀r∈R,r J=0)->dot ms R J=0:=λms=>by
   induction ms with
   | nil=>intro R _;cases R <;> rfl
   | cons m ms ih=>intro R hR;cases R with
    | nil=>rfl
    | cons r R=>rw[dot,hR r dw,ih R λx hx=>hR x (cT _ hx)];simp
  exact this _ _ λr hr=>frs r hr J hJ
 have atE:dot (us++ws) rs e=- mi rs cs rs.length:=by
  have h1:=x2 e;rw[inn e (am _) (by omega),hX,if_pos rfl]at h1;omega
 have above:∀J,e<J->dot (us++ws) rs J=0:=λJ hJ=>by
  by_cases z:J<e+(k+n)
  ·have h1:=x2 J;rw[inn J (by omega) z,hX,if_neg (by omega)]at h1;omega
  ·exact far J (by omega)
 have pq:prb β rs<=Bp ^ k1*Bq ^ n1:=by
  rw[hrs,wF];refine eC (aP (wG _ w3) ?_) (aP (wG _ w4) ?_)
  ·rw[ka];exact pw hBp (by omega)
  ·rw[ka];exact pw hBq (by omega)
 have bmi:(mi rs cs rs.length).natAbs<=(N+1) ^ (N+1)*(Bp ^ k1*(Bq ^ n1*(Bp*Bq))):=by
  unfold mi;rw[fT];refine aP (wE (β:=β) (N:=N+1) (by omega) _ rs (by omega) (λr hr=>w1 r (l_ _ hr)) λr hr=>w2 r (l_ _ hr)) (eC (pw (by omega) ?_) (aP pq ?_))
  ·unfold cr;rw[kG,b6];omega
  ·exact fh _ (kz _ (iO hBp hBq))
 have bbo:∀J,(bo rs cs rs.length X J).natAbs<=(N+1) ^ (N+1)*(Bp ^ k1*(Bq ^ n1*(Bp*Bq))):=λJ=>by
  unfold bo;rw[fT];refine aP (wE (β:=β) (N:=N+1) (by omega) _ (rs++[X]) (by simp;omega) w1 w2) (eC (pw (by omega) ?_) ?_)
  ·unfold cr;rw[ck,kG,b6];omega
  ·rw[wF,←jb];refine eC pq ?_;show β X*1<=_;rw[rW];exact w5 X
 have all:∀J,(dot (us++ws) rs J).natAbs<=(N+1) ^ (N+1)*(Bp ^ k1*(Bq ^ n1*(Bp*Bq))):=λJ=>by
  by_cases z:J=e
  ·rw[z,atE,Int.natAbs_neg];exact bmi
  ·have h1:=x2 J;rw[hX,if_neg z]at h1;have h2:dot (us++ws) rs J=bo rs cs rs.length X J:=by omega
   rw[h2];exact bbo J
 obtain⟨S,hS⟩:∃S,S=aF (cE (a7 us p) (a7 ws q)):=⟨_,rfl⟩
 have cS:∀J,co S J=dot (us++ws) rs J:=λJ=>by rw[hS,cP,sum us ws lu lw]
 have nS:Nml S:=by rw[hS];exact cC _
 have S0:co S e≠0:=by rw[cS,atE];omega
 have lS:S.length=e+1:=by
  have h1:=gZ nS (n:=e+1) λJ hJ=>by rw[cS,above J (by omega)]
  have h2:e<S.length:=kC λh=>S0 (ay h);omega
 have eT:=eS us ws;rw[←hS]at eT;obtain⟨T,hT⟩:∃T,T=aF (cE (a7 us a) (a7 ws b)):=⟨_,rfl⟩
 rw[←hT]at eT;have T0:T≠[]:=λz=>by rw[z,gx]at eT;rw[eT]at lS;simp at lS
 have lT:=(gw (by rw[hT];exact cC _) G.ng T0 G.g0).1;rw[←eT,lS]at lT;have lT0:T.length≠0:=λz=>T0 (bK z);obtain⟨t,ht⟩:=xV.mp (show T.length=1 by omega);have t0:t≠0:=λz=>by
  have:Nml T:=by rw[hT];exact cC _
  rw[ht,z]at this;exact fB.mp this 0 rfl rfl
 have vSt:∀n,val n S=t*val n g:=λn=>by rw[eT,aH,ht];simp[val]
 refine⟨us,ws,t,t0,λn=>?_,cW λj=>?_⟩
 ·rw[←vSt n,hS,eQ,fY,du,du]
 ·rw[←bV];have:t*co g j=co S j:=by rw[←gr];exact fN (λn=>by rw[aS,vSt n]) j
  rw[this,cS];exact all j
abbrev Rp:=Nat->List Int
def f9 (p q:List Int):List Int:=aF (cE p q)
theorem ke (p q:List Int):Nml (f9 p q):=cC _
theorem kf (n:Int)(p q:List Int):val n (f9 p q)=val n p+val n q:=by unfold f9;rw[eQ,fY]
theorem Ms {p q:List Int}{L:Nat}(hp:p.length<=L)(hq:q.length<=L):(f9 p q).length<=L:=gZ (ke _ _) λk hk=>by
 unfold f9;rw[cP,iG,ay (xs:=p) (by omega),ay (xs:=q) (by omega)];rfl
def iop (c:Nat):List Rp->(List Rp->List Int)->List Int
 | [],_=>[]
 | r :: w,F=>f9 (pdL [(-1) ^ w.length] (pdL (r c) (F w))) (iop c w λu=>F (r :: u))
def dtp:List Nat->List Rp->List Int
 | [],[]=>[1]
 | [],_ :: _=>[]
 | c :: cs,l=>iop c l (dtp cs)
def evR (n:Int)(r:Rp):Rw:=λc=>val n (r c)
theorem Mt {c:Nat}:∀(w:List Rp) (F:List Rp->List Int),Nml (iop c w F)
 | [],_=>cD
 | _ :: _,_=>ke _ _
theorem iL:∀(cs:List Nat) (l:List Rp),Nml (dtp cs l)
 | [],[]=>fP (by decide)
 | [],_ :: _=>cD
 | _ :: _,_=>Mt _ _
theorem Ey (n:Int){c:Nat}:∀(w:List Rp) (F:List Rp->List Int) (F':List Rw->Int),(∀u,val n (F u)=F' (u.map (evR n)))->val n (iop c w F)=io c (w.map (evR n)) F'
 | [],_,_,_=>rfl
 | r :: w,F,F',h=>by
  rw[iop,kf,aH,aH,dy,io,Ey n w (λu=>F (r :: u)) (λu=>F' (evR n r :: u)) (λu=>by rw[h];rfl),h w,ac];simp[val,evR];grind
theorem rg (n:Int):∀(cs:List Nat) (l:List Rp),val n (dtp cs l)=dt cs (l.map (evR n))
 | [],[]=>by simp[dtp,dt,val]
 | [],_ :: _=>by simp[dtp,dt,val]
 | c :: cs,l=>by rw[dtp,dt];exact Ey n l _ _ λu=>rg n cs u
theorem Mu (k:Nat){f:List Int}(nf:Nml f):(pdL [(-1) ^ k] f).length<=f.length:=by
 have hk:(-1:Int) ^ k=1∨(-1:Int) ^ k=-1:=by
  induction k with
  | zero=>exact .inl rfl
  | succ k ih=>rw[jH];rcases ih with z|z <;> rw[z] <;> simp
 have:=gu (fP (c:=(-1) ^ k) (by rcases hk with z|z <;> rw[z] <;> decide)) nf;simp at this;omega
theorem rh {c D:Nat}:∀(w p0:List Rp) (F:List Rp->List Int),(∀u,Nml (F u))->(∀pre r post,w=pre++r :: post->Nml (r c)∧(r c≠[]->(r c).length+(F (p0++pre++post)).length<=D+2))->(iop c w λu=>F (p0++u)).length<=D+1
 | [],_,_,_,_=>by simp[iop]
 | r :: w,p0,F,nF,h=>by
  rw[iop];refine Ms (aP (Mu _ (bT _ _)) ?_) ?_
  ·obtain⟨h1,h2⟩:=h [] r w rfl;by_cases z:r c=[]
   ·rw[z,gx];exact aI _
   ·have l:=gu h1 (nF (p0++w));have:=h2 z;rw[rD]at this;omega
  ·have:=rh w (p0++[r]) F nF λpre x post e=>by
    have:=h (r :: pre) x post (by rw[e];rfl)
    simpa using this
   simpa using this
theorem rj (dc:Nat->Nat):∀(cs:List Nat) (l:List Rp),(∀r∈l,∀c∈cs,Nml (r c)∧(r c).length<=dc c+1)->(dtp cs l).length<=(cs.map dc).sum+1
 | [],[],_=>by simp[dtp]
 | [],_ :: _,_=>by simp[dtp]
 | c :: cs,l,h=>by
  rw[dtp];refine rh l [] (dtp cs) (iL cs) λpre r post e=>?_;have hm:r∈l:=by rw[e];simp
  obtain⟨h1,h2⟩:=h r hm c dw;refine⟨h1,λ_=>?_⟩;have:=rj dc cs (pre++post) λx hx c' hc'=>h x (by
   rw[e];rcases bj.mp hx with z|z
   ·simp[z]
   ·simp[z]) c' (cT _ hc')
  rw[il,dy,je];omega
def kg (rd:Rp->Nat)(l:List Rp):Nat:=(l.map rd).sum
theorem Ez (rd:Rp->Nat):∀(cs:List Nat) (l:List Rp),(∀r∈l,∀c∈cs,Nml (r c)∧(r c).length<=rd r+1)->(dtp cs l).length<=kg rd l+1
 | [],[],_=>by simp[dtp]
 | [],_ :: _,_=>by simp[dtp]
 | c :: cs,l,h=>by
  rw[dtp];refine rh l [] (dtp cs) (iL cs) λpre r post e=>?_;have hm:r∈l:=by rw[e];simp
  obtain⟨h1,h2⟩:=h r hm c dw;refine⟨h1,λ_=>?_⟩;have:=Ez rd cs (pre++post) λx hx c' hc'=>h x (by
   rw[e];rcases bj.mp hx with z|z
   ·simp[z]
   ·simp[z]) c' (cT _ hc')
  rw[e];unfold kg at this ⊢;simp only[il,aV,List.sum_append,dy,je]at this ⊢;omega
theorem EA {c M Fb L:Nat}:∀(w:List Rp) (F:List Rp->List Int),(∀u,u.length+1=w.length->(∀r∈u,r∈w)->∀z∈F u,z.natAbs<=Fb)->(∀r∈w,(r c).length<=L∧∀z∈r c,z.natAbs<=M)->∀z∈iop c w F,z.natAbs<=w.length*(L*(M*Fb))
 | [],_,_,_=>by simp[iop]
 | r :: w,F,h,hb=>cW λj=>by
  have ih:=EA (c:=c) (M:=M) (Fb:=Fb) (L:=L) w (λu=>F (r :: u)) (λu hu hm=>h (r :: u) (by simp[hu]) λx hx=>by
   rcases a_.mp hx with z|z
   ·rw[z];exact dw
   ·exact cT _ (hm x z)) λx hx=>hb x (cT _ hx)
  have h1:=h w rfl λx hx=>cT _ hx;obtain⟨h2,h3⟩:=hb r dw;have e1:co (pdL [(-1) ^ w.length] (pdL (r c) (F w))) j=(-1) ^ w.length*co (pdL (r c) (F w)) j:=by
   rw[←gr];exact fN (λn=>by rw[aH,aS];simp[val]) j
  rw[iop,ck,gM,fG];unfold f9;rw[cP,iG,e1];have h4:((-1:Int) ^ w.length*co (pdL (r c) (F w)) j).natAbs<=L*(M*Fb):=by
   rw[bV,Ga];simp;exact aP (cF (P:=λz=>z.natAbs<=(r c).length*(M*Fb)) (Ek h3 h1) (by simp) j) (fS _ h2)
  have h5:(co (iop c w λu=>F (r :: u)) j).natAbs<=w.length*(L*(M*Fb)):=cF (P:=λz=>z.natAbs<=w.length*(L*(M*Fb))) ih (by simp) j;have:=mo ((-1:Int) ^ w.length*co (pdL (r c) (F w)) j) (co (iop c w λu=>F (r :: u)) j);omega
theorem EB {N M L:Nat}:∀(cs:List Nat) (l:List Rp),l.length<=N->(∀r∈l,∀c∈cs,(r c).length<=L∧∀z∈r c,z.natAbs<=M)->∀z∈dtp cs l,z.natAbs<=(N*(L*M)) ^ cs.length
 | [],[],_,_=>by simp[dtp]
 | [],_ :: _,_,_=>by simp[dtp]
 | c :: cs,l,hl,hb=>by
  have h:=EA (c:=c) (M:=M) (L:=L) (Fb:=(N*(L*M)) ^ cs.length) l (dtp cs) (λu hu hm=>EB cs u (by omega) λr hr c' hc'=>hb r (hm r hr) c' (cT _ hc')) λr hr=>hb r hr c dw;intro z hz;refine aP (h z hz) ?_;rw[ck,jC];have:l.length*(L*(M*(N*(L*M)) ^ cs.length))<=N*(L*(M*(N*(L*M)) ^ cs.length)):=fS _ hl;refine aP this (rC ?_);rw[gI ((N*(L*M)) ^ cs.length) (N*(L*M))];simp only[jb]
theorem jz {J:Nat}:∀(ms:List Int) (R:List Rw),(∀r∈R,r J=0)->dot ms R J=0
 | [],R,_=>by cases R <;> rfl
 | m :: ms,[],_=>rfl
 | m :: ms,r :: R,h=>by rw[dot,h r dw,jz ms R λx hx=>h x (cT _ hx)];simp
theorem Mv {rs:List Rw}{cs:List Nat}{i:Nat}{x:Rw}{J:Nat}(h:∀r∈rs,r J=0)(hx:x J=0):bo rs cs i x J=0:=by
 obtain⟨xs,_,h2⟩:=g9 (rs:=rs) (cs:=cs) i x;rw[h2,jz _ _ λr hr=>h r (iR hr),hx];simp
def aT (w:Nat)(RP:List (List (List Int)))(p:Int):List Rw:=(aD RP.length).map λi=>co (bI w (RP.getD i []) i p)
section
variable {w:Nat}{RP:List (List (List Int))}{cs:List Nat}{p:Int}
theorem ig:(aT w RP p).length=RP.length:=by unfold aT;rw[ac,fI]
theorem iM {i:Nat}(h:i<(aT w RP p).length):(aT w RP p)[i]=co (bI w (RP.getD i []) i p):=by
 have e:(aT w RP p)[i]?=some (co (bI w (RP.getD i []) i p)):=by
  rw[ig]at h;unfold aT;rw[aA,jI h];rfl
 exact Option.some.inj ((aj h).symm.trans e)
theorem Mw (W:∀v∈RP,v.length=w){J:Nat}(hJ:w+(w+1)<=J):∀r∈aT w RP p,r J=0:=λr hr=>by
 unfold aT at hr;obtain⟨i,hi,rfl⟩:=aW.mp hr;have hi':=dS.mp hi;exact ay (by rw[jy (W _ (mem_getD hi'))];exact hJ)
theorem xa {n i:Nat}(h:i<n):(cR w RP cs p n).getD i []=eK w RP cs p i:=by
 induction n with
 | zero=>omega
 | succ n ih=>
  rw[cR,av];by_cases z:i<n
  ·rw[b_ (by rw[dJ];exact z),←av];exact ih z
  ·have e:i=n:=by omega
   subst e;rw[dz (by rw[dJ];exact am _),dJ,jJ];rfl
def EC (w:Nat)(RP:List (List (List Int)))(cs:List Nat)(p:Int)(n:Nat):Prop:=(∀i,i<=n->mi (aT w RP p) cs i≠0)∧∀i,i<n->(eK w RP cs p i).length=w+(w+1)∧∀j,co (eK w RP cs p i) j=bo (aT w RP p) cs i (co (bI w (RP.getD i []) i p)) j
theorem kh {n:Nat}(W:∀v∈RP,v.length=w)(hn:n<=RP.length)(hc:n<=cs.length)(h:EC w RP cs p n){x:List Int}(lx:x.length=w+(w+1)):∀i,i<=n->(cH x (cR w RP cs p n) cs i).1=mi (aT w RP p) cs i∧(cH x (cR w RP cs p n) cs i).2.length=w+(w+1)∧∀j,co (cH x (cR w RP cs p n) cs i).2 j=bo (aT w RP p) cs i (co x) j
 | 0,_=>⟨rfl,lx,λj=>by
  show co x j=dt [j] [co x];simp[dt,io]⟩
 | i+1,hi=>by
  obtain⟨h1,h2,h3⟩:=kh W hn hc h lx i (by omega);obtain⟨t1,t2⟩:=h.2 i (by omega);have hr:i<(aT w RP p).length:=by rw[ig];omega
  have hci:i<cs.length:=by omega
  have et:=xa (w:=w) (RP:=RP) (cs:=cs) (p:=p) (show i<n by omega);have ec:cs.getD i 0=cs[i]:=by rw[av,aj hci];rfl
  have em:co (eK w RP cs p i) cs[i]=mi (aT w RP p) cs (i+1):=by rw[t2,j4 hr hci,iM]
  have m0:=h.1 i (by omega);rw[cH,et,ec];refine⟨em,by rw[mG,h2,t1];omega,λj=>?_⟩;by_cases hj:j<w+(w+1)
  ·rw[Mi (by omega) (by omega),em,h3,h3,t2,h1];have st:=KY hr hci (λl hl=>h.1 l (by omega)) (co x) j;rw[iM hr]at st;rw[←st];exact my _ m0
  ·rw[ay (by rw[mG,h2,t1];omega)];exact (Mv (Mw W (by omega)) (ay (by omega))).symm
theorem i3 (W:∀v∈RP,v.length=w):∀n,n<=RP.length->n<=cs.length->Piv w RP cs p n->EC w RP cs p n
 | 0,_,_,_=>⟨λi hi=>by rw[show i=0 by omega,wB];decide,λi hi=>by omega⟩
 | n+1,hk,hc,pv=>by
  have ih:=i3 W n (by omega) (by omega) λi hi=>pv i (by omega);have lx:(bI w (RP.getD n []) n p).length=w+(w+1):=jy (W _ (mem_getD (by omega)));obtain⟨_,l2,l3⟩:=kh W (by omega) (by omega) ih lx n (am _);have hr:n<(aT w RP p).length:=by rw[ig];omega
  have hcn:n<cs.length:=by omega
  have ec:cs.getD n 0=cs[n]:=by rw[av,aj hcn];rfl
  have hT:(eK w RP cs p n).length=w+(w+1)∧∀j,co (eK w RP cs p n) j=bo (aT w RP p) cs n (co (bI w (RP.getD n []) n p)) j:=⟨l2,l3⟩
  refine⟨λi hi=>?_,λi hi=>?_⟩
  ·by_cases z:i<=n
   ·exact ih.1 i z
   ·have e:i=n+1:=by omega
    subst e;rw[j4 hr hcn,iM hr,←hT.2];have:=pv n (by omega);rw[ec]at this;exact this
  ·by_cases z:i<n
   ·exact ih.2 i z
   ·rw[show i=n by omega];exact hT
def eH (w:Nat)(v:List (List Int))(num:Nat):Rp:=λj=>if j<w then v.getD j [] else if j=w+num then [1] else []
theorem Mz {v:List (List Int)}{num:Nat}(lv:v.length=w)(hm:num<=w):evR p (eH w v num)=co (bI w v num p):=by
 funext j
 unfold evR eH;by_cases z:j<w
 ·rw[if_pos z,j_ (by omega)]
 ·rw[if_neg z];obtain⟨i,rfl⟩:∃i,j=w+i:=⟨j-w,by omega⟩
  by_cases y:i<=w
  ·rw[ic lv y];by_cases x:i=num
   ·rw[if_pos (by omega),if_pos x];simp[val]
   ·rw[if_neg (by omega),if_neg x];rfl
  ·rw[if_neg (by omega),ay (by rw[jy lv];omega)];rfl
def dO (w:Nat)(RP:List (List (List Int))):List Rp:=(aD RP.length).map λi=>eH w (RP.getD i []) i
theorem ED (W:∀v∈RP,v.length=w)(hk:RP.length<=w+1)(p:Int):(dO w RP).map (evR p)=aT w RP p:=by
 unfold dO aT;rw[ja];refine jc λi hi=>?_;have:=dS.mp hi;exact Mz (W _ (mem_getD this)) (by omega)
def mkP (w:Nat)(RP:List (List (List Int)))(cs:List Nat)(q:List (List Int))(j:Nat):List Int:=dtp (j :: cr cs RP.length) (dO w (RP++[q]))
theorem MA (q:List (List Int)):aT w (RP++[q]) p=aT w RP p++[co (bI w q RP.length p)]:=by
 unfold aT;rw[bM,rF,mH,aV];congr 1
 ·refine jc λi hi=>?_;have:=dS.mp hi;rw[av,av,b_ this]
 ·simp
theorem jA (W:∀v∈RP++[q],v.length=w)(hk:RP.length<=w)(p:Int)(j:Nat):val p (mkP w RP cs q j)=bo (aT w RP p) cs RP.length (co (bI w q RP.length p)) j:=by
 unfold mkP bo;rw[rg,ED W (by simp;omega),MA,←ig (w:=w) (RP:=RP) (p:=p),fT]
theorem xb (W:∀v∈RP++[q],v.length=w)(hk:RP.length<=w)(hc:RP.length<=cs.length)(pv:Piv w RP cs p RP.length)(j:Nat):co (cI w RP cs q p) j=val p (mkP w RP cs q j):=by
 have W':∀v∈RP,v.length=w:=λv hv=>W v (by simp[hv]);rw[jA W hk];exact (kh W' (am _) hc (i3 W' _ (am _) hc pv) (jy (W q (by simp))) RP.length (am _)).2.2 j
end
theorem xf {rs:List Rw}{cs:List Nat}{i R:Nat}{x:Rw}(hr:∀r∈rs,∀j,Bd R (r j))(hx:∀j,Bd R (x j))(hi:i<=7)(j:Nat):Bd ((R+3)*(i+1)+1) (bo rs cs i x j):=by
 have h:=wD (B:=2 ^ R) (N:=2 ^ 3) (iO (dX _) (dX _)) (j :: cr cs i) (rs.take i++[x]) (by rw[bM,b6];simp;omega) λr hr' c=>by
  rcases bj.mp hr' with z|z
  ·exact b5 (hr r (iR z) c)
  ·rw[aQ.mp z];exact b5 (hx c)
 rw[←dm,←xW]at h;refine cZ h (cZ (fE (by decide) ?_) (kF (by decide) (ky _)));rw[rG R 3];refine fh _ ?_;unfold cr;rw[ck,kG,b6];omega
theorem MB {rs:List Rw}{cs:List Nat}{i R:Nat}(hr:∀r∈rs,∀j,Bd R (r j))(hi:i<=7):Bd ((R+3)*i+1) (mi rs cs i):=by
 have h:=wD (B:=2 ^ R) (N:=2 ^ 3) (iO (dX _) (dX _)) (cr cs i) (rs.take i) (by rw[b6];omega) λr hr' c=>b5 (hr r (iR hr') c);rw[←dm,←xW]at h;refine cZ h (cZ (fE (by decide) ?_) (kF (by decide) (ky _)));rw[rG R 3];refine fh _ ?_;unfold cr;rw[kG,b6];omega
structure VB (w:Nat)(RP:List (List (List Int)))(L b:Nat):Prop where
 wid:∀v∈RP,v.length=w
 nml:∀v∈RP,∀f∈v,Nml f∧f.length<=L∧∀c∈f,Bd b c
 few:RP.length<=6
 w9:w<=9
 b0:0<b
section
variable {w L b:Nat}{RP:List (List (List Int))}{cs:List Nat}{p:Int}{q:List (List Int)}
theorem VB.row (B:VB w RP L b){v:List (List Int)}(hv:v∈RP)(hp:Bd 9 p)(num:Nat)(j:Nat):Bd (b+10*L) (co (bI w v num p) j):=
 cF (P:=λz=>Bd (b+10*L) z) (wZ hp (λf hf=>⟨(B.nml v hv f hf).2.1,(B.nml v hv f hf).2.2⟩) B.b0) (Bd.zero _) j
theorem VB.rows (B:VB w RP L b)(hp:Bd 9 p):∀r∈aT w RP p,∀j,Bd (b+10*L) (r j):=λr hr j=>by
 unfold aT at hr;obtain⟨i,hi,rfl⟩:=aW.mp hr;exact B.row (mem_getD (dS.mp hi)) hp i j
theorem VB.low (B:VB w RP L b)(hp:Bd 9 p)(hb:(b+10*L+3)*7+1<=4000)(hcs:∀c∈cs,c<w){n:Nat}(hn:n<=RP.length)(hc:n<=cs.length)(pv:Piv w RP cs p n){v:List (List Int)}{num:Nat}(lv:v.length=w)(bv:∀f∈v,f.length<=L∧∀c∈f,Bd b c):LowOk (bI w v num p) (cR w RP cs p n) cs:=by
 have tb:=i3 B.wid n hn hc pv;have w9:=B.w9;have few:=B.few;have lx:(bI w v num p).length=w+(w+1):=jy lv;have rx:∀j,Bd (b+10*L) (co (bI w v num p) j):=λj=>cF (P:=λz=>Bd (b+10*L) z) (wZ hp bv B.b0) (Bd.zero _) j;have big:∀i,i<=6->(b+10*L+3)*(i+1)+1<=4000:=λi hi=>aP (Gn (fh _ (show i+1<=7 by omega)) 1) hb;refine⟨by rw[dJ];exact hc,by omega,λy hy=>?_,λc h=>by rw[lx];have:=hcs c h;omega,λy hy=>?_,λi hi=>?_,λi hi=>?_⟩
 ·obtain⟨i,hi,rfl⟩:=dq.mp hy;rw[dJ]at hi;have e:=xa (w:=w) (RP:=RP) (cs:=cs) (p:=p) hi;rw[av,aj (by rw[dJ];exact hi)]at e;rw[show (cR w RP cs p n)[i]'(by rw[dJ];exact hi)=eK w RP cs p i from e,(tb.2 i hi).1,lx]
 ·obtain⟨i,hi,rfl⟩:=dq.mp hy;rw[dJ]at hi;have e:=xa (w:=w) (RP:=RP) (cs:=cs) (p:=p) hi;rw[av,aj (by rw[dJ];exact hi)]at e;rw[show (cR w RP cs p n)[i]'(by rw[dJ];exact hi)=eK w RP cs p i from e];refine cW λj=>?_;rw[(tb.2 i hi).2 j];exact (xf (B.rows hp) (B.row (mem_getD (by omega)) hp i) (by omega) j).mono (big i (by omega))
 ·rw[dJ]at hi;obtain⟨e1,_⟩:=kh B.wid hn hc tb lx i (by omega);rw[e1];exact⟨tb.1 i (by omega),(MB (B.rows hp) (by omega)).mono (aP (Gn (fh _ (show i<=7 by omega)) 1) hb)⟩
 ·rw[dJ]at hi;obtain⟨_,_,e3⟩:=kh B.wid hn hc tb lx i (by omega);refine cW λj=>?_;rw[e3];exact (xf (B.rows hp) rx (by omega) j).mono (big i (by omega))
theorem VB.tbd (B:VB w RP L b)(hp:Bd 9 p)(hb:(b+10*L+3)*7+1<=4000)(hL:L<=60)(hb2:b<=1000)(hcs:∀c∈cs,c<w)(hc:RP.length<=cs.length):TBd w RP cs p:=by
 have w9:=B.w9;refine⟨by omega,hp.mono (by decide),λn hn pv=>?_,λv hv=>⟨by rw[B.wid v hv];omega,λf hf=>?_⟩⟩
 ·have hm:=mem_getD (d:=([]:List (List Int))) hn;exact B.low hp hb hcs (by omega) (by omega) pv (B.wid _ hm) λf hf=>⟨(B.nml _ hm f hf).2.1,(B.nml _ hm f hf).2.2⟩
 ·obtain⟨_,h2,h3⟩:=B.nml v hv f hf;exact⟨by omega,λc hc=>(h3 c hc).mono hb2⟩
theorem EE (W:∀v∈RP++[q],v.length=w)(hk:RP.length<=w)(p:Int)(j:Nat):val p (mkP w RP cs q j)=dot ((aD RP.length).map λi=>val p (mkP w RP cs q (w+i))) (aT w RP p) j+val p (mkP w RP cs q (w+RP.length))*co (bI w q RP.length p) j:=by
 obtain⟨xs,x1,x2⟩:=g9 (rs:=aT w RP p) (cs:=cs) RP.length (co (bI w q RP.length p));have tl:(aT w RP p).take RP.length=aT w RP p:=eZ (by rw[ig];exact am _);rw[tl]at x1 x2;have lr:=ig (w:=w) (RP:=RP) (p:=p);have lq:=W q (by simp);have inn:∀i,i<RP.length->RP.getD i []∈RP++[q]:=λi hi=>l_ _ (mem_getD hi);have mk:∀i,i<RP.length->∀j',j'<=w->co (bI w (RP.getD i []) i p) (w+j')=if j'=i then 1 else 0:=λi hi j' hj'=>ic (W _ (inn i hi)) hj'
 have dl:∀(ms:List Int) (s:Nat) (R:List Rw),ms.length=R.length->(∀i (h:i<R.length) j',j'<=w->R[i] (w+j')=if j'=s+i then 1 else 0)->∀i (h:i<ms.length),s+i<=w->dot ms R (w+(s+i))=ms[i]:=λms=>by
  induction ms with
  | nil=>intro s R _ _ i h;simp at h
  | cons m ms ih=>
   intro s R hl hR i h hs
   cases R with
   | nil=>simp at hl
   | cons r R=>
    have hr:=hR 0 (by simp) (s+i) hs;simp only[Go,Nat.add_zero]at hr;have tail:∀i (h:i<R.length) j',j'<=w->R[i] (w+j')=if j'=s+1+i then 1 else 0:=λi h j' hj'=>by
     have:=hR (i+1) (by simp;omega) j' hj';simp only[Gp]at this;rw[this,show s+(i+1)=s+1+i by omega]
    rw[dot,hr]
    cases i with
    | zero=>
     have z:dot ms R (w+(s+0))=0:=jz _ _ λr hr=>by
      obtain⟨l,hl',rfl⟩:=dq.mp hr;rw[tail l hl' (s+0) (by omega),if_neg (by omega)]
     rw[z,if_pos (by omega)];simp
    | succ i=>
     rw[if_neg (by omega)];have:=ih (s+1) R (by simpa using hl) tail i (by simpa using h) (by omega);rw[show s+(i+1)=s+1+i by omega,this];simp
 have xsi:xs=(aD RP.length).map λi=>val p (mkP w RP cs q (w+i)):=by
  refine gJ (by rw[x1,lr,ac,fI]) λi h1 h2=>?_;have hi:i<RP.length:=by rw[x1,lr]at h1;exact h1
  rw[bO,ir,jA W hk,x2];have d:=dl xs 0 (aT w RP p) x1 (λl h j' hj'=>by
   rw[iM h,mk l (by rw[lr]at h;exact h) j' hj',rZ]) i h1 (by omega)
  rw[rZ]at d;rw[d,ic lq (by omega),if_neg (by omega)];simp
 have last:val p (mkP w RP cs q (w+RP.length))=mi (aT w RP p) cs RP.length:=by
  rw[jA W hk,x2,ic lq hk,if_pos rfl,jz _ _ λr hr=>by
   obtain⟨l,hl',rfl⟩:=dq.mp hr;rw[iM hl',mk l (by rw[lr]at hl';exact hl') _ hk,if_neg (by rw[lr]at hl';omega)]]
  simp
 rw[jA W hk p j,x2,xsi,last]
theorem EF {c:Nat}(hc:c∈cs)(hl:cs.length=RP.length):mkP w RP cs q c=[]:=cG (iL _ _) cD λn=>by
 unfold mkP;rw[rg];refine wA _ _ ?_;unfold cr;rw[xM,←hl,fT];exact hc
end
def mx (xs:List Nat):Nat:=xs.foldr max 0
theorem xi {xs:List Nat}{x:Nat}(h:x∈xs):x<=mx xs:=by
 induction xs with
 | nil=>simp at h
 | cons y xs ih=>
  show x<=max y (mx xs);rcases a_.mp h with z|z
  ·omega
  ·have:=ih z;omega
theorem EG {xs:List Nat}{b:Nat}(h:∀x∈xs,x<=b):mx xs<=b:=by
 induction xs with
 | nil=>exact aI _
 | cons y xs ih=>
  show max y (mx xs)<=b;have h1:=h y dw;have h2:=ih λx hx=>h x (cT _ hx);omega
theorem EH {ps:List (List Int)}{b:Int}(h:g_ ps b):b=((mx (ps.map λp=>p.length-1):Nat):Int):=by
 rcases h with ⟨z,rfl⟩|⟨z1,z2⟩
 ·have:ps=[]:=jD.mp z;rw[this];rfl
 ·obtain⟨p,hp,rfl⟩:=aW.mp z1;have h1:p.length-1<=mx (ps.map λp=>p.length-1):=xi (aW.mpr ⟨p,hp,rfl⟩);have h2:mx (ps.map λp=>p.length-1)<=p.length-1:=EG λx hx=>by
   obtain⟨r,hr,rfl⟩:=aW.mp hx;have:=z2 _ (aW.mpr ⟨r,hr,rfl⟩);unfold dgL at this;omega
  unfold dgL;omega
theorem MC (xs:List Nat):(xs.map λx:Nat=>(x:Int)).sum=((xs.sum:Nat):Int):=by
 induction xs with
 | nil=>rfl
 | cons x xs ih=>simp[ih]
theorem EI {xs:List Nat}{x:Nat}(h:x∈xs):x<=xs.sum:=by
 induction xs with
 | nil=>simp at h
 | cons y xs ih=>
  rw[je];rcases a_.mp h with z|z
  ·omega
  ·have:=ih z;omega
section
variable {w L b:Nat}{RP:List (List (List Int))}{cs:List Nat}{p:Int}{q:List (List Int)}
theorem EJ (W:∀v∈RP++[q],v.length=w)(nml:∀v∈RP++[q],∀f∈v,Nml f∧f.length<=L)(hk:RP.length<=w)(hl:cs.length=RP.length)(hcs:∀c∈cs,c<w){N:Int}(h:lY (RP++[q]) cs N):0<=N∧N<=((RP.length*(L-1):Nat):Int)∧∀i,i<=RP.length->((mkP w RP cs q (w+i)).length:Int)<=N+1:=by
 obtain⟨bv,bc,m,h1,h2,h3,h4,h5,h6,h7⟩:=h;have ev:bv=((RP++[q]).map λv=>mx (cs.map λc=>(v.getD c []).length-1)).map λx:Nat=>(x:Int):=by
  refine gJ (by rw[ac,ac];exact h1) λi a1 a2=>?_;have hi:i<(RP++[q]).length:=by rw[h1]at a1;exact a1
  rw[bO,bO,EH (h3 i bv[i] _ (aj a1) (aj hi))];unfold hU;rw[ja];rfl
 have ec:bc=(cs.map λc=>mx ((RP++[q]).map λv=>(v.getD c []).length-1)).map λx:Nat=>(x:Int):=by
  refine gJ (by rw[ac,ac];exact h2) λi a1 a2=>?_;have hi:i<cs.length:=by rw[h2]at a1;exact a1
  rw[bO,bO,EH (h4 i bc[i] _ (aj a1) (aj hi))];unfold h_;rw[ja];rfl
 have sv:=congrArg List.sum ev;have sc:=congrArg List.sum ec;rw[MC]at sv sc;generalize hV:(RP++[q]).map (λv=>mx (cs.map λc=>(v.getD c []).length-1))=vs at ev sv;generalize hC:cs.map (λc=>mx ((RP++[q]).map λv=>(v.getD c []).length-1))=us at ec sc;have mm:∃m':Nat,m=(m':Int)∧m'∈vs∧∀x∈vs,m'<=x:=by
  rw[ev]at h5 h6;obtain⟨m',hm',rfl⟩:=aW.mp h5;exact⟨m',rfl,hm',λx hx=>by have:=h6 _ (aW.mpr ⟨x,hx,rfl⟩);omega⟩
 obtain⟨m',rfl,mi1,mi2⟩:=mm;have mle:=EI mi1;have lL:∀v∈RP++[q],∀c,(v.getD c []).length-1<=L-1:=λv hv c=>by
  by_cases z:c<v.length
  ·have:=(nml v hv _ (mem_getD (d:=([]:List Int)) z)).2;omega
  ·rw[av,gz (by omega)];simp
 have usL:us.sum<=RP.length*(L-1):=by
  have:∀xs:List Nat,(∀x∈xs,x<=L-1)->xs.sum<=xs.length*(L-1):=λxs=>by
   induction xs with
   | nil=>intro _;simp
   | cons x xs ih=>
    intro hx;have a1:=hx x dw;have a2:=ih λy hy=>hx y (cT _ hy);rw[je,ck,gM,fG];omega
  have a:=this us λx hx=>by
   rw[←hC]at hx;obtain⟨c,_,rfl⟩:=aW.mp hx;exact EG λy hy=>by
    obtain⟨v,hv,rfl⟩:=aW.mp hy;exact lL v hv c
  rw[show us.length=RP.length by rw[←hC,ac,hl]]at a;exact a
 have N0:0<=N∧N<=(us.sum:Int):=by rw[h7,sc,sv];split <;> omega
 refine⟨N0.1,by omega,λi hi=>?_⟩;have crm:∀c∈cr cs RP.length,c∈cs:=λc hc=>by
  unfold cr at hc;exact iR (xM.mp hc)
 have row:∀r∈dO w (RP++[q]),∃t,∃_:t<(RP++[q]).length,r=eH w ((RP++[q]).getD t []) t:=λr hr=>by
  unfold dO at hr;obtain⟨t,ht,rfl⟩:=aW.mp hr;exact⟨t,dS.mp ht,rfl⟩
 have atc:∀t c,c<w->eH w ((RP++[q]).getD t []) t c=((RP++[q]).getD t []).getD c []:=λt c hc=>by unfold eH;rw[if_pos hc]
 have nm:∀t,t<(RP++[q]).length->∀c,Nml (eH w ((RP++[q]).getD t []) t c):=λt ht c=>by
  unfold eH
  split
  ·rename_i z;exact (nml _ (mem_getD ht) _ (mem_getD (by rw[W _ (mem_getD ht)];exact z))).1
  ·split
   ·exact fP (by decide)
   ·exact cD
 have byC:(mkP w RP cs q (w+i)).length<=us.sum+1:=by
  have:=rj (λc=>if c<w then mx ((RP++[q]).map λv=>(v.getD c []).length-1) else 0) ((w+i) :: cr cs RP.length) (dO w (RP++[q])) λr hr c hc=>by
   obtain⟨t,ht,rfl⟩:=row r hr;refine⟨nm t ht c,?_⟩;by_cases z:c<w
   ·rw[if_pos z,atc t c z];have:=xi (xs:=(RP++[q]).map λv=>(v.getD c []).length-1) (aW.mpr ⟨_,mem_getD (d:=([]:List (List Int))) ht,rfl⟩);omega
   ·rw[if_neg z];unfold eH;rw[if_neg z]
    split <;> simp
  unfold mkP;refine aP this ?_;have e1:(rO (λc=>if c<w then mx ((RP++[q]).map λv=>(v.getD c []).length-1) else 0) ((w+i) :: cr cs RP.length)).sum=us.sum:=by
   rw[dy,je,if_neg (by omega),rZ,←hC];unfold cr;rw[List.map_reverse,List.sum_reverse,←hl,fT];congr 1;exact jc λc hc=>by rw[if_pos (hcs c hc)]
  omega
 have hiq:i<(RP++[q]).length:=by simp;omega
 have byR:(mkP w RP cs q (w+i)).length+vs.getD i 0<=vs.sum+1:=by
  obtain⟨rd,hrd⟩:∃rd:Rp->Nat,∀r,rd r=mx (cs.map λc=>(r c).length-1):=⟨_,λ_=>rfl⟩
  have srd:kg rd (dO w (RP++[q]))=vs.sum:=by
   unfold kg dO;rw[ja,←hV];have:(RP++[q]).map (λv=>mx (cs.map λc=>(v.getD c []).length-1))=(aD (RP++[q]).length).map λt=>mx (cs.map λc=>(((RP++[q]).getD t []).getD c []).length-1):=by
    refine gJ (by simp) λt a1 a2=>?_;rw[bO,bO,ir,av,aj (by simpa using a1)];rfl
   rw[this];congr 1;refine jc λt ht=>?_;show rd _=_;rw[hrd];congr 1;exact jc λc hc=>by
    show (eH w ((RP++[q]).getD t []) t c).length-1=_;rw[atc t c (hcs c hc)]
  have ri:rd (eH w ((RP++[q]).getD i []) i)=vs.getD i 0:=by
   have e:vs.getD i 0=mx (cs.map λc=>(((RP++[q]).getD i []).getD c []).length-1):=by
    have eg:(RP++[q]).getD i []=(RP++[q])[i]:=by rw[av,aj hiq];rfl
    rw[eg,←hV,av,aA,aj hiq];rfl
   rw[hrd,e];congr 1;exact jc λc hc=>by rw[atc i c (hcs c hc)]
  have le:vs.getD i 0<=vs.sum:=by
   refine EI ?_;rw[av,aj (by rw[←hV,ac];exact hiq)];exact bH _
  have:=rh (c:=w+i) (D:=vs.sum-vs.getD i 0) (dO w (RP++[q])) [] (dtp (cr cs RP.length)) (iL _) λpre r post e=>by
   obtain⟨t,ht,rfl⟩:=row r (by rw[e];simp);refine⟨nm t ht _,λhne=>?_⟩;have et:t=i:=by
    unfold eH at hne;rw[if_neg (by omega)]at hne;by_cases z:w+i=w+t
    ·omega
    ·rw[if_neg z]at hne;exact absurd rfl hne
   subst et;have l1:(eH w ((RP++[q]).getD t []) t (w+t)).length=1:=by unfold eH;rw[if_neg (by omega),if_pos rfl];rfl
   have l2:=Ez rd (cr cs RP.length) (pre++post) λx hx c hc=>by
    obtain⟨s,hs,rfl⟩:=row x (by
     rw[e];rcases bj.mp hx with z|z
     ·simp[z]
     ·simp[z])
    refine⟨nm s hs c,?_⟩;rw[hrd];have:=xi (xs:=cs.map λc=>(eH w ((RP++[q]).getD s []) s c).length-1) (aW.mpr ⟨c,crm c hc,rfl⟩);omega
   have l3:kg rd (pre++post)+rd (eH w ((RP++[q]).getD t []) t)=vs.sum:=by
    rw[←srd,e];unfold kg;simp only[aV,List.sum_append,dy,je];omega
   rw[ri]at l3;rw[il,l1];omega
  have e2:(mkP w RP cs q (w+i))=iop (w+i) (dO w (RP++[q])) (λu=>dtp (cr cs RP.length) ([]++u)):=rfl;rw[e2];omega
 have mi3:=mi2 (vs.getD i 0) (by
  rw[av,aj (by rw[←hV,ac];exact hiq)];exact bH _)
 rw[h7,sc,sv]
 split <;> omega
end
section
variable {w L b:Nat}{RP:List (List (List Int))}{cs:List Nat}{p:Int}{q:List (List Int)}
theorem EK (W:∀v∈RP,v.length=w):∀n,n<=RP.length->n<=cs.length->(∀i,i<=n->mi (aT w RP p) cs i≠0)->Piv w RP cs p n
 | 0,_,_,_=>λi hi=>by omega
 | n+1,hk,hc,h=>by
  have ih:=EK W n (by omega) (by omega) λi hi=>h i (by omega);have tb:=i3 W n (by omega) (by omega) ih;have hr:n<(aT w RP p).length:=by rw[ig];omega
  have hcn:n<cs.length:=by omega
  have ec:cs.getD n 0=cs[n]:=by rw[av,aj hcn];rfl
  intro i hi;by_cases z:i<n
  ·exact ih i z
  ·have e:i=n:=by omega
   subst e;have lx:(bI w (RP.getD i []) i p).length=w+(w+1):=jy (W _ (mem_getD (by omega)));have l3:=(kh W (by omega) (by omega) tb lx i (am _)).2.2 cs[i];rw[ec];have e2:co (eK w RP cs p i) cs[i]=mi (aT w RP p) cs (i+1):=by rw[j4 hr hcn,iM hr];exact l3
   rw[e2];exact h (i+1) (am _)
def mnP (w:Nat)(RP:List (List (List Int)))(cs:List Nat)(i:Nat):List Int:=dtp (cr cs i) ((dO w RP).take i)
theorem EL (W:∀v∈RP,v.length=w)(hk:RP.length<=w+1)(n:Int)(i:Nat):val n (mnP w RP cs i)=mi (aT w RP n) cs i:=by
 unfold mnP mi;rw[rg,mn,ED W hk]
def prP (w:Nat)(RP:List (List (List Int)))(cs:List Nat):Nat->List Int
 | 0=>[1]
 | i+1=>pdL (prP w RP cs i) (mnP w RP cs (i+1))
theorem places (W:∀v∈RP,v.length=w)(nml:∀v∈RP,∀f∈v,Nml f∧f.length<=L)(hk:RP.length<=w)(hl:cs.length=RP.length)(hcs:∀c∈cs,c<w)(pv:Piv w RP cs p RP.length):∃d:List Int,Nml d∧d≠[]∧d.length<=1+RP.length*(RP.length*(L-1))∧∀n:Int,val n d≠0->Piv w RP cs n RP.length:=by
 have tb:=i3 W _ (am _) (by omega) pv;have lrp:(dO w RP).length=RP.length:=by unfold dO;rw[ac,fI]
 have ml:∀i,i<=RP.length->(mnP w RP cs i).length<=RP.length*(L-1)+1:=λi hi=>by
  have:=rj (λ_=>L-1) (cr cs i) ((dO w RP).take i) λr hr c hc=>by
   have hr':=iR hr;unfold dO at hr';obtain⟨t,ht,rfl⟩:=aW.mp hr';have ht':=dS.mp ht;have hcw:c<w:=by
    unfold cr at hc;exact hcs c (iR (xM.mp hc))
   unfold eH;rw[if_pos hcw];have hm:=mem_getD (d:=([]:List (List Int))) ht';have:=nml _ hm _ (mem_getD (d:=([]:List Int)) (show c<(RP.getD t []).length by rw[W _ hm];exact hcw));exact⟨this.1,by omega⟩
  have e:(rO (λ_:Nat=>L-1) (cr cs i)).sum<=RP.length*(L-1):=by
   have:∀xs:List Nat,(xs.map λ_=>L-1).sum=xs.length*(L-1):=λxs=>by
    induction xs with
    | nil=>simp
    | cons x xs ih=>rw[dy,je,ih,ck,gM,fG];omega
   rw[this];refine fS _ ?_;unfold cr;rw[kG,b6];omega
  unfold mnP;omega
 have mne:∀i,i<=RP.length->mnP w RP cs i≠[]:=λi hi z=>tb.1 i hi (by rw[←EL W (by omega),z];rfl);have key:∀i,i<=RP.length->Nml (prP w RP cs i)∧prP w RP cs i≠[]∧(prP w RP cs i).length<=1+i*(RP.length*(L-1))∧∀n:Int,val n (prP w RP cs i)≠0->∀l,l<=i->mi (aT w RP n) cs l≠0:=λi=>by
  induction i with
  | zero=>intro _;exact⟨fP (by decide),by simp[prP],by simp[prP],λn _ l hl=>by rw[show l=0 by omega,wB];decide⟩
  | succ i ih=>
   intro hi;obtain⟨h1,h2,h3,h4⟩:=ih (by omega);have nm:=iL (cr cs (i+1)) ((dO w RP).take (i+1));refine⟨bT _ _,ib h1 nm h2 (mne _ hi),?_,λn hn l hl=>?_⟩
   ·have:=gu h1 nm;have:=ml (i+1) hi;unfold mnP at this;show (pdL (prP w RP cs i) (mnP w RP cs (i+1))).length<=_;unfold mnP;rw[gM,fG];omega
   ·have e:val n (prP w RP cs (i+1))=val n (prP w RP cs i)*val n (mnP w RP cs (i+1)):=aH _ _ _;rw[e]at hn;by_cases z:l<=i
    ·exact h4 n (λy=>hn (by rw[y];simp)) l z
    ·rw[show l=i+1 by omega,←EL W (by omega)];exact λy=>hn (by rw[y];simp)
 obtain⟨h1,h2,h3,h4⟩:=key RP.length (am _);exact⟨_,h1,h2,h3,λn hn=>EK W _ (am _) (by omega) (h4 n hn)⟩
theorem EM (W:∀v∈RP,v.length=w)(hk:RP.length<=w+1)(hl:cs.length=RP.length)(pv:Piv w RP cs p RP.length){ms:List Int}(lm:ms.length=RP.length)(hz:∀c∈cs,dot ms (aT w RP p) c=0):∀m∈ms,m=0:=by
 have tb:=i3 W _ (am _) (by omega) pv;have lr:=ig (w:=w) (RP:=RP) (p:=p);have tl:(aT w RP p).take RP.length=aT w RP p:=eZ (by rw[lr];exact am _);have all:=wC (rs:=aT w RP p) (cs:=cs) RP.length (by omega) (by omega) tb.1 ms (by rw[tl];omega) λl h _=>by rw[tl];exact hz _ (bH h)
 rw[tl]at all;have dl:∀(ms:List Int) (s:Nat) (R:List Rw),ms.length=R.length->(∀i (h:i<R.length) j',j'<=w->R[i] (w+j')=if j'=s+i then 1 else 0)->s+ms.length<=w+1->(∀j,dot ms R j=0)->∀m∈ms,m=0:=λms=>by
  induction ms with
  | nil=>intro _ _ _ _ _ _ m hm;simp at hm
  | cons m ms ih=>
   intro s R hl' hR hs hz m' hm'
   cases R with
   | nil=>simp at hl'
   | cons r R=>
    simp only[ck]at hs hl';have tail:∀i (h:i<R.length) j',j'<=w->R[i] (w+j')=if j'=s+1+i then 1 else 0:=λi h j' hj'=>by
     have:=hR (i+1) (by simp;omega) j' hj';simp only[Gp]at this;rw[this,show s+(i+1)=s+1+i by omega]
    have m0:m=0:=by
     have h1:=hz (w+s);have hr:=hR 0 (by simp) s (by omega);simp only[Go,Nat.add_zero]at hr;rw[dot,hr,jz _ _ λr hr=>by
      obtain⟨l,hl2,rfl⟩:=dq.mp hr;rw[tail l hl2 s (by omega),if_neg (by omega)]]at h1
     simpa using h1
    rcases a_.mp hm' with z|z
    ·rw[z];exact m0
    ·refine ih (s+1) R (by omega) tail (by omega) (λj=>?_) m' z;have:=hz j;rw[dot,m0]at this;omega
 refine dl ms 0 (aT w RP p) (by omega) (λi h j' hj'=>?_) (by omega) all;rw[iM h,rZ];exact ic (W _ (mem_getD (by rw[lr]at h;exact h))) hj'
end
def ds:List Int->List Int->Int
 | a :: as,b :: bs=>a*b+ds as bs
 | _,_=>0
theorem xj:∀(ms:List Int) (R:List Rw) (j:Nat),dot ms R j=ds ms (R.map λr=>r j)
 | [],R,_=>by cases R <;> rfl
 | m :: ms,[],_=>rfl
 | m :: ms,r :: R,j=>by rw[dot,dy,ds,xj ms R j]
def cf:List Nat->List Int->Nat->Int
 | i :: S,m :: ms,x=>(if x=i then m else 0)+cf S ms x
 | _,_,_=>0
theorem ki:∀(S:List Nat) (ms:List Int) (x:Nat),x∉S->cf S ms x=0
 | [],_,_,_=>by simp[cf]
 | i :: S,[],_,_=>by simp[cf]
 | i :: S,m :: ms,x,h=>by
  rw[cf,if_neg (λz=>h (by rw[z];exact dw)),ki S ms x λz=>h (cT _ z)];rfl
theorem rk:∀(S:List Nat) (ms:List Int),S.Nodup->S.length=ms.length->∀t (h:t<S.length) (h2:t<ms.length),cf S ms S[t]=ms[t]
 | [],_,_,_,t,h,_=>by simp at h
 | i :: S,[],_,hl,_,_,_=>by simp at hl
 | i :: S,m :: ms,nd,hl,t,h,h2=>by
  rw[md]at nd
  cases t with
  | zero=>
   simp only[Go];rw[cf,if_pos rfl,ki S ms i nd.1];simp
  | succ t=>
   simp only[Gp];have ht:t<S.length:=by simpa using h
   have:S[t]≠i:=λz=>nd.1 (by rw[←z];exact bH _);rw[cf,if_neg this,rk S ms nd.2 (by simpa using hl) t (by simpa using h) (by simpa using h2)];simp
theorem km {k i:Nat}(h:i<k)(f:Nat->Int):az k (λx=>if x=i then f x else 0)=f i:=by
 rw[k7 h λj hj hne=>by rw[if_neg hne],if_pos rfl]
theorem xk {k:Nat}(F:Nat->Int):∀(S:List Nat) (ms:List Int),S.length=ms.length->(∀i∈S,i<k)->ds ms (S.map F)=az k λx=>cf S ms x*F x
 | [],[],_,_=>by
  show (0:Int)=_;rw[fX λj _=>by simp[cf]]
 | [],_ :: _,h,_=>by simp at h
 | _ :: _,[],h,_=>by simp at h
 | i :: S,m :: ms,h,hS=>by
  have ih:=xk F S ms (by simpa using h) λx hx=>hS x (cT _ hx);have e:az k (λx=>cf (i :: S) (m :: ms) x*F x)=az k (λx=>if x=i then m*F x else 0)+az k λx=>cf S ms x*F x:=by
   rw[←iF];exact cQ λx _=>by rw[cf];split <;> grind
  rw[dy,ds,ih,e,km (hS i dw)]
def InP (P:Int):Prop:=97<=P∧P<=420
structure D21 (w k:Nat)(ys:List (List (List Int)))(h s:List Int)(gs:List (List Int))(q:List (List Int)):Prop where
 k3:k<=3
 w5:w<=5
 kw:k<=w
 ly:ys.length=k
 lg:gs.length=k
 yb:∀y∈ys,y.length=w∧∀f∈y,Nml f∧f.length<=3∧∀c∈f,Bd 53 c
 nh:Nml h
 h0:h≠[]
 lh:h.length<=3
 bh:∀c∈h,Bd 53 c
 ns:Nml s
 ls:s.length<=3
 bs:∀c∈s,Bd 53 c
 g0:∀g,gs[0]?=some g->∀n,val n g=val n h*val n s+1
 gb:∀g∈gs,Nml g∧g.length<=5∧∀c∈g,Bd 110 c
 g1:∀(i:Nat) (g:List Int),gs[i+1]?=some g->g.length<=3∧∀c∈g,Bd 53 c
 qb:q.length=w∧∀f∈q,Nml f∧f.length<=7∧∀c∈f,Bd 170 c
 qv:∀j,j<w->∀n,val n (q.getD j [])=az k λi=>val n (gs.getD i [])*val n ((ys.getD i []).getD j [])
 ind:∀P:Int,InP P->∀f:Nat->Int,(∀j,j<w->az k (λi=>f i*val P ((ys.getD i []).getD j []))=0)->∀i,i<k->f i=0
 hP:∀P:Int,InP P->val P h≠0
 gP:∀(i:Nat) (g:List Int),gs[i]?=some g->∀P:Int,InP P->val P g=0->g=[]
def V21 (ys:List (List (List Int)))(h:List Int)(i:Nat):List (List Int):=(ys.getD i []).map (pdL h)
structure Sub (k:Nat)(S:List Nat):Prop where
 pw:S.Pairwise (· < ·)
 lt:∀i∈S,i<k
theorem Sub.nd {k:Nat}{S:List Nat}(h:Sub k S):S.Nodup:=h.pw.imp λh=>by omega
theorem Sub.len {k:Nat}{S:List Nat}(h:Sub k S):S.length<=k:=rf k 0 S h.nd λc hc=>⟨aI _,by have:=h.lt c hc;omega⟩
section
variable {w k:Nat}{ys:List (List (List Int))}{h s:List Int}{gs:List (List Int)}{q:List (List Int)}
theorem D21.vec (D:D21 w k ys h s gs q){i:Nat}(hi:i<k):(V21 ys h i).length=w∧(∀f∈V21 ys h i,Nml f∧f.length<=5∧∀c∈f,Bd 170 c)∧∀j,j<w->∀n,val n ((V21 ys h i).getD j [])=val n h*val n ((ys.getD i []).getD j []):=by
 have hm:=mem_getD (d:=([]:List (List Int))) (show i<ys.length by rw[D.ly];exact hi);obtain⟨y1,y2⟩:=D.yb _ hm;have lh:=D.lh;unfold V21;refine⟨by rw[ac,y1],λf hf=>?_,λj hj n=>?_⟩
 ·obtain⟨g,hg,rfl⟩:=aW.mp hf;obtain⟨a1,a2,a3⟩:=y2 g hg;refine⟨bT _ _,aP (gu D.nh a1) (by omega),cW λj=>?_⟩;rw[f8];exact (iH (c:=2) D.bh a3 (by omega) j).mono (by decide)
 ·have e:((ys.getD i []).map (pdL h)).getD j []=pdL h ((ys.getD i []).getD j []):=by
   rw[av,aA,av (l:=ys.getD i []),aj (by omega)];rfl
  rw[e,aH]
theorem D21.vb (D:D21 w k ys h s gs q){S:List Nat}(hS:Sub k S):VB w (S.map (V21 ys h)) 7 170:=by
 have k3:=D.k3;have w5:=D.w5;have kw:=D.kw;have ls:=hS.len;refine⟨λv hv=>?_,λv hv f hf=>?_,by rw[ac];omega,by omega,by decide⟩
 ·obtain⟨i,hi,rfl⟩:=aW.mp hv;exact (D.vec (hS.lt i hi)).1
 ·obtain⟨i,hi,rfl⟩:=aW.mp hv;obtain⟨a1,a2,a3⟩:=(D.vec (hS.lt i hi)).2.1 f hf;exact⟨a1,by omega,a3⟩
theorem D21.kwS (D:D21 w k ys h s gs q){S:List Nat}(hS:Sub k S):(S.map (V21 ys h)).length<=w:=by
 have:=hS.len;have:=D.kw;rw[ac];omega
theorem D21.col (D:D21 w k ys h s gs q){S:List Nat}(hS:Sub k S){P:Int}{j:Nat}(hj:j<w):(aT w (S.map (V21 ys h)) P).map (λr=>r j)=S.map λi=>val P h*val P ((ys.getD i []).getD j []):=by
 unfold aT;rw[ja];refine gJ (by simp) λt a1 a2=>?_;have ht:t<S.length:=by simpa using a2
 have hi:=hS.lt _ (bH ht);rw[bO,ir,bO];have e:(S.map (V21 ys h)).getD t []=V21 ys h S[t]:=by rw[av,aA,aj ht];rfl
 show co (bI w ((S.map (V21 ys h)).getD t []) t P) j=_;rw[e,j_ (by rw[(D.vec hi).1];exact hj),(D.vec hi).2.2 j hj P]
theorem D21.dotc (D:D21 w k ys h s gs q){S:List Nat}(hS:Sub k S){P:Int}{j:Nat}(hj:j<w){ms:List Int}(lm:ms.length=S.length):dot ms (aT w (S.map (V21 ys h)) P) j=az k λx=>(cf S ms x*val P h)*val P ((ys.getD x []).getD j []):=by
 rw[xj,D.col hS hj,xk (k:=k) (λi=>val P h*val P ((ys.getD i []).getD j [])) S ms lm.symm hS.lt];exact cQ λx _=>by rw[di]
theorem D21.lowq (D:D21 w k ys h s gs q){S:List Nat}(hS:Sub k S){cs:List Nat}{P:Int}(hl:cs.length=S.length)(hP:InP P)(pv:Piv w (S.map (V21 ys h)) cs P S.length){v:List (List Int)}(lv:v.length=w){a:Nat->Int}(ha:∀j,j<w->val P (v.getD j [])=az k λi=>a i*val P ((ys.getD i []).getD j []))(hz:∀c,c<w->co (cI w (S.map (V21 ys h)) cs v P) c=0):∀i,i<k->i∉S->a i=0:=by
 have B:=D.vb hS;have W:∀u∈S.map (V21 ys h)++[v],u.length=w:=λu hu=>by
  rcases bj.mp hu with z|z
  ·exact B.wid u z
  ·rw[aQ.mp z];exact lv
 have lS:(S.map (V21 ys h)).length=S.length:=ac ..;have kw:(S.map (V21 ys h)).length<=w:=D.kwS hS;have tb:=i3 (cs:=cs) (p:=P) B.wid _ (am _) (by rw[lS];omega) (by rw[lS];exact pv);have m0:=tb.1 (S.map (V21 ys h)).length (am _);have lowv:=λj=>xb (cs:=cs) W kw (by rw[lS];omega) (by rw[lS];exact pv) j;have last:val P (mkP w (S.map (V21 ys h)) cs v (w+(S.map (V21 ys h)).length))=mi (aT w (S.map (V21 ys h)) P) cs (S.map (V21 ys h)).length:=by
  rw[jA W kw];obtain⟨xs,_,x2⟩:=g9 (rs:=aT w (S.map (V21 ys h)) P) (cs:=cs) (S.map (V21 ys h)).length (co (bI w v (S.map (V21 ys h)).length P));have lr:=ig (w:=w) (RP:=S.map (V21 ys h)) (p:=P);rw[x2,ic lv kw,if_pos rfl,jz _ _ λr hr=>by
   obtain⟨l,hl',rfl⟩:=dq.mp (iR hr);rw[iM hl',ic (B.wid _ (mem_getD (by rw[lr]at hl';exact hl'))) kw,if_neg (by rw[lr]at hl';omega)]]
  simp
 generalize hms:(aD (S.map (V21 ys h)).length).map (λi=>val P (mkP w (S.map (V21 ys h)) cs v (w+i)))=ms at *;have lm:ms.length=S.length:=by rw[←hms,ac,fI,lS]
 have tot:∀j,j<w->az k (λx=>(cf S ms x*val P h+mi (aT w (S.map (V21 ys h)) P) cs (S.map (V21 ys h)).length*a x)*val P ((ys.getD x []).getD j []))=0:=λj hj=>by
  have h1:=EE (cs:=cs) W kw P j;rw[hms,last,D.dotc hS hj lm,j_ (by omega),ha j hj,←lowv,hz j hj]at h1;have e:az k (λx=>(cf S ms x*val P h+mi (aT w (S.map (V21 ys h)) P) cs (S.map (V21 ys h)).length*a x)*val P ((ys.getD x []).getD j []))=az k (λx=>(cf S ms x*val P h)*val P ((ys.getD x []).getD j []))+mi (aT w (S.map (V21 ys h)) P) cs (S.map (V21 ys h)).length*az k (λi=>a i*val P ((ys.getD i []).getD j [])):=by
   rw[←gG,←iF];exact cQ λx _=>by grind
  rw[e];exact h1.symm
 have all:=D.ind P hP _ tot;intro i hi hn;have:=all i hi;rw[ki S ms i hn]at this;rcases iN.mp (show mi (aT w (S.map (V21 ys h)) P) cs (S.map (V21 ys h)).length*a i=0 by omega) with z|z
 ·exact absurd z m0
 ·exact z
end
section
variable {w k:Nat}{ys:List (List (List Int))}{h s:List Int}{gs:List (List Int)}{q:List (List Int)}
theorem D21.wq (D:D21 w k ys h s gs q){S:List Nat}(hS:Sub k S):∀u∈S.map (V21 ys h)++[q],u.length=w:=λu hu=>by
 rcases bj.mp hu with z|z
 ·exact (D.vb hS).wid u z
 ·rw[aQ.mp z];exact D.qb.1
theorem D21.cross (D:D21 w k ys h s gs q){S:List Nat}(hS:Sub k S)(hg:∀i,i<k->i∉S->gs.getD i []=[]){cs:List Nat}(hl:cs.length=S.length)(hcs:∀c∈cs,c<w){P:Int}(pv:Piv w (S.map (V21 ys h)) cs P S.length):mkP w (S.map (V21 ys h)) cs q (w+S.length)≠[]∧∀t (ht:t<S.length),∀n,val n (mkP w (S.map (V21 ys h)) cs q (w+t))*val n h=- (val n (mkP w (S.map (V21 ys h)) cs q (w+S.length))*val n (gs.getD S[t] [])):=by
 have B:=D.vb hS;have W:=D.wq hS;have lS:(S.map (V21 ys h)).length=S.length:=ac ..;have kw:(S.map (V21 ys h)).length<=w:=D.kwS hS;have last:∀n,val n (mkP w (S.map (V21 ys h)) cs q (w+(S.map (V21 ys h)).length))=mi (aT w (S.map (V21 ys h)) n) cs (S.map (V21 ys h)).length:=λn=>by
  rw[jA W kw];obtain⟨xs,_,x2⟩:=g9 (rs:=aT w (S.map (V21 ys h)) n) (cs:=cs) (S.map (V21 ys h)).length (co (bI w q (S.map (V21 ys h)).length n));have lr:=ig (w:=w) (RP:=S.map (V21 ys h)) (p:=n);rw[x2,ic D.qb.1 kw,if_pos rfl,jz _ _ λr hr=>by
   obtain⟨l,hl',rfl⟩:=dq.mp (iR hr);rw[iM hl',ic (B.wid _ (mem_getD (by rw[lr]at hl';exact hl'))) kw,if_neg (by rw[lr]at hl';omega)]]
  simp
 have pv':Piv w (S.map (V21 ys h)) cs P (S.map (V21 ys h)).length:=by rw[lS];exact pv
 obtain⟨d,d1,d2,_,d4⟩:=places (L:=7) B.wid (λv hv f hf=>⟨(B.nml v hv f hf).1,(B.nml v hv f hf).2.1⟩) kw (by rw[lS];exact hl) hcs pv';have tbP:=i3 (cs:=cs) (p:=P) B.wid _ (am _) (by rw[lS];omega) pv';refine⟨λz=>?_,λt ht n=>?_⟩
 ·have h1:=last P;rw[lS,z]at h1;exact tbP.1 (S.map (V21 ys h)).length (am _) (by rw[←lS]at h1;rw[←h1];rfl)
 have key:∀n,val n d≠0->val n (mkP w (S.map (V21 ys h)) cs q (w+t))*val n h+val n (mkP w (S.map (V21 ys h)) cs q (w+S.length))*val n (gs.getD S[t] [])=0:=λn hn=>by
  have pn:=d4 n hn;obtain⟨ms,hms⟩:∃ms:List Int,ms=(aD S.length).map λt=>val n (mkP w (S.map (V21 ys h)) cs q (w+t))*val n h+val n (mkP w (S.map (V21 ys h)) cs q (w+S.length))*val n (gs.getD (S.getD t 0) []):=⟨_,rfl⟩
  have lm:ms.length=(S.map (V21 ys h)).length:=by rw[hms,ac,fI,lS]
  have nought:=EM (ms:=ms) B.wid (F1 kw) (by rw[lS];exact hl) pn lm λc hc=>by
   have hcw:=hcs c hc;have h1:=EE (cs:=cs) W kw n c;rw[EF hc (by rw[lS];exact hl),D.dotc hS hcw (by rw[ac,fI,lS]),j_ (by rw[D.qb.1];exact hcw),D.qv c hcw,lS]at h1;rw[D.dotc hS hcw (by rw[lm,lS])];have e:∀x,x<k->cf S ms x=cf S ((aD S.length).map λt=>val n (mkP w (S.map (V21 ys h)) cs q (w+t))) x*val n h+val n (mkP w (S.map (V21 ys h)) cs q (w+S.length))*val n (gs.getD x []):=λx hx=>by
    by_cases z:x∈S
    ·obtain⟨t',ht',rfl⟩:=dq.mp z;rw[rk S ms hS.nd (by rw[lm,lS]) t' ht' (by rw[lm,lS];exact ht'),rk S _ hS.nd (by simp) t' ht' (by simp;exact ht')];have:S.getD t' 0=S[t']:=by rw[av,aj ht'];rfl
     subst hms;rw[bO,ir,bO,ir,this]
    ·rw[ki S _ x z,ki S _ x z,hg x hx z];simp[val]
   have e2:az k (λx=>cf S ms x*val n h*val n ((ys.getD x []).getD c []))=val n h*(az k (λx=>cf S ((aD S.length).map λt=>val n (mkP w (S.map (V21 ys h)) cs q (w+t))) x*val n h*val n ((ys.getD x []).getD c []))+val n (mkP w (S.map (V21 ys h)) cs q (w+S.length))*az k λi=>val n (gs.getD i [])*val n ((ys.getD i []).getD c [])):=by
    rw[←gG,←iF,←gG];exact cQ λx hx=>by rw[e x hx];grind
   rw[e2,←h1];show val n h*0=0;simp
  have:=nought ms[t] (bH (by rw[lm,lS];exact ht));have et:S.getD t 0=S[t]:=by rw[av,aj ht];rfl
  subst hms;rw[bO,ir,et]at this;exact this
 obtain⟨F,hF⟩:∃F,F=f9 (pdL (mkP w (S.map (V21 ys h)) cs q (w+t)) h) (pdL (mkP w (S.map (V21 ys h)) cs q (w+S.length)) (gs.getD S[t] [])):=⟨_,rfl⟩
 have vF:∀n,val n F=val n (mkP w (S.map (V21 ys h)) cs q (w+t))*val n h+val n (mkP w (S.map (V21 ys h)) cs q (w+S.length))*val n (gs.getD S[t] []):=λn=>by rw[hF,kf,aH,aH]
 have F0:F=[]:=by
  by_cases z:F=[]
  ·exact z
  ·refine absurd (cG (bT _ _) cD λn=>?_) (ib (by rw[hF];exact ke _ _) d1 z d2);rw[aH];show _=0;by_cases y:val n d=0
   ·rw[y];simp
   ·rw[vF n,key n y];simp
 have:=vF n;rw[F0]at this;have e:val n []=0:=rfl;omega
theorem D21.fac (D:D21 w k ys h s gs q){S:List Nat}(hS:Sub k S)(hS0:S≠[])(hg:∀i,i<k->i∉S->gs.getD i []=[]){cs:List Nat}(hl:cs.length=S.length)(hcs:∀c∈cs,c<w){P:Int}(pv:Piv w (S.map (V21 ys h)) cs P S.length)(bm:∀t,t<=S.length->(mkP w (S.map (V21 ys h)) cs q (w+t)).length<=30∧∀z∈mkP w (S.map (V21 ys h)) cs q (w+t),Bd 720 z):∃X:List Int,Nml X∧X≠[]∧(∀z∈X,Bd 1000 z)∧mkP w (S.map (V21 ys h)) cs q (w+S.length)=pdL h X∧∀t (ht:t<S.length),mkP w (S.map (V21 ys h)) cs q (w+t)=pdL ((gs.getD S[t] []).map λz=>-1*z) X:=by
 obtain⟨m0,cr⟩:=D.cross hS hg hl hcs pv;have h0:=D.h0;have can:∀{a b:List Int},(∀n,val n a*val n h=val n b*val n h)->∀n,val n a=val n b:=λ{a b} hab=>by
  obtain⟨F,hF⟩:∃F,F=f9 a (b.map λz=>-1*z):=⟨_,rfl⟩
  have vF:∀n,val n F=val n a-val n b:=λn=>by rw[hF,kf,aS];omega
  have F0:F=[]:=by
   by_cases z:F=[]
   ·exact z
   ·refine absurd (cG (bT _ _) cD λn=>?_) (ib (by rw[hF];exact ke _ _) D.nh z h0);rw[aH,vF n];show _=0;have:=hab n;grind
  intro n;have:=vF n;rw[F0]at this;have e:val n []=0:=rfl;omega
 have sl:0<S.length:=cK.mpr hS0;have k0:0<k:=bZ sl hS.len;have hg0:gs[0]?=some (gs.getD 0 []):=by rw[av,aj (by rw[D.lg];exact k0)];rfl
 have gv:=D.g0 _ hg0;have bns:∀{a:List Int},(∀j,Bd 900 (co a j))->∀z∈a.map (λz=>-1*z),Bd 1000 z:=λ{a} ha=>cW λj=>by
  rw[gr,show (-1:Int)*co a j=-co a j by omega];exact (ha j).neg.mono (by decide)
 have bms:∀j,Bd 800 (co (pdL (mkP w (S.map (V21 ys h)) cs q (w+S.length)) s) j):=λj=>by
  rw[f8];exact (iH (c:=5) (bm _ (am _)).2 D.bs (by have:=(bm _ (am _)).1;omega) j).mono (by decide)
 obtain⟨X,nX,bX,hX⟩:∃X:List Int,Nml X∧(∀z∈X,Bd 1000 z)∧∀n,val n (mkP w (S.map (V21 ys h)) cs q (w+S.length))=val n h*val n X:=by
  by_cases z:0∈S
  ·obtain⟨t,ht,e⟩:=dq.mp z;have c:=cr t ht;rw[e]at c;refine⟨(f9 (mkP w (S.map (V21 ys h)) cs q (w+t)) (pdL (mkP w (S.map (V21 ys h)) cs q (w+S.length)) s)).map (λz=>-1*z),ie (by decide) (ke _ _),bns λj=>?_,λn=>?_⟩
   ·unfold f9;rw[cP,iG];exact ((cF (P:=λz=>Bd 800 z) (λz hz=>((bm t (by omega)).2 z hz).mono (by decide)) (Bd.zero _) j).add (bms j)).mono (by decide)
   rw[aS,kf,aH];have h1:=c n;rw[gv n]at h1;grind
  ·have e:=hg 0 k0 z;refine⟨((pdL (mkP w (S.map (V21 ys h)) cs q (w+S.length)) s)).map (λz=>-1*z),ie (by decide) (bT _ _),bns λj=>(bms j).mono (by decide),λn=>?_⟩;have h1:=gv n;rw[e]at h1;have e2:val n ([]:List Int)=0:=rfl;rw[aS,aH];grind
 have eX:mkP w (S.map (V21 ys h)) cs q (w+S.length)=pdL h X:=cG (iL _ _) (bT _ _) λn=>by rw[aH];exact hX n
 refine⟨X,nX,λz=>m0 (by rw[eX,z,Ej]),bX,eX,λt ht=>cG (iL _ _) (bT _ _) (can λn=>?_)⟩;rw[cr t ht n,hX n,aH,aS];grind
end
theorem MD {x:List Int}(nx:Nml x):bD (bD x)=bD x:=by
 obtain⟨e,he,hv⟩:=qY x;exact El nx (j9 nx) he hv
theorem EN {p q g U W:List Int}{m:Int}{G:Nat}(np:Nml p)(nq:Nml q)(ng:Nml g)(p0:p≠[])(q0:q≠[])(g0:g≠[])(lA:(pdL p g).length<=40)(lB:(pdL q g).length<=40)(lg:g.length<=40)(bA:∀z∈pdL p g,Bd 5000 z)(bB:∀z∈pdL q g,Bd 5000 z)(hm:m≠0)(hb:∀n,val n U*val n p+val n W*val n q=m)(bg:∀z∈g,m.natAbs*z.natAbs<=G)(bG:Bd 4480 (G:Int)):gq (pdL p g) (pdL q g) (bD (pdL [((af (p++q):Nat):Int)] g)):=by
 obtain⟨c1,c2,A0,B0,tw,er⟩:=LR np nq ng (bT p g) (bT q g) p0 q0 g0 lA lB lg bA bB bg hm bG hb (λn=>aH n p g) (λn=>aH n q g);refine .inr (.inr ⟨A0,B0,c1,c2,bA,bB,_,_,tw,?_⟩);rw[er];have c0:((af (p++q):Nat):Int)≠0:=by
  have h1:=ia np p0;have h2:af (p++q)∣af p:=jx _ _ λx hx=>fQ _ x (by simp[hx]);intro z;have hz:af (p++q)=0:=by omega
  rw[hz]at h2;have:=xH h2;omega
 congr 1;exact cG (bT _ _) (ie c0 ng) λn=>by rw[aH,aS];simp[val]
theorem EO {B k b:Nat}(h:B<=2 ^ b):B ^ k<=2 ^ (b*k):=by rw[xW];exact rX h k
theorem ME {e q' X:List Int}{be bq bX L1 L2 LX:Nat}(ne:Nml e) (nq:Nml q') (nX:Nml X) (e0:e≠[]) (q0:q'≠[]) (X0:X≠[]) (le:e.length<=L1+1) (lq:q'.length<=L2+1) (hL:L1+L2<=7) (lX:X.length<=LX) (hLX:LX<=30) (bE:∀z∈e,Bd be z) (bQ:∀z∈q',Bd bq z) (bXx:∀z∈X,Bd bX z)
  (big:24+be*L2+bq*L1+be+bq+bX+10<=4480) (be4:be+bX+10<=5000) (bq4:bq+bX+10<=5000):
  ∃e':List Int,Nml e'∧e'≠[]∧gq (bD (pdL e X)) (pdL q' X) (bD (pdL e' X))∧(∃t,∀n,val n e=val n e'*val n t)∧(∃t,∀n,val n q'=val n e'*val n t)∧e'.length<=q'.length∧e'.length<=e.length∧∀z∈e',Bd (24+be*L2+bq*L1+be+bq+bq+1) z:=by
 obtain⟨ε,hε,hv⟩:=qY (pdL e X);have ε0:ε≠0:=by rcases hε with rfl|rfl <;> decide
 obtain⟨p,hp⟩:∃p,p=e.map λz=>ε * z:=⟨_,rfl⟩
 have np:Nml p:=by rw[hp];exact ie ε0 ne
 have p0:p≠[]:=by rw[hp];exact λz=>e0 (jD.mp z)
 have lp:p.length=e.length:=by rw[hp,ac]
 have bP:∀z∈p,Bd be z:=λz hz=>by
  rw[hp]at hz;obtain⟨y,hy,rfl⟩:=aW.mp hz;rcases hε with rfl|rfl
  ·rw[fH];exact bE y hy
  ·rw[show (-1:Int)*y=-y by omega];exact (bE y hy).neg
 have eA:bD (pdL e X)=pdL p X:=cG (j9 (bT _ _)) (bT _ _) λn=>by rw[hv,aH,aH,hp,aS];grind
 obtain⟨g,a,b,U,W,m,G⟩:=Ex _ p q' (am _) np nq (.inl p0);have a0:a≠[]:=λz=>p0 (by rw[G.pa,z,gx]);have b0:b≠[]:=λz=>q0 (by rw[G.qb,z,gx]);have la:=(gw G.na G.ng a0 G.g0).1;have lb:=(gw G.nb G.ng b0 G.g0).1;rw[←G.pa]at la;rw[←G.qb]at lb;have lg0:g.length≠0:=λz=>G.g0 (bK z);have la0:a.length≠0:=λz=>a0 (bK z);have lb0:b.length≠0:=λz=>b0 (bK z);have be1:1<=2 ^ be:=dX _;have bq1:1<=2 ^ bq:=dX _;obtain⟨U',W',m',m0,bz,gb⟩:=Mr G p0 q0 (Bp:=2 ^ be) (Bq:=2 ^ bq) (N:=L2+L1) (k1:=L2) (n1:=L1) (λz hz=>b5 (bP z hz)) (λz hz=>b5 (bQ z hz)) be1 bq1 (by omega) (by omega) rfl;have bez:∀n,val n U'*val n a+val n W'*val n b=m':=by
  obtain⟨F,hF⟩:∃F,F=f9 (f9 (pdL U' a) (pdL W' b)) [-m']:=⟨_,rfl⟩
  have vF:∀n,val n F=val n U'*val n a+val n W'*val n b-m':=λn=>by rw[hF,kf,kf,aH,aH];simp[val];omega
  have F0:F=[]:=by
   by_cases z:F=[]
   ·exact z
   ·refine absurd (cG (bT _ _) cD λn=>?_) (ib (by rw[hF];exact ke _ _) G.ng z G.g0);rw[aH,vF n];show _=0;have h1:=bz n;have h2:val n p=val n a*val n g:=by rw[G.pa,aH]
    have h3:val n q'=val n b*val n g:=by rw[G.qb,aH]
    rw[h2,h3]at h1;grind
  intro n;have:=vF n;rw[F0]at this;have e:val n []=0:=rfl;omega
 obtain⟨K,hK⟩:∃K,K=24+be*L2+bq*L1+be+bq:=⟨_,rfl⟩
 have gK:∀z∈g,m'.natAbs*z.natAbs<=2 ^ K:=λz hz=>by
  refine aP (gb z hz) ?_;have e1:(L2+L1+1) ^ (L2+L1+1)<=2 ^ 24:=by
   have:(L2+L1+1) ^ (L2+L1+1)<=8 ^ 8:=aP (rX (by omega) _) (fE (by decide) (by omega));exact this
  have e2:=EO (B:=2 ^ be) (k:=L2) (am _);have e3:=EO (B:=2 ^ bq) (k:=L1) (am _);have e4:2 ^ be*2 ^ bq=2 ^ (be+bq):=(dm _ _ _).symm;rw[e4];refine aP (eC e1 (eC e2 (eC e3 (am _)))) (rC ?_);rw[←dm,←dm,←dm,hK];congr 1;omega
 have gX0:=ib G.ng nX G.g0 X0;have lgX:=gu G.ng nX;have gl:g.length<=q'.length∧g.length<=e.length:=by omega
 have bgX:∀z∈pdL g X,m'.natAbs*z.natAbs<=2 ^ (K+bX+8):=cW λj=>by
  have e1:m'*co (pdL g X) j=co (pdL (g.map λz=>m'*z) X) j:=by
   rw[←gr];exact fN (λn=>by rw[aS,aH,aH,aS];grind) j
  rw[←bV,e1];have:=cF (P:=λz=>z.natAbs<=(g.map λz=>m'*z).length*(2 ^ K*2 ^ bX)) (Ek (g:=g.map λz=>m'*z) (h:=X) (M:=2 ^ K) (N:=2 ^ bX) (λz hz=>by
   obtain⟨y,hy,rfl⟩:=aW.mp hz;rw[bV];exact gK y hy) λz hz=>b5 (bXx z hz)) (by simp) j
  refine aP this ?_;rw[ac,←dm];refine aP (fS _ (show g.length<=2 ^ 8 by omega)) (rC ?_);rw[←dm];congr 1;omega
 have sz:∀{r:List Int}{c:Nat},Nml r->r.length<=8->(∀z∈r,Bd c z)->c+bX+10<=5000->(pdL r X).length<=40∧∀z∈pdL r X,Bd 5000 z:=λ{r c} nr lr br hc=>⟨aP (gu nr nX) (by omega),cW λj=>by
  rw[f8];exact (iH (c:=4) br bXx (by omega) j).mono (by omega)⟩
 obtain⟨s1,s2⟩:=sz np (by omega) bP be4;obtain⟨s3,s4⟩:=sz nq (by omega) bQ bq4;have ea:pdL a (pdL g X)=pdL p X:=cG (bT _ _) (bT _ _) λn=>by rw[aH,aH,aH,G.pa,aH];grind
 have vq:∀n,val n q'=val n b*val n g:=λn=>by have:=aH n b g;rw[←G.qb]at this;exact this
 have cq:∀j,co q' j=pm (co b) (co g) j:=λj=>by have:=f8 b g j;rw[←G.qb]at this;exact this
 have eb:pdL b (pdL g X)=pdL q' X:=cG (bT _ _) (bT _ _) λn=>by rw[aH,aH,aH,vq n];grind
 have com:=EN G.na G.nb (bT g X) a0 b0 gX0 (by rw[ea];exact s1) (by rw[eb];exact s3) (by omega) (by rw[ea];exact s2) (by rw[eb];exact s4) m0 bez bgX (by
  show ((2 ^ (K+bX+8):Nat):Int).natAbs<2 ^ 4480;rw[dB];exact kF (by decide) (by omega))
 rw[ea,eb,←eA]at com;generalize hc:af (a++b)=c at com;have ca:∀z∈a,(c:Int)∣z:=λz hz=>by rw[←hc];exact fQ _ z (by simp[hz])
 have cb:∀z∈b,(c:Int)∣z:=λz hz=>by rw[←hc];exact fQ _ z (by simp[hz])
 have c0:(c:Int)≠0:=λz=>by
  have:=cN G.na a0;exact this (by
   have:=cF (P:=λy=>(c:Int)∣y) ca (jF _) (a.length-1);rw[z]at this;exact xJ.mp this)
 have nE:Nml (pdL [(c:Int)] g):=bT _ _;have lE:(pdL [(c:Int)] g).length<=g.length:=by have:=gu (fP c0) G.ng;simp at this;omega
 refine⟨pdL [(c:Int)] g,nE,ib (fP c0) G.ng (by simp) G.g0,?_,⟨(a.map λz=>z.fdiv c).map λz=>ε * z,λn=>?_⟩,⟨b.map λz=>z.fdiv c,λn=>?_⟩,by omega,by omega,cW λj=>?_⟩
 ·have e2:pdL [(c:Int)] (pdL g X)=pdL (pdL [(c:Int)] g) X:=cG (bT _ _) (bT _ _) λn=>by rw[aH,aH,aH,aH];grind
  rw[e2]at com;exact com
 ·have h1:=re c0 n a ca;have h2:val n p=val n a*val n g:=by rw[G.pa,aH]
  have h3:val n p=ε * val n e:=by rw[hp,aS]
  have h4:ε * ε=1:=by rcases hε with rfl|rfl <;> rfl
  rw[aH,aS];simp only[val];grind
 ·have h1:=re c0 n b cb;rw[aH,vq n,←h1];simp only[val];grind
 ·have e1:co (pdL [(c:Int)] g) j=c*co g j:=by
   rw[←gr];exact fN (λn=>by rw[aH,aS];simp[val]) j
  rw[e1];have h1:Bd (K+1) (co g j):=by
   have:=cF (P:=λz=>m'.natAbs*z.natAbs<=2 ^ K) gK (by simp) j;have h2:(co g j).natAbs<=m'.natAbs*(co g j).natAbs:=gB _ (iP.mpr m0);exact cZ (aP h2 this) (kF (by decide) (ky _))
  have h2:Bd bq (c:Int):=by
   have d1:(c:Int)∣co q' (q'.length-1):=by
    rw[cq];unfold pm;exact wp _ λj _=>fj (cF (P:=λy=>(c:Int)∣y) cb (jF _) j) (i9 _ _)
   have d2:=mw (iP.mpr (cN nq q0)) (mv.mpr d1);exact cZ d2 (cF (P:=λz=>Bd bq z) bQ (Bd.zero _) _)
  exact (h2.mul h1).mono (by rw[hK];omega)
def fR (t:Nat):Nat:=if t<=1 then 110 else if t=2 then 673 else 2362
theorem EQ:∀t,fR t<=fR (t+1)
 | 0=>by decide
 | 1=>by decide
 | 2=>by decide
 | t+3=>by unfold fR;rw[if_neg (by omega),if_neg (by omega),if_neg (by omega),if_neg (by omega)];exact am _
theorem ER:∀t,110<=fR t
 | 0=>by decide
 | t+1=>aP (ER t) (EQ t)
theorem ES {Q:List (List Int)}{X:List Int}(hQ:Q.length<=3)(hq:∀(t:Nat) (q:List Int),Q[t]?=some q->Nml q∧q.length<=5∧(∀c∈q,Bd 110 c)∧(1<=t->q.length<=3∧∀c∈q,Bd 53 c))(nX:Nml X)(X0:X≠[])(lX:X.length<=30)(bX:∀z∈X,Bd 1000 z):
  ∀t,t<=Q.length->∃(f:Nat->List Int) (e:List Int),f 0=[]∧(∀i,(f i).length<=64)∧(∀(i:Nat) (q:List Int),i<t->Q[i]?=some q->gq (f i) (pdL q X) (f (i+1)))∧f t=bD (pdL e X)∧Nml e∧e.length<=5∧(∀z∈e,Bd (fR t) z)∧(e=[]->∀q∈Q.take t,q=[])∧∀q∈Q.take t,∃u,∀n,val n q=val n e*val n u
 | 0,_=>⟨λ_=>[],[],rfl,λ_=>by simp,λi q hi=>by omega,by rw[gx];rfl,cD,by simp,by simp,λ_ q hq=>by simp at hq,λq hq=>by simp at hq⟩
 | t+1,ht=>by
  obtain⟨f,e,f0,fl,fs,fe,ne,le,be,ez,ed⟩:=ES hQ hq nX X0 lX bX t (by omega);have hqt:Q[t]?=some Q[t]:=aj (by omega);obtain⟨q1,q2,q3,q4⟩:=hq t _ hqt;have et:Q.take (t+1)=Q.take t++[Q[t]]:=by rw[de,hqt];rfl
  generalize Q[t]=q at *;have lpd:∀{r:List Int},Nml r->r.length<=5->(bD (pdL r X)).length<=64:=λ{r} nr lr=>by
   rw[i0];have:=gu nr nX;omega
  suffices H:∃e':List Int,Nml e'∧e'.length<=5∧(∀z∈e',Bd (fR (t+1)) z)∧gq (bD (pdL e X)) (pdL q X) (bD (pdL e' X))∧(e'=[]->e=[]∧q=[])∧(∃u,∀n,val n e=val n e'*val n u)∧∃u,∀n,val n q=val n e'*val n u by
   obtain⟨e',h1,h2,h3,h4,h5,⟨u1,h6⟩,h7⟩:=H;refine⟨λi=>if i<=t then f i else bD (pdL e' X),e',by dsimp only;rw[if_pos (aI _)];exact f0,λi=>?_,λi r hi hr=>?_,by dsimp only;rw[if_neg (by omega)],h1,h2,h3,λz r hr=>?_,λr hr=>?_⟩
   ·dsimp only;split
    ·exact fl i
    ·exact lpd h1 h2
   ·dsimp only;by_cases z:i<t
    ·rw[if_pos (by omega),if_pos (by omega)];exact fs i r z hr
    ·have:i=t:=by omega
     subst this;rw[if_pos (am _),if_neg (by omega),fe];rw[hqt]at hr;rw[←Option.some.inj hr];exact h4
   ·rw[et]at hr;rcases bj.mp hr with y|y
    ·exact ez (h5 z).1 r y
    ·rw[aQ.mp y];exact (h5 z).2
   ·rw[et]at hr;rcases bj.mp hr with y|y
    ·obtain⟨u2,hu2⟩:=ed r y;exact⟨pdL u1 u2,λn=>by rw[hu2 n,h6 n,aH,di]⟩
    ·rw[aQ.mp y];exact h7
  have mono:∀{z:Int},Bd (fR t) z->Bd (fR (t+1)) z:=λ{z} hz=>hz.mono (EQ t);by_cases e0:e=[]
  ·subst e0;refine⟨q,q1,q2,λz hz=>(q3 z hz).mono (ER _),.inl ⟨by rw[gx];rfl,rfl⟩,λz=>⟨rfl,z⟩,⟨[],λn=>by simp[val]⟩,⟨[1],λn=>by simp[val]⟩⟩
  ·by_cases q0:q=[]
   ·subst q0;refine⟨e,ne,le,λz hz=>mono (be z hz),.inr (.inl ⟨wW (ib ne nX e0 X0),gx X,(MD (bT _ _)).symm⟩),λz=>absurd z e0,⟨[1],λn=>by simp[val]⟩,⟨[],λn=>by simp[val]⟩⟩
   ·have t1:1<=t:=by
     refine iQ λz=>e0 ?_;subst z;have:=fe;rw[f0]at this;by_cases y:e=[]
     ·exact y
     ·exact absurd this.symm (wW (ib ne nX y X0))
    obtain⟨q5,q6⟩:=q4 t1;have bt:fR t=110∨fR t=673:=by
     unfold fR;have:t<=2:=by omega
     by_cases z:t<=1
     ·rw[if_pos z];exact .inl rfl
     ·rw[if_neg z,if_pos (by omega)];exact .inr rfl
    obtain⟨e',h1,h2,h3,h4,h5,h6,h7,h8⟩:=ME (L1:=4) (L2:=2) (LX:=30) (be:=fR t) (bq:=53) (bX:=1000) ne q1 nX e0 q0 X0 (by omega) (by omega) (by omega) lX (by omega) be q6 bX (by omega) (by omega) (by omega);refine⟨e',h1,by omega,λz hz=>(h8 z hz).mono ?_,h3,λz=>absurd z h2,h4,h5⟩;have:t<=2:=by omega
    unfold fR;by_cases z:t<=1
    ·rw[if_pos z,if_neg (by omega),if_pos (by omega)];decide
    ·rw[if_neg z,if_pos (by omega),if_neg (by omega),if_neg (by omega)];decide
theorem MF {e h X U W:List Int}(ne:Nml e)(nh:Nml h)(nX:Nml X)(h0:h≠[])(X0:X≠[])(le:e.length<=5)(lh:h.length<=3)(lX:X.length<=30)(be:∀z∈e,Bd 2400 z)(bh:∀z∈h,Bd 53 z)(bX:∀z∈X,Bd 1000 z)(bz:∀n,val n U*val n e+val n W*val n h=1):gq (bD (pdL e X)) (pdL h X) (bD X):=by
 by_cases e0:e=[]
 ·subst e0;refine .inl ⟨by rw[gx];rfl,?_⟩;obtain⟨c,hc⟩:∃c,h=[c]:=by
   have w0:aF W≠[]:=λz=>by
    have:=bz 0;rw[←eQ 0 W,z]at this;simp[val]at this
   have e1:pdL (aF W) h=[1]:=cG (bT _ _) (fP (by decide)) λn=>by
    rw[aH,eQ];have:=bz n;have e2:val n ([]:List Int)=0:=rfl;rw[e2]at this;simp only[val];omega
   have l:=(gw (cC W) nh w0 h0).1;rw[e1]at l;simp only[rF]at l;have l1:(aF W).length≠0:=λz=>w0 (bK z);have l2:h.length≠0:=λz=>h0 (bK z);exact xV.mp (by omega)
  have cc:c=1∨c=-1:=by
   have:=bz 0;rw[hc]at this;simp[val]at this;have h2:=congrArg Int.natAbs this;rw[bV]at h2;have h3:=Nx h2;omega
  exact (El nX (bT _ _) cc λn=>by rw[aH,hc];simp[val]).symm
 ·obtain⟨ε,hε,hv⟩:=qY (pdL e X);have ε0:ε≠0:=by rcases hε with rfl|rfl <;> decide
  have ee:ε * ε=1:=by rcases hε with rfl|rfl <;> rfl
  have eA:bD (pdL e X)=pdL (e.map λz=>ε * z) X:=cG (j9 (bT _ _)) (bT _ _) λn=>by rw[hv,aH,aH,aS];grind
  have bp:∀z∈e.map (λz=>ε * z),Bd 2400 z:=λz hz=>by
   obtain⟨y,hy,rfl⟩:=aW.mp hz;rcases hε with rfl|rfl
   ·rw[fH];exact be y hy
   ·rw[show (-1:Int)*y=-y by omega];exact (be y hy).neg
  have np:=ie ε0 ne;have p0:(e.map λz=>ε * z)≠[]:=λz=>e0 (jD.mp z);have bez:∀n,val n (U.map λz=>ε * z)*val n (e.map λz=>ε * z)+val n W*val n h=1:=λn=>by
   rw[aS,aS,←bz n];grind
  have sz:∀{r:List Int},Nml r->r.length<=5->(∀z∈r,Bd 2400 z)->(pdL r X).length<=40∧∀z∈pdL r X,Bd 5000 z:=λ{r} nr lr br=>⟨aP (gu nr nX) (by omega),cW λj=>by
   rw[f8];exact (iH (c:=4) br bX (by omega) j).mono (by decide)⟩
  obtain⟨s1,s2⟩:=sz np (by rw[ac];exact le) bp;obtain⟨s3,s4⟩:=sz nh (by omega) λz hz=>(bh z hz).mono (by decide);have com:=EN (m:=1) (G:=2 ^ 1000) np nh nX p0 h0 X0 s1 s3 (by omega) s2 s4 (by decide) bez (λz hz=>by
   have:z.natAbs<2 ^ 1000:=bX z hz;show 1*z.natAbs<=2 ^ 1000;rw[fG];exact b5 this) (by
   show ((2 ^ 1000:Nat):Int).natAbs<2 ^ 4480;rw[dB];exact kF (by decide) (by decide))
  have c1:af ((e.map λz=>ε * z)++h)=1:=by
   have d:((af ((e.map λz=>ε * z)++h):Nat):Int)∣1:=by
    have vd:∀xs:List Int,(∀z∈xs,((af ((e.map λz=>ε * z)++h):Nat):Int)∣z)->((af ((e.map λz=>ε * z)++h):Nat):Int)∣val 0 xs:=λxs hx=>by
     cases xs with
     | nil=>exact jF _
     | cons x xs=>simp[val];exact hx x dw
    rw[←bez 0];exact xI (fj (vd _ λz hz=>fQ _ z (l_ _ hz)) (kD _ _)) (fj (vd _ λz hz=>fQ _ z (cX _ hz)) (kD _ _))
   exact Nat.dvd_one.mp (im.mp (by simpa using d))
  rw[c1,←eA]at com;have e1:pdL [((1:Nat):Int)] X=X:=cG (bT _ _) nX λn=>by rw[aH];simp[val]
  rw[e1]at com;exact com
def a8 (h:List Int):Int:=if co h (h.length-1)<0 then -1 else 1
def b8 (gs:List (List Int))(h:List Int)(S:List Nat):List (List Int):=if S=[] then [[1]] else (S.map λi=>(gs.getD i []).map λz=>-a8 h*z)++[h.map λz=>a8 h*z]
def ET (w k:Nat)(ys:List (List (List Int)))(h:List Int)(q:List (List Int))(RP:List (List (List Int)))(cs:List Nat)(pl:Int):Prop:=(∃S,Sub k S∧(RP=S.map (V21 ys h)∨RP=S.map (V21 ys h)++[q]))∧cs.length=RP.length∧(∀c∈cs,c<w)∧97<=pl∧pl<=97+80*(RP.length:Int)∧Piv w RP cs pl RP.length
def MG (k:Nat)(ys:List (List (List Int)))(h:List Int)(q:List (List Int))(RP:List (List (List Int)))(p:List (List Int)):Prop:=∃S,Sub k S∧RP=S.map (V21 ys h)∧(p=q∨∃j,(∀i∈S,i<j)∧j<k∧p=V21 ys h j)
def EU (k:Nat)(ys:List (List (List Int)))(h:List Int)(gs:List (List Int))(q:List (List Int))(RP:List (List (List Int)))(p:List (List Int))(ws:List (List Int)):Prop:=p=q∧∃S,Sub k S∧RP=S.map (V21 ys h)∧(∀i,i<k->i∉S->gs.getD i []=[])∧ws=b8 gs h S
theorem ko (h:List Int):a8 h=1∨a8 h=-1:=by unfold a8;split <;> simp
theorem EV (qs:List (List (List Int)))(ws:List (List Int))(c:Nat):∀n,Nml (dN qs ws c n)
 | 0=>cD
 | n+1=>j5 _ _
theorem xm (qs:List (List (List Int)))(ws:List (List Int))(c:Nat)(n:Int):∀k,val n (dN qs ws c k)=az k λt=>val n ((qs.getD t []).getD c [])*val n (ws.getD t [])
 | 0=>rfl
 | k+1=>by
  rw[dN,qN,DQ,xm qs ws c n k];rfl
theorem EW (F G:Nat->Int):∀m,ds ((aD m).map F) ((aD m).map G)=az m λt=>F t*G t:=λm=>by
 have ap:∀(as bs cs' ds':List Int),as.length=bs.length->ds (as++cs') (bs++ds')=ds as bs+ds cs' ds':=λas=>by
  induction as with
  | nil=>intro bs cs' ds' hl;cases bs with
   | nil=>simp[ds]
   | cons=>simp at hl
  | cons a as ih=>intro bs cs' ds' hl;cases bs with
   | nil=>simp at hl
   | cons b bs=>simp only[jG,ds];rw[ih bs cs' ds' (by simpa using hl)];omega
 induction m with
 | zero=>rfl
 | succ m ih=>
  rw[mH,aV,aV,ap _ _ _ _ (by simp),ih];simp[ds,az]
section
variable {w k:Nat}{ys:List (List (List Int))}{h s:List Int}{gs:List (List Int)}{q:List (List Int)}
theorem D21.inj (D:D21 w k ys h s gs q):∀{S S':List Nat},Sub k S->Sub k S'->S.map (V21 ys h)=S'.map (V21 ys h)->S=S':=λ{S S'} hS hS' e=>by
 have one:∀i j,i<k->j<k->V21 ys h i=V21 ys h j->i=j:=λi j hi hj e=>by
  by_cases z:i=j
  ·exact z
  ·have:=D.ind 97 ⟨by decide,by decide⟩ (λx=>if x=i then 1 else if x=j then -1 else 0) (λc hc=>by
    have e1:=(D.vec hi).2.2 c hc 97;have e2:=(D.vec hj).2.2 c hc 97;rw[e,e2]at e1;have e3:val 97 ((ys.getD j []).getD c [])=val 97 ((ys.getD i []).getD c []):=by
     have:=D.hP 97 ⟨by decide,by decide⟩;exact mE this e1
    have:az k (λx=>(if x=i then 1 else if x=j then -1 else 0)*val 97 ((ys.getD x []).getD c []))=az k (λx=>if x=i then val 97 ((ys.getD x []).getD c []) else 0)+az k (λx=>if x=j then-val 97 ((ys.getD x []).getD c []) else 0):=by
     rw[←iF];refine cQ λx _=>?_;by_cases a:x=i
     ·rw[if_pos a,if_pos a,if_neg (by omega)];omega
     ·rw[if_neg a,if_neg a]
      split <;> omega
    rw[this,km hi,km hj,e3];omega) i hi
   rw[if_pos rfl]at this;omega
 have l:S.length=S'.length:=by have:=congrArg ij e;simpa using this
 refine gJ l λt a b=>?_;refine one _ _ (hS.lt _ (bH a)) (hS'.lt _ (bH b)) ?_;have e1:(S.map (V21 ys h))[t]?=some (V21 ys h S[t]):=by rw[aA,aj a];rfl
 have e2:(S'.map (V21 ys h))[t]?=some (V21 ys h S'[t]):=by rw[aA,aj b];rfl
 rw[e,e2]at e1;exact (Option.some.inj e1).symm
theorem D21.vbq (D:D21 w k ys h s gs q){S:List Nat}(hS:Sub k S){p:List (List Int)}(hp:p=q∨∃j,j<k∧p=V21 ys h j):p.length=w∧(∀f∈p,Nml f∧f.length<=7∧∀c∈f,Bd 170 c)∧VB w (S.map (V21 ys h)++[p]) 7 170:=by
 have B:=D.vb hS;have k3:=D.k3;have ls:=hS.len;have hp':p.length=w∧∀f∈p,Nml f∧f.length<=7∧∀c∈f,Bd 170 c:=by
  rcases hp with rfl|⟨j,hj,rfl⟩
  ·exact D.qb
  ·exact⟨(D.vec hj).1,λf hf=>by obtain⟨a1,a2,a3⟩:=(D.vec hj).2.1 f hf;exact⟨a1,by omega,a3⟩⟩
 refine⟨hp'.1,hp'.2,λv hv=>?_,λv hv=>?_,by rw[bM,ac];simp;omega,B.w9,B.b0⟩
 ·rcases bj.mp hv with z|z
  ·exact B.wid v z
  ·rw[aQ.mp z];exact hp'.1
 ·rcases bj.mp hv with z|z
  ·exact B.nml v z
  ·rw[aQ.mp z];exact hp'.2
theorem D21.hitV (D:D21 w k ys h s gs q){S:List Nat}(hS:Sub k S){cs:List Nat}{P:Int}(hl:cs.length=S.length)(hP:InP P)(pv:Piv w (S.map (V21 ys h)) cs P S.length){j:Nat}(hj:j<k)(hn:j∉S)(hz:∀c,c<w->co (cI w (S.map (V21 ys h)) cs (V21 ys h j) P) c=0):False:=by
 have:=D.lowq hS hl hP pv (D.vec hj).1 (a:=λx=>if x=j then val P h else 0) (λc hc=>by
  rw[(D.vec hj).2.2 c hc P];have:az k (λi=>(if i=j then val P h else 0)*val P ((ys.getD i []).getD c []))=az k (λi=>if i=j then val P h*val P ((ys.getD i []).getD c []) else 0):=cQ λx _=>by split <;> simp
  rw[this,km hj]) hz j hj hn
 rw[if_pos rfl]at this;exact D.hP P hP this
theorem D21.facs (D:D21 w k ys h s gs q){S:List Nat}(hS:Sub k S){cs:List Nat}{P:Int}(hl:cs.length=S.length)(hP:InP P)(pv:Piv w (S.map (V21 ys h)) cs P S.length)(hz:∀c,c<w->co (cI w (S.map (V21 ys h)) cs q P) c=0):∀i,i<k->i∉S->gs.getD i []=[]:=λi hi hn=>by
 have:=D.lowq hS hl hP pv D.qb.1 (a:=λx=>val P (gs.getD x [])) (λc hc=>D.qv c hc P) hz i hi hn;have hg:gs[i]?=some (gs.getD i []):=by rw[av,aj (by rw[D.lg];exact hi)];rfl
 exact D.gP i _ hg P hP this
theorem D21.holds (D:D21 w k ys h s gs q){S:List Nat}(hS:Sub k S)(hS0:S≠[])(hg:∀i,i<k->i∉S->gs.getD i []=[]){c:Nat}(hc:c<w):dN (S.map (V21 ys h)++[q]) (b8 gs h S) c (S.length+1)=[]:=cG (EV _ _ _ _) cD λn=>by
 rw[xm];show az S.length _+_=(0:Int)
 have lS:(S.map (V21 ys h)).length=S.length:=ac ..;have eR:b8 gs h S=(S.map λi=>(gs.getD i []).map λz=>-a8 h*z)++[h.map λz=>a8 h*z]:=by unfold b8;rw[if_neg hS0]
 rw[eR];have last1:(S.map (V21 ys h)++[q]).getD S.length []=q:=by rw[←lS];simp
 have last2:((S.map λi=>(gs.getD i []).map λz=>-a8 h*z)++[h.map λz=>a8 h*z]).getD S.length []=h.map λz=>a8 h*z:=by
  have:(S.map λi=>(gs.getD i []).map λz=>-a8 h*z).length=S.length:=ac ..;rw[←this];simp
 dsimp only;rw[last1,last2,aS,D.qv c hc n];have e1:az S.length (λt=>val n (((S.map (V21 ys h)++[q]).getD t []).getD c [])*val n (((S.map λi=>(gs.getD i []).map λz=>-a8 h*z)++[h.map λz=>a8 h*z]).getD t []))=az k λx=>(-a8 h*val n (gs.getD x []))*(val n h*val n ((ys.getD x []).getD c [])):=by
  have e2:=xk (k:=k) (λi=>val n h*val n ((ys.getD i []).getD c [])) S (S.map λi=>-a8 h*val n (gs.getD i [])) (by simp) hS.lt;have e3:az k (λx=>cf S (S.map λi=>-a8 h*val n (gs.getD i [])) x*(val n h*val n ((ys.getD x []).getD c [])))=az k λx=>(-a8 h*val n (gs.getD x []))*(val n h*val n ((ys.getD x []).getD c [])):=cQ λx hx=>by
   by_cases z:x∈S
   ·obtain⟨t,ht,rfl⟩:=dq.mp z;rw[rk S _ hS.nd (by simp) t ht (by simp;exact ht),bO]
   ·rw[ki S _ x z,hg x hx z];simp[val]
  rw[←e3,←e2];have r1:(S.map λi=>-a8 h*val n (gs.getD i []))=(aD S.length).map λt=>-a8 h*val n (gs.getD (S.getD t 0) []):=by
   refine gJ (by simp) λt a b=>?_;rw[bO,bO,ir,av (l:=S),aj (by simpa using a)];rfl
  have r2:(S.map λi=>val n h*val n ((ys.getD i []).getD c []))=(aD S.length).map λt=>val n h*val n ((ys.getD (S.getD t 0) []).getD c []):=by
   refine gJ (by simp) λt a b=>?_;rw[bO,bO,ir,av (l:=S),aj (by simpa using a)];rfl
  rw[r1,r2,EW];refine cQ λt ht=>?_;have g1:S.getD t 0=S[t]:=by rw[av,aj ht];rfl
  have g2:(S.map (V21 ys h)++[q]).getD t []=V21 ys h S[t]:=by rw[av,b_ (by rw[lS];exact ht),aA,aj ht];rfl
  have g3:((S.map λi=>(gs.getD i []).map λz=>-a8 h*z)++[h.map λz=>a8 h*z]).getD t []=(gs.getD S[t] []).map λz=>-a8 h*z:=by rw[av,b_ (by simpa using ht),aA,aj ht];rfl
  rw[g1,g2,g3,aS,(D.vec (hS.lt _ (bH ht))).2.2 c hc n];grind
 rw[e1];have e4:az k (λx=>(-a8 h*val n (gs.getD x []))*(val n h*val n ((ys.getD x []).getD c [])))=(-a8 h*val n h)*az k λi=>val n (gs.getD i [])*val n ((ys.getD i []).getD c []):=by
  rw[←gG];exact cQ λx _=>by grind
 rw[e4];grind
theorem D21.sizes (D:D21 w k ys h s gs q){S:List Nat}(hS:Sub k S){cs:List Nat}(hl:cs.length=S.length)(hcs:∀c∈cs,c<w)(t:Nat):∀z∈mkP w (S.map (V21 ys h)) cs q (w+t),Bd 720 z:=λz hz=>by
 have k3:=D.k3;have ls:=hS.len;obtain⟨_,_,B⟩:=D.vbq hS (.inl rfl);have lS:(S.map (V21 ys h)).length=S.length:=ac ..;have:=EB (N:=2 ^ 2) (M:=2 ^ 170) (L:=2 ^ 3) ((w+t) :: cr cs (S.map (V21 ys h)).length) (dO w (S.map (V21 ys h)++[q])) (by unfold dO;rw[ac,fI,bM,lS];simp;omega) (λr hr c _=>by
  unfold dO at hr;obtain⟨i,hi,rfl⟩:=aW.mp hr;have hm:=mem_getD (d:=([]:List (List Int))) (dS.mp hi);unfold eH
  split
  ·rename_i hc;obtain⟨_,a2,a3⟩:=B.nml _ hm _ (mem_getD (d:=([]:List Int)) (show c<((S.map (V21 ys h)++[q]).getD i []).length by rw[B.wid _ hm];exact hc));exact⟨by omega,λz hz=>b5 (a3 z hz)⟩
  ·split
   ·exact⟨by decide,λz hz=>by rw[aQ.mp hz];exact dX _⟩
   ·exact⟨by simp,λz hz=>by simp at hz⟩) z hz
 refine cZ this ?_;rw[←dm,←dm,←xW];refine kF (by decide) ?_;have lc:((w+t) :: cr cs (S.map (V21 ys h)).length).length<=4:=by
  unfold cr;rw[ck,kG,b6];omega
 exact cZ (fh _ lc) (by decide)
theorem D21.oc (D:D21 w k ys h s gs q){S:List Nat}(hS:Sub k S)(hS0:S≠[]){cs:List Nat}{pl:Int}(hl:cs.length=S.length)(hcs:∀c∈cs,c<w)(hP:InP pl)(pv:Piv w (S.map (V21 ys h)) cs pl S.length)(hz:∀c,c<w->co (cI w (S.map (V21 ys h)) cs q pl) c=0):∃(gl:List (List Int)) (Pn:Nat) (f:Nat->List Int) (qs:List (List Int)) (p0:List Int) (t0:Int),OcOk w (S.map (V21 ys h)) cs q gl Pn∧Pn<=80∧(∀N,lY (S.map (V21 ys h)++[q]) cs N->0<=N∧N<60∧(∀g∈gl,(g.length:Int)<=N+1)∧N<((plc w (S.map (V21 ys h)) cs Pn).length:Int))∧
  ((∀p∈gl,p.length<=64∧Nml p∧∀c∈p,Bd 5000 c)∧(∀i,(f i).length<=64)∧f 0=[]∧(∀i r,gl[i]?=some r->gq (f i) r (f (i+1)))∧gl.getLast?=some (p0++[t0])∧f gl.length≠[]∧Nml (f gl.length)∧(∀c∈f gl.length,Bd 8000 c)∧qs.length=gl.length∧(∀(i:Nat) (p q:List Int),gl[i]?=some p->qs[i]?=some q->Nml q∧Div p (eI (decide (t0<0)) (f gl.length)) q))∧
  FcOk w (S.map (V21 ys h)++[q]) qs∧qs=b8 gs h S:=by
 have k3:=D.k3;have w5:=D.w5;have ls:=hS.len;have kw:=D.kwS hS;have lS:(S.map (V21 ys h)).length=S.length:=ac ..;obtain⟨lq,bq,B⟩:=D.vbq hS (.inl rfl);have B1:=D.vb hS;have hg:=D.facs hS hl hP pv hz;have W:=D.wq hS;have nmlW:∀v∈S.map (V21 ys h)++[q],∀f∈v,Nml f∧f.length<=7:=λv hv f hf=>⟨(B.nml v hv f hf).1,(B.nml v hv f hf).2.1⟩
 have pv':Piv w (S.map (V21 ys h)) cs pl (S.map (V21 ys h)).length:=by rw[lS];exact pv
 obtain⟨d,d1,d2,d3,d4⟩:=places (L:=7) B1.wid (λv hv f hf=>⟨(B1.nml v hv f hf).1,(B1.nml v hv f hf).2.1⟩) kw (by rw[lS];exact hl) hcs pv';have d55:d.length<=55:=by
  rw[lS]at d3;have:S.length*(S.length*(7-1))<=3*(3*6):=eC (by omega) (eC (by omega) (by omega));omega
 have pm:=Mh (w:=w) (RP:=S.map (V21 ys h)) (cs:=cs) d1 d2 (Pn:=80) λn _ hn=>d4 n hn;obtain⟨gl,hgl⟩:∃gl,gl=(aD (S.length+1)).map λt=>mkP w (S.map (V21 ys h)) cs q (w+t):=⟨_,rfl⟩
 have lgl:gl.length=S.length+1:=by rw[hgl,ac,fI]
 have glat:∀t,t<=S.length->gl[t]?=some (mkP w (S.map (V21 ys h)) cs q (w+t)):=λt ht=>by rw[hgl,aA,jI (by omega)];rfl
 have glm:∀g∈gl,∃t,t<=S.length∧g=mkP w (S.map (V21 ys h)) cs q (w+t):=λg hg'=>by
  rw[hgl]at hg';obtain⟨t,ht,rfl⟩:=aW.mp hg';exact⟨t,by have:=dS.mp ht;omega,rfl⟩
 have len:∀t,t<=S.length->(mkP w (S.map (V21 ys h)) cs q (w+t)).length<=19:=λt ht=>by
  have:=rj (λc=>if c<w then 6 else 0) ((w+t) :: cr cs (S.map (V21 ys h)).length) (dO w (S.map (V21 ys h)++[q])) λr hr c _=>by
   unfold dO at hr;obtain⟨i,hi,rfl⟩:=aW.mp hr;have hm:=mem_getD (d:=([]:List (List Int))) (dS.mp hi);unfold eH
   split
   ·rename_i hc;obtain⟨a1,a2,_⟩:=B.nml _ hm _ (mem_getD (d:=([]:List Int)) (show c<((S.map (V21 ys h)++[q]).getD i []).length by rw[B.wid _ hm];exact hc));exact⟨a1,by omega⟩
   ·split
    ·exact⟨fP (by decide),by simp⟩
    ·exact⟨cD,by simp⟩
  unfold mkP;refine aP this ?_;rw[dy,je,if_neg (by omega),rZ];have:∀xs:List Nat,(xs.map λc=>if c<w then 6 else 0).sum<=6*xs.length:=λxs=>by
   induction xs with
   | nil=>simp
   | cons x xs ih=>rw[dy,je,ck];split <;> omega
  have h2:=this (cr cs (S.map (V21 ys h)).length);have h3:(cr cs (S.map (V21 ys h)).length).length<=3:=by
   unfold cr;rw[kG,b6];omega
  omega
 have bits:=D.sizes hS hl hcs;obtain⟨X,nX,X0,bX,eh,eg⟩:=D.fac hS hS0 hg hl hcs pv λt ht=>⟨by have:=len t ht;omega,bits t⟩
 have lX:X.length<=30:=by
  have h1:=(gw D.nh nX D.h0 X0).1;rw[←eh]at h1;have:=len S.length (am _);have:h.length≠0:=λz=>D.h0 (bK z);omega
 obtain⟨Q,hQd⟩:∃Q,Q=S.map λi=>(gs.getD i []).map λz=>-1*z:=⟨_,rfl⟩
 have lQ:Q.length=S.length:=by rw[hQd,ac]
 have gmem:∀i,i<k->gs[i]?=some (gs.getD i []):=λi hi=>by rw[av,aj (by rw[D.lg];exact hi)];rfl
 have negb:∀{g:List Int}{b:Nat},(∀c∈g,Bd b c)->∀c∈g.map (λz=>-1*z),Bd b c:=λ{g b} hb c hc=>by
  obtain⟨y,hy,rfl⟩:=aW.mp hc;rw[show (-1:Int)*y=-y by omega];exact (hb y hy).neg
 have chain:=ES (Q:=Q) (X:=X) (by omega) (λt r hr=>by
  rw[hQd,aA]at hr;obtain⟨i,hi,rfl⟩:=cO.mp hr;have hik:=hS.lt i (bJ hi);obtain⟨a1,a2,a3⟩:=D.gb _ (bJ (gmem i hik));refine⟨ie (by decide) a1,by rw[ac];exact a2,negb a3,λht=>?_⟩;have hi1:1<=i:=by
   refine iQ λz=>?_;have ht':=(aU.mp hi).1;have h0:0<S.length:=by omega
   have:=jd.mp hS.pw 0 t h0 ht' (by omega);have e:=(aU.mp hi).2;omega
  obtain⟨i',rfl⟩:∃i',i=i'+1:=⟨i-1,by omega⟩
  obtain⟨b1,b2⟩:=D.g1 i' _ (gmem _ hik);exact⟨by rw[ac];exact b1,negb b2⟩) nX X0 lX bX Q.length (am _)
 obtain⟨f,e,f0,fl,fs,fe,ne,le,be,ez,ed⟩:=chain;rw[fT]at ez ed;obtain⟨U,Wp,bz⟩:∃U Wp:List Int,∀n,val n U*val n e+val n Wp*val n h=1:=by
  have k0:0<k:=bZ (cK.mpr hS0) ls;have gv:=D.g0 _ (gmem 0 k0);by_cases z:0∈S
  ·obtain⟨u,hu⟩:=ed ((gs.getD 0 []).map λz=>-1*z) (by rw[hQd];exact aW.mpr ⟨0,z,rfl⟩);refine⟨u.map λz=>-1*z,s.map λz=>-1*z,λn=>?_⟩;have h1:=hu n;have h2:=gv n;rw[aS]at h1 ⊢;rw[aS];grind
  ·have hg0:=hg 0 k0 z;refine⟨[],s.map λz=>-1*z,λn=>?_⟩;have h2:=gv n;rw[hg0]at h2;have e2:val n ([]:List Int)=0:=rfl;rw[e2]at h2 ⊢;rw[aS];grind
 have lst:=MF ne D.nh nX D.h0 X0 le D.lh lX (λz hz'=>(be z hz').mono (by
  unfold fR;split
  ·decide
  ·split <;> decide)) D.bh bX bz
 rw[←fe,lQ]at lst;obtain⟨lt,tt⟩:=gw D.nh nX D.h0 X0;have hX0:=ib D.nh nX D.h0 X0;obtain⟨p0,t0,ev⟩:∃p0 t0,pdL h X=p0++[t0]:=by
  cases z:(pdL h X).getLast? with
  | none=>rw[xN]at z;exact absurd z hX0
  | some a=>exact⟨_,a,(rP.mp z).choose_spec⟩
 have et:t0=co h (h.length-1)*co X (X.length-1):=by rw[←tt,ev];unfold co;simp
 have cx:=cN D.nh D.h0;have cu:=cN nX X0;obtain⟨se,hse,hco⟩:=qX X;have vs:∀n,val n (bD X)=se*val n X:=λn=>by rw[←aS];exact f7 (λj=>by rw[hco j,gr]) n
 have tp:=j8 nX X0;rw[i0,hco]at tp;have main:(if decide (t0<0)=true then (-1:Int) else 1)*se=a8 h:=by
  unfold a8;rw[et];generalize co X (X.length-1)=ul at cu tp;generalize co h (h.length-1)=xl at cx;rcases hse with rfl|rfl
  ·have hu:0<ul:=by omega
   by_cases hx:xl<0
   ·have:xl*ul<0:=Int.mul_neg_of_neg_of_pos hx hu;simp[this,hx]
   ·have:¬xl*ul<0:=by have:=Int.mul_nonneg (show 0<=xl by omega) (xK hu);omega
    simp[this,hx]
  ·have hu:0 < -ul:=by omega
   by_cases hx:xl<0
   ·have:¬xl*ul<0:=by have:=Gj (show 0 < -xl by omega) hu;rw[Int.neg_mul_neg]at this;omega
    simp[this,hx]
   ·have:xl*ul<0:=by have:=Gj (show 0<xl by omega) hu;rw[rL]at this;omega
    simp[this,hx]
 have vneg:∀n,val n (eI (decide (t0<0)) (bD X))=a8 h*val n X:=λn=>by rw[Ml,vs,←main,di]
 have sgsg:a8 h*a8 h=1:=by rcases ko h with z|z <;> rw[z] <;> rfl
 have sg0:a8 h≠0:=by rcases ko h with z|z <;> rw[z] <;> decide
 have eR:b8 gs h S=(S.map λi=>(gs.getD i []).map λz=>-a8 h*z)++[h.map λz=>a8 h*z]:=by unfold b8;rw[if_neg hS0]
 have bp9:∀n:Nat,n<80->Bd 9 (n:Int):=λn hn=>Bd.of_lt (m:=80) (by omega) (by decide);have lov:∀(n:Nat),n<80->Piv w (S.map (V21 ys h)) cs (n:Int) (S.map (V21 ys h)).length->LowOk (bI w q (S.map (V21 ys h)).length (n:Int)) (cR w (S.map (V21 ys h)) cs (n:Int) (S.map (V21 ys h)).length) cs:=λn hn pn=>B1.low (bp9 n hn) (by decide) hcs (am _) (by rw[lS];omega) pn lq λf hf=>⟨(bq f hf).2.1,(bq f hf).2.2⟩
 refine⟨gl,80,λi=>if i<=S.length then f i else bD X,b8 gs h S,p0,t0,⟨by rw[lS];omega,kw,W,hcs,by omega,by rw[lgl,lS],by decide,λn hn=>B1.tbd (bp9 n hn) (by decide) (by decide) (by decide) hcs (by rw[lS];omega),lov,⟨by omega,λf hf=>⟨by have:=(bq f hf).2.1;omega,λc hc=>((bq f hf).2.2 c hc).mono (by decide)⟩⟩,λn hn pn i g hg'=>?_,λg hg'=>?_⟩,am _,λN hN=>?_,⟨λg hg'=>?_,λi=>?_,by dsimp only;rw[if_pos (aI _)];exact f0,λi r hr=>?_,?_,?_,?_,λc hc=>?_,?_,λi a b ha hb=>?_⟩,⟨?_,by rw[bM,lS];simp;omega,by omega,W,λv hv f hf=>?_,λr hr=>?_⟩,rfl⟩
 ·have hi:i<=S.length:=by have:=(aU.mp hg').1;omega
  rw[glat i hi]at hg';rw[←Option.some.inj hg'];exact xb W kw (by rw[lS];omega) pn (w+i)
 ·obtain⟨t,ht,rfl⟩:=glm g hg';refine⟨iL _ _,λn hn=>?_⟩;rw[jA W kw];refine (xf (B1.rows (bp9 n hn)) (λj=>cF (P:=λz=>Bd (170+10*7) z) (wZ (bp9 n hn) (λf hf=>⟨(bq f hf).2.1,(bq f hf).2.2⟩) (by decide)) (Bd.zero _) j) (by rw[lS];omega) _).mono ?_;rw[lS];exact aP (Gn (fh _ (show S.length+1<=4 by omega)) 1) (by decide)
 ·obtain⟨n0,n1,n2⟩:=EJ (L:=7) W nmlW kw (by rw[lS];exact hl) hcs hN;have:((S.map (V21 ys h)).length*(7-1):Nat)<=18:=by rw[lS];omega
  refine⟨n0,by omega,λg hg'=>?_,by omega⟩;obtain⟨t,ht,rfl⟩:=glm g hg';exact n2 t (by rw[lS];exact ht)
 ·obtain⟨t,ht,rfl⟩:=glm g hg';exact⟨by have:=len t ht;omega,iL _ _,λc hc=>(bits t c hc).mono (by decide)⟩
 ·dsimp only;split
  ·exact fl i
  ·rw[i0];omega
 ·have hi:i<=S.length:=by have:=(aU.mp hr).1;omega
  rw[glat i hi]at hr;rw[←Option.some.inj hr];dsimp only;rw[if_pos hi];by_cases z:i<S.length
  ·rw[if_pos (by omega),eg i z];exact fs i _ (by omega) (by rw[hQd,aA,aj z];rfl)
  ·have e1:i=S.length:=by omega
   subst e1;rw[if_neg (by omega),eh];exact lst
 ·rw[i6,lgl,Nat.add_sub_cancel,glat _ (am _),eh,ev]
 ·dsimp only;rw[lgl,if_neg (by omega)];exact wW X0
 ·dsimp only;rw[lgl,if_neg (by omega)];exact j9 nX
 ·dsimp only at hc;rw[lgl,if_neg (by omega)]at hc;have:=cW (xs:=bD X) (P:=λz=>Bd 8000 z) (λj=>by
   rw[hco j];have:=cF (P:=λz=>Bd 1000 z) bX (Bd.zero _) j;rcases hse with rfl|rfl
   ·rw[fH];exact this.mono (by decide)
   ·rw[show (-1:Int)*co X j=- co X j by omega];exact this.neg.mono (by decide)) c hc
  exact this
 ·rw[eR,bM,ac,lgl];rfl
 ·have hi:i<=S.length:=by have:=(aU.mp ha).1;omega
  rw[glat i hi]at ha;rw[←Option.some.inj ha];dsimp only;rw[lgl,if_neg (by omega)];rw[eR]at hb;by_cases z:i<S.length
  ·rw[b_ (by rw[ac];exact z),aA,aj z]at hb;have hb':b=(gs.getD S[i] []).map λz=>-a8 h*z:=(Option.some.inj hb).symm;have hik:=hS.lt _ (bH z);refine⟨by rw[hb'];exact ie (by omega) (D.gb _ (bJ (gmem _ hik))).1,gm.mpr λn=>?_⟩;rw[vneg,eg i z,aH,aS,hb',aS];grind
  ·have e1:i=S.length:=by omega
   subst e1;rw[dz (by rw[ac];exact am _),ac,jJ]at hb;have hb':b=h.map λz=>a8 h*z:=(Option.some.inj hb).symm;refine⟨by rw[hb'];exact ie sg0 D.nh,gm.mpr λn=>?_⟩;rw[vneg,eh,aH,hb',aS];grind
 ·rw[eR,bM,ac,bM,lS];rfl
 ·obtain⟨_,a2,a3⟩:=B.nml v hv f hf;exact⟨by omega,λc hc=>(a3 c hc).mono (by decide)⟩
 ·rw[eR]at hr;rcases bj.mp hr with z|z
  ·obtain⟨i,hi,rfl⟩:=aW.mp z;obtain⟨_,a2,a3⟩:=D.gb _ (bJ (gmem i (hS.lt i hi)));refine⟨by rw[ac];omega,λc hc=>?_⟩;obtain⟨y,hy,rfl⟩:=aW.mp hc;have:=a3 y hy;rcases ko h with z|z
   ·rw[z,show -1*y=-y by omega];exact this.neg.mono (by decide)
   ·rw[z,show - -1*y=y by omega];exact this.mono (by decide)
  ·rw[aQ.mp z];refine⟨by rw[ac];have:=D.lh;omega,λc hc=>?_⟩;obtain⟨y,hy,rfl⟩:=aW.mp hc;have:=D.bh y hy;rcases ko h with z|z
   ·rw[z,fH];exact this.mono (by decide)
   ·rw[z,show -1*y=-y by omega];exact this.neg.mono (by decide)
end
section
variable {w k:Nat}{ys:List (List (List Int))}{h s:List Int}{gs:List (List Int)}{q:List (List Int)}
theorem EX {pl:Int}{m:Nat}(h1:97<=pl)(h2:pl<=97+80*(m:Int))(hm:m<=4):Bd 9 pl:=Bd.of_lt (m:=500) (by omega) (by decide)
theorem D21.oc0 (D:D21 w k ys h s gs q)(hz:∀f∈q,f=[])(hg:∀i,i<k->gs.getD i []=[]){pl:Int}:∃(gl:List (List Int)) (Pn:Nat) (f:Nat->List Int) (qs:List (List Int)) (p0:List Int) (t0:Int),OcOk w [] [] q gl Pn∧Pn<=80∧(∀N,lY ([]++[q]) [] N->0<=N∧N<60∧(∀g∈gl,(g.length:Int)<=N+1)∧N<((plc w [] [] Pn).length:Int))∧
  ((∀p∈gl,p.length<=64∧Nml p∧∀c∈p,Bd 5000 c)∧(∀i,(f i).length<=64)∧f 0=[]∧(∀i r,gl[i]?=some r->gq (f i) r (f (i+1)))∧gl.getLast?=some (p0++[t0])∧f gl.length≠[]∧Nml (f gl.length)∧(∀c∈f gl.length,Bd 8000 c)∧qs.length=gl.length∧(∀(i:Nat) (p q:List Int),gl[i]?=some p->qs[i]?=some q->Nml q∧Div p (eI (decide (t0<0)) (f gl.length)) q))∧
  FcOk w ([]++[q]) qs∧((∀c,c<w->c∉[]->dN ([]++[q]) qs c (([]:List (List (List Int))).length+1)=[])->EU k ys h gs q [] q qs)∧
  ∀c,c<w->c∉[]->dN ([]++[q]) qs c (([]:List (List (List Int))).length+1)≠[]->∃N,N<=80∧(∀t:Nat,t<=N->TBd w ([]++[q]) ([]++[c]) (pl+(t:Int)))∧Piv w ([]++[q]) ([]++[c]) (pl+(N:Int)) (([]:List (List (List Int))).length+1):=by
 have w5:=D.w5;obtain⟨lq,bq⟩:=D.qb;have n1:Nml [1]:=fP (by decide);have tb0:∀{p:Int},Bd 8 p->TBd w [] [] p:=λ{p} hp=>⟨by omega,hp.mono (by decide),λn hn=>by simp at hn,λq hq=>by simp at hq⟩
 have lo0:∀{p:Int},LowOk (bI w q 0 p) [] []:=λ{p}=>⟨aI _,by rw[jy lq];omega,λb hb=>by simp at hb,λc h=>by simp at h,λb hb=>by simp at hb,λi hi=>by simp at hi,λi hi=>by simp at hi⟩
 have sm:∀c,c<w->dN [q] [[1]] c 1=[]:=λc hc=>by
  refine cG (EV _ _ _ _) cD λn=>?_;rw[xm];have:q.getD c []=[]:=hz _ (mem_getD (by omega));show az 0 _+val n (([q].getD 0 []).getD c [])*_=0;have e:([q].getD 0 []).getD c []=[]:=this;rw[e];simp[val,az]
 refine⟨[[1]],1,λi=>if i=0 then [] else [1],[[1]],[],1,⟨by simp,by simp,λr hr=>?_,by simp,by simp,rfl,by decide,λn hn=>tb0 (Bd.of_lt (m:=1) (by omega) (by decide)),λn hn _=>lo0,⟨by omega,λf hf=>⟨by have:=(bq f hf).2.1;omega,λc hc=>((bq f hf).2.2 c hc).mono (by decide)⟩⟩,λn hn _ i g hg'=>?_,λg hg'=>?_⟩,by decide,λN hN=>?_,⟨λg hg'=>?_,λi=>by dsimp only;split <;> simp,rfl,λi r hr=>?_,rfl,by simp,n1,λc hc=>?_,rfl,λi g h h1 h2=>?_⟩,⟨rfl,by simp,by omega,λr hr=>?_,λr hr=>?_,λg hg'=>?_⟩,λ_=>⟨rfl,[],⟨List.Pairwise.nil,by simp⟩,rfl,λi hi _=>hg i hi,rfl⟩,λc hc _ hne=>absurd (sm c hc) hne⟩
 ·simp at hr;rw[hr];exact lq
 ·cases i with
  | zero=>
   simp at hg';subst hg';show co (bI w q 0 (n:Int)) (w+0)=val (n:Int) [1];rw[ic lq (aI _)];simp[val]
  | succ i=>simp at hg'
 ·simp at hg';subst hg';exact⟨n1,λn hn=>by simp[val];exact Bd.one (by decide)⟩
 ·obtain⟨n0,n2,n3⟩:=EJ (w:=w) (L:=7) (RP:=[]) (cs:=[]) (q:=q) (λv hv=>by simp at hv;rw[hv];exact lq) (λv hv f hf=>by simp at hv;subst hv;exact⟨(bq f hf).1,(bq f hf).2.1⟩) (by simp) rfl (by simp) hN;have:N=0:=by simp at n2;omega
  rw[this];refine⟨by decide,by decide,λg hg'=>by simp at hg';subst hg';decide,?_⟩;have:plc w [] [] 1=[0]:=rfl;rw[this];decide
 ·simp at hg';subst hg';exact⟨by decide,n1,λc hc=>by simp at hc;subst hc;exact Bd.one (by decide)⟩
 ·cases i with
  | zero=>simp at hr;subst hr;exact .inl ⟨rfl,rfl⟩
  | succ i=>simp at hr
 ·have:c=1:=by simpa using hc
  subst this;exact Bd.one (by decide)
 ·cases i with
  | zero=>
   simp at h1 h2;subst h1 h2;exact⟨n1,gm.mpr λn=>by simp[eI,val]⟩
  | succ i=>simp at h1
 ·simp at hr;rw[hr];exact lq
 ·simp at hr;subst hr;exact λf hf=>⟨by have:=(bq f hf).2.1;omega,λc hc=>((bq f hf).2.2 c hc).mono (by decide)⟩
 ·simp at hg';subst hg';exact⟨by decide,λc hc=>by simp at hc;subst hc;exact Bd.one (by decide)⟩
theorem D21.qnil (D:D21 w k ys h s gs q)(hg:∀i,i<k->gs.getD i []=[]):∀f∈q,f=[]:=λf hf=>by
 obtain⟨j,hj,rfl⟩:=dq.mp hf;have hjw:j<w:=by rw[←D.qb.1];exact hj
 refine cG (D.qb.2 _ hf).1 cD λn=>?_;have e:q.getD j []=q[j]:=by rw[av,aj hj];rfl
 have:=D.qv j hjw n;rw[e,fX λi hi=>by rw[hg i hi];simp[val]]at this;rw[this];rfl
theorem Sub.few {k:Nat}{S few:List Nat}(hS:Sub k S)(fp:few.Pairwise (· < ·))(fk:∀i∈few,i<S.length):Sub k (few.map λi=>S.getD i 0):=by
 refine⟨List.pairwise_map.mpr (fp.imp_of_mem λ{a b} ha hb hab=>?_),λi hi=>?_⟩
 ·have h1:=fk a ha;have h2:=fk b hb;rw[av,av,aj h1,aj h2];exact jd.mp hS.pw a b h1 h2 hab
 ·obtain⟨t,ht,rfl⟩:=aW.mp hi;exact hS.lt _ (mem_getD (fk t ht))
theorem rn {ys:List (List (List Int))}{h:List Int}{S few:List Nat}(fk:∀i∈few,i<S.length):(few.map λi=>(S.map (V21 ys h)).getD i [])=(few.map λi=>S.getD i 0).map (V21 ys h):=by
 rw[ja];refine jc λi hi=>?_;have:=fk i hi;show (S.map (V21 ys h)).getD i []=V21 ys h (S.getD i 0);rw[av,aA,av,aj this];rfl
theorem EY {n:Nat}{few:List Nat}{ws:List (List Int)}(fp:few.Pairwise (· < ·))(fk:∀i∈few,i<n):∀m,m<=few.length->(∀l (h:l<few.length),l<m->(spw n few ws m)[few[l]]?=some (ws.getD l []))∧(∀i,i<n->i∉few.take m->(spw n few ws m)[i]?=some [])∧(spw n few ws m)[n]?=some (ws.getD few.length [])
 | 0,_=>by
  refine⟨λl h hl=>by omega,λi hi _=>?_,?_⟩
  ·rw[spw,b_ (by simpa using hi),i5,if_pos hi]
  ·rw[spw,dz (by simp),me,jJ];rfl
 | m+1,hm=>by
  obtain⟨h1,h2,h3⟩:=EY (ws:=ws) fp fk m (by omega);have hmf:m<few.length:=by omega
  have ef:few.getD m 0=few[m]:=by rw[av,aj hmf];rfl
  have fm:=fk _ (bH hmf);have ll:=q8 n few ws m;rw[spw,ef];refine⟨λl h hl=>?_,λi hi hn=>?_,?_⟩
  ·by_cases z:l=m
   ·subst z;rw[kr (by omega)]
   ·have:few[l]<few[m]:=jd.mp fp l m h hmf (by omega);rw[i4 (by omega)];exact h1 l h (by omega)
  ·rw[de,aj hmf]at hn;simp only[Option.toList_some,bj,aQ,not_or]at hn;rw[i4 (λz=>hn.2 z.symm)];exact h2 i hi hn.1
  ·rw[i4 (by omega)];exact h3
theorem D21.spread (D:D21 w k ys h s gs q){S few:List Nat}(hS:Sub k S)(hS0:S≠[])(fp:few.Pairwise (· < ·))(fk:∀i∈few,i<S.length)(hg:∀i,i<k->i∉(few.map λi=>S.getD i 0)->gs.getD i []=[]):spw S.length few (b8 gs h (few.map λi=>S.getD i 0)) few.length=b8 gs h S:=by
 have eR:b8 gs h S=(S.map λi=>(gs.getD i []).map λz=>-a8 h*z)++[h.map λz=>a8 h*z]:=by unfold b8;rw[if_neg hS0]
 obtain⟨h1,h2,h3⟩:=EY (n:=S.length) (few:=few) (ws:=b8 gs h (few.map λi=>S.getD i 0)) fp fk few.length (am _);refine Gq λt=>?_;have lm:(S.map λi=>(gs.getD i []).map λz=>-a8 h*z).length=S.length:=ac ..;rcases Nat.lt_trichotomy t S.length with ht|rfl|ht
 ·have hgt:S.getD t 0=S[t]:=by rw[av,aj ht];rfl
  rw[eR,b_ (by omega),aA,aj ht];by_cases z:t∈few
  ·obtain⟨l,hl,rfl⟩:=dq.mp z;rw[h1 l hl hl];have f0:(few.map λi=>S.getD i 0)≠[]:=λy=>by rw[jD.mp y]at hl;simp at hl
   unfold b8;rw[if_neg f0,av,b_ (by simpa using hl),aA,aA,aj hl];show some ((gs.getD (S.getD few[l] 0) []).map _)=some _;rw[hgt]
  ·rw[h2 t ht (by rw[fT];exact z)];have hn:S[t]∉few.map λi=>S.getD i 0:=λy=>by
    obtain⟨x,hx,e⟩:=aW.mp y;have hxl:=fk x hx;rw[av,aj hxl]at e;have e':S[x]=S[t]:=e;have:x=t:=(List.getElem_inj hS.nd).mp e';rw[this]at hx;exact z hx
   show _=some ((gs.getD S[t] []).map _);rw[hg _ (hS.lt _ (bH ht)) hn];rfl
 ·rw[h3,eR,dz (by omega),lm,jJ];show _=some (h.map _);by_cases f0:few=[]
  ·subst f0;have k0:0<k:=bZ (cK.mpr hS0) hS.len;have hg0:gs[0]?=some (gs.getD 0 []):=by rw[av,aj (by rw[D.lg];exact k0)];rfl
   have gv:=D.g0 _ hg0;rw[hg 0 k0 (by simp)]at gv;obtain⟨c,hc⟩:∃c,h=[c]:=by
    have w0:s≠[]:=λz=>by have:=gv 0;rw[z]at this;simp[val]at this
    have e1:pdL s h=[-1]:=cG (bT _ _) (fP (by decide)) λn=>by
     have e2:=gv n;have e3:val n ([]:List Int)=0:=rfl;rw[aH];simp only[val];rw[e3]at e2;grind
    have l:=(gw D.ns D.nh w0 D.h0).1;rw[e1]at l;simp only[rF]at l;have l1:s.length≠0:=λz=>w0 (bK z);have l2:h.length≠0:=λz=>D.h0 (bK z);exact xV.mp (by omega)
   have cc:c=1∨c=-1:=by
    have:=gv 0;rw[hc]at this;have e3:val 0 ([]:List Int)=0:=rfl;have e4:val 0 [c]=c:=by simp[val]
    rw[e3,e4]at this;have h2:=congrArg Int.natAbs (show c*val 0 s=-1 by omega);rw[bV]at h2;have h3:=xT h2;omega
   show some ((b8 gs h []).getD 0 [])=_;have:b8 gs h []=[[1]]:=rfl;rw[this,hc];unfold a8;rcases cc with rfl|rfl <;> rfl
  ·have f1:(few.map λi=>S.getD i 0)≠[]:=λy=>f0 (jD.mp y);unfold b8;rw[if_neg f1,av,dz (by simp)];simp
 ·rw[gz (by rw[q8];omega),gz (by rw[eR,bM,lm];simp;omega)]
theorem D21.th (D:D21 w k ys h s gs q):SpTh w 80 3 (ET w k ys h q) (MG k ys h q) (EU k ys h gs q) where
 b3:=by decide
 k18:=by decide
 st0:=⟨⟨[],⟨List.Pairwise.nil,by simp⟩,.inl rfl⟩,rfl,by simp,by decide,by decide,λi hi=>by simp at hi⟩
 stS:=λRP cs pl p c t hS hV hc hn ht pv=>by
  obtain⟨S,hSub,rfl,hp⟩:=hV;obtain⟨_,hl,hcs,p1,p2,_⟩:=hS;refine⟨?_,by simp[hl],λc' hc'=>?_,by omega,by rw[bM];show _<=97+80*(((S.map (V21 ys h)).length+1:Nat):Int);omega,by rw[bM];exact pv⟩
  ·rcases hp with rfl|⟨j,hj,hjk,rfl⟩
   ·exact⟨S,hSub,.inr rfl⟩
   ·refine⟨S++[j],⟨List.pairwise_append.mpr ⟨hSub.pw,by simp,λa ha b hb=>by rw[aQ.mp hb];exact hj a ha⟩,λi hi=>?_⟩,.inl (by rw[aV];rfl)⟩;rcases bj.mp hi with z|z
    ·exact hSub.lt i z
    ·rw[aQ.mp z];exact hjk
  ·rcases bj.mp hc' with z|z
   ·exact hcs c' z
   ·rw[aQ.mp z];exact hc
 bd:=λRP cs pl p hS hV=>by
  obtain⟨S,hSub,rfl,hp⟩:=hV;have k3:=D.k3;have ls:=hSub.len;obtain⟨lp,bp,_⟩:=D.vbq hSub (p:=p) (hp.imp id λ⟨j,_,a,b⟩=>⟨j,a,b⟩);exact⟨by rw[ac];omega,lp,λf hf=>⟨by have:=(bp f hf).2.1;omega,λc hc=>((bp f hf).2.2 c hc).mono (by decide)⟩⟩
 tb:=λRP cs pl p hS hV=>by
  obtain⟨S,hSub,rfl,hp⟩:=hV;obtain⟨_,hl,hcs,p1,p2,pv⟩:=hS;have k3:=D.k3;have ls:=hSub.len;have B1:=D.vb hSub;obtain⟨lp,bp,_⟩:=D.vbq hSub (p:=p) (hp.imp id λ⟨j,_,a,b⟩=>⟨j,a,b⟩);have b9:=EX p1 p2 (by rw[ac];omega);exact⟨B1.tbd b9 (by decide) (by decide) (by decide) hcs (by omega),pv,B1.low b9 (by decide) hcs (am _) (by omega) pv lp λf hf=>⟨(bp f hf).2.1,(bp f hf).2.2⟩⟩
 hit:=λRP cs pl p c hS hV hc h0=>by
  obtain⟨S,hSub,rfl,hp⟩:=hV;obtain⟨_,hl,hcs,p1,p2,pv⟩:=hS;have k3:=D.k3;have ls:=hSub.len;have kw:=D.kwS hSub;have lS:(S.map (V21 ys h)).length=S.length:=ac ..;obtain⟨lp,bp,B⟩:=D.vbq hSub (p:=p) (hp.imp id λ⟨j,_,a,b⟩=>⟨j,a,b⟩);have b9:=EX p1 p2 (by rw[lS];omega);refine⟨λhm=>h0 ?_,B.tbd b9 (by decide) (by decide) (by decide) (λc' hc'=>?_) (by simp[hl])⟩
  ·rw[xb B.wid kw (by omega) pv,EF hm (by omega)];rfl
  ·rcases bj.mp hc' with z|z
   ·exact hcs c' z
   ·rw[aQ.mp z];exact hc
 oc:=λRP cs pl p hS hV hz=>by
  obtain⟨S,hSub,rfl,hp⟩:=hV;obtain⟨_,hl,hcs,p1,p2,pv⟩:=hS;have lS:(S.map (V21 ys h)).length=S.length:=ac ..;have ls:=hSub.len;have k3:=D.k3;rw[lS]at hl pv p2;have p1:InP pl:=⟨p1,by omega⟩
  rcases hp with rfl|⟨j,hj,hjk,rfl⟩
  ·have hg:=D.facs hSub hl p1 pv hz;by_cases hS0:S=[]
   ·subst hS0;have hc0:cs=[]:=bK (by simpa using hl);subst hc0;exact D.oc0 (D.qnil λi hi=>hg i hi (by simp)) λi hi=>hg i hi (by simp)
   ·obtain⟨gl,Pn,f,qs,p0,t0,o1,o2,o3,o4,o5,o6⟩:=D.oc hSub hS0 hl hcs p1 pv hz;refine⟨gl,Pn,f,qs,p0,t0,o1,o2,o3,o4,o5,λ_=>⟨rfl,S,hSub,rfl,hg,o6⟩,λc hc _ hne=>absurd ?_ hne⟩;rw[lS,o6];exact D.holds hSub hS0 hg hc
  ·exact (D.hitV hSub hl p1 pv hjk (λz=>by have:=hj j z;omega) hz).elim
 sub:=λRP cs pl p few hS hV fp fk fl=>by
  obtain⟨S,hSub,rfl,hp⟩:=hV;have lS:(S.map (V21 ys h)).length=S.length:=ac ..;rw[lS]at fl;have fk':∀i∈few,i<S.length:=λi hi=>by have:=fk i hi;rw[lS]at this;exact this
  have sub1:=hSub.few fp fk';have hp':p=q∨∃j,(∀i∈few.map λi=>S.getD i 0,i<j)∧j<k∧p=V21 ys h j:=by
   rcases hp with z|⟨j,hj,a,b⟩
   ·exact .inl z
   ·refine .inr ⟨j,λi hi=>?_,a,b⟩;obtain⟨t,ht,rfl⟩:=aW.mp hi;exact hj _ (mem_getD (fk' t ht))
  refine⟨⟨_,sub1,rn fk',hp'⟩,λi j hij=>?_⟩
  ·have hi:i<few.length:=(aU.mp hij).1;have hjS:=fk' j (bJ hij);have fkt:∀x∈few.take i,x<S.length:=λx hx=>fk' x (iR hx);have subT:=hSub.few (fp.sublist (List.take_sublist _ _)) fkt;have ej:(S.map (V21 ys h)).getD j []=V21 ys h (S.getD j 0):=by
    rw[av,aA,av,aj hjS];rfl
   have lt:∀x∈(few.take i).map λi=>S.getD i 0,x<S.getD j 0:=λx hx=>by
    obtain⟨t,ht,rfl⟩:=aW.mp hx;have htj:t<j:=by
     obtain⟨l,hl',e⟩:=dq.mp ht;rw[List.getElem_take]at e;have hl2:l<i:=by rw[b6]at hl';omega
     have:=jd.mp fp l i (by omega) hi hl2;have e2:=(aU.mp hij).2;omega
    have h1:=fkt t ht;rw[av,av,aj h1,aj hjS];exact jd.mp hSub.pw t j h1 hjS htj
   have hjk:S.getD j 0<k:=hSub.lt _ (mem_getD hjS);refine⟨⟨_,subT,rn fkt,.inr ⟨S.getD j 0,lt,hjk,ej⟩⟩,λws hR=>?_⟩;obtain⟨e1,S2,hS2,e2,hg2,_⟩:=hR;rw[rn fkt]at e2;have e3:=D.inj subT hS2 e2;rw[ej]at e1;have hjn:S.getD j 0∉S2:=λz=>by rw[←e3]at z;have:=lt _ z;omega
   have hz:=D.ind 97 ⟨by decide,by decide⟩ (λx=>val 97 (gs.getD x [])-if x=S.getD j 0 then val 97 h else 0) (λc hc=>by
    have q1:=D.qv c hc 97;rw[←e1,(D.vec hjk).2.2 c hc 97]at q1;have:az k (λx=>(val 97 (gs.getD x [])-if x=S.getD j 0 then val 97 h else 0)*val 97 ((ys.getD x []).getD c []))=az k (λi=>val 97 (gs.getD i [])*val 97 ((ys.getD i []).getD c []))+az k (λx=>if x=S.getD j 0 then -(val 97 h*val 97 ((ys.getD x []).getD c [])) else 0):=by
     rw[←iF];exact cQ λx _=>by split <;> grind
    rw[this,←q1,km hjk];omega) (S.getD j 0) hjk
   rw[if_pos rfl,hg2 _ hjk hjn]at hz;have e0:val 97 ([]:List Int)=0:=rfl;exact D.hP 97 ⟨by decide,by decide⟩ (by omega)
 len:=λRP p ws hR=>by
  obtain⟨_,S,_,rfl,_,rfl⟩:=hR;unfold b8;rw[ac]
  split
  ·rename_i z;rw[z];rfl
  ·rw[bM,ac];rfl
 up:=λRP cs pl p few ws hS hV fp fk fl hR=>by
  obtain⟨S,hSub,rfl,hp⟩:=hV;have lS:(S.map (V21 ys h)).length=S.length:=ac ..;rw[lS]at fl;have fk':∀i∈few,i<S.length:=λi hi=>by have:=fk i hi;rw[lS]at this;exact this
  have sub1:=hSub.few fp fk';obtain⟨rfl,S2,hS2,e2,hg2,rfl⟩:=hR;rw[rn fk']at e2;have e3:=D.inj sub1 hS2 e2;have hS0:S≠[]:=λz=>by rw[z]at fl;simp at fl
  refine⟨rfl,S,hSub,rfl,λi hi hn=>hg2 i hi λz=>hn ?_,?_⟩
  ·rw[←e3]at z;obtain⟨t,ht,rfl⟩:=aW.mp z;exact mem_getD (fk' t ht)
  ·rw[lS,←e3];rw[←e3]at hg2;refine D.spread hSub hS0 fp fk' hg2
end
def cell (ns:List Int)(k:Nat):Int:=ns.getD k 0
def MH (K:PySem.W.Frag):Sp:=λvs H Q _=>∃(a:Addr) (ns:List Int) (k:Nat),vs=[.ref a,.int (k:Int)]∧SqL K H a (ns.map V.int)∧Q (.int (cell ns k)) H
theorem kq {P:Program}{w:World}{K:PySem.W.Frag}{mg:Str->Option Value}{base:Heap}(T:Tx K mg):FnOk P w K mg base CX0 1 T.PB T.PD ["_law_script","_law_k"] (MH K):=by
 refine T.NL.ok K3 (λvs H Q E h=>?_) (λcdv A outer s H vs Q E hr h=>?_)
 ·obtain⟨a,ns,k,rfl,_⟩:=h;rfl
 obtain⟨a,ns,k,rfl,hS,q⟩:=h;refine⟨_,((ah (bY (aO iT (pv 1) (aG aX rfl T.NF aZ (aa (pv 0) ae)) (aN _)) (ao (aM (aR bL (pv 0) (pv 1) (λ_ _=>rfl)))) b4)
  (ao (aM ai)))),?_⟩
 k_units
 refine⟨_,.inl hS,?_⟩;rw[ac];unfold cell at q;refine bR (λh=>?_) (λh=>?_)
 ·have h':k<ns.length:=by omega
  rw[av,aj h']at q;exact⟨_,hS,_,en h',q⟩
 ·rw[av,gz (by omega)]at q;exact q
structure PolyP (f:List Int):Prop where
 n:Nml f
 l:f.length<=3
 b:∀c∈f,Bd 53 c
 z:∀P:Int,InP P->val P f=0->f=[]
 u:∀P:Int,InP P->∀e:Int,(e=1∨e=-1)->val P f=e->f=[e]
theorem lZ {P:Int}(hP:97<=P):∀ns:List Int,(∀a∈ns,a.natAbs<=4)->val P ns=0->∀a∈ns,a=0
 | [],_,_=>by simp
 | a :: ns,h,hv=>by
  have ha:=h a dw;have e:a+P*val P ns=0:=hv;have t0:val P ns=0:=by
   by_cases z:val P ns=0
   ·exact z
   ·rcases rV z with y|y
    ·have:P*val P ns<=P*(-1):=gL (by omega) (by omega);omega
    ·have:P*1<=P*val P ns:=gL (by omega) (by omega);omega
  have ih:=lZ hP ns (λx hx=>h x (cT _ hx)) t0;rw[t0]at e;intro x hx;rcases a_.mp hx with z|z
  ·rw[z];omega
  ·exact ih x z
theorem MI {P e:Int}(hP:97<=P)(he:e=1∨e=-1):∀ns:List Int,(∀a∈ns,a.natAbs<=4)->val P ns=e->∃rest,ns=e :: rest∧∀a∈rest,a=0
 | [],_,hv=>by simp[val]at hv;omega
 | a :: ns,h,hv=>by
  have ha:=h a dw;have e1:a+P*val P ns=e:=hv;have t0:val P ns=0:=by
   by_cases z:val P ns=0
   ·exact z
   ·rcases rV z with y|y
    ·have:P*val P ns<=P*(-1):=gL (by omega) (by omega);omega
    ·have:P*1<=P*val P ns:=gL (by omega) (by omega);omega
  rw[t0]at e1;exact⟨ns,by rw[show a=e by omega],lZ hP ns (λx hx=>h x (cT _ hx)) t0⟩
theorem xn (n E m:Int):∀ns:List Int,val n (ns.map λa=>a*E+m)=E*val n ns+m*val n (ns.map λ_=>1)
 | []=>by simp[val]
 | a :: ns=>by
  simp only[dy,val];rw[xn n E m ns];grind
theorem EZ {P:Int}(hP:InP P):∀ns:List Int,ns.length<=3->0<=val P (ns.map λ_=>1)∧val P (ns.map λ_=>1)<=176821∧(ns≠[]->1<=val P (ns.map λ_=>1))∧(2<=ns.length->98<=val P (ns.map λ_=>1)):=λns hl=>by
 obtain⟨p1,p2⟩:=hP;have pp:P*P<=420*420:=Int.mul_le_mul p2 p2 (by omega) (by decide);have pp0:0<=P*P:=Int.mul_nonneg (by omega) (by omega)
 match ns,hl with
 | [],_=>simp[val]
 | [a],_=>simp[val]
 | [a,b],_=>simp[val];omega
 | [a,b,c],_=>
  simp only[dy,rH,val,ck,rK];have e:1+P*(1+P*(1+P*0))=1+P+P*P:=by grind
  rw[e];refine⟨by omega,by omega,λ_=>by omega,λ_=>by omega⟩
theorem E3 {xs:List Int}(h:∀z∈xs,z=0):aF xs=[]:=j3 (cC _) λk=>by
 rw[cP];exact cF (P:=λz=>z=0) h rfl k
theorem E4 {E A x:Int}(hE:0<E)(hx:x.natAbs<E.natAbs)(h:E*A+x=0):A=0∧x=0:=by
 have a0:A=0:=by
  by_cases z:A=0
  ·exact z
  ·rcases rV z with y|y
   ·have:E*A<=E*(-1):=gL (by omega) (by omega);omega
   ·have:E*1<=E*A:=gL (by omega) (by omega);omega
 rw[a0]at h;exact⟨a0,by omega⟩
theorem E5 {ns:List Int}{E m:Int}(hl:ns.length<=3)(ha:∀a∈ns,a.natAbs<=4)(hE:(E=1∧m=0)∨(E=10 ^ 15∧m.natAbs<=3)):PolyP (aF (ns.map λa=>a*E+m)):=by
 refine⟨cC _,aP (kZ _) (by rw[ac];exact hl),cW λj=>?_,λP hP hv=>?_,λP hP e he hv=>?_⟩
 ·rw[cP];refine cF (P:=λz=>Bd 53 z) (λz hz=>?_) (Bd.zero _) j;obtain⟨a,ha',rfl⟩:=aW.mp hz;have:=ha a ha';rcases hE with ⟨rfl,rfl⟩|⟨rfl,hm⟩
  ·exact Bd.of_lt (m:=5) (by omega) (by decide)
  ·exact Bd.of_lt (m:=4*10 ^ 15+4) (by omega) (by decide)
 ·rw[eQ,xn]at hv;obtain⟨o1,o2,o3,o4⟩:=EZ hP ns hl;rcases hE with ⟨rfl,rfl⟩|⟨rfl,hm⟩
  ·refine E3 λz hz=>?_;obtain⟨a,ha',rfl⟩:=aW.mp hz;have:=lZ hP.1 ns ha (by omega) a ha';omega
  ·generalize val P (ns.map λ_=>1)=T at hv o1 o2 o3 o4;have mT:(m*T).natAbs<((10:Int) ^ 15).natAbs:=by
    rw[bV];have:m.natAbs*T.natAbs<=3*176821:=eC hm (by omega);exact cZ this (by decide)
   obtain⟨A0,x0⟩:=E4 (by decide) mT hv;have zs:=lZ hP.1 ns ha A0;refine E3 λz hz=>?_;obtain⟨a,ha',rfl⟩:=aW.mp hz;have hne:ns≠[]:=λy=>by rw[y]at ha';simp at ha'
   have T1:=o3 hne;rw[zs a ha'];rcases iN.mp x0 with y|y
   ·rw[y];decide
   ·omega
 ·rw[eQ,xn]at hv;obtain⟨o1,o2,o3,o4⟩:=EZ hP ns hl;have ne:Nml [e]:=fP (by rcases he with rfl|rfl <;> decide);rcases hE with ⟨rfl,rfl⟩|⟨rfl,hm⟩
  ·obtain⟨rest,rfl,hr⟩:=MI hP.1 he ns ha (by omega);refine gj (cC _) ne λk=>?_;rw[cP]
   cases k with
   | zero=>show e*1+0=e;omega
   | succ k=>
    show co (rest.map λa=>a*1+0) k=co [] k;rw[gi];exact cF (P:=λz=>z=0) (λz hz=>by
     obtain⟨a,ha',rfl⟩:=aW.mp hz;rw[hr a ha'];decide) rfl k
  ·generalize hT:val P (ns.map λ_=>1)=T at hv o1 o2 o3 o4;have mT:(m*T-e).natAbs<((10:Int) ^ 15).natAbs:=by
    have:(m*T).natAbs<=3*176821:=by rw[bV];exact eC hm (by omega)
    have h2:(m*T-e).natAbs<=3*176821+1:=by omega
    exact cZ h2 (by decide)
   obtain⟨A0,x0⟩:=E4 (A:=val P ns) (by decide) mT (by omega);have zs:=lZ hP.1 ns ha A0;have m1:1<=m.natAbs:=by
    refine iQ λy=>?_;have:m=0:=by omega
    rw[this]at x0;omega
   have T2:¬98<=T:=λy=>by
    have:m.natAbs*98<=m.natAbs*T.natAbs:=fh _ (by omega);rw[←bV]at this;omega
   match ns,hl,hT with
   | [],_,hT=>simp[val]at hT;rw[←hT]at x0;omega
   | [a],_,hT=>
    have:T=1:=by rw[←hT];simp[val]
    rw[this]at x0;have a0:=zs a (by simp);rw[a0];show aF [0*10 ^ 15+m]=[e]
    have:(0*10 ^ 15+m:Int)=e:=by omega
    rw[this];exact qB ne
   | a :: b :: r,_,_=>exact absurd (o4 (by simp)) T2
theorem MJ {c:Int}(h:c=1∨c=-2):PolyP [c]∧[c]≠[]:=by
 refine⟨⟨fP (by omega),by simp,λz hz=>by rw[aQ.mp hz];exact Bd.of_lt (m:=3) (by omega) (by decide),λP _ hv=>?_,λP _ e he hv=>?_⟩,by simp⟩
 ·simp[val]at hv;omega
 ·simp[val]at hv;rw[hv]
theorem xo {xs:List Int}(h:xs≠[])(h0:xs.getLast h=0):aF xs.dropLast=aF xs:=by
 have e:=List.dropLast_concat_getLast h;rw[h0]at e
 conv=>rhs;rw[←e]
 rw[wg]
def E6 (K:PySem.W.Frag):Sp:=λvs H Q _=>∃(a b:Addr) (xs ys:List Int) (k l:Nat),vs=[.ref a,.ref b]∧SqL K H a (xs.map V.int)∧SqL K H b (ys.map V.int)∧xs.length<=40∧ys.length<=40∧(∀x∈xs,Bd k x)∧(∀y∈ys,Bd l y)∧k+l<=1000∧
 ∀ws:List Int,Nml ws->ws.length<=xs.length+ys.length->(∀j,co ws j=pm (co xs) (co ys) j)->dE H Q (ws.map V.int)
theorem l6 {P:Program}{w:World}{K:PySem.W.Frag}{mg:Str->Option Value}{base:Heap}(T:Tx K mg):FnOk P w K mg base CX0 2 T.PN T.PP ["_law_one","_law_other"] (E6 K):=by
 refine T.NS.ok sc__law_product (λvs H Q E h=>?_) (λcdv A outer s H vs Q E hr h=>?_)
 ·obtain⟨a,b,xs,ys,k0,l0,rfl,_⟩:=h;rfl
 obtain⟨a,b,xs,ys,k0,l0,rfl,hA,hB,la,lb,ba,bb,hkl,q⟩:=h;refine⟨_,((ah (ax (i:=2) sc__law_product.nd rfl (Or.inl rfl) (ak jk (bU (aa ai ae)) (ak ci (aG aX rfl T.NF aZ (aa (pv 0) ae)) (aG aX rfl T.NF aZ (aa (pv 1) ae)))))
  (ah (cy PassesOwn.never rfl (fo rfl T.NI (aa (aG aX rfl T.NF aZ (aa (pv 0) ae)) ae)) (bN (i:=3) sc__law_product.nd rfl (Or.inl rfl)) (ao (cy PassesOwn.never rfl (fo rfl T.NI (aa (aG aX rfl T.NF aZ (aa (pv 1) ae)) ae)) (bN (i:=4) sc__law_product.nd rfl (Or.inl rfl)) (ao (iA (ak ci (aR bL (pv 2) (ak ci (pv 3) (pv 4)) (λ_ _=>rfl)) (ak eJ (aR bL (pv 0) (pv 3) (λ_ _=>rfl)) (aR bL (pv 1) (pv 4) (λ_ _=>rfl)))) (iz (pv 2) (ak ci (pv 3) (pv 4)) ge))))))
  (ah (ga PassesOwn.never (PW.pt (jR (aO gT (aG aX rfl T.NF aZ (aa (pv 2) ae)) ai (aN _)) (jP (aO e9 (aR bL (pv 2) (d8 d9 ai) (λ_ _=>rfl)) ai (aN _))))) (ao (e7 (kP PySem.F.plainAttrs_list PySem.F.slot_list_pop PySem.F.type_list_pop vL (pv 2)))))
  (ao (aM (pv 2))))))),?_⟩
 k_units
 refine⟨by decide,λp hp=>?_⟩;have s1:=aw hp (.lst [V.int 0]);refine⟨_,.inl (s1.seq hA),_,.inl (s1.seq hB),_,ag,?_⟩;rw[ac,ac,lI];obtain⟨k,hk⟩:∃k:Nat,(xs.length:Int)+(ys.length:Int)=(k:Int):=⟨xs.length+ys.length,by omega⟩
 have hk1:k=xs.length+ys.length:=by omega
 rw[hk,dU];refine⟨by omega,by omega,b5 (bC (by simp;omega)),λF hF=>?_⟩;have s4:=s1.trans (aw hF (.lst ((aL k (0:Int)).map V.int)));have f0:=s1.free hF;have h4:upd (upd H p (.lst [V.int 0])) F (.lst ((aL k (0:Int)).map V.int)) F=_:=ag;generalize upd (upd H p (.lst [V.int 0])) F (.lst ((aL k (0:Int)).map V.int))=H4 at s4 h4 ⊢;refine⟨_,.inl (s4.seq hA),?_⟩;rw[ac,dU];refine⟨by omega,by omega,?_⟩;obtain⟨Pv,hPv⟩:∃Pv:Nat->L2.St->Hp->Prop,∀l σ H',Pv l σ H'↔∃(zs:List Int) (r1 r2:Option V),σ=[some (V.ref a),some (V.ref b),some (V.ref F),r1,r2]∧H' F=some (.lst (zs.map V.int))∧zs.length=k∧
  (∀j,co zs j=cv xs ys l j)∧Same H H':=⟨_,λ_ _ _=>Iff.rfl⟩
 refine gE Pv ((hPv _ _ _).mpr ⟨_,none,none,rfl,h4,by simp,λj=>by rw[wI];rfl,s4⟩) ?_ ?_
 ·intro l σ H' hi hp';obtain⟨zs,r1,r2,rfl,hz,lz,cz',sz⟩:=(hPv _ _ _).mp hp';have e1:(0:Int)+(l:Int)=(l:Int):=f_ _
  (iterate 3 (k_units;(try simp only[e1]));k_units)
  refine⟨_,.inl (sz.seq hB),?_⟩;rw[ac,dU];refine⟨by omega,by omega,?_⟩;obtain⟨Pw,hPw⟩:∃Pw:Nat->L2.St->Hp->Prop,∀j σ H',Pw j σ H'↔∃(zs:List Int) (r2:Option V),σ=[some (V.ref a),some (V.ref b),some (V.ref F),some (V.int l),r2]∧H' F=some (.lst (zs.map V.int))∧zs.length=k∧
   (∀t,co zs t=cv xs ys l t+if l<=t∧t<l+j then xs[l]*co ys (t-l) else 0)∧Same H H':=⟨_,λ_ _ _=>Iff.rfl⟩
  refine gE Pw ((hPw _ _ _).mpr ⟨zs,_,rfl,hz,lz,λt=>by rw[cz' t,if_neg (show ¬(l<=t∧t<l+0) by omega)];omega,sz⟩) ?_ ?_
  ·intro j σ H' hj hp';obtain⟨zs,r2,rfl,hz,lz,cz',sz⟩:=(hPw _ _ _).mp hp';have e2:(0:Int)+(j:Int)=(j:Int):=f_ _;have eij:(l:Int)+(j:Int)=((l+j:Nat):Int):=rfl
   (iterate 3 (k_units;(try simp only[e2,eij]));k_units)
   have hiz:l+j<zs.length:=by omega
   refine⟨_,SqL.of hz,_,en hiz,_,sz.seq hA,_,en hi,_,sz.seq hB,_,en hj,?_⟩
   k_units
   refine⟨(ba _ (bH hi)).fits (bb _ (bH hj)) (by omega),_,hz,l+j,gF (by rw[ac];exact hiz),(hPw _ _ _).mpr ⟨zs.set (l+j) (zs[l+j]+xs[l]*ys[j]),_,rfl,by rw[ag,map_set],by rw[ik];exact lz,λt=>?_,sz.more f0⟩⟩;rw[iX _ _ _ _ hiz];by_cases e:t=l+j
   ·subst e;have:=cz' (l+j);rw[if_neg (show ¬(l<=l+j∧l+j<l+j) by omega),aE hiz]at this;rw[if_pos (show l+j=l+j from rfl),if_pos (show l<=l+j∧l+j<l+(j+1) by omega),show l+j-l=j by omega,aE hj];omega
   ·rw[if_neg e,cz' t];by_cases h3:l<=t∧t<l+j
    ·rw[if_pos h3,if_pos (show l<=t∧t<l+(j+1) by omega)]
    ·rw[if_neg h3,if_neg (show ¬(l<=t∧t<l+(j+1)) by omega)]
  ·intro σ H' hp';obtain⟨zs,r2,rfl,hz,lz,cz',sz⟩:=(hPw _ _ _).mp hp';refine (hPv _ _ _).mpr ⟨zs,_,_,rfl,hz,lz,λt=>?_,sz⟩;rw[cz' t];have e:cv xs ys (l+1) t=cv xs ys l t+co xs l*cz ys t l:=rfl;rw[e,aE hi];unfold cz;by_cases h2:l<=t
   ·rw[if_pos h2];by_cases h3:t<l+ys.length
    ·rw[if_pos ⟨h2,h3⟩]
    ·rw[if_neg (by omega),ay (xs:=ys) (by omega),c_]
   ·rw[if_neg (by omega),if_neg h2,c_]
 ·intro σ H' hp';obtain⟨zs,r1,r2,rfl,hz,lz,cz',sz⟩:=(hPv _ _ _).mp hp'
  k_units
  obtain⟨Pu,hPu⟩:∃Pu:Nat->L2.St->Hp->Prop,∀m σ Hx,Pu m σ Hx↔∃ys:List Int,ys.length=m∧σ=[some (V.ref a),some (V.ref b),some (V.ref F),r1,r2]∧Hx F=some (.lst (ys.map V.int))∧aF ys=aF zs∧Same H Hx:=⟨_,λ_ _ _=>Iff.rfl⟩
  refine gg Pu zs.length ((hPu _ _ _).mpr ⟨zs,rfl,rfl,hz,rfl,sz⟩) ?_;intro m σ Hx hu;obtain⟨ys',hm,rfl,hy,he,sy⟩:=(hPu _ _ _).mp hu
  k_units
  refine⟨_,.inl (SqL.of hy),?_⟩;rw[ac];have fin:Nml ys'->Q (.ref F) Hx:=λhn=>by
   have e:ys'=aF zs:=by rw[←he,qB hn]
   refine q ys' hn ?_ (λj=>?_) F _ sy f0 hy
   ·rw[e];exact aP (kZ _) (by omega)
   ·rw[e,cP,cz' j,wL]
  refine bR (λh=>?_) (λh=>?_)
  ·have hne:ys'≠[]:=by intro z;rw[z]at h;simp at h
   refine⟨_,SqL.of hy,_,jo hne,?_⟩
   k_units
   refine bR (λh0=>?_) (λh0=>?_)
   ·refine⟨λσ' H1=>σ'=[some (V.ref a),some (V.ref b),some (V.ref F),r1,r2]∧H1=upd Hx F (.lst (ys'.dropLast.map V.int)),?_,fV (SqL.of hy),_,hy,V.int (ys'.getLast hne),?_,rfl,?_⟩
    ·rintro σ' H1 ⟨rfl,rfl⟩
     exact⟨ys'.length-1,by have:=cK.mpr hne;omega,(hPu _ _ _).mpr ⟨ys'.dropLast,xx,rfl,ag,by rw[xo hne h0];exact he,sy.more f0⟩⟩
    ·rw[aA,ac,←i6,i7 hne];rfl
    ·rw[←Gr]
   ·refine fin (fB.mpr λx hx=>?_);rw[i7 hne]at hx;rw[←Option.some.inj hx];exact h0
  ·have hn:ys'=[]:=bK (by omega);exact fin (by rw[hn];exact cD)
def MK (K:PySem.W.Frag):Sp:=λvs H Q _=>∃(a b:Addr) (xs ys:List Int),vs=[.ref a,.ref b]∧SqL K H a (xs.map V.int)∧SqL K H b (ys.map V.int)∧xs.length<=40∧ys.length<=40∧
 ∀ws:List Int,Nml ws->ws.length<=40->(∀j,co ws j=co xs j+co ys j)->dE H Q (ws.map V.int)
theorem E7 {P:Program}{w:World}{K:PySem.W.Frag}{mg:Str->Option Value}{base:Heap}(T:Tx K mg):FnOk P w K mg base CX0 2 T.PQ T.PR ["_law_one","_law_other"] (MK K):=by
 refine T.PU.ok sc__law_sum (λvs H Q E h=>?_) (λcdv A outer s H vs Q E hr h=>?_)
 ·obtain⟨a,b,xs,ys,rfl,_⟩:=h;rfl
 obtain⟨a,b,xs,ys,rfl,hA,hB,la,lb,q⟩:=h;refine⟨_,((ah (ax (i:=2) sc__law_sum.nd rfl (Or.inl rfl) (ak jk (bU (aa ai ae)) (aG (mW rfl) rfl T.NU jX (aa (aG aX rfl T.NF aZ (aa (pv 0) ae)) (aa (aG aX rfl T.NF aZ (aa (pv 1) ae)) ae)))))
  (ah (cy PassesOwn.never rfl (fo rfl T.NI (aa (aG aX rfl T.NF aZ (aa (pv 0) ae)) ae)) (bN (i:=3) sc__law_sum.nd rfl (Or.inl rfl)) (ao (iA (aR bL (pv 0) (pv 3) (λ_ _=>rfl)) (iz (pv 2) (pv 3) ge))))
  (ah (cy PassesOwn.never rfl (fo rfl T.NI (aa (aG aX rfl T.NF aZ (aa (pv 1) ae)) ae)) (bN (i:=3) sc__law_sum.nd rfl (Or.inl rfl)) (ao (iA (ak ci (aR bL (pv 2) (pv 3) (λ_ _=>rfl)) (aR bL (pv 1) (pv 3) (λ_ _=>rfl))) (iz (pv 2) (pv 3) ge))))
  (ah (ga PassesOwn.never (PW.pt (jR (aO gT (aG aX rfl T.NF aZ (aa (pv 2) ae)) ai (aN _)) (jP (aO e9 (aR bL (pv 2) (d8 d9 ai) (λ_ _=>rfl)) ai (aN _))))) (ao (e7 (kP PySem.F.plainAttrs_list PySem.F.slot_list_pop PySem.F.type_list_pop vL (pv 2)))))
  (ao (aM (pv 2)))))))),?_⟩
 k_units
 refine⟨by decide,λp hp=>?_⟩;have s1:=aw hp (.lst [V.int 0]);refine⟨_,.inl (s1.seq hA),_,.inl (s1.seq hB),_,ag,?_⟩;rw[ac,ac,lI];obtain⟨k,hk⟩:∃k:Nat,(if (ys.length:Int) > (xs.length:Int) then (ys.length:Int) else (xs.length:Int))=(k:Int):=⟨max xs.length ys.length,by split <;> omega⟩
 have hk1:xs.length<=k∧ys.length<=k∧k<=40:=by split at hk <;> omega
 obtain⟨k1,k2,k3⟩:=hk1;rw[hk,dU];refine⟨by omega,by omega,b5 (bC (by simp;omega)),λF hF=>?_⟩;have s4:=s1.trans (aw hF (.lst ((aL k (0:Int)).map V.int)));have f0:=s1.free hF;have h4:upd (upd H p (.lst [V.int 0])) F (.lst ((aL k (0:Int)).map V.int)) F=_:=ag;generalize upd (upd H p (.lst [V.int 0])) F (.lst ((aL k (0:Int)).map V.int))=H4 at s4 h4 ⊢;refine⟨_,.inl (s4.seq hA),?_⟩;rw[ac,dU];refine⟨by omega,by omega,?_⟩;obtain⟨Pv,hPv⟩:∃Pv:Nat->L2.St->Hp->Prop,∀l σ H',Pv l σ H'↔∃(zs:List Int) (r1:Option V),σ=[some (V.ref a),some (V.ref b),some (V.ref F),r1]∧H' F=some (.lst (zs.map V.int))∧zs.length=k∧(∀j,co zs j=if j<l then co xs j else 0)∧Same H H':=⟨_,λ_ _ _=>Iff.rfl⟩
 refine gE Pv ((hPv _ _ _).mpr ⟨_,none,rfl,h4,by simp,λj=>by rw[wI,if_neg (by omega)],s4⟩) ?_ ?_
 ·intro j σ H' hj hp';obtain⟨zs,r1,rfl,hz,lz,cz',sz⟩:=(hPv _ _ _).mp hp';have e2:(0:Int)+(j:Int)=(j:Int):=f_ _
  (iterate 3 (k_units;(try simp only[e2]));k_units)
  have hiz:j<zs.length:=by omega
  refine⟨_,sz.seq hA,_,en hj,_,hz,j,gF (by rw[ac];exact hiz),(hPv _ _ _).mpr ⟨zs.set j xs[j],_,rfl,by rw[ag,map_set],by rw[ik];exact lz,λt=>?_,sz.more f0⟩⟩;rw[iX _ _ _ _ hiz];by_cases e:t=j
  ·subst e;rw[if_pos rfl,if_pos (by omega),aE hj]
  ·rw[if_neg e,cz' t];by_cases h3:t<j
   ·rw[if_pos h3,if_pos (by omega)]
   ·rw[if_neg h3,if_neg (by omega)]
 ·intro σ H' hp';obtain⟨zs,r1,rfl,hz,lz,cz',sz⟩:=(hPv _ _ _).mp hp'
  k_units
  refine⟨_,.inl (sz.seq hB),?_⟩;rw[ac,dU];refine⟨by omega,by omega,?_⟩;obtain⟨Pw,hPw⟩:∃Pw:Nat->L2.St->Hp->Prop,∀l σ H',Pw l σ H'↔∃(zs:List Int) (r1:Option V),σ=[some (V.ref a),some (V.ref b),some (V.ref F),r1]∧H' F=some (.lst (zs.map V.int))∧zs.length=k∧(∀j,co zs j=co xs j+if j<l then co ys j else 0)∧Same H H':=⟨_,λ_ _ _=>Iff.rfl⟩
  refine gE Pw ((hPw _ _ _).mpr ⟨zs,_,rfl,hz,lz,λt=>?_,sz⟩) ?_ ?_
  ·rw[cz' t,if_neg (show ¬t<0 by omega)];by_cases h3:t<xs.length
   ·rw[if_pos h3];omega
   ·rw[if_neg h3,ay (xs:=xs) (by omega)];rfl
  ·intro j σ H' hj hp';obtain⟨zs,r1,rfl,hz,lz,cz',sz⟩:=(hPw _ _ _).mp hp';have e2:(0:Int)+(j:Int)=(j:Int):=f_ _
   (iterate 3 (k_units;(try simp only[e2]));k_units)
   have hiz:j<zs.length:=by omega
   refine⟨_,SqL.of hz,_,en hiz,_,sz.seq hB,_,en hj,?_⟩
   k_units
   refine⟨_,hz,j,gF (by rw[ac];exact hiz),(hPw _ _ _).mpr ⟨zs.set j (zs[j]+ys[j]),_,rfl,by rw[ag,map_set],by rw[ik];exact lz,λt=>?_,sz.more f0⟩⟩;rw[iX _ _ _ _ hiz];by_cases e:t=j
   ·subst e;have:=cz' t;rw[if_neg (by omega),aE hiz]at this;rw[if_pos rfl,if_pos (by omega),aE hj];omega
   ·rw[if_neg e,cz' t];by_cases h3:t<j
    ·rw[if_pos h3,if_pos (by omega)]
    ·rw[if_neg h3,if_neg (by omega)]
  ·intro σ H' hp';obtain⟨zs,r1,rfl,hz,lz,cz',sz⟩:=(hPw _ _ _).mp hp'
   k_units
   obtain⟨Pu,hPu⟩:∃Pu:Nat->L2.St->Hp->Prop,∀m σ Hx,Pu m σ Hx↔∃ys:List Int,ys.length=m∧σ=[some (V.ref a),some (V.ref b),some (V.ref F),r1]∧Hx F=some (.lst (ys.map V.int))∧aF ys=aF zs∧Same H Hx:=⟨_,λ_ _ _=>Iff.rfl⟩
   refine gg Pu zs.length ((hPu _ _ _).mpr ⟨zs,rfl,rfl,hz,rfl,sz⟩) ?_;intro m σ Hx hu;obtain⟨ys',hm,rfl,hy,he,sy⟩:=(hPu _ _ _).mp hu
   k_units
   refine⟨_,.inl (SqL.of hy),?_⟩;rw[ac];have fin:Nml ys'->Q (.ref F) Hx:=λhn=>by
    have e:ys'=aF zs:=by rw[←he,qB hn]
    refine q ys' hn ?_ (λj=>?_) F _ sy f0 hy
    ·rw[e];exact aP (kZ _) (by omega)
    ·rw[e,cP,cz' j];by_cases h3:j<ys.length
     ·rw[if_pos h3]
     ·rw[if_neg h3,ay (xs:=ys) (by omega)]
   refine bR (λh=>?_) (λh=>?_)
   ·have hne:ys'≠[]:=by intro z;rw[z]at h;simp at h
    refine⟨_,SqL.of hy,_,jo hne,?_⟩
    k_units
    refine bR (λh0=>?_) (λh0=>?_)
    ·refine⟨λσ' H1=>σ'=[some (V.ref a),some (V.ref b),some (V.ref F),r1]∧H1=upd Hx F (.lst (ys'.dropLast.map V.int)),?_,fV (SqL.of hy),_,hy,V.int (ys'.getLast hne),?_,rfl,?_⟩
     ·rintro σ' H1 ⟨rfl,rfl⟩
      exact⟨ys'.length-1,by have:=cK.mpr hne;omega,(hPu _ _ _).mpr ⟨ys'.dropLast,xx,rfl,ag,by rw[xo hne h0];exact he,sy.more f0⟩⟩
     ·rw[aA,ac,←i6,i7 hne];rfl
     ·rw[←Gr]
    ·refine fin (fB.mpr λx hx=>?_);rw[i7 hne]at hx;rw[←Option.some.inj hx];exact h0
   ·have hn:ys'=[]:=bK (by omega);exact fin (by rw[hn];exact cD)
def ML (K:PySem.W.Frag):Sp:=λvs H Q _=>∃(a b:Addr) (as bs:List Addr) (ds:List (List Int)),vs=[.ref a,.ref b]∧H a=some (.lst (as.map V.ref))∧LH H as ds∧SqL K H b (bs.map V.ref)∧LL K H bs ds∧ds.length<=900∧(∀d∈ds,d.length<=900)∧∀H',Same H H'->Q (.bl true) H'
theorem E8 {P:Program}{w:World}{K:PySem.W.Frag}{mg:Str->Option Value}{base:Heap}(T:Tx K mg):FnOk P w K mg base CX0 1 T.P0 T.P1 ["_law_found","_law_due"] (ML K):=by
 refine T.P2.ok sc__law_is (λvs H Q E h=>?_) (λcdv A outer s H vs Q E hr h=>?_)
 ·obtain⟨a,b,as,bs,ds,rfl,_⟩:=h;rfl
 obtain⟨a,b,as,bs,ds,rfl,hA,la,hB,lb,l1,l2,q⟩:=h;refine⟨_,((ah (bY (PW.pt (jf (mQ (jO (aG m8 rfl T.On o_ (aa (pv 0) (aa (mO (v:=.ty "list") rfl T.NK iC rfl) ae))))) (jQ (aO iS (aG aX rfl T.NF aZ (aa (pv 0) ae)) (aG aX rfl T.NF aZ (aa (pv 1) ae)) (aN _))))) (ao (aM jN)) b4)
  (ah (cy PassesOwn.never rfl (jp rfl T.NO (aa (pv 0) (aa (pv 1) ae))) (gS rfl (dZ (bN (i:=2) sc__law_is.nd rfl (Or.inl rfl)) (dZ (bN (i:=3) sc__law_is.nd rfl (Or.inl rfl)) gQ))) (ah (bY (PW.pt (jf (mQ (jO (aG m8 rfl T.On o_ (aa (pv 2) (aa (mO (v:=.ty "list") rfl T.NK iC rfl) ae))))) (jQ (aO iS (aG aX rfl T.NF aZ (aa (pv 2) ae)) (aG aX rfl T.NF aZ (aa (pv 3) ae)) (aN _))))) (ao (aM jN)) b4)
  (ao (cy PassesOwn.never rfl (fo rfl T.NI (aa (aG aX rfl T.NF aZ (aa (pv 3) ae)) ae)) (bN (i:=4) sc__law_is.nd rfl (Or.inl rfl)) (ao (bY (PW.pt (jf (mQ (jO (aG m8 rfl T.On o_ (aa (aR bL (pv 2) (pv 4) (λ_ _=>rfl)) (aa (mO (v:=.ty "int") rfl T.Q3 CG rfl) ae))))) (jf (jO (aG m8 rfl T.On o_ (aa (aR bL (pv 2) (pv 4) (λ_ _=>rfl)) (aa (mO (v:=.ty "bool") rfl T.RK Ja rfl) ae)))) (jQ (aO iS (aR bL (pv 2) (pv 4) (λ_ _=>rfl)) (aR bL (pv 3) (pv 4) (λ_ _=>rfl)) (aN _)))))) (ao (aM jN)) b4))))))
  (ao (aM jN))))),?_⟩
 k_units
 refine⟨_,.lst hA,true,rfl,?_⟩;rw[if_neg (by decide)];refine⟨_,.inl (SqL.of hA),_,.inl hB,?_⟩;have e1:=la.len;have e2:=lb.len;rw[ac,ac,e1,e2,if_neg (by simp)];refine⟨_,SqL.of hA,_,hB,?_⟩;obtain⟨Pv,hPv⟩:∃Pv:Nat->L2.St->Hp->Prop,∀i σ H',Pv i σ H'↔∃r2 r3 r4:Option V,σ=[some (V.ref a),some (V.ref b),r2,r3,r4]∧Same H H':=⟨_,λ_ _ _=>Iff.rfl⟩
 refine kX (xs:=as.map V.ref) (ys:=bs.map V.ref) Pv ((hPv _ _ _).mpr ⟨none,none,none,rfl,Same.refl _⟩) (λi σ H' _ _ z=>by obtain⟨_,_,_,_,z⟩:=(hPv i σ H').mp z;exact⟨SqL.of (z _ _ hA),z.seq hB⟩) ?_ ?_
 ·intro i v1 v2 p σ H' hv1 hv2 hp np;obtain⟨r2,r3,r4,rfl,sP⟩:=(hPv _ _ _).mp hp;obtain⟨a1,d,rfl,ha1,hd1,_⟩:=(la.ll (K:=K)).nth hv1;have ea:=la.get i a1 d ha1 hd1;obtain⟨b1,d',rfl,hb1,hd2,hB1⟩:=lb.nth hv2;obtain rfl:d'=d:=by rw[hd1]at hd2;exact (Option.some.inj hd2).symm
  have ld:=l2 d' (bJ hd1);have u1:=sP.trans (aw np (.tup [V.ref a1,V.ref b1]))
  k_units
  refine⟨_,SqT.of ag,rfl,?_⟩
  k_units
  have ea1:=u1 _ _ ea;have eb1:=u1.seq hB1;generalize upd H' p (.tup [V.ref a1,V.ref b1])=G at u1 ea1 eb1 ⊢;refine⟨_,.lst ea1,true,rfl,?_⟩;rw[if_neg (by decide)];refine⟨_,.inl (SqL.of ea1),_,.inl eb1,?_⟩;rw[if_neg (by simp)];refine⟨_,.inl eb1,by rw[ac];omega,by rw[ac];omega,?_⟩;rw[ac,dU];refine gE (λi σ H'=>(∃r,σ=[some (V.ref a),some (V.ref b),some (V.ref a1),some (V.ref b1),r])∧H'=G) ⟨⟨_,rfl⟩,rfl⟩ ?_ ?_
  ·rintro j σ H2 hj ⟨⟨r,rfl⟩,rfl⟩
   have e0:(0:Int)+(j:Int)=(j:Int):=f_ _
   (iterate 3 (k_units;(try simp only[e0]));k_units)
   refine⟨_,SqL.of ea1,_,en hj,_,.int _,true,rfl,?_⟩;rw[if_neg (by decide)];refine⟨_,SqL.of ea1,_,en hj,_,.int _,false,rfl,?_⟩;rw[if_neg (by decide)];refine⟨_,SqL.of ea1,_,en hj,_,eb1,_,en hj,?_⟩
   k_units
   rw[if_neg (by simp)];exact⟨_,rfl⟩
  ·rintro σ H2 ⟨⟨r,rfl⟩,rfl⟩
   exact (hPv _ _ _).mpr ⟨_,_,_,rfl,u1⟩
 ·intro σ H' hp;obtain⟨r2,r3,r4,rfl,sP⟩:=(hPv _ _ _).mp hp
  k_units
  exact q _ sP
def MM (K:PySem.W.Frag):Sp:=λvs H Q _=>∃c:Int,vs=[.int c]∧∀f:List Int,PolyP f->dE H Q (f.map V.int)
theorem rp {P:Program}{w:World}{K:PySem.W.Frag}{mg:Str->Option Value}{base:Heap}(T:Tx K mg):FnOk P w K mg base CX0 1 T.PF T.PH ["_law_cell"] (MM K):=by
 refine T.NX.ok sc__law_poly (λvs H Q E h=>?_) (λcdv A outer s H vs Q E hr h=>?_)
 ·obtain⟨c,rfl,_⟩:=h;rfl
 obtain⟨c,rfl,q⟩:=h;refine⟨_,((ah (ax (i:=1) sc__law_poly.nd rfl (Or.inl rfl) (bU ae))
  (ah (ax (i:=2) sc__law_poly.nd rfl (Or.inl rfl) (ak fK (ak ji (pv 0) ai) ai))
  (ah (cy PassesOwn.never rfl (fo rfl T.NI (aa (ak fK (pv 0) ai) ae)) (bN (i:=3) sc__law_poly.nd rfl (Or.inl rfl)) (ah (ax (i:=4) sc__law_poly.nd rfl (Or.inl rfl) (ak dg (ak fK (ak jn (ak ci (ak iB (ak eJ (pv 2) (pv 2)) ai) (ak iB ai (pv 2))) (ak ci ai (ak iB ai (pv 3)))) ai) ai))
  (iD (bY (aO e9 (ak fK (ak ji (pv 0) ai) ai) ai (aN _)) (ao (ax (i:=4) sc__law_poly.nd rfl (Or.inl rfl) (ak dg (ak ci (ak iB (pv 4) (ak Ii ai ai)) (ak fK (ak ji (pv 0) ai) ai)) ai))) b4)
  (ao (e7 (gD PySem.F.plainAttrs_list PySem.F.slot_list_append PySem.F.type_list_append fM (pv 1) (aa (pv 4) ae)))))))
  (ah (ga PassesOwn.never (PW.pt (jR (aO gT (aG aX rfl T.NF aZ (aa (pv 1) ae)) ai (aN _)) (jP (aO e9 (aR bL (pv 1) (d8 d9 ai) (λ_ _=>rfl)) ai (aN _))))) (ao (e7 (kP PySem.F.plainAttrs_list PySem.F.slot_list_pop PySem.F.type_list_pop vL (pv 1)))))
  (ao (aM (pv 1)))))))),?_⟩
 dsimp only[aC]
 k_typeOf
 refine⟨aI _,λD nD=>?_⟩;have u1:=aw nD (.lst []);have e1:=ag (H:=H) (a:=D) (o:=.lst []);generalize L2.upd H D (.lst [])=H1 at u1 e1 ⊢;dsimp only[aC]
 k_typeOf
 refine⟨⟨by decide,by decide⟩,by decide,?_⟩;obtain⟨m,hm,bm⟩:∃m:Int,c / 4 % 1000003=m∧Bd 20 m:=⟨_,rfl,Bd.of_lt (m:=1000003) (by omega) (by decide)⟩
 rw[hm];dsimp only[aC]
 k_typeOf
 refine⟨by decide,by omega,by omega,?_⟩;obtain⟨n,hn,hn3⟩:∃n:Nat,(c % 4).toNat=n∧n<=3:=⟨_,rfl,by omega⟩
 rw[hn];obtain⟨E0,m0,hE,hE2⟩:∃E0 m0:Int,((E0=1∧m0=0)∨(E0=10 ^ 15∧m0.natAbs<=3))∧((c / 4 % 5=2∧E0=10 ^ 15∧m0=c / 20 % 7-3)∨(¬c / 4 % 5=2∧E0=1∧m0=0)):=by
  by_cases z:c / 4 % 5=2
  ·exact⟨10 ^ 15,c / 20 % 7-3,.inr ⟨rfl,by omega⟩,.inl ⟨z,rfl,rfl⟩⟩
  ·exact⟨1,0,.inl ⟨rfl,rfl⟩,.inr ⟨z,rfl,rfl⟩⟩
 obtain⟨Pv,hPv⟩:∃Pv:Nat->L2.St->Hp->Prop,∀i σ H',Pv i σ H'↔∃(ns:List Int) (r3 r4:Option V),σ=[some (V.int c),some (V.ref D),some (V.int m),r3,r4]∧ns.length=i∧(∀a∈ns,a.natAbs<=4)∧H' D=some (.lst ((ns.map λa=>a*E0+m0).map V.int))∧Same H H':=⟨_,λ_ _ _=>Iff.rfl⟩
 refine gE Pv ((hPv _ _ _).mpr ⟨[],none,none,rfl,rfl,by simp,e1,u1⟩) ?_ ?_
 ·intro i σ H2 hi hp;obtain⟨ns,r3,r4,rfl,ln,bn,eD,s2⟩:=(hPv _ _ _).mp hp;have e0:(0:Int)+(i:Int)=(i:Int):=f_ _
  (iterate 3 (k_units;(try simp only[e0]));k_units)
  refine⟨bm.fits bm (by decide),.inr ⟨by decide,by decide⟩,.inl ⟨by decide,by decide⟩,.inl ⟨by decide,by decide⟩,by omega,?_,by decide,?_⟩
  ·exact bZ (show (11+6*(i:Int)).natAbs<2 ^ 9 by omega) (fE (by decide) (by decide))
  obtain⟨a,ha,ba⟩:∃a:Int,(m*m*48271+7907*m).fdiv (11+6*(i:Int)) % 9-4=a∧a.natAbs<=4:=by
   generalize (m*m*48271+7907*m).fdiv (11+6*(i:Int))=g;exact⟨_,rfl,by omega⟩
  rw[ha];obtain⟨M,hM⟩:∃M:L2.St->Hp->Prop,∀σ Hx,M σ Hx↔σ=[some (V.int c),some (V.ref D),some (V.int m),some (V.int (i:Int)),some (V.int (a*E0+m0))]∧Hx=H2:=⟨_,λ_ _=>Iff.rfl⟩
  refine gY M ?_ ?_
  ·k_units
   rcases hE2 with ⟨z,rfl,rfl⟩|⟨z,rfl,rfl⟩
   ·refine⟨⟨by decide,by decide⟩,by decide,?_⟩;rw[if_pos z];have e15:(10:Int) ^ (15:Int).toNat=10 ^ 15:=rfl;rw[e15];exact⟨⟨by decide,by decide,by decide⟩,.inr ⟨by decide,by decide⟩,⟨by decide,by decide⟩,by decide,(hM _ _).mpr ⟨by rw[show a*10 ^ 15+c / 20 % 7-3=a*10 ^ 15+(c / 20 % 7-3) by omega],rfl⟩⟩
   ·refine⟨⟨by decide,by decide⟩,by decide,?_⟩;rw[if_neg z];exact (hM _ _).mpr ⟨by rw[show a*1+0=a by omega],rfl⟩
  intro σ H3 hm3;obtain⟨rfl,rfl⟩:=(hM _ _).mp hm3
  k_units
  refine⟨fV (SqL.of eD),_,eD,by rw[ac,ac];exact bC (by omega),(hPv _ _ _).mpr ⟨ns++[a],_,_,rfl,by simp[ln],λx hx=>?_,by rw[ag,aV,aV];rfl,s2.more nD⟩⟩;rcases bj.mp hx with z|z
  ·exact bn x z
  ·rw[aQ.mp z];exact ba
 intro σ H2 hp;obtain⟨ns,r3,r4,rfl,ln,bn,eD,s2⟩:=(hPv _ _ _).mp hp;clear hp hPv Pv;have pp:=E5 (ns:=ns) (by omega) bn hE;generalize (ns.map λa=>a*E0+m0)=zs at pp eD
 k_units
 obtain⟨Pu,hPu⟩:∃Pu:Nat->L2.St->Hp->Prop,∀m' σ Hx,Pu m' σ Hx↔∃ys:List Int,ys.length=m'∧σ=[some (V.int c),some (V.ref D),some (V.int m),r3,r4]∧Hx D=some (.lst (ys.map V.int))∧aF ys=aF zs∧Same H Hx:=⟨_,λ_ _ _=>Iff.rfl⟩
 refine gg Pu zs.length ((hPu _ _ _).mpr ⟨zs,rfl,rfl,eD,rfl,s2⟩) ?_;intro m' σ Hx hu;obtain⟨ys',hm',rfl,hy,he,sy⟩:=(hPu _ _ _).mp hu
 k_units
 refine⟨_,.inl (SqL.of hy),?_⟩;rw[ac];have fin:Nml ys'->Q (.ref D) Hx:=λhn=>by
  have e:ys'=aF zs:=by rw[←he,qB hn]
  exact q ys' (by rw[e];exact pp) D _ sy nD hy
 refine bR (λh=>?_) (λh=>?_)
 ·have hne:ys'≠[]:=by intro z;rw[z]at h;simp at h
  refine⟨_,SqL.of hy,_,jo hne,?_⟩
  k_units
  refine bR (λh0=>?_) (λh0=>?_)
  ·refine⟨λσ' H1=>σ'=[some (V.int c),some (V.ref D),some (V.int m),r3,r4]∧H1=upd Hx D (.lst (ys'.dropLast.map V.int)),?_,fV (SqL.of hy),_,hy,V.int (ys'.getLast hne),?_,rfl,?_⟩
   ·rintro σ' H1 ⟨rfl,rfl⟩
    exact⟨ys'.length-1,by have:=cK.mpr hne;omega,(hPu _ _ _).mpr ⟨ys'.dropLast,xx,rfl,ag,by rw[xo hne h0];exact he,sy.more nD⟩⟩
   ·rw[aA,ac,←i6,i7 hne];rfl
   ·rw[←Gr]
  ·refine fin (fB.mpr λx hx=>?_);rw[i7 hne]at hx;rw[←Option.some.inj hx];exact h0
 ·have hn:ys'=[]:=bK (by omega);exact fin (by rw[hn];exact cD)
theorem MN (xs ys:List Int):PyData.eqv (.list (xs.map PyData.int)) (.list (ys.map PyData.int))=decide (xs=ys):=by simp[PyData.eqv,vX]
theorem E9 (xs:List Int):PyData.canLay0 (.list (xs.map PyData.int))=true:=by simp[PyData.canLay0,vY]
theorem MO (xs:List Int):PyData.depth (.list (xs.map PyData.int))<=64:=by simp[PyData.depth,pA]
def MP (K:PySem.W.Frag):Sp:=λvs H Q _=>∃c:Int,vs=[.int c]∧∀f:List Int,PolyP f->f≠[]->dE H Q (f.map V.int)
theorem E_ {P:Program}{w:World}{K:PySem.W.Frag}{mg:Str->Option Value}{base:Heap}(T:Tx K mg):FnOk P w K mg base CX0 2 T.PJ T.PL ["_law_cell"] (MP K):=by
 refine T.PM.ok sc__law_some (λvs H Q E h=>?_) (λcdv A outer s H vs Q E hr h=>?_)
 ·obtain⟨c,rfl,_⟩:=h;rfl
 obtain⟨c,rfl,q⟩:=h;refine⟨_,((ah (ax (i:=1) sc__law_some.nd rfl (Or.inl rfl) (aK (FnOk.mono (rp T) (by decide)) hr rfl T.Oe T.NX.kp T.Of .nil aB (aa (pv 0) ae)))
  (iD (bY (aO (Jb hr.units) (pv 1) (bU ae) (aN _)) (ao (ax (i:=1) sc__law_some.nd rfl (Or.inl rfl) (bU (aa (ak dg ai (ak iB (ak fK (ak ji (pv 0) ai) ai) ai)) ae)))) b4)
  (ao (aM (pv 1)))))),?_⟩
 dsimp only[aC]
 k_typeOf
 refine⟨c,rfl,λf pf D H1 s1 nD eD=>?_⟩;obtain⟨M,hM⟩:∃M:L2.St->Hp->Prop,∀σ Hx,M σ Hx↔∃(D:Addr) (f:List Int),σ=[some (V.int c),some (V.ref D)]∧PolyP f∧f≠[]∧Hx D=some (.lst (f.map V.int))∧H D=none∧Same H Hx:=⟨_,λ_ _=>Iff.rfl⟩
 refine gY M ?_ ?_
 ·k_units
  refine⟨aI _,λp np=>?_⟩;have v1:=aw np (.lst []);refine⟨_,DV.ints (SqL.of (v1 _ _ eD)),_,DV.ints (ns:=[]) (SqL.of ag),E9 _,E9 _,MO _,?_⟩;rw[MN];refine bR (λz=>?_) (λz=>(hM _ _).mpr ⟨D,f,rfl,pf,by simpa using z,v1 _ _ eD,nD,s1.trans v1⟩);refine⟨⟨by decide,by decide⟩,by decide,.inr ⟨by decide,by decide⟩,by decide,λp2 np2=>?_⟩;have v2:=aw np2 (.lst [V.int (1-c / 16 % 2*3)]);obtain⟨p1,p3⟩:=MJ (c:=1-c / 16 % 2*3) (by omega);exact (hM _ _).mpr ⟨p2,_,rfl,p1,p3,ag,(s1.trans v1).free np2,s1.trans (v1.trans v2)⟩
 intro σ H2 hm;obtain⟨D,f,rfl,pf,f0,eD,nD,s2⟩:=(hM _ _).mp hm
 k_units
 exact q f pf f0 D H2 s2 nD eD
structure VH (H:Hp)(us:List Addr)(qs:List (List (List Int))):Prop where
 len:us.length=qs.length
 get:∀(i:Nat) (u:Addr) (q:List (List Int)),us[i]?=some u->qs[i]?=some q->∃as,H u=some (.lst (as.map V.ref))∧LH H as q
theorem VH.same {H H':Hp}{us:List Addr}{qs:List (List (List Int))}(h:VH H us qs)(s:Same H H'):VH H' us qs:=⟨h.len,λi u q e1 e2=>by
 obtain⟨as,a1,a2⟩:=h.get i u q e1 e2;exact⟨as,s _ _ a1,a2.same s⟩⟩
theorem VH.snoc {H:Hp}{us:List Addr}{qs:List (List (List Int))}{u:Addr}{q:List (List Int)}{as:List Addr}(h:VH H us qs)(e:H u=some (.lst (as.map V.ref)))(l:LH H as q):VH H (us++[u]) (qs++[q]):=by
 refine⟨by simp[h.len],λi v r e1 e2=>?_⟩;by_cases z:i<us.length
 ·rw[b_ z]at e1;rw[b_ (by rw[←h.len];exact z)]at e2;exact h.get i v r e1 e2
 ·rw[dz (by omega)]at e1;rw[dz (by rw[←h.len];omega),←h.len]at e2;have z2:i-us.length=0:=by
   rcases Gf (i-us.length) with y|y
   ·exact y
   ·rw[gz (by simp;omega)]at e1;cases e1
  rw[z2]at e1 e2;simp at e1 e2;rw[←e1,←e2];exact⟨as,e,l⟩
theorem VH.vl {K:PySem.W.Frag}{H:Hp}{us:List Addr}{qs:List (List (List Int))}(h:VH H us qs):VL K H us qs:=⟨h.len,λi u q e1 e2=>by
 obtain⟨as,a1,a2⟩:=h.get i u q e1 e2;exact⟨as,SqL.of a1,a2.ll⟩⟩
theorem Fa (n:Nat)(a:Addr):(aL n [V.ref a]).flatten=(aL n a).map V.ref:=by
 induction n with
 | zero=>rfl
 | succ n ih=>rw[gy,mh,ih,gy];rfl
theorem Fc:PolyP []:=E5 (ns:=[]) (E:=1) (m:=0) (by simp) (by simp) (.inl ⟨rfl,rfl⟩)
theorem Fd {w t i j:Nat}(hi:i<w)(hj:j<w)(h:(i+t) % w=(j+t) % w):i=j:=by
 have one:∀{i j:Nat},i<w->j<=i->(i+t) % w=(j+t) % w->i=j:=λ{i j} hi hij h=>by
  have:=Nat.sub_mod_eq_zero_of_mod_eq h;rw[show i+t-(j+t)=i-j by omega,Nat.mod_eq_of_lt (by omega)]at this;omega
 rcases Nat.le_total j i with z|z
 ·exact one hi z h
 ·exact (one hj z h.symm).symm
structure VD (H:Hp)(D:Addr)(us:List Addr)(qs:List (List (List Int))):Prop where
 len:us.length=qs.length
 get:∀(i:Nat) (u:Addr) (q:List (List Int)),us[i]?=some u->qs[i]?=some q->u≠D∧∃as,H u=some (.lst (as.map V.ref))∧LH H as q∧D∉as
theorem VD.vh {H:Hp}{D:Addr}{us:List Addr}{qs:List (List (List Int))}(h:VD H D us qs):VH H us qs:=⟨h.len,λi u q e1 e2=>by
 obtain⟨_,as,a1,a2,_⟩:=h.get i u q e1 e2;exact⟨as,a1,a2⟩⟩
theorem VD.same {H H':Hp}{D:Addr}{us:List Addr}{qs:List (List (List Int))}(h:VD H D us qs)(s:Same H H'):VD H' D us qs:=⟨h.len,λi u q e1 e2=>by
 obtain⟨a0,as,a1,a2,a3⟩:=h.get i u q e1 e2;exact⟨a0,as,s _ _ a1,a2.same s,a3⟩⟩
theorem VD.nil (H:Hp)(D:Addr):VD H D [] []:=⟨rfl,λi u q e=>by simp at e⟩
theorem VD.snoc {H:Hp}{D:Addr}{o:HO}{us:List Addr}{qs:List (List (List Int))}{u:Addr}{q:List (List Int)}{as:List Addr}(h:VD H D us qs)(nu:u≠D)(e:H u=some (.lst (as.map V.ref)))(l:LH H as q)(na:D∉as):VD (L2.upd H D o) D (us++[u]) (qs++[q]):=by
 refine⟨by simp[h.len],λi v r e1 e2=>?_⟩;by_cases z:i<us.length
 ·rw[b_ z]at e1;rw[b_ (by rw[←h.len];exact z)]at e2;obtain⟨a0,as',a1,a2,a3⟩:=h.get i v r e1 e2;exact⟨a0,as',by rw[ar a0];exact a1,a2.upd a3,a3⟩
 ·rw[dz (by omega)]at e1;rw[dz (by rw[←h.len];omega),←h.len]at e2;have z2:i-us.length=0:=by
   rcases Gf (i-us.length) with y|y
   ·exact y
   ·rw[gz (by simp;omega)]at e1;cases e1
  rw[z2]at e1 e2;simp at e1 e2;rw[←e1,←e2];exact⟨nu,as,by rw[ar nu];exact e,l.upd na,na⟩
structure Ys (w k:Nat)(ys:List (List (List Int))):Prop where
 ly:ys.length=k
 yb:∀y∈ys,y.length=w∧∀f∈y,PolyP f
 col:∃π:Nat->Nat,(∀i,i<k->π i<w)∧(∀i,i<k->(ys.getD i []).getD (π i) []≠[])∧∀t i,t<i->i<k->(ys.getD t []).getD (π i) []=[]
def MQ (K:PySem.W.Frag):Sp:=λvs H Q _=>∃(a:Addr) (ns:List Int) (k w:Nat),vs=[.ref a,.int (k:Int),.int (w:Int)]∧SqL K H a (ns.map V.int)∧k<=3∧k<=w∧w<=5∧∀(D:Addr) (us:List Addr) (ys:List (List (List Int))) (H':Hp),Same H H'->H D=none->H' D=some (.lst (us.map V.ref))->VH H' us ys->Ys w k ys->Q (.ref D) H'
theorem MR {P:Program}{w:World}{K:PySem.W.Frag}{mg:Str->Option Value}{base:Heap}(T:Tx K mg):FnOk P w K mg base CX0 3 T.PV T.PX ["_law_script","_law_many","_law_width"] (MQ K):=by
 refine T.QN.ok sc__law_vectors (λvs H Q E h=>?_) (λcdv A outer s H vs Q E hr h=>?_)
 ·obtain⟨a,ns,k,w,rfl,_⟩:=h;rfl
 obtain⟨a,ns,k,w,rfl,hS,k3,kw,w5,q⟩:=h;refine⟨_,((ah (ax (i:=3) sc__law_vectors.nd rfl (Or.inl rfl) (ak fK (ak ji (aK (FnOk.mono (kq T) (by decide)) hr rfl T.NQ T.NL.kp T.NR .nil aB (aa (pv 0) (aa ai ae))) ai) (aG (mW rfl) rfl T.NU jX (aa ai (aa (pv 2) ae)))))
  (ah (ax (i:=4) sc__law_vectors.nd rfl (Or.inl rfl) (bU ae))
  (ah (cy PassesOwn.never rfl (fo rfl T.NI (aa (pv 1) ae)) (bN (i:=5) sc__law_vectors.nd rfl (Or.inl rfl)) (ah (ax (i:=6) sc__law_vectors.nd rfl (Or.inl rfl) (ak jk (bU (aa (bU ae) ae)) (pv 2)))
  (ah (cy PassesOwn.never rfl (fo rfl T.NI (aa (pv 2) ae)) (bN (i:=7) sc__law_vectors.nd rfl (Or.inl rfl)) (ah (ax (i:=8) sc__law_vectors.nd rfl (Or.inl rfl) (aK (FnOk.mono (kq T) (by decide)) hr rfl T.NQ T.NL.kp T.NR .nil aB (aa (pv 0) (aa (ak ci (ak ci ai (ak iB ai (pv 5))) (pv 7)) ae))))
  (ao (bY (aO e9 (pv 7) (pv 5) (aN _)) (ao (iA (aK (FnOk.mono (E_ T) (by decide)) hr rfl T.QJ T.PM.kp T.QK .nil aB (aa (pv 8) ae)) (iz (pv 6) (ak fK (ak ci (pv 7) (pv 3)) (pv 2)) ge))) (ao (bY (PW.pt (jf (aO iT (pv 7) (pv 5) (aN _)) (jQ (aO BP (pv 7) (pv 1) (aN _))))) (ao (iA (aK (FnOk.mono (rp T) (by decide)) hr rfl T.Oe T.NX.kp T.Of .nil aB (aa (pv 8) ae)) (iz (pv 6) (ak fK (ak ci (pv 7) (pv 3)) (pv 2)) ge))) b4))))))
  (ao (e7 (gD PySem.F.plainAttrs_list PySem.F.slot_list_append PySem.F.type_list_append fM (pv 4) (aa (pv 6) ae)))))))
  (ao (aM (pv 4))))))),?_⟩
 dsimp only[aC]
 k_typeOf
 obtain⟨τ,hτ⟩:∃τ:Nat,(cell ns 0 / 12 % if (w:Int) > 1 then (w:Int) else 1)=(τ:Int):=⟨(cell ns 0 / 12 % if (w:Int) > 1 then (w:Int) else 1).toNat,by
  have:=Int.emod_nonneg (cell ns 0 / 12) (show (if (w:Int) > 1 then (w:Int) else 1)≠0 by split <;> omega);omega⟩
 refine⟨a,ns,0,rfl,hS,_,rfl,⟨by decide,by decide⟩,by split <;> omega,?_⟩;rw[hτ];clear hτ;dsimp only[aC]
 k_typeOf
 refine⟨aI _,λD nD=>?_⟩;have u1:=aw nD (.lst []);have e1:=ag (H:=H) (a:=D) (o:=.lst []);generalize L2.upd H D (.lst [])=H1 at u1 e1 ⊢;dsimp only[aC]
 k_typeOf
 refine⟨by omega,by omega,?_⟩;rw[dU];obtain⟨Pv,hPv⟩:∃Pv:Nat->L2.St->Hp->Prop,∀t σ H',Pv t σ H'↔∃(us:List Addr) (ys:List (List (List Int))) (r5 r6 r7 r8:Option V),σ=[some (V.ref a),some (V.int (k:Int)),some (V.int (w:Int)),some (V.int (τ:Int)),some (V.ref D),r5,r6,r7,r8]∧H' D=some (.lst (us.map V.ref))∧VD H' D us ys∧ys.length=t∧(∀y∈ys,y.length=w∧∀f∈y,PolyP f)∧(∀t',t'<t->(ys.getD t' []).getD ((t'+τ) % w) []≠[]∧∀i,t'<i->i<k->(ys.getD t' []).getD ((i+τ) % w) []=[])∧Same H H':=⟨_,λ_ _ _=>Iff.rfl⟩
 refine gE Pv ((hPv _ _ _).mpr ⟨[],[],none,none,none,none,rfl,e1,VD.nil _ _,rfl,by simp,λt ht=>by omega,u1⟩) ?_ ?_
 ·intro t σ H2 ht hp;obtain⟨us,ys,r5,r6,r7,r8,rfl,eD,hV,ly,yb,yc,s2⟩:=(hPv _ _ _).mp hp;have et0:(0:Int)+(t:Int)=(t:Int):=f_ _;have w0:0<w:=by omega
  dsimp only[aC]
  k_typeOf
  refine⟨aI _,λE1 n1=>⟨by decide,λE2 n2=>?_⟩⟩;have v1:=aw n1 (.lst []);have v2:=aw n2 (.lst [V.ref E1]);refine⟨_,ag,by omega,by omega,by rw[dU];exact b5 (bC (by simp;omega)),λVt nV=>?_⟩;rw[dU,Fa];have v3:=aw nV (.lst ((aL w E1).map V.ref));have eV:=ag (H:=L2.upd (L2.upd H2 E1 (.lst [])) E2 (.lst [V.ref E1])) (a:=Vt) (o:=.lst ((aL w E1).map V.ref));have v123:=v1.trans (v2.trans v3);have eE:=v3 _ _ (v2 _ _ (ag (H:=H2) (a:=E1) (o:=.lst [])));have nVE:Vt≠E1:=λz=>by
   have:=v2 _ _ (ag (H:=H2) (a:=E1) (o:=.lst []));rw[z,this]at nV;cases nV
  have nED:E1≠D:=λz=>by rw[z,eD]at n1;cases n1
  have nV2:H2 Vt=none:=v1.free (v2.free nV);generalize L2.upd (L2.upd (L2.upd H2 E1 (.lst [])) E2 (.lst [V.ref E1])) Vt (.lst ((aL w E1).map V.ref))=H3 at v123 eV eE ⊢;clear v1 v2 v3 n1 n2 nV;obtain⟨Pw,hPw⟩:∃Pw:Nat->L2.St->Hp->Prop,∀c σ H',Pw c σ H'↔∃(bs:List Addr) (zs:List (List Int)) (r7 r8:Option V),σ=[some (V.ref a),some (V.int (k:Int)),some (V.int (w:Int)),some (V.int (τ:Int)),some (V.ref D),some (V.int (t:Int)),some (V.ref Vt),r7,r8]∧H' Vt=some (.lst (bs.map V.ref))∧LH H' bs zs∧Vt∉bs∧D∉bs∧zs.length=w∧(∀f∈zs,PolyP f)∧(t<c->zs.getD ((t+τ) % w) []≠[])∧(∀i,t<i->i<k->zs.getD ((i+τ) % w) []=[])∧Same H2 H':=⟨_,λ_ _ _=>Iff.rfl⟩
  dsimp only[aC]
  k_typeOf
  refine⟨by omega,by omega,?_⟩;rw[dU,et0];refine gE Pw ((hPw _ _ _).mpr ⟨aL w E1,aL w [],_,_,rfl,eV,⟨by simp,λi b p h1 h2=>?_⟩,λz=>nVE (jL z),λz=>nED (jL z).symm,by simp,λf hf=>by rw[jL hf];exact Fc,λz=>by omega,λi _ _=>by rw[av,i5];split <;> rfl,v123⟩) ?_ ?_
  ·have hb:=jL (bJ h1);have hp:=jL (bJ h2);rw[hb,hp];exact eE
  ·intro c σ H4 hc hp4;obtain⟨bs,zs,t7,t8,rfl,eV4,lV,nVb,nDb,lz,bz,cz1,cz2,s4⟩:=(hPw _ _ _).mp hp4;have ec0:(0:Int)+(c:Int)=(c:Int):=f_ _;have e15:(1:Int)+5*(t:Int)+(c:Int)=((1+5*t+c:Nat):Int):=by omega
   have lb:=lV.len;have hjw:(c+τ) % w<w:=jK _ w0;have hj:((c:Int)+(τ:Int)) % (w:Int)=(((c+τ) % w:Nat):Int):=by exact_mod_cast rfl
   have put:∀(f:List Int),PolyP f->(c=t->f≠[])->(¬(t<c∧c<k))->∀(R:Addr) (H5:Hp),Same H4 H5->H4 R=none->H5 R=some (.lst (f.map V.int))->∃x:List V,H5 Vt=some (.lst x)∧∃y,ixN x.length (((c:Int)+(τ:Int)) % (w:Int))=some y∧Pw (c+1) [some (V.ref a),some (V.int (k:Int)),some (V.int (w:Int)),some (V.int (τ:Int)),some (V.ref D),some (V.int (t:Int)),some (V.ref Vt),some (V.int (c:Int)),some (V.int (cell ns (1+5*t+c)))] (L2.upd H5 Vt (.lst (x.set y (V.ref R)))):=λf pf f0 hck R H5 s5 nR eR=>by
    have nRV:R≠Vt:=λz=>by rw[z,eV4]at nR;cases nR
    refine⟨_,s5 _ _ eV4,(c+τ) % w,by rw[hj];exact gF (by rw[ac];omega),(hPw _ _ _).mpr ⟨bs.set ((c+τ) % w) R,zs.set ((c+τ) % w) f,_,_,rfl,by rw[ag,xB],((lV.same s5).upd nVb).set (by rw[ar nRV];exact eR) _,λz=>?_,λz=>?_,by rw[ik];exact lz,λg hg=>?_,λhtc=>?_,λi h1 h2=>?_,(s4.trans s5).more nV2⟩⟩
    ·rcases xU z with h|h
     ·exact nVb h
     ·exact nRV h.symm
    ·rcases xU z with h|h
     ·exact nDb h
     ·rw[←h,s4 _ _ eD]at nR;cases nR
    ·rcases xU hg with h|h
     ·exact bz g h
     ·rw[h];exact pf
    ·by_cases z:c=t
     ·rw[←z,av,kr (by omega)];exact f0 z
     ·have hne:(c+τ) % w≠(t+τ) % w:=λy=>z (Fd hc (by omega) y);rw[av,i4 hne,←av];exact cz1 (by omega)
    ·have hne:(c+τ) % w≠(i+τ) % w:=λy=>by
      have:=Fd hc (by omega) y;omega
     rw[av,i4 hne,←av];exact cz2 i h1 h2
   (iterate 3 (k_units;(try simp only[ec0,e15]));k_units)
   refine⟨.inl ⟨by decide,by decide⟩,?_⟩;refine⟨a,ns,1+5*t+c,rfl,(s2.trans s4).seq hS,bR (λz=>?_) (λz=>?_)⟩
   ·have zc:c=t:=by omega
    refine⟨_,rfl,λf pf f0 R H5 s5 nR eR=>⟨by omega,put f pf (λ_=>f0) (by omega) R H5 s5 nR eR⟩⟩
   ·refine bR (λy=>?_) (λy=>bR (λx=>?_) (λx=>?_))
    ·refine⟨_,rfl,λf pf R H5 s5 nR eR=>⟨by omega,put f pf (λx=>absurd x (by omega)) (by omega) R H5 s5 nR eR⟩⟩
    ·refine⟨_,rfl,λf pf R H5 s5 nR eR=>⟨by omega,put f pf (λx=>absurd x (by omega)) (by omega) R H5 s5 nR eR⟩⟩
    ·refine (hPw _ _ _).mpr ⟨bs,zs,_,_,rfl,eV4,lV,nVb,nDb,lz,bz,λh=>cz1 (by omega),cz2,s4⟩
  intro σ H4 hp4;obtain⟨bs,zs,t7,t8,rfl,eV4,lV,nVb,nDb,lz,bz,cz1,cz2,s4⟩:=(hPw _ _ _).mp hp4;have eD4:=s4 _ _ eD;have nDV:Vt≠D:=λz=>by rw[z,eD]at nV2;cases nV2
  have lus:=hV.len
  k_units
  refine⟨fV (SqL.of eD4),_,eD4,by rw[ac];exact bC (by omega),(hPv _ _ _).mpr ⟨us++[Vt],ys++[zs],_,_,_,_,rfl,by rw[ag,aV];rfl,(hV.same s4).snoc nDV eV4 lV nDb,by simp[ly],λy hy=>?_,λt' ht'=>?_,(s2.trans s4).more nD⟩⟩
  ·rcases bj.mp hy with z|z
   ·exact yb y z
   ·rw[aQ.mp z];exact⟨lz,bz⟩
  ·by_cases z:t'<t
   ·have e:(ys++[zs]).getD t' []=ys.getD t' []:=by rw[av,b_ (by omega),←av]
    rw[e];exact yc t' z
   ·have e:(ys++[zs]).getD t' []=zs:=by rw[show t'=ys.length by omega];simp
    rw[e,show t'=t by omega];exact⟨cz1 (by omega),cz2⟩
 intro σ H2 hp;obtain⟨us,ys,r5,r6,r7,r8,rfl,eD,hV,ly,yb,yc,s2⟩:=(hPv _ _ _).mp hp
 k_units
 exact q D us ys H2 s2 nD eD hV.vh ⟨ly,yb,λi=>(i+τ) % w,λi hi=>jK _ (by omega),λi hi=>(yc i hi).1,λt i h1 h2=>(yc t (by omega)).2 i h1 h2⟩
theorem Fe {n:Nat}{Pd:List Int->Prop}{fv:List (Nat×Str)}{te:TE}{Q:VK}{σ:L2.St}{H1:Hp}{D:Addr}(nD:H1 D=none) (hl:n<=900)
  (hs:∀(i:Nat) (Hx:Hp) (R:VK),i<n->Same H1 Hx->(∀f:List Int,Pd f->dE Hx R (f.map V.int))->te (bst fv σ (some (V.int (0+(i:Int))))) Hx R)
  (he:∀ds:List (List Int),ds.length=n->(∀f∈ds,Pd f)->q9 H1 Q ds):jW (Itr 0 n) fv te Q σ H1 D:=by
 obtain⟨Pc,hPc⟩:∃Pc:Nat->Hp->Prop,∀j Hx,Pc j Hx↔∃(ds:List (List Int)) (bs:List Addr),ds.length=j∧(∀f∈ds,Pd f)∧Hx D=some (.lst (bs.map V.ref))∧LH Hx bs ds∧D∉bs∧bs.Nodup∧(∀b∈bs,H1 b=none)∧Same H1 Hx:=⟨_,λ_ _=>Iff.rfl⟩
 refine vU Pc ((hPc _ _).mpr ⟨[],[],rfl,by simp,ag,LH.nil _,by simp,rQ,by simp,aw nD _⟩) ?_ ?_
 ·intro j Hx hj hc;obtain⟨ds,bs,ld,pd,k1,k2,k3,k4,k5,k6⟩:=(hPc _ _).mp hc;refine hs j Hx _ hj k6 λf pf F H2 s2 nF eF=>?_;have lk:=k2.len;have nFD:F≠D:=λz=>by rw[z,k1]at nF;cases nF
  have nFb:F∉bs:=k2.notin nF;have m1:D∉bs++[F]:=λz=>by
   rcases bj.mp z with z|z
   ·exact k3 z
   ·exact nFD (aQ.mp z).symm
  refine⟨_,s2 _ _ k1,by rw[ac];exact bC (by omega),(hPc _ _).mpr ⟨ds++[f],bs++[F],by simp[ld],λg hg=>?_,by rw[ag];simp,((k2.same s2).snoc eF).upd m1,m1,?_,?_,(k6.trans s2).more nD⟩⟩
  ·rcases bj.mp hg with z|z
   ·exact pd g z
   ·rw[aQ.mp z];exact pf
  ·exact rR.mpr ⟨k4,by simp,λx hx y hy z=>nFb (by rw[aQ.mp hy]at z;rw[←z];exact hx)⟩
  ·intro x hx;rcases bj.mp hx with z|z
   ·exact k5 x z
   ·rw[aQ.mp z];exact k6.free nF
 ·intro H' hc;obtain⟨ds,bs,ld,pd,k1,k2,k3,k4,k5,k6⟩:=(hPc _ _).mp hc;exact he ds ld pd D bs H' k6 nD k1 k2 k5 k3 k4
structure Gs21 (k:Nat)(h s:List Int)(gs:List (List Int)):Prop where
 lg:gs.length=k
 ps:PolyP s
 g0:∀g,gs[0]?=some g->Nml g∧g.length<=5∧(∀c∈g,Bd 110 c)∧∀n,val n g=val n h*val n s+1
 g1:∀(i:Nat) (g:List Int),gs[i+1]?=some g->PolyP g
def MS (K:PySem.W.Frag):Sp:=λvs H Q _=>∃(a hh:Addr) (ns h:List Int) (k:Nat),vs=[.ref a,.int (k:Int),.ref hh]∧SqL K H a (ns.map V.int)∧H hh=some (.lst (h.map V.int))∧PolyP h∧h≠[]∧k<=3∧∀(D:Addr) (bs:List Addr) (gs:List (List Int)) (s:List Int) (H':Hp),Same H H'->H D=none->H' D=some (.lst (bs.map V.ref))->LH H' bs gs->Gs21 k h s gs->Q (.ref D) H'
theorem MT {P:Program}{w:World}{K:PySem.W.Frag}{mg:Str->Option Value}{base:Heap}(T:Tx K mg):FnOk P w K mg base CX0 3 T.PY T.PZ ["_law_script","_law_many","_law_h"] (MS K):=by
 refine T.QO.ok sc__law_factors (λvs H Q E h=>?_) (λcdv A outer s H vs Q E hr h=>?_)
 ·obtain⟨a,hh,ns,h,k,rfl,_⟩:=h;rfl
 obtain⟨a,hh,ns,h,k,rfl,hS,hH,ph,h0,k3,q⟩:=h;refine⟨_,((ah (kS (i:=3) rfl (dD rfl (dj rfl cM) (d_ 0 "_law_script" (by decide) rfl (Or.inl rfl) (Or.inl rfl) ⟨_,rfl⟩ cV)) (fo rfl T.NI (aa (pv 1) ae)) (λ_ _ _ _=>(aK (FnOk.mono (rp T) (by decide)) hr rfl T.Oe T.NX.kp T.Of .nil aB (aa (aK (FnOk.mono (kq T) (by decide)) hr rfl T.NQ T.NL.kp T.NR .nil aB (aa (pv 1) (aa (ak ci ai (pv 0)) ae))) ae))) sc__law_factors.nd rfl rfl)
  (iD (bY (aO gT (pv 1) ai (aN _)) (ao (iA (aK (FnOk.mono (E7 T) (by decide)) hr rfl T.QL T.PU.kp T.QM .nil aB (aa (aK (FnOk.mono (l6 T) (by decide)) hr rfl T.NY T.NS.kp T.NZ .nil aB (aa (pv 2) (aa (aR bL (pv 3) ai (λ_ _=>rfl)) ae))) (aa (bU (aa ai ae)) ae))) (iz (pv 3) ai ge))) b4)
  (ao (aM (pv 3)))))),?_⟩
 dsimp only[aC]
 k_typeOf
 refine⟨by omega,by omega,?_⟩;rw[dU];refine λDa nDa=>Fe (Pd:=PolyP) nDa (by omega) (λi Hx R hi sx hR=>?_) (λds ld pd D bs H1 s1 nD eD lD fD nDb nd=>?_)
 ·have e16:(16:Int)+(0+(i:Int))=((16+i:Nat):Int):=by omega
  (iterate 3 (k_units;(try simp only[bst,e16]));k_units)
  exact⟨_,rfl,a,ns,16+i,rfl,sx.seq hS,_,rfl,λf pf=>hR f pf⟩
 obtain⟨M,hM⟩:∃M:L2.St->Hp->Prop,∀σ Hx,M σ Hx↔∃(bs:List Addr) (gs:List (List Int)) (s:List Int),σ=[some (V.ref a),some (V.int (k:Int)),some (V.ref hh),some (V.ref D)]∧Same H Hx∧Hx D=some (.lst (bs.map V.ref))∧LH Hx bs gs∧Gs21 k h s gs:=⟨_,λ_ _=>Iff.rfl⟩
 have lb:=lD.len;refine gY M ?_ ?_
 ·k_units
  refine bR (λz=>?_) (λz=>?_)
  ·have hb0:bs[0]?=some (bs.getD 0 0):=by rw[av,aj (by omega)];rfl
   have hd0:ds[0]?=some (ds.getD 0 []):=by rw[av,aj (by omega)];rfl
   have p0:=pd _ (bJ hd0);have e0:=lD.get 0 _ _ hb0 hd0;generalize bs.getD 0 0=b0 at hb0 e0;generalize ds.getD 0 []=d0 at hd0 p0 e0;refine⟨_,SqL.of eD,_,gW (j:=0) (by rw[aA,hb0];rfl),?_⟩;refine⟨hh,b0,h,d0,53,53,rfl,SqL.of (s1 _ _ hH),SqL.of e0,by have:=ph.l;omega,by have:=p0.l;omega,ph.b,p0.b,by decide,λws nw lw cw F H2 s2 nF eF=>?_⟩;refine⟨by decide,λO nO=>?_⟩;have u3:=aw nO (.lst [V.int 1]);have lh:=ph.l;have l0:=p0.l;refine⟨F,O,ws,[1],rfl,SqL.of (u3 _ _ eF),SqL.of (xs:=[1].map V.int) ag,by omega,by simp,λus nu lu cu G H4 s4 nG eG=>?_⟩;have t4:=s2.trans (u3.trans s4);have eu:us=fg (pdL h d0) [1]:=gj nu (j5 _ _) λj=>by rw[cu,cw,ju,f8]
   have nG1:H1 G=none:=s2.free (u3.free nG);have nGD:G≠D:=λz=>by rw[z,eD]at nG1;cases nG1
   have pl:=gu ph.n p0.n;have al:=qO (pdL h d0) [1];refine⟨_,t4 _ _ eD,0,gF (i:=0) (by rw[ac];omega),(hM _ _).mpr ⟨bs.set 0 G,ds.set 0 us,d0,rfl,(s1.trans t4).more nD,by rw[ag,xB],((lD.same t4).upd nDb).set (by rw[ar nGD];exact eG) 0,by rw[ik];exact ld,p0,λg hg=>?_,λi g hg=>?_⟩⟩
   ·rw[kr (by omega)]at hg;rw[←Option.some.inj hg,eu];refine⟨j5 _ _,by simp at al;omega,cW λj=>?_,λn=>by rw[qN,aH];simp[val]⟩;rw[ju,f8];exact ((iH (c:=2) ph.b p0.b (by omega) j).add (cF (P:=λz=>Bd 108 z) (λz hz=>by rw[aQ.mp hz];exact Bd.one (by decide)) (Bd.zero _) j)).mono (by decide)
   ·rw[i4 (by omega)]at hg;exact pd g (bJ hg)
  ·refine (hM _ _).mpr ⟨bs,ds,[],rfl,s1,eD,lD,ld,Fc,λg hg=>?_,λi g hg=>pd g (bJ hg)⟩;rw[gz (by omega)]at hg;cases hg
 intro σ H2 hm;obtain⟨bs,gs,s,rfl,s2,e2,l2,g2⟩:=(hM _ _).mp hm
 k_units
 exact q D bs gs s H2 s2 nD e2 l2 g2
theorem jB {k i:Nat}(h:i<=k):Sub k (aD i):=⟨List.pairwise_lt_range,λx hx=>by have:=dS.mp hx;omega⟩
theorem MU {w k:Nat}{ys:List (List (List Int))}{h s:List Int}{gs q:List (List Int)}(k3:k<=3)(w5:w<=5)(kw:k<=w)(Y:Ys w k ys)(ph:PolyP h)(h0:h≠[])(G:Gs21 k h s gs)(qb:q.length=w∧∀f∈q,Nml f∧f.length<=7∧∀c∈f,Bd 170 c)(qv:∀j,j<w->∀n,val n (q.getD j [])=az k λi=>val n (gs.getD i [])*val n ((ys.getD i []).getD j [])):D21 w k ys h s gs q:=by
 refine⟨k3,w5,kw,Y.ly,G.lg,λy hy=>?_,ph.n,h0,ph.l,ph.b,G.ps.n,G.ps.l,G.ps.b,λg hg=>(G.g0 g hg).2.2.2,λg hg=>?_,λi g hg=>⟨(G.g1 i g hg).l,(G.g1 i g hg).b⟩,qb,qv,λP hP f hf=>?_,λP hP z=>h0 (ph.z P hP z),λi g hg P hP hz=>?_⟩
 ·obtain⟨a1,a2⟩:=Y.yb y hy;exact⟨a1,λf hf=>⟨(a2 f hf).n,(a2 f hf).l,(a2 f hf).b⟩⟩
 ·obtain⟨i,hi,rfl⟩:=dq.mp hg;have e:=aj hi
  cases i with
  | zero=>exact⟨(G.g0 _ e).1,(G.g0 _ e).2.1,(G.g0 _ e).2.2.1⟩
  | succ i=>
   have p:=G.g1 i _ e;exact⟨p.n,by have:=p.l;omega,λc hc=>(p.b c hc).mono (by decide)⟩
 ·obtain⟨π,p1,p2,p3⟩:=Y.col;have key:∀n i,i<k->k<=i+n->f i=0:=λn=>by
   induction n with
   | zero=>intro i h1 h2;omega
   | succ n ih=>
    intro i hi hn;have e:=hf (π i) (p1 i hi);rw[k7 hi λj hj hne=>by
     by_cases z:j<i
     ·rw[p3 j i z hi];simp[val]
     ·rw[ih j hj (by omega)];simp]at e
    rcases iN.mp e with z|z
    ·exact z
    ·have hm:=mem_getD (d:=([]:List (List Int))) (show i<ys.length by rw[Y.ly];exact hi);obtain⟨l1,l2⟩:=Y.yb _ hm;exact absurd ((l2 _ (mem_getD (by rw[l1];exact p1 i hi))).z P hP z) (p2 i hi)
  exact λi hi=>key k i hi (by omega)
 ·cases i with
  | succ i=>exact (G.g1 i g hg).z P hP hz
  | zero=>
   obtain⟨g1,_,_,g4⟩:=G.g0 g hg;have e:=g4 P;rw[hz]at e;have e1:(val P h).natAbs*(val P s).natAbs=1:=by
    rw[←bV,show val P h*val P s=-1 by omega];rfl
   have a1:(val P h).natAbs=1:=xT e1;have a2:(val P s).natAbs=1:=Nx e1;obtain⟨b,hb,b1,b2⟩:∃b:Int,(b=1∨b=-1)∧val P h=b∧val P s=-b:=by
    rcases Int.natAbs_eq (val P h) with x|x <;> rcases Int.natAbs_eq (val P s) with y|y <;> rw[a1]at x <;> rw[a2]at y <;> rw[x,y]at e
    ·exact absurd e (by decide)
    ·exact⟨1,.inl rfl,x,y⟩
    ·exact⟨-1,.inr rfl,x,y⟩
    ·exact absurd e (by decide)
   have eh:=ph.u P hP b hb b1;have es:=G.ps.u P hP (-b) (by omega) b2;refine cG g1 cD λn=>?_;rw[g4,eh,es];rcases hb with rfl|rfl <;> simp[val]
section
variable {w k:Nat}{ys:List (List (List Int))}{h s:List Int}{gs:List (List Int)}{q:List (List Int)}
theorem D21.notV (D:D21 w k ys h s gs q){S:List Nat}{j:Nat}(hj:j<k)(hn:j∉S)(e1:V21 ys h j=q)(hg:∀i,i<k->i∉S->gs.getD i []=[]):False:=by
 have hz:=D.ind 97 ⟨by decide,by decide⟩ (λx=>val 97 (gs.getD x [])-if x=j then val 97 h else 0) (λc hc=>by
  have q1:=D.qv c hc 97;rw[←e1,(D.vec hj).2.2 c hc 97]at q1;have:az k (λx=>(val 97 (gs.getD x [])-if x=j then val 97 h else 0)*val 97 ((ys.getD x []).getD c []))=az k (λi=>val 97 (gs.getD i [])*val 97 ((ys.getD i []).getD c []))+az k (λx=>if x=j then -(val 97 h*val 97 ((ys.getD x []).getD c [])) else 0):=by
   rw[←iF];exact cQ λx _=>by split <;> grind
  rw[this,←q1,km hj];omega) j hj
 rw[if_pos rfl,hg _ hj hn]at hz;have e0:val 97 ([]:List Int)=0:=rfl;exact D.hP 97 ⟨by decide,by decide⟩ (by omega)
theorem D21.full (D:D21 w k ys h s gs q){cs:List Nat}{P:Int}(hl:cs.length=k+1)(hcs:∀c∈cs,c<w)(hP:InP P)(pv:Piv w ((aD k).map (V21 ys h)++[q]) cs P (k+1)):False:=by
 obtain⟨lq,_,B⟩:=D.vbq (jB (am k)) (.inl rfl);have lr:((aD k).map (V21 ys h)).length=k:=by simp
 have lk:((aD k).map (V21 ys h)++[q]).length=k+1:=by simp
 have g1:∀t,t<k->((aD k).map (V21 ys h)++[q]).getD t []=V21 ys h t:=λt ht=>by
  rw[av,b_ (by rw[lr];exact ht),aA,jI ht];rfl
 have g2:((aD k).map (V21 ys h)++[q]).getD k []=q:=by
  rw[av,dz (by rw[lr];exact am _),lr];simp
 have all:=EM (ms:=(aD (k+1)).map λt=>if t<k then -(val P (gs.getD t [])) else val P h) B.wid (by rw[lk];have:=D.kw;omega) (by rw[lk];exact hl) (by rw[lk];exact pv) (by simp) λc hc=>by
  have hcw:=hcs c hc;rw[xj];unfold aT;rw[lk,ja,EW];show az k _+_=(0:Int)
  dsimp only;rw[if_neg (ii k),Function.comp_apply,g2,j_ (by rw[lq];exact hcw),D.qv c hcw P];have e:az k (λt=>(if t<k then -(val P (gs.getD t [])) else val P h)*((λr:Rw=>r c) ∘ λi=>co (bI w (((aD k).map (V21 ys h)++[q]).getD i []) i P)) t)=- val P h*az k λi=>val P (gs.getD i [])*val P ((ys.getD i []).getD c []):=by
   rw[←gG];refine cQ λt ht=>?_;rw[if_pos ht,Function.comp_apply,g1 t ht,j_ (by rw[(D.vec ht).1];exact hcw),(D.vec ht).2.2 c hcw P];grind
  rw[e];grind
 exact D.hP P hP (all _ (aW.mpr ⟨k,dS.mpr (by omega),by rw[if_neg (ii k)]⟩))
variable {K:PySem.W.Frag}{H:Hp}{A:Addr}{us:List Addr}{qs rest:List (List (List Int))}{Q:VK}{E:XK}
theorem Ff (D:D21 w k ys h s gs q) (hA:SqL K H A (us.map V.ref)) (hL:VL K H us qs) (hq:qs=(aD k).map (V21 ys h)++q :: rest)
  (kk:∀(F:Addr) (fb:List Addr) (H':Hp),Same H H'->H F=none->H' F=some (.lst (fb.map V.ref))->LH H' fb (b8 gs h (aD k))->(∀b∈fb,H b=none)->F∉fb->Q (.ref F) H'):wY K [.ref A] H Q E:=by
 have k3:=D.k3;have lr:((aD k).map (V21 ys h)).length=k:=by simp
 have lqs:qs.length=k+1+rest.length:=by rw[hq];simp;omega
 have at1:∀i,i<k->qs[i]?=some (V21 ys h i):=λi hi=>by rw[hq,b_ (by rw[lr];exact hi),aA,jI hi];rfl
 have at2:qs[k]?=some q:=by rw[hq,dz (by rw[lr];exact am _),lr];simp
 have tk:∀i,i<=k->qs.take i=(aD i).map (V21 ys h):=λi hi=>by
  rw[hq,Gb (by rw[lr];exact hi),←mn,List.take_range,rS hi]
 have tk1:qs.take (k+1)=(aD k).map (V21 ys h)++[q]:=by rw[de,tk k (am _),at2];rfl
 have bad:∀i cs pl,k<i->i<=qs.length->ET w k ys h q (qs.take i) cs pl->False:=λi cs pl hi hi2 hSt=>by
  obtain⟨⟨S,hS,e|e⟩,hl,hcs,p1,p2,pv⟩:=hSt
  ·have:=congrArg ij e;rw[b6,ac]at this;have:=hS.len;omega
  ·have l1:=congrArg ij e;rw[b6,bM,ac]at l1;have:=hS.len;have ei:i=k+1:=by simp at l1;omega
   subst ei;rw[tk1]at hl pv p2;have l2:((aD k).map (V21 ys h)++[q]).length=k+1:=by simp
   rw[l2]at hl pv p2;exact D.full hl hcs ⟨p1,by omega⟩ pv
 refine⟨w,80,3,_,_,_,D.th,by decide,A,us,qs,rfl,hA,hL,λp hp=>?_,λz=>by rw[z]at lqs;simp at lqs;omega,λi p cs pl hp hSt=>?_,λH' i p F fb ws cs pl hp hSt hR s' nF eF lF fF nFb=>?_,λH' cs pl hSt _=>?_⟩
 ·by_cases z:0<k
  ·rw[at1 0 z]at hp;rw[←Option.some.inj hp];exact (D.vec z).1
  ·have e0:k=0:=by omega
   rw[e0]at at2;rw[at2]at hp;rw[←Option.some.inj hp];exact D.qb.1
 ·have hi:=(aU.mp hp).1;by_cases z:i<k
  ·rw[at1 i z]at hp;exact⟨aD i,jB (by omega),tk i (by omega),.inr ⟨i,λx hx=>dS.mp hx,z,(Option.some.inj hp).symm⟩⟩
  ·by_cases y:i=k
   ·subst y;rw[at2]at hp;exact⟨aD i,jB (am _),tk i (am _),.inl (Option.some.inj hp).symm⟩
   ·exact (bad i cs pl (by omega) (by omega) hSt).elim
 ·have hi:=(aU.mp hp).1;obtain⟨rfl,S,hS,e,hg,rfl⟩:=hR;by_cases z:i<k
  ·rw[at1 i z]at hp;rw[tk i (by omega)]at e;have eS:=D.inj (jB (by omega)) hS e;exact (D.notV z (by rw[←eS];simp) (Option.some.inj hp) hg).elim
  ·by_cases y:i=k
   ·subst y;rw[tk i (am _)]at e;have eS:=D.inj (jB (am _)) hS e;rw[←eS]at lF;exact kk F fb H' s' nF eF lF fF nFb
   ·exact (bad i cs pl (by omega) (by omega) hSt).elim
 ·refine (bad qs.length cs pl (by omega) (am _) ?_).elim;rw[fT];exact hSt
theorem MV (D:D21 w k ys h s gs q)(k0:0<k)(hA:SqL K H A (us.map V.ref))(hL:VL K H us ((aD k).map (V21 ys h)))(kk:∀H',Same H H'->Q .non H'):wY K [.ref A] H Q E:=by
 have at1:∀i,i<k->((aD k).map (V21 ys h))[i]?=some (V21 ys h i):=λi hi=>by rw[aA,jI hi];rfl
 have tk:∀i,i<=k->((aD k).map (V21 ys h)).take i=(aD i).map (V21 ys h):=λi hi=>by rw[←mn,List.take_range,rS hi]
 have lt:∀{i:Nat}{p:List (List Int)},((aD k).map (V21 ys h))[i]?=some p->i<k:=λhp=>by have:=(aU.mp hp).1;simpa using this
 refine⟨w,80,3,_,_,_,D.th,by decide,A,us,_,rfl,hA,hL,λp hp=>?_,λz=>by have:=congrArg ij z;simp at this;omega,λi p cs pl hp hSt=>?_,λH' i p F fb ws cs pl hp hSt hR s' nF eF lF fF nFb=>?_,λH' cs pl hSt s'=>kk H' s'⟩
 ·rw[at1 0 k0]at hp;rw[←Option.some.inj hp];exact (D.vec k0).1
 ·have z:=lt hp;rw[at1 i z]at hp;exact⟨aD i,jB (by omega),tk i (by omega),.inr ⟨i,λx hx=>dS.mp hx,z,(Option.some.inj hp).symm⟩⟩
 ·have z:=lt hp;obtain⟨rfl,S,hS,e,hg,rfl⟩:=hR;rw[at1 i z]at hp;rw[tk i (by omega)]at e;have eS:=D.inj (jB (by omega)) hS e;exact (D.notV z (by rw[←eS];simp) (Option.some.inj hp) hg).elim
end
def Fg (K:PySem.W.Frag):Sp:=λvs H Q _=>∃A:Addr,vs=[.ref A]∧SqL K H A []∧Q .non H
theorem MW:SpTh 0 1 0 (λ_ _ _=>True) (λ_ _=>False) (λ_ _ _=>False) where
 b3:=by decide
 k18:=by decide
 st0:=trivial
 stS:=λ_ _ _ _ _ _ _ h=>h.elim
 bd:=λ_ _ _ _ _ h=>h.elim
 tb:=λ_ _ _ _ _ h=>h.elim
 hit:=λ_ _ _ _ _ _ h=>h.elim
 oc:=λ_ _ _ _ _ h=>h.elim
 sub:=λ_ _ _ _ _ _ h=>h.elim
 len:=λ_ _ _ h=>h.elim
 up:=λ_ _ _ _ _ _ _ h=>h.elim
theorem Fh {P:Program}{wd:World}{K:PySem.W.Frag}{mg:Str->Option Value}{base:Heap}(T:Tx K mg):FnOk P wd K mg base CX0 (2*(0+2)+10) T.NV T.NW ["vectors"] (Fg K):=by
 have KM:Nat:=0;have F:=wX (P:=P) (wd:=wd) (base:=base) T MW (0+2);refine T.NP.ok sc_relation (λvs H Q E h=>?_) (λcdv A outer s H vs Q E hr h=>?_)
 ·obtain⟨A,rfl,_⟩:=h;rfl
 obtain⟨A,rfl,hA,q⟩:=h;refine⟨_,((ah (bY (aO e9 (aG aX rfl T.NF aZ (aa (pv 0) ae)) ai (aN _)) (ao (aM df)) b4)
  (ah (ax (i:=1) sc_relation.nd rfl (Or.inl rfl) (vH T.Qm (FnOk.mono (wP T) (by omega)) hr rfl T.Ql T.P5 .nil aB (aa (aG aX rfl T.NF aZ (aa (aR bL (pv 0) ai (λ_ _=>rfl)) ae)) ae)))
  (ah (cy PassesOwn.never rfl (dC (pv 0)) (bN (i:=2) sc_relation.nd rfl (Or.inl rfl)) (ah (ax (i:=3) sc_relation.nd rfl (Or.inl rfl) (fq (pv 1) T.NG T.Oj (FnOk.mono F (by omega)) hr T.Oi .nil aB (aa (pv 2) ae)))
  (ao (bY (aO jT (pv 3) df (aN _)) (ao (aM (pv 3))) b4))))
  (ao (aM df)))))),?_⟩
 dsimp only[aC]
 k_typeOf
 refine⟨_,.inl hA,?_⟩;rw[if_pos (show ((([]:List V).length:Nat):Int)=0 from rfl)];exact q
def Fi (K:PySem.W.Frag):Sp:=λvs H Q E=>wY K vs H Q E∨Fg K vs H Q E
theorem rq {P:Program}{wd:World}{K:PySem.W.Frag}{mg:Str->Option Value}{base:Heap}(T:Tx K mg):FnOk P wd K mg base CX0 22 T.NV T.NW ["vectors"] (Fi K):=
 ⟨λvs H Q E h=>by
  rcases h with h|h
  ·obtain⟨w,B,KM,St,Vq,Rl,Z,_,h⟩:=h;exact (Et (P:=P) (wd:=wd) (base:=base) T Z).len vs H Q E h
  ·exact (Fh (P:=P) (wd:=wd) (base:=base) T).len vs H Q E h,
  λA outer s H args us vs Q E hr I hb hv h=>by
  rcases h with h|h
  ·obtain⟨w,B,KM,St,Vq,Rl,Z,hk,h⟩:=h;exact (FnOk.mono (Et (P:=P) (wd:=wd) (base:=base) T Z) (by omega)).run A outer s H args us vs Q E hr I hb hv h
  ·exact (FnOk.mono (Fh (P:=P) (wd:=wd) (base:=base) T) (by decide)).run A outer s H args us vs Q E hr I hb hv h⟩
theorem MX (bs:List Addr)(k:Nat):dH (bs.map V.ref) none (some (k:Int))=(bs.take k).map V.ref:=by
 unfold dH;rw[HT.sIx_nat,HT.sIx_none,ac,mF,←mn];congr 1;by_cases z:k<=bs.length
 ·rw[rS z];rfl
 ·rw[Nat.min_eq_right (by omega),F8,eZ (am _),eZ (by omega)]
theorem xq {K:PySem.W.Frag}{a:Addr}{xs:List V}{Pd:Nat->List (List Int)->Prop}{fv:List (Nat×Str)}{te:TE}{Q:VK}{σ:L2.St}{H1:Hp}{D:Addr}(nD:H1 D=none) (hA:SqL K H1 a xs) (hl:xs.length<=900)
  (hs:∀(i:Nat) (v:V) (Hx:Hp) (R:VK),xs[i]?=some v->Same H1 Hx->(∀q,Pd i q->q9 Hx R q)->te (bst fv σ (some v)) Hx R)
  (he:∀(us:List Addr) (qs:List (List (List Int))) (H':Hp),qs.length=xs.length->(∀i q,qs[i]?=some q->Pd i q)->Same H1 H'->H' D=some (.lst (us.map V.ref))->VD H' D us qs->Q (.ref D) H'):jW (Itl K a) fv te Q σ H1 D:=by
 obtain⟨Pc,hPc⟩:∃Pc:Nat->Hp->Prop,∀j Hx,Pc j Hx↔∃(us:List Addr) (qs:List (List (List Int))),qs.length=j∧(∀i q,qs[i]?=some q->Pd i q)∧Same H1 Hx∧Hx D=some (.lst (us.map V.ref))∧VD Hx D us qs:=⟨_,λ_ _=>Iff.rfl⟩
 refine ff (xs:=xs) Pc ((hPc _ _).mpr ⟨[],[],rfl,λi q e=>by simp at e,aw nD _,ag,VD.nil _ _⟩) (λi Hx _ z=>by obtain⟨_,_,_,_,z,_⟩:=(hPc i Hx).mp z;exact z.seq hA) ?_ ?_
 ·intro j v Hx hv hc;obtain⟨us,qs,lq,pq,s1,eD,hV⟩:=(hPc _ _).mp hc;have hj:=(aU.mp hv).1;refine hs j v Hx _ hv s1 λq pq' O bs H2 s2 nO eO lO fO _ _=>?_;have nOD:O≠D:=λz=>by rw[z,eD]at nO;cases nO
  have lu:=hV.len;refine⟨_,s2 _ _ eD,by rw[ac];exact bC (by omega),(hPc _ _).mpr ⟨us++[O],qs++[q],by simp[lq],λi p hp=>?_,(s1.trans s2).more nD,by rw[ag];simp,(hV.same s2).snoc nOD eO lO λz=>by have:=fO _ z;rw[eD]at this;cases this⟩⟩;by_cases z:i<qs.length
  ·rw[b_ z]at hp;exact pq i p hp
  ·have hi:=(aU.mp hp).1;have ei:i=qs.length:=by simp at hi;omega
   subst ei;simp at hp;rw[←hp,lq];exact pq'
 ·intro H' hc;obtain⟨us,qs,lq,pq,s1,eD,hV⟩:=(hPc _ _).mp hc;exact he us qs H' lq pq s1 eD hV
theorem MY {K:PySem.W.Frag}{a b:Addr}{as bs:List Addr}{ps rs ds:List (List Int)}{fv:List (Nat×Str)}{te:TE}{Q:VK}{σ:L2.St}{H1:Hp}{D:Addr}(nD:H1 D=none) (hA:SqL K H1 a (as.map V.ref)) (hL:LL K H1 as ps) (hB:SqL K H1 b (bs.map V.ref)) (hM:LL K H1 bs rs) (hd:ds.length=ps.length) (hr:rs.length=ps.length) (hl:ps.length<=900)
  (hs:∀(i:Nat) (x y:Addr) (p r d:List Int) (Hx:Hp) (R:VK),ps[i]?=some p->rs[i]?=some r->ds[i]?=some d->Same H1 Hx->SqL K Hx x (p.map V.int)->SqL K Hx y (r.map V.int)->dE Hx R (d.map V.int)->te (dh fv σ (some (V.ref x)) (some (V.ref y))) Hx R) (he:q9 H1 Q ds):pR K (Itz K a b) fv te Q σ H1 D:=by
 obtain⟨Pc,hPc⟩:∃Pc:Nat->Hp->Prop,∀j Hx,Pc j Hx↔∃cs:List Addr,Hx D=some (.lst (cs.map V.ref))∧LH Hx cs (ds.take j)∧D∉cs∧cs.Nodup∧(∀b∈cs,H1 b=none)∧Same H1 Hx:=⟨_,λ_ _=>Iff.rfl⟩
 refine CW (xs:=as.map V.ref) (ys:=bs.map V.ref) Pc ((hPc _ _).mpr ⟨[],ag,LH.nil _,by simp,rQ,by simp,aw nD _⟩) (λi Hx _ _ z=>by obtain⟨_,_,_,_,_,_,z⟩:=(hPc i Hx).mp z;exact⟨z.seq hA,z.seq hB⟩) ?_ ?_
 ·intro j v1 v2 pt Hx h1 h2 hc npt;obtain⟨cs,k1,k2,k3,k4,k5,k6⟩:=(hPc _ _).mp hc;obtain⟨x,p,rfl,_,hp,hX⟩:=hL.nth h1;obtain⟨y,r,rfl,_,hr',hY⟩:=hM.nth h2;have hj:j<ps.length:=(aU.mp hp).1;have hdj:ds[j]?=some ds[j]:=aj (by omega);have u:=aw npt (.tup [V.ref x,V.ref y]);have u6:=k6.trans u;refine hs j x y p r _ _ _ hp hr' hdj u6 (u6.seq hX) (u6.seq hY) λF H2 s2 nF eF=>?_;have t2:=u.trans s2;have lk:=k2.len;rw[b6]at lk;have nF1:=u.free nF;have nFD:F≠D:=λz=>by rw[z,k1]at nF1;cases nF1
  have nFb:F∉cs:=k2.notin nF1;have m1:D∉cs++[F]:=λz=>by
   rcases bj.mp z with z|z
   ·exact k3 z
   ·exact nFD (aQ.mp z).symm
  refine⟨_,t2 _ _ k1,by rw[ac];exact bC (by omega),(hPc _ _).mpr ⟨cs++[F],by rw[ag];simp,?_,m1,?_,?_,(k6.trans t2).more nD⟩⟩
  ·have e:ds.take (j+1)=ds.take j++[ds[j]]:=by rw[de,hdj];rfl
   rw[e];exact ((k2.same t2).snoc eF).upd m1
  ·exact rR.mpr ⟨k4,by simp,λx hx y hy z=>nFb (by rw[aQ.mp hy]at z;rw[←z];exact hx)⟩
  ·intro x hx;rcases bj.mp hx with z|z
   ·exact k5 x z
   ·rw[aQ.mp z];exact k6.free nF1
 ·intro H' hc;obtain⟨cs,k1,k2,k3,k4,k5,k6⟩:=(hPc _ _).mp hc;have e1:=hL.len;have e2:=hM.len;rw[ac,ac,eZ (by omega)]at k2;exact he D cs H' k6 nD k1 k2 k5 k3 k4
def dQ (q:List (List Int)):PyData:=.list (q.map dL)
theorem xr {K:PySem.W.Frag}{H:Hp}:∀(us:List Addr) (qs:List (List (List Int))),VH H us qs->DVs K H (us.map V.ref) (qs.map dQ)
 | [],[],_=>.nil
 | [],_ :: _,h=>by have:=h.len;simp at this
 | _ :: _,[],h=>by have:=h.len;simp at this
 | u :: us,q :: qs,h=>by
  obtain⟨as,a1,a2⟩:=h.get 0 u q rfl rfl;exact .cons (Le (SqL.of a1) a2.ll) (xr us qs ⟨by have:=h.len;simpa using this,λi v p e1 e2=>h.get (i+1) v p e1 e2⟩)
theorem Fj (qs:List (List (List Int))):PyData.canLayAll0 (qs.map dQ)=true:=by
 induction qs with
 | nil=>simp[PyData.canLayAll0]
 | cons q qs ih=>simp[PyData.canLayAll0,dQ,PyData.canLay0,Lg,ih]
theorem MZ (qs:List (List (List Int))):PyData.depthAll (qs.map dQ)<=2:=by
 induction qs with
 | nil=>simp[PyData.depthAll]
 | cons q qs ih=>
  have h1:=Li q;rw[dy,PyData.depthAll];have e:(dQ q).depth<=2:=by simp only[dQ,PyData.depth];omega
  omega
theorem M0 (qs:List (List (List Int))):PyData.eqvAll (qs.map dQ) (qs.map dQ)=true:=by
 induction qs with
 | nil=>simp[PyData.eqvAll]
 | cons q qs ih=>simp[PyData.eqvAll,dQ,PyData.eqv,Lf,ih]
theorem VH.app {H:Hp}{us vs:List Addr}{qs rs:List (List (List Int))}(h:VH H us qs)(g:VH H vs rs):VH H (us++vs) (qs++rs):=by
 refine⟨by simp[h.len,g.len],λi v r e1 e2=>?_⟩;have l:=h.len;by_cases z:i<us.length
 ·rw[b_ z]at e1;rw[b_ (by omega)]at e2;exact h.get i v r e1 e2
 ·rw[dz (by omega)]at e1;rw[dz (by omega),←l]at e2;exact g.get _ v r e1 e2
theorem VH.take {H:Hp}{us:List Addr}{qs:List (List (List Int))}(h:VH H us qs)(n:Nat):VH H (us.take n) (qs.take n):=⟨by rw[b6,b6,h.len],λi v r e1 e2=>by
 rw[List.getElem?_take]at e1 e2
 split at e1
 ·rename_i z;rw[if_pos z]at e2;exact h.get i v r e1 e2
 ·cases e1⟩
theorem M4 {xs:List V}(h:xs≠[]):atI xs (-1)=some (xs.getLast h):=by
 have hl:0<xs.length:=cK.mpr h;unfold atI;have e:=CK (n:=xs.length) (i:=1) (by decide) hl;have e1:(-((1:Nat):Int))=-1:=rfl;rw[e1]at e;rw[e];show xs[xs.length-1]?=_;rw[←i6,i7 h]
def Fk (K:PySem.W.Frag):Sp:=λvs H Q _=>∃(a:Addr) (ns:List Int),vs=[.ref a]∧SqL K H a (ns.map V.int)∧ns.length<=63∧∀H',Q (.bl true) H'
theorem M6 {P:Program}{w:World}{K:PySem.W.Frag}{mg:Str->Option Value}{base:Heap}(T:Tx K mg):FnOk P w K mg base CX0 24 T.N4 T.NT ["_law_script"] (Fk K):=by
 refine T.Rr.ok sc_law (λvs H Q E h=>?_) (λcdv A outer s H vs Q E hr h=>?_)
 ·obtain⟨a,ns,rfl,_⟩:=h;rfl
 obtain⟨a,ns,rfl,hS,l63,q⟩:=h;refine⟨_,((ah (ax (i:=1) sc_law.nd rfl (Or.inl rfl) (ak fK (aK (FnOk.mono (kq T) (by decide)) hr rfl T.NQ T.NL.kp T.NR .nil aB (aa (pv 0) (aa ai ae))) ai))
  (ah (ax (i:=2) sc_law.nd rfl (Or.inr rfl) (ak ci (pv 1) (ak fK (ak ji (aK (FnOk.mono (kq T) (by decide)) hr rfl T.NQ T.NL.kp T.NR .nil aB (aa (pv 0) (aa ai ae))) ai) ai)))
  (ah (ax (i:=3) sc_law.nd rfl (Or.inl rfl) (aK (FnOk.mono (MR T) (by decide)) hr rfl T.Rm T.QN.kp T.Rn .nil aB (aa (pv 0) (aa (pv 1) (aa (pv 2) ae)))))
  (ah (ax (i:=4) sc_law.nd rfl (Or.inr rfl) (aK (FnOk.mono (E_ T) (by decide)) hr rfl T.QJ T.PM.kp T.QK .nil aB (aa (aK (FnOk.mono (kq T) (by decide)) hr rfl T.NQ T.NL.kp T.NR .nil aB (aa (pv 0) (aa ai ae))) ae)))
  (ah (ax (i:=5) sc_law.nd rfl (Or.inl rfl) (aK (FnOk.mono (MT T) (by decide)) hr rfl T.Ro T.QO.kp T.Rq .nil aB (aa (pv 0) (aa (pv 1) (aa (pv 4) ae)))))
  (ah (ax (i:=6) sc_law.nd rfl (Or.inl rfl) (ak jk (bU (aa (bU ae) ae)) (pv 2)))
  (ah (cy PassesOwn.never rfl (jp rfl T.NO (aa (pv 5) (aa (pv 3) ae))) (gS rfl (dZ (bN (i:=7) sc_law.nd rfl (Or.inr rfl)) (dZ (bN (i:=8) sc_law.nd rfl (Or.inl rfl)) gQ))) (ao (C7 (i:=6) rfl (CU rfl (dj rfl cM) (pU 7 "_law_g" rfl (Or.inl rfl) (Or.inl rfl) ⟨_,rfl⟩ CT)) (jp rfl T.NO (aa (pv 6) (aa (pv 8) ae))) (λ_ _ _ _=>(aK (FnOk.mono (E7 T) (by decide)) hr rfl T.QL T.PU.kp T.QM .nil aB (aa (pv 0) (aa (aK (FnOk.mono (l6 T) (by decide)) hr rfl T.NY T.NS.kp T.NZ .nil aB (aa (pv 2) (aa (pv 1) ae))) ae)))) sc_law.nd rfl rfl)))
  (ah (kS (i:=9) rfl (dD rfl (dj rfl cM) (d_ 4 "_law_h" (by decide) rfl (Or.inl rfl) (Or.inl rfl) ⟨_,rfl⟩ cV)) (dC (pv 3)) (λ_ _ _ _=>(e_ rfl (dD rfl (dj rfl cM) (d_ 1 "_law_h" (by decide) rfl (Or.inl rfl) (Or.inl rfl) ⟨_,rfl⟩ cV)) (lM (K:=K) rfl (pv 0)) (λ_ _ _ _=>(aK (FnOk.mono (l6 T) (by decide)) hr rfl T.NY T.NS.kp T.NZ .nil aB (aa (pv 1) (aa (pv 0) ae)))))) sc_law.nd rfl rfl)
  (ah (wf (i:=10) rfl (qt rfl (dj rfl cM) (d_ 2 "_law_width" (by decide) rfl (Or.inl rfl) (Or.inl rfl) ⟨_,rfl⟩ cV)) (dC (kL kO (pv 0) (jU ai) (jU ai))) (λ_ _ _ _=>(e_ rfl (dD rfl (dj rfl cM) (d_ 0 "_law_cell" (by decide) rfl (Or.inl rfl) (Or.inl rfl) ⟨_,rfl⟩ cV)) (fo rfl T.NI (aa (pv 1) ae)) (λ_ _ _ _=>(aK (FnOk.mono (rp T) (by decide)) hr rfl T.Oe T.NX.kp T.Of .nil aB (aa (ak ci (pv 1) (pv 0)) ae))))) sc_law.nd rfl rfl)
  (ah (ax (i:=11) sc_law.nd rfl (Or.inr rfl) (ak dg ai (ak iB ai (iU Il rfl T.Q3 CG (aa (vB iT (aR bL (pv 4) (d8 d9 ai) (λ_ _=>rfl)) ai (aN _)) ae)))))
  (ah (ax (i:=12) sc_law.nd rfl (Or.inl rfl) (ak iV (e_ rfl (dD rfl (dj rfl cM) (d_ 11 "_law_sign" (by decide) rfl (Or.inl rfl) (Or.inl rfl) ⟨_,rfl⟩ cV)) (dC (pv 5)) (λ_ _ _ _=>(aK (FnOk.mono (l6 T) (by decide)) hr rfl T.NY T.NS.kp T.NZ .nil aB (aa (bU (aa (d8 d9 (pv 1)) ae)) (aa (pv 0) ae))))) (bU (aa (aK (FnOk.mono (l6 T) (by decide)) hr rfl T.NY T.NS.kp T.NZ .nil aB (aa (bU (aa (pv 11) ae)) (aa (pv 4) ae))) ae))))
  (iD (bY (aO e9 (pv 1) ai (aN _)) (ao (ax (i:=12) sc_law.nd rfl (Or.inl rfl) (bU (aa (bU (aa ai ae)) ae)))) b4)
  (ah (ax (i:=13) sc_law.nd rfl (Or.inl rfl) (ak iV (ak iV (pv 9) (bU (aa (pv 6) ae))) (pv 10)))
  (ah (kS (i:=14) rfl (dD rfl cM cV) (dC (pv 13)) (λ_ _ _ _=>(e_ rfl (dD rfl cM cV) (lM (K:=K) rfl (pv 0)) (λ_ _ _ _=>(iU (DS (K:=K) rfl) rfl T.NK iC (aa (pv 0) ae))))) sc_law.nd rfl rfl)
  (ah (ax (i:=15) sc_law.nd rfl (Or.inl rfl) (aK (FnOk.mono (rq T) (by decide)) hr rfl T.Oc T.NP.kp T.Od .nil aB (aa (pv 14) ae)))
  (ah (bY (PW.pt (jf (mQ (jO (aK (FnOk.mono (E8 T) (by decide)) hr rfl T.QP T.P2.kp T.QQ .nil aB (aa (pv 15) (aa (pv 12) ae))))) (jQ (aO (Jc hr.units) (pv 14) (pv 13) (aN _))))) (ao (aM jN)) b4)
  (ah (e7 (gD PySem.F.plainAttrs_list PySem.F.slot_list_append PySem.F.type_list_append fM (aR bL (pv 15) (d8 d9 ai) (λ_ _=>rfl)) (aa ai ae)))
  (ah (e7 (gD PySem.F.plainAttrs_list PySem.F.slot_list_append PySem.F.type_list_append fM (pv 15) (aa (bU ae) ae)))
  (ao (aM (Bs (vB jS (aK (FnOk.mono (rq T) (by decide)) hr rfl T.Oc T.NP.kp T.Od .nil aB (aa (pv 9) ae)) df (aN _)) (Bs (vB jS (aK (FnOk.mono (rq T) (by decide)) hr rfl T.Oc T.NP.kp T.Od .nil aB (aa (bU ae) ae)) df (aN _)) (HS (aK (FnOk.mono (E8 T) (by decide)) hr rfl T.QP T.P2.kp T.QQ .nil aB (aa (aK (FnOk.mono (rq T) (by decide)) hr rfl T.Oc T.NP.kp T.Od .nil aB (aa (kL kO (pv 14) mZ (jU (ak ci (pv 1) ai))) ae)) (aa (pv 12) ae))))))))))))))))))))))))))),?_⟩
 dsimp only[aC]
 k_typeOf
 refine⟨a,ns,0,rfl,hS,_,rfl,by decide,?_⟩;obtain⟨k,hk,k3⟩:∃k:Nat,cell ns 0 % 4=(k:Int)∧k<=3:=⟨(cell ns 0 % 4).toNat,by omega,by omega⟩
 rw[hk];dsimp only[aC]
 k_typeOf
 refine⟨a,ns,0,rfl,hS,_,rfl,⟨by decide,by decide⟩,by decide,?_⟩;obtain⟨w,hw,kw,w5⟩:∃w:Nat,(k:Int)+cell ns 0 / 4 % 3=(w:Int)∧k<=w∧w<=5:=⟨((k:Int)+cell ns 0 / 4 % 3).toNat,by omega,by omega,by omega⟩
 rw[hw];clear hk hw;dsimp only[aC]
 k_typeOf
 refine⟨a,ns,k,w,rfl,hS,k3,kw,w5,λYl us ys H1 s1 nY eY hY pY=>?_⟩;dsimp only[aC]
 k_typeOf
 refine⟨a,ns,19,rfl,s1.seq hS,_,rfl,λh ph h0 Hh H2 s2 nHh eHh=>?_⟩;have s02:=s1.trans s2;dsimp only[aC]
 k_typeOf
 refine⟨a,Hh,ns,h,k,rfl,s02.seq hS,eHh,ph,h0,k3,λGl gb gs s3' H3 s3 nG eG lG pG=>?_⟩;have s03:=s02.trans s3;have s13:=s2.trans s3;have eY3:=s13 _ _ eY;have hY3:=hY.same s13;have eH3:=s3 _ _ eHh;have hS3:=s03.seq hS;clear s02 s13 hS eY hY eHh nY nHh nG s1 s2 s3;dsimp only[aC]
 k_typeOf
 refine⟨aI _,λE1 n1=>⟨by decide,λE2 n2=>?_⟩⟩;have u1:=aw n1 (.lst []);have u2:=aw n2 (.lst [V.ref E1]);refine⟨_,ag,by omega,by omega,by rw[dU];exact b5 (bC (by simp;omega)),λL0 nL0=>?_⟩;rw[dU,Fa];have u3:=aw nL0 (.lst ((aL w E1).map V.ref));have u:=u1.trans (u2.trans u3);have eL:=ag (H:=L2.upd (L2.upd H3 E1 (.lst [])) E2 (.lst [V.ref E1])) (a:=L0) (o:=.lst ((aL w E1).map V.ref));have lL:LH (L2.upd (L2.upd (L2.upd H3 E1 (.lst [])) E2 (.lst [V.ref E1])) L0 (.lst ((aL w E1).map V.ref))) (aL w E1) (aL w []):=⟨by simp,λi b p h1 h2=>by
  have hb:=jL (bJ h1);have hp:=jL (bJ h2);rw[hb,hp];exact u3 _ _ (u2 _ _ ag)⟩
 have eY4:=u _ _ eY3;have hY4:=hY3.same u;have eG4:=u _ _ eG;have lG4:=lG.same u;have eH4:=u _ _ eH3;have hS4:=u.seq hS3;generalize L2.upd (L2.upd (L2.upd H3 E1 (.lst [])) E2 (.lst [V.ref E1])) L0 (.lst ((aL w E1).map V.ref))=H4 at eL lL eY4 hY4 eG4 lG4 eH4 hS4 ⊢;clear u1 u2 u3 u n1 n2 nL0 eY3 hY3 eG lG eH3 hS3 s03;have ly:=pY.ly;have lg:=pG.lg;have lus:=hY4.len;have lgb:=lG4.len;have gb':∀g∈gs,Nml g∧g.length<=5∧∀c∈g,Bd 110 c:=λg hg=>by
  obtain⟨i,hi,rfl⟩:=dq.mp hg;have e:=aj hi
  cases i with
  | zero=>exact⟨(pG.g0 _ e).1,(pG.g0 _ e).2.1,(pG.g0 _ e).2.2.1⟩
  | succ i=>
   have p:=pG.g1 i _ e;exact⟨p.n,by have:=p.l;omega,λc hc=>(p.b c hc).mono (by decide)⟩
 obtain⟨Pv,hPv⟩:∃Pv:Nat->L2.St->Hp->Prop,∀i σ H',Pv i σ H'↔∃(L:Addr) (lb:List Addr) (zs:List (List Int)) (r7 r8:Option V),σ=[some (V.ref a),some (V.int (k:Int)),some (V.int (w:Int)),some (V.ref Yl),some (V.ref Hh),some (V.ref Gl),some (V.ref L),r7,r8,none,none,none,none,none,none,none]∧H' L=some (.lst (lb.map V.ref))∧LH H' lb zs∧zs.length=w∧(∀f∈zs,Nml f∧f.length<=7∧∀c∈f,Bd (166+i) c)∧(∀j,j<w->∀n,val n (zs.getD j [])=az i λt=>val n (gs.getD t [])*val n ((ys.getD t []).getD j []))∧Same H4 H':=⟨_,λ_ _ _=>Iff.rfl⟩
 dsimp only[aC]
 k_typeOf
 refine⟨_,SqL.of eG4,_,SqL.of eY4,kX (xs:=gb.map V.ref) (ys:=us.map V.ref) Pv ((hPv _ _ _).mpr ⟨L0,aL w E1,aL w [],none,none,rfl,eL,lL,by simp,λf hf=>by rw[jL hf];exact⟨cD,by simp,by simp⟩,λj hj n=>by rw[av,i5,if_pos hj];rfl,Same.refl _⟩) (λi σ H' _ _ z=>by obtain⟨_,_,_,_,_,_,_,_,_,_,_,z⟩:=(hPv i σ H').mp z;exact⟨SqL.of (z _ _ eG4),SqL.of (z _ _ eY4)⟩) ?_ ?_⟩
 ·intro i v1 v2 pt σ H5 h1 h2 hp npt;obtain⟨L,lb,zs,r7,r8,rfl,eL5,lL5,lz,bz,vz,s5⟩:=(hPv _ _ _).mp hp;rw[aA]at h1 h2;obtain⟨g,hg,rfl⟩:=cO.mp h1;obtain⟨y,hy,rfl⟩:=cO.mp h2;have hi:i<k:=by have:=(aU.mp hg).1;omega
  have hgs:gs[i]?=some (gs.getD i []):=by rw[av,aj (by omega)];rfl
  have hys:ys[i]?=some (ys.getD i []):=by rw[av,aj (by omega)];rfl
  have eg:=lG4.get i _ _ hg hgs;obtain⟨yb,ey,lyb⟩:=hY4.get i _ _ hy hys;obtain⟨g1,g2,g3⟩:=gb' _ (bJ hgs);obtain⟨y1,y2⟩:=pY.yb _ (bJ hys);have u:=aw npt (.tup [V.ref g,V.ref y]);have s6:=s5.trans u;have eL6:=u _ _ eL5;have lL6:=lL5.same u;have eT:=ag (H:=H5) (a:=pt) (o:=.tup [V.ref g,V.ref y]);generalize L2.upd H5 pt (.tup [V.ref g,V.ref y])=H6 at u s6 eL6 lL6 eT ⊢
  k_units
  have lzy:zs.length=(ys.getD i []).length:=by rw[lz,y1]
  obtain⟨dsn,hdsn⟩:∃dsn:List (List Int),dsn=i8 (λp m=>fg p (pdL (gs.getD i []) m)) zs (ys.getD i []):=⟨_,rfl⟩
  have ldn:dsn.length=w:=by rw[hdsn,mG,←lzy,lz,Nat.min_self]
  have dat:∀(j:Nat) (p r:List Int),zs[j]?=some p->(ys.getD i [])[j]?=some r->dsn[j]?=some (fg p (pdL (gs.getD i []) r)):=λj p r hp hr=>by rw[hdsn,No,hp,hr]
  have pat:∀j,j<w->zs[j]?=some (zs.getD j [])∧(ys.getD i [])[j]?=some ((ys.getD i []).getD j []):=λj hj=>⟨by rw[av,aj (by omega)];rfl,by rw[av (l:=ys.getD i []),aj (by omega)];rfl⟩
  refine⟨_,SqT.of eT,rfl,_,_,rfl,_,_,rfl,rfl,y,rfl,_,SqL.of eL6,_,SqL.of (s6 _ _ ey),λDn nDn=>MY (ps:=zs) (rs:=ys.getD i []) (ds:=dsn) nDn (SqL.of eL6) lL6.ll (SqL.of (s6 _ _ ey)) (lyb.same s6).ll (by omega) lzy.symm (by omega) (λj x m p r d Hx R hp hr hd sx hx hm hR=>?_) (λO ob H7 s7 nO eO lO _ _ _=>?_)⟩
  ·(iterate 3 (k_units;(try simp only[dh,bst,dr]));k_units)
   have ed:d=fg p (pdL (gs.getD i []) r):=by rw[dat j p r hp hr]at hd;exact (Option.some.inj hd).symm
   have pr:=y2 r (bJ hr);obtain⟨_,b2,_⟩:=bz p (bJ hp);refine⟨g,m,gs.getD i [],r,110,53,rfl,SqL.of (sx _ _ (s6 _ _ eg)),hm,by omega,by have:=pr.l;omega,g3,pr.b,by decide,λws nw lw cw F Hy sy nF eF=>⟨x,F,p,ws,rfl,sy.seq hx,SqL.of eF,by omega,by have:=pr.l;omega,λvs nu lu cu F2 Hz sz nF2 eF2=>hR F2 Hz (sy.trans sz) (sy.free nF2) ?_⟩⟩;have e2:d=vs:=by rw[ed];exact gj (j5 _ _) nu λj=>by rw[ju,f8,cu,cw]
   rw[e2];exact eF2
  ·refine (hPv _ _ _).mpr ⟨O,ob,dsn,_,_,rfl,eO,lO,ldn,λf hf=>?_,λj hj n=>?_,s6.trans s7⟩
   ·obtain⟨j,hj⟩:=Ny.mp hf;have hjw:j<w:=by have:=(aU.mp hj).1;omega
    obtain⟨q1,q2⟩:=pat j hjw;rw[dat j _ _ q1 q2]at hj;rw[←Option.some.inj hj];obtain⟨_,b2,b3⟩:=bz _ (bJ q1);have pr:=y2 _ (bJ q2);have al:=qO (zs.getD j []) (pdL (gs.getD i []) ((ys.getD i []).getD j []));have pl:=gu g1 pr.n;have:=pr.l;refine⟨j5 _ _,by omega,cW λt=>?_⟩;rw[ju,f8];exact (cF (P:=λz=>Bd (166+i) z) b3 (Bd.zero _) t).add ((iH (c:=3) g3 pr.b (by omega) t).mono (by omega))
   ·obtain⟨q1,q2⟩:=pat j hj;have e:dsn.getD j []=fg (zs.getD j []) (pdL (gs.getD i []) ((ys.getD i []).getD j [])):=by rw[av,dat j _ _ q1 q2];rfl
    rw[e,qN,aH,vz j hj n];rfl
 intro σ H5 hp;rw[ac,ac,show min gb.length us.length=k by omega]at hp;obtain⟨L,lb,qv,r7,r8,rfl,eL5,lL5,lz,bz,vz,s5⟩:=(hPv _ _ _).mp hp;have D:=MU k3 w5 kw pY ph h0 pG ⟨lz,λf hf=>⟨(bz f hf).1,(bz f hf).2.1,λc hc=>((bz f hf).2.2 c hc).mono (by omega)⟩⟩ vz;have eY5:=s5 _ _ eY4;have hY5:=hY4.same s5;have eG5:=s5 _ _ eG4;have lG5:=lG4.same s5;have eH5:=s5 _ _ eH4;have hS5:=s5.seq hS4;clear hp hPv Pv eY4 hY4 eG4 lG4 eH4 hS4 s5 eL lL;dsimp only[aC]
 k_typeOf
 refine⟨⟨_,SqL.of eY5⟩,λDa nDa=>xq (xs:=us.map V.ref) (Pd:=λi q=>q=V21 ys h i) nDa (SqL.of eY5) (by rw[ac];omega) (λi v Hx R hv sx hR=>?_) (λau aq H6 la pa s6 eA hA=>?_)⟩
 ·rw[aA]at hv;obtain⟨y,hy,rfl⟩:=cO.mp hv;have hi:i<k:=by have:=(aU.mp hy).1;omega
  have hys:ys[i]?=some (ys.getD i []):=by rw[av,aj (by omega)];rfl
  obtain⟨yb,ey,lyb⟩:=hY5.get i _ _ hy hys;obtain⟨y1,y2⟩:=pY.yb _ (bJ hys);have ey2:=sx _ _ ey
  (iterate 3 (k_units;(try simp only[dh,bst,dr]));k_units)
  refine⟨⟨_,SqL.of ey2⟩,λDb nDb=>q_ (ps:=ys.getD i []) (ds:=V21 ys h i) nDb (SqL.of ey2) (lyb.same sx).ll (by unfold V21;simp) (by omega) (λj b p d Hy R' hp hd sy hb hR'=>?_) (hR _ rfl)⟩
  (iterate 3 (k_units;(try simp only[dh,bst,dr]));k_units)
  have pr:=y2 p (bJ hp);have lh:=ph.l;have lp:=pr.l;refine⟨Hh,b,h,p,53,53,rfl,SqL.of (sy _ _ (sx _ _ eH5)),hb,by omega,by omega,ph.b,pr.b,by decide,λws nw lw cw F Hz sz nF eF=>hR' F Hz sz nF ?_⟩;have ed:d=ws:=by
   have e1:(V21 ys h i)[j]?=some (pdL h p):=by unfold V21;rw[aA,hp];rfl
   rw[e1]at hd;rw[←Option.some.inj hd];exact gj (bT _ _) nw λt=>by rw[f8,cw]
  rw[ed];exact eF
 have ea:aq=(aD k).map (V21 ys h):=by
  refine Gq λi=>?_;rw[aA];by_cases z:i<k
  ·rw[jI z];have hi:i<aq.length:=by rw[la,ac];omega
   have e:=aj hi;rw[e,pa i _ e];rfl
  ·rw[gz (by rw[la,ac];omega),gz (by simp;omega)];rfl
 subst ea;have hA6:=hA.vh;have eL6:=s6 _ _ eL5;have lL6:=lL5.same s6;have eG6:=s6 _ _ eG5;have lG6:=lG5.same s6;have eH6:=s6 _ _ eH5;have hS6:=s6.seq hS5;clear eY5 hY5 eG5 lG5 eH5 hS5 s6 eL5 lL5 hA pa la;dsimp only[aC]
 k_typeOf
 refine⟨_,hS6,λSc nSc=>?_⟩;obtain⟨es,hes⟩:∃es:List Int,dH (ns.map V.int) (some 20) (some 63)=es.map V.int:=by
  unfold dH;rw[←xz,←mn];exact⟨_,rfl⟩
 have les:es.length<=63:=by
  have:=congrArg ij hes;unfold dH at this;simp at this;omega
 rw[hes];have u:=aw nSc (.lst (es.map V.int));have eS7:=ag (H:=H6) (a:=Sc) (o:=.lst (es.map V.int));have eA7:=u _ _ eA;have hA7:=hA6.same u;have eL7:=u _ _ eL6;have lL7:=lL6.same u;have eG7:=u _ _ eG6;have lG7:=lG6.same u;have eH7:=u _ _ eH6;generalize L2.upd H6 Sc (.lst (es.map V.int))=H7 at eS7 eA7 hA7 eL7 lL7 eG7 lG7 eH7 ⊢;clear u nSc eA hA6 eL6 lL6 eG6 lG6 eH6 hS6 hes;refine⟨⟨_,SqL.of eS7⟩,λDb nDb=>xq (xs:=es.map V.int) (Pd:=λ_ q=>q.length=w) nDb (SqL.of eS7) (by rw[ac];omega) (λi v Hx R hv sx hR=>?_) (λbu bq H8 lbq pbq s8 eB hB=>?_)⟩
 ·rw[aA]at hv;obtain⟨c,hc,rfl⟩:=cO.mp hv
  (iterate 3 (k_units;(try simp only[dh,bst,dr]));k_units)
  refine⟨by omega,by omega,λDc nDc=>?_⟩;rw[dU];refine Fe (Pd:=PolyP) nDc (by omega) (λj Hy R' hj sy hR'=>?_) (λds ld _=>hR ds ld)
  (iterate 3 (k_units;(try simp only[dh,bst,dr]));k_units)
  exact⟨_,rfl,λf pf=>hR' f pf⟩
 have eA8:=s8 _ _ eA7;have hA8:=hA7.same s8;have hB8:=hB.vh;have eL8:=s8 _ _ eL7;have lL8:=lL7.same s8;have eG8:=s8 _ _ eG7;have lG8:=lG7.same s8;have eH8:=s8 _ _ eH7;clear s8 eA7 hA7 hB eL7 lL7 eG7 lG7 eH7 eS7;have sg0:a8 h≠0:=by rcases ko h with z|z <;> rw[z] <;> decide
 have sgb:Bd 1 (a8 h):=by
  rcases ko h with z|z <;> rw[z]
  ·exact Bd.one (by decide)
  ·exact (Bd.one (by decide)).neg
 have hsg:(1:Int)-2*(if h.getLast h0<0 then 1 else 0)=a8 h:=by
  have e:co h (h.length-1)=h.getLast h0:=by unfold co;rw[av,←i6,i7 h0];rfl
  unfold a8;rw[e];by_cases z:h.getLast h0<0 <;> simp[z]
 have one:∀{c:Int}{b:Addr}{p d:List Int}{Hx:Hp}{R:VK},c≠0->Bd 1 c->Nml p->p.length<=5->(∀z∈p,Bd 110 z)->d=p.map (λz=>c*z)->SqL K Hx b (p.map V.int)->dE Hx R (d.map V.int)->∀o,Hx o=none->E6 K [.ref o,.ref b] (L2.upd Hx o (.lst [V.int c])) R E0:=λ{c b p d Hx R} c0 bc np lp bp hd hb hR o no=>by
  have t:=aw no (.lst [V.int c]);refine⟨o,b,[c],p,1,110,rfl,SqL.of (xs:=[c].map V.int) ag,t.seq hb,by simp,by omega,λx hx=>by rw[aQ.mp hx];exact bc,bp,by decide,λws nw lw cw F Hz sz nF eF=>hR F Hz (t.trans sz) (t.free nF) ?_⟩;have e:d=ws:=by
   rw[hd];refine cG (ie c0 np) nw λn=>?_;have e1:val n ws=val n (a7 [c] p):=f7 (λk=>by rw[cw k,fZ]) n;rw[e1,du,aS];simp[val]
  rw[e];exact eF
 dsimp only[aC]
 k_typeOf
 refine⟨_,SqL.of eH8,_,jo h0,_,rfl,.inr ⟨.inl ⟨by decide,by decide⟩,?_⟩⟩;rw[hsg];dsimp only[aC]
 k_typeOf
 refine⟨⟨_,SqL.of eG8⟩,λDd nDd=>?_⟩;refine q_ (ps:=gs) (ds:=gs.map λg=>g.map λz=>-a8 h*z) nDd (SqL.of eG8) lG8.ll (by simp) (by omega) (λi b p d Hx R hp hd sx hb hR=>?_) (λO ob H9 s9 nO eO lO fO nOb _=>?_)
 ·(iterate 3 (k_units;(try simp only[dh,bst,dr]));k_units)
  rw[aA,hp]at hd;obtain⟨b1,b2,b3⟩:=gb' p (bJ hp);exact⟨by decide,one (by omega) sgb.neg b1 b2 b3 (Option.some.inj hd).symm hb hR⟩
 refine⟨by decide,one (d:=h.map λz=>a8 h*z) sg0 sgb ph.n (by have:=ph.l;omega) (λz hz=>(ph.b z hz).mono (by decide)) rfl (SqL.of (s9 _ _ eH8)) λF2 H10 s10 nF2 eF2=>⟨by decide,λp2 np2=>?_⟩⟩;have u2:=aw np2 (.lst [V.ref F2]);have lob:=lO.len;rw[ac]at lob;refine⟨O,rfl,_,u2 _ _ (s10 _ _ eO),_,ag,by rw[ac,lob];exact b5 (bC (by simp;omega)),λDu nDu=>?_⟩;have u3:=aw nDu (.lst (ob.map V.ref++[V.ref F2]));have s12:=s9.trans (s10.trans (u2.trans u3));have eD12:=ag (H:=L2.upd H10 p2 (.lst [V.ref F2])) (a:=Du) (o:=.lst (ob.map V.ref++[V.ref F2]));have lD12:LH (L2.upd (L2.upd H10 p2 (.lst [V.ref F2])) Du (.lst (ob.map V.ref++[V.ref F2]))) (ob++[F2]) ((gs.map λg=>g.map λz=>-a8 h*z)++[h.map λz=>a8 h*z]):=(lO.same (s10.trans (u2.trans u3))).snoc (u3 _ _ (u2 _ _ eF2));generalize L2.upd (L2.upd H10 p2 (.lst [V.ref F2])) Du (.lst (ob.map V.ref++[V.ref F2]))=H12 at s12 eD12 lD12 ⊢;clear u2 u3 s10 s9 eO lO fO nOb nO eF2 nF2 np2 nDu;have eA:=s12 _ _ eA8;have hA:=hA8.same s12;have eB12:=s12 _ _ eB;have hB:=hB8.same s12;have eL:=s12 _ _ eL8;have lL:=lL8.same s12;clear eA8 hA8 eB hB8 eL8 lL8 eG8 lG8 eH8 s12;obtain⟨M,hM⟩:∃M:L2.St->Hp->Prop,∀σ Hx,M σ Hx↔∃(Du:Addr) (db:List Addr),σ=[some (V.ref a),some (V.int (k:Int)),some (V.int (w:Int)),some (V.ref Yl),some (V.ref Hh),some (V.ref Gl),some (V.ref L),r7,r8,some (V.ref Da),some (V.ref Db),some (V.int (a8 h)),some (V.ref Du),none,none,none]∧Same H12 Hx∧Hx Du=some (.lst (db.map V.ref))∧LH Hx db (b8 gs h (aD k)):=⟨_,λ_ _=>Iff.rfl⟩
 refine gY M ?_ ?_
 ·k_units
  refine bR (λz=>?_) (λz=>?_)
  ·have k0:k=0:=by omega
   refine⟨by decide,λp np=>⟨by decide,λp' np'=>?_⟩⟩;have t1:=aw np (.lst [V.int 1]);have t2:=aw np' (.lst [V.ref p]);refine (hM _ _).mpr ⟨p',[p],rfl,t1.trans t2,ag,?_⟩;have e:b8 gs h (aD k)=[[1]]:=by unfold b8;rw[if_pos (by rw[k0];rfl)]
   rw[e];exact (LH.nil _).snoc (p:=[1]) (t2 _ _ ag)
  ·have e:b8 gs h (aD k)=(gs.map λg=>g.map λz=>-a8 h*z)++[h.map λz=>a8 h*z]:=by
    unfold b8;rw[if_neg (λy=>by have:=congrArg ij y;simp at this;omega)];congr 1;refine gJ (by simp;omega) λi a1 a2=>?_;rw[bO,bO,ir,av,aj (by simpa using a2)];rfl
   refine (hM _ _).mpr ⟨Du,ob++[F2],rfl,Same.refl _,by rw[eD12];simp,?_⟩;rw[e];exact lD12
 intro σ H13 hm;obtain⟨Du2,db,rfl,s13,eD,lD⟩:=(hM _ _).mp hm;have eA13:=s13 _ _ eA;have hA13:=hA.same s13;have eB13:=s13 _ _ eB12;have hB13:=hB.same s13;have eL13:=s13 _ _ eL;have lL13:=lL.same s13;clear hm hM M eA hA eB12 hB eL lL s13 eD12 lD12;dsimp only[aC]
 k_typeOf
 have lau:=hA13.len;have lbu:=hB13.len;rw[ac,fI]at lau;rw[lbq,ac]at lbu;refine⟨by decide,λp np=>?_⟩;have t1:=aw np (.lst [V.ref L]);refine⟨_,t1 _ _ eA13,_,ag,by rw[ac];exact b5 (bC (by simp;omega)),λp1 np1=>?_⟩;have t2:=aw np1 (.lst (au.map V.ref++[V.ref L]));have t12:=t1.trans t2;refine⟨_,ag,_,t12 _ _ eB13,by rw[bM,ac,ac];exact b5 (bC (by simp;omega)),λVh nVh=>?_⟩;have t3:=aw nVh (.lst (au.map V.ref++[V.ref L]++bu.map V.ref));have t:=t12.trans t3;have eV:=ag (H:=L2.upd (L2.upd H13 p (.lst [V.ref L])) p1 (.lst (au.map V.ref++[V.ref L]))) (a:=Vh) (o:=.lst (au.map V.ref++[V.ref L]++bu.map V.ref));have hV:VH _ (au++[L]++bu) ((aD k).map (V21 ys h)++[qv]++bq):=((hA13.snoc eL13 lL13).app hB13).same t;have ev:au.map V.ref++[V.ref L]++bu.map V.ref=(au++[L]++bu).map V.ref:=by simp
 rw[ev]at t eV hV ⊢;have eA:=t _ _ eA13;have hA:=hA13.same t;have eD14:=t _ _ eD;have lD14:=lD.same t;generalize L2.upd (L2.upd (L2.upd H13 p (.lst [V.ref L])) p1 (.lst (au.map V.ref++[V.ref L]))) Vh (.lst ((au++[L]++bu).map V.ref))=H14 at eV hV eA hA eD14 lD14 ⊢;clear t1 t2 t12 t3 t ev eA13 hA13 eB13 hB13 eL13 lL13 np np1 nVh eD lD;obtain⟨vu,hvu⟩:∃vu,vu=au++[L]++bu:=⟨_,rfl⟩
 obtain⟨al,hal⟩:∃al,al=(aD k).map (V21 ys h)++[qv]++bq:=⟨_,rfl⟩
 have lal:al.length=k+1+bq.length:=by rw[hal];simp;omega
 rw[←hvu]at eV hV;rw[←hal]at hV;have lvu:=hV.len;have lbq':bq.length<=63:=by rw[lbq,ac];exact les
 have wal:∀q∈al,q.length<=900:=λq hq=>by
  rw[hal,FY]at hq;rcases bj.mp hq with z|z
  ·obtain⟨i,hi,rfl⟩:=aW.mp z;have:=(D.vec (dS.mp hi)).1;omega
  ·rcases a_.mp z with z|z
   ·rw[z];omega
   ·obtain⟨i,hi⟩:=Ny.mp z;have:=pbq i q hi;omega
 dsimp only[aC]
 k_typeOf
 refine⟨⟨_,SqL.of eV⟩,λDe nDe=>xq (xs:=vu.map V.ref) (Pd:=λi q=>al[i]?=some q) nDe (SqL.of eV) (by rw[ac];omega) (λi v Hx R hv sx hR=>?_) (λhu hq H15 lhq phq s15 eHd hHd=>?_)⟩
 ·rw[aA]at hv;obtain⟨y,hy,rfl⟩:=cO.mp hv;have hi:i<al.length:=by have:=(aU.mp hy).1;omega
  have hys:=aj hi;obtain⟨yb,ey,lyb⟩:=hV.get i _ _ hy hys;have ey2:=sx _ _ ey
  (iterate 3 (k_units;(try simp only[dh,bst,dr]));k_units)
  refine⟨⟨_,SqL.of ey2⟩,λDf nDf=>q_ (ps:=al[i]) (ds:=al[i]) nDf (SqL.of ey2) (lyb.same sx).ll rfl (wal _ (bH hi)) (λj b p d Hy R' hp hd sy hb hR'=>?_) (hR _ hys)⟩
  (iterate 3 (k_units;(try simp only[dh,bst,dr]));k_units)
  have e:d=p:=by rw[hp]at hd;exact (Option.some.inj hd).symm
  subst e;exact⟨_,.inl hb,λl hl=>hR' l _ (aw hl _) hl ag⟩
 have eq:hq=al:=by
  refine Gq λi=>?_;by_cases z:i<al.length
  ·have hi:i<hq.length:=by rw[lhq,ac];omega
   have e:=aj hi;rw[e,phq i _ e]
  ·rw[gz (by rw[lhq,ac];omega),gz (by omega)]
 subst eq;have hH:=hHd.vh;have eV15:=s15 _ _ eV;have hV15:=hV.same s15;have eA15:=s15 _ _ eA;have hA15:=hA.same s15;have eD15:=s15 _ _ eD14;have lD15:=lD14.same s15;clear eV hV eA hA eD14 lD14 s15 hHd phq lhq;dsimp only[aC]
 k_typeOf
 have hal':hq=(aD k).map (V21 ys h)++qv :: bq:=by rw[hal];simp
 have lres:(b8 gs h (aD k)).length<=900∧∀d∈b8 gs h (aD k),d.length<=900:=by
  unfold b8
  split
  ·simp
  ·refine⟨by simp;omega,λd hd=>?_⟩;rcases bj.mp hd with z|z
   ·obtain⟨i,hi,rfl⟩:=aW.mp z;have hi':=dS.mp hi;rw[ac];have:=(gb' _ (mem_getD (d:=([]:List Int)) (show i<gs.length by omega))).2.1;omega
   ·rw[aQ.mp z,ac];have:=ph.l;omega
 refine .inl (Ff D (SqL.of eHd) hH.vl hal' λF fb H16 s16 nF eF lF fF nFb=>?_);dsimp only[aC]
 k_typeOf
 refine⟨F,Du2,fb,db,_,rfl,eF,lF,SqL.of (s16 _ _ eD15),(lD15.same s16).ll,lres.1,lres.2,λH17 s17=>?_⟩;refine⟨true,rfl,?_⟩;rw[if_neg (by decide)];have s167:=s16.trans s17;refine⟨_,DV.lst (SqL.of (s167 _ _ eHd)) (xr _ _ (hH.same s167)),_,DV.lst (SqL.of (s167 _ _ eV15)) (xr _ _ (hV15.same s167)),by simp[PyData.canLay0,Fj],by simp[PyData.canLay0,Fj],by have:=MZ hq;simp[PyData.depth];omega,?_⟩;rw[if_neg (by simp[PyData.eqv,M0])];have eF17:=s17 _ _ eF;have lF17:=lF.same s17;have lfb:=lF17.len;have lr0:0<(b8 gs h (aD k)).length:=by unfold b8;split <;> simp
 have f0:fb.map V.ref≠[]:=λz=>by have:=congrArg ij z;rw[ac]at this;simp at this;rw[this]at lfb;simp at lfb;omega
 have hbl:fb[fb.length-1]?=some fb[fb.length-1]:=aj (by omega);have hrl:(b8 gs h (aD k))[fb.length-1]?=some (b8 gs h (aD k))[fb.length-1]:=aj (by omega);have eb:=lF17.get _ _ _ hbl hrl;have lb':=lres.2 _ (bJ hrl);have el:(fb.map V.ref).getLast f0=V.ref fb[fb.length-1]:=by rw[Gi,bO];congr 2;simp
 have fb0:=fF _ (bJ hbl);have bF:F≠fb[fb.length-1]:=λz=>nFb (by rw[z];exact bJ hbl);generalize fb[fb.length-1]=b at hbl eb el fb0 bF;generalize (b8 gs h (aD k))[fb.length-1]=rl at hrl eb lb';dsimp only[aC]
 k_typeOf
 refine⟨_,SqL.of eF17,V.ref b,by rw[M4 f0,el],fV (SqL.of eb),b,rfl,_,eb,by rw[ac];exact bC (by omega),?_⟩;have s18:=s167.more (o:=.lst (rl.map V.int++[V.int 3])) fb0;have eF18:L2.upd H17 b (.lst (rl.map V.int++[V.int 3])) F=some (.lst (fb.map V.ref)):=by rw[ar bF];exact eF17
 generalize L2.upd H17 b (.lst (rl.map V.int++[V.int 3]))=H18 at s18 eF18 ⊢;clear eb eF17 lF17;dsimp only[aC]
 k_typeOf
 refine⟨fV (SqL.of eF18),aI _,λp np=>?_⟩;have v1:=aw np (.lst []);refine⟨_,v1 _ _ eF18,by rw[ac];exact bC (by omega),?_⟩;have s19:=(s18.trans v1).more (o:=.lst (fb.map V.ref++[V.ref p])) nF;generalize L2.upd (L2.upd H18 p (.lst [])) F (.lst (fb.map V.ref++[V.ref p]))=H19 at s19 ⊢;have eA19:=s19 _ _ eA15;have hA19:=hA15.same s19;have eD19:=s19 _ _ eD15;have lD19:=lD15.same s19;have eH19:=s19 _ _ eHd;have hH19:=hH.same s19;clear s18 eF18 v1 np s19 s167 s16 s17;have rA:∀Q':VK,(∀H',Same H19 H'->Q' .non H')->Fi K [.ref Da] H19 Q' E0:=λQ' hQ=>by
  by_cases z:0<k
  ·exact .inl (MV D z (SqL.of eA19) hA19.vl hQ)
  ·have e:au=[]:=bK (by omega);rw[e]at eA19;exact .inr ⟨Da,rfl,SqL.of eA19,hQ H19 (Same.refl _)⟩
 refine rA _ λH20 s20=>?_;rw[if_pos rfl];refine⟨aI _,λp np=>.inr ⟨p,rfl,SqL.of ag,?_⟩⟩;show if V.non=V.non then _ else _
 rw[if_pos rfl];have v2:=s20.trans (aw np (.lst []));refine⟨_,SqL.of (v2 _ _ eH19),λp2 np2=>?_⟩;have ec:dH (hu.map V.ref) none (some ((k:Int)+1))=(hu.take (k+1)).map V.ref:=by
  rw[show (k:Int)+1=((k+1:Nat):Int) by omega];exact MX _ _
 rw[ec];have v3:=v2.trans (aw np2 (.lst ((hu.take (k+1)).map V.ref)));have lt:hq.take (k+1)=(aD k).map (V21 ys h)++qv :: []:=by
  have e:((aD k).map (V21 ys h)++[qv]).length=k+1:=by simp
  rw[hal,Gb (by omega),eZ (by omega)]
 refine .inl (Ff (rest:=[]) D (SqL.of ag) ((hH19.same v3).take (k+1)).vl lt λF fb H' s' nF eF lF _ _=>?_);have v4:=v3.trans s';exact⟨F,Du2,fb,db,_,rfl,eF,lF,SqL.of (v4 _ _ eD19),(lD19.same v4).ll,lres.1,lres.2,λH'' _=>q H''⟩
theorem M9 {us:List Value}(h:us.length=1):∃x0,us=[x0]:=by
 match us,h with
 | [x0],_=>exact⟨x0,rfl⟩
theorem M_ {us:List Value}(h:us.length=2):∃x0 x1,us=[x0,x1]:=by
 match us,h with
 | [x0,x1],_=>exact⟨x0,x1,rfl⟩
theorem Na {us:List Value}(h:us.length=3):∃x0 x1 x2,us=[x0,x1,x2]:=by
 match us,h with
 | [x0,x1,x2],_=>exact⟨x0,x1,x2,rfl⟩
theorem Nb {us:List Value}(h:us.length=4):∃x0 x1 x2 x3,us=[x0,x1,x2,x3]:=by
 match us,h with
 | [x0,x1,x2,x3],_=>exact⟨x0,x1,x2,x3,rfl⟩
local macro_rules | `(tactic| o_law)=>`(tactic| (intro _ _ _ _ _ _ us hl;first|(obtain⟨x0,e⟩:=M9 hl;subst e;rfl)|(obtain⟨x0,x1,e⟩:=M_ hl;subst e;rfl)|(obtain⟨x0,x1,x2,e⟩:=Na hl;subst e;rfl)|(obtain⟨x0,x1,x2,x3,e⟩:=Nb hl;subst e;rfl)))
abbrev fdK (x q:Str) (st:Stmt) (pm:Value) (c:Nat):FuncData:=PySem.W.fnOf x q (kQ st) (jl st) (aY st) .none .none .none pm none (.ref c) .none
abbrev FU (P:Params) (x q:Str) (st:Stmt) (f:Addr) (pm:Value) (c:Nat):Prop:=Fun (KK P) x q st f (fdK x q st pm c)
theorem fuk {P:Params}{x q:Str}{st:Stmt}{f:Addr}{pm:Value}{c:Nat}(l:(KK P).lookup f=some ⟨.type "function",none,.func (fdK x q st pm c),#[]⟩) (h:PySem.W.codeIn (KK P) (.ref c) q=true) (k:PySem.W.keepIn (KK P) (.ref f)=true):FU P x q st f pm c:=IU l h k
abbrev pm0:Value:=.str "sumcraft.polys" 223
abbrev pm1:Value:=.str "sumcraft.ratios" 283
abbrev pm2:Value:=.str "sumcraft.reaches" 318
abbrev pm3:Value:=.str "sumcraft.spans" 382
abbrev pm4:Value:=.str "law_sumcraft_k21_a_relation_made" 539
theorem kf0 (P:Params):FU P "trimmed" "trimmed" r_ 46 pm0 45:=fuk (by kernel_rfl) (by kernel_rfl) (by kernel_rfl)
theorem kf1 (P:Params):FU P "poly_plus" "poly_plus" sd 53 pm0 52:=fuk (by kernel_rfl) (by kernel_rfl) (by kernel_rfl)
theorem kf2 (P:Params):FU P "poly_times" "poly_times" sf 60 pm0 59:=fuk (by kernel_rfl) (by kernel_rfl) (by kernel_rfl)
theorem kf3 (P:Params):FU P "poly_value" "poly_value" si 67 pm0 66:=fuk (by kernel_rfl) (by kernel_rfl) (by kernel_rfl)
theorem kf4 (P:Params):FU P "quotient" "quotient" sj 74 pm0 73:=fuk (by kernel_rfl) (by kernel_rfl) (by kernel_rfl)
theorem kf5 (P:Params):FU P "shortened" "shortened" sk 81 pm1 80:=fuk (by kernel_rfl) (by kernel_rfl) (by kernel_rfl)
theorem kf6 (P:Params):FU P "divisor" "divisor" so 88 pm1 87:=fuk (by kernel_rfl) (by kernel_rfl) (by kernel_rfl)
theorem kf7 (P:Params):FU P "content" "content" sr 95 pm2 94:=fuk (by kernel_rfl) (by kernel_rfl) (by kernel_rfl)
theorem kf8 (P:Params):FU P "over" "over" su 100 pm2 99:=fuk (by kernel_rfl) (by kernel_rfl) (by kernel_rfl)
theorem kf9 (P:Params):FU P "upright" "upright" sw 105 pm2 104:=fuk (by kernel_rfl) (by kernel_rfl) (by kernel_rfl)
theorem Fl (P:Params):FU P "spread" "spread" sB 112 pm2 111:=fuk (by kernel_rfl) (by kernel_rfl) (by kernel_rfl)
theorem Fm (P:Params):FU P "greatest_size" "greatest_size" sC 117 pm2 116:=fuk (by kernel_rfl) (by kernel_rfl) (by kernel_rfl)
theorem Fn (P:Params):FU P "bare_common" "bare_common" sD 124 pm2 123:=fuk (by kernel_rfl) (by kernel_rfl) (by kernel_rfl)
theorem Fo (P:Params):FU P "common" "common" sE 129 pm2 128:=fuk (by kernel_rfl) (by kernel_rfl) (by kernel_rfl)
theorem Fp (P:Params):FU P "common_of" "common_of" sF 136 pm2 135:=fuk (by kernel_rfl) (by kernel_rfl) (by kernel_rfl)
theorem Fs (P:Params):FU P "lowered" "lowered" sI 141 pm3 140:=fuk (by kernel_rfl) (by kernel_rfl) (by kernel_rfl)
theorem Ft (P:Params):FU P "through" "through" sJ 148 pm3 147:=fuk (by kernel_rfl) (by kernel_rfl) (by kernel_rfl)
theorem Fu (P:Params):FU P "greatest_degree" "greatest_degree" sK 153 pm3 152:=fuk (by kernel_rfl) (by kernel_rfl) (by kernel_rfl)
theorem Fv (P:Params):FU P "degree_bound" "degree_bound" sL 158 pm3 157:=fuk (by kernel_rfl) (by kernel_rfl) (by kernel_rfl)
theorem Fx (P:Params):FU P "cleared" "cleared" sM 163 pm3 162:=fuk (by kernel_rfl) (by kernel_rfl) (by kernel_rfl)
theorem Fy (P:Params):FU P "relation" "relation" sO 246 pm3 245:=fuk (by kernel_rfl) (by kernel_rfl) (by kernel_rfl)
theorem Fz (P:Params):FU P "_law_cell_at" "_law_cell_at" sR 253 pm4 252:=fuk (by kernel_rfl) (by kernel_rfl) (by kernel_rfl)
theorem FA (P:Params):FU P "_law_poly" "_law_poly" sS 260 pm4 259:=fuk (by kernel_rfl) (by kernel_rfl) (by kernel_rfl)
theorem FB (P:Params):FU P "_law_some" "_law_some" sT 267 pm4 266:=fuk (by kernel_rfl) (by kernel_rfl) (by kernel_rfl)
theorem FC (P:Params):FU P "_law_product" "_law_product" sU 274 pm4 273:=fuk (by kernel_rfl) (by kernel_rfl) (by kernel_rfl)
theorem FD (P:Params):FU P "_law_sum" "_law_sum" sV 281 pm4 280:=fuk (by kernel_rfl) (by kernel_rfl) (by kernel_rfl)
theorem FE (P:Params):FU P "_law_vectors" "_law_vectors" sW 288 pm4 287:=fuk (by kernel_rfl) (by kernel_rfl) (by kernel_rfl)
theorem FF (P:Params):FU P "_law_factors" "_law_factors" sX 293 pm4 292:=fuk (by kernel_rfl) (by kernel_rfl) (by kernel_rfl)
theorem FG (P:Params):FU P "_law_is" "_law_is" sY 300 pm4 299:=fuk (by kernel_rfl) (by kernel_rfl) (by kernel_rfl)
theorem FH (P:Params):FU P "law" "law" sZ 305 pm4 304:=fuk (by kernel_rfl) (by kernel_rfl) (by kernel_rfl)
theorem FI (P:Params):FU P "__init__" "Span.__init__" s_ 177 pm3 176:=fuk (by kernel_rfl) (by kernel_rfl) (by kernel_rfl)
theorem FJ (P:Params):FU P "row_at" "Span.row_at" tf 182 pm3 181:=fuk (by kernel_rfl) (by kernel_rfl) (by kernel_rfl)
theorem FK (P:Params):FU P "table_at" "Span.table_at" tj 189 pm3 188:=fuk (by kernel_rfl) (by kernel_rfl) (by kernel_rfl)
theorem FL (P:Params):FU P "lowered_at" "Span.lowered_at" tm 196 pm3 195:=fuk (by kernel_rfl) (by kernel_rfl) (by kernel_rfl)
theorem FM (P:Params):FU P "only_choice" "Span.only_choice" tq 201 pm3 200:=fuk (by kernel_rfl) (by kernel_rfl) (by kernel_rfl)
theorem FN (P:Params):FU P "failing_column" "Span.failing_column" tu 208 pm3 207:=fuk (by kernel_rfl) (by kernel_rfl) (by kernel_rfl)
theorem FO (P:Params):FU P "keep" "Span.keep" tD 215 pm3 214:=fuk (by kernel_rfl) (by kernel_rfl) (by kernel_rfl)
theorem FP (P:Params):FU P "by_few" "Span.by_few" tE 220 pm3 219:=fuk (by kernel_rfl) (by kernel_rfl) (by kernel_rfl)
theorem FQ (P:Params):FU P "take" "Span.take" tF 225 pm3 224:=fuk (by kernel_rfl) (by kernel_rfl) (by kernel_rfl)
theorem Nc {l:PySem.W.OpenLaw}{q:Program}{loose:List Str}{XP:(Str->Option Value)->Heap->Prop}{YP:World->Heap->Prop}{d:DefRec}{K:Params->PySem.W.Frag}(hn:l.most=some 63) (hdf:d.params.defaults=[])
  (hY:∀(w:World) (h:Heap),YP w h->(K w.params).In h)
  (F:∀(w:World) (mg:Str->Option Value) (fa:Addr) (h:Heap),(K w.params).In h->h.Ns mainGlobals mg->mg d.name=some (.ref fa)->
   ∃T:Tx (K w.params) mg,T.N4=fa∧∀(s:Shared) (v:Value),BindsTo s T.NT ⟨[v],[]⟩ [("_law_script",v)]):
  PySem.W.WalkO q loose XP YP l.row.toRowW d [] (λf vs=>PySem.call f vs):=
 L2.IT (n:=63) (k:=30) (x := "_law_script") (CX:=λ_=>CX0) (sp:=λw=>Fk (K w.params)) hn (by decide) hdf ⟨rfl,by decide,by decide⟩ hY
  (λw mg fa h KX G hmg=>by
   obtain⟨T,e,hb⟩:=F w mg fa h KX G hmg;subst e;exact⟨T.NT,hb,λbase _ _=>FnOk.mono (M6 T) (by decide)⟩)
  (λ_ H a ns hl _ hS=>⟨a,ns,rfl,hS,hl,λ_=>rfl⟩) λ_ _ _ _ _ z=>z
theorem facts (w:World) (mg:Str->Option Value) (fa:Addr) (h:Heap) (KX:(KK w.params).In h) (G:h.Ns mainGlobals mg) (hmg:mg "law" = some (.ref fa)):
  ∃T:Tx (KK w.params) mg,T.N4=fa∧∀(s:Shared) (v:Value),BindsTo s T.NT ⟨[v],[]⟩ [("_law_script",v)]:=by
 have ma:∀{x:Str}{f:Addr},PySem.W.nsIn (KK w.params) mainGlobals x=some (some (.ref f))->mg x=some (.ref f):=λe=>PySem.W.mg_of KX G e;have mi:∀{x:Str}{i:Int}{t:Tok},PySem.W.nsIn (KK w.params) mainGlobals x=some (some (.int i t))->mg x=some (.int i t):=λe=>PySem.W.mg_of KX G e;have mz:∀{x:Str},PySem.W.nsIn (KK w.params) mainGlobals x=some none->mg x=none:=λe=>PySem.W.mg_none_of KX G e;have e:=hmg.symm.trans (ma (f:=305) (by kernel_rfl))
 cases e
 exact⟨⟨_,_,kf0 _,ma (by kernel_rfl),(kf0 _).binds (by o_law),_,_,kf1 _,ma (by kernel_rfl),(kf1 _).binds (by o_law),_,_,kf2 _,ma (by kernel_rfl),(kf2 _).binds (by o_law),_,_,kf3 _,ma (by kernel_rfl),(kf3 _).binds (by o_law),_,_,kf4 _,ma (by kernel_rfl),(kf4 _).binds (by o_law),_,_,kf5 _,ma (by kernel_rfl),(kf5 _).binds (by o_law),_,_,kf6 _,ma (by kernel_rfl),(kf6 _).binds (by o_law),_,_,kf7 _,ma (by kernel_rfl),(kf7 _).binds (by o_law),_,_,kf8 _,ma (by kernel_rfl),(kf8 _).binds (by o_law),_,_,kf9 _,ma (by kernel_rfl),(kf9 _).binds (by o_law),_,_,Fl _,ma (by kernel_rfl),(Fl _).binds (by o_law),_,_,Fm _,ma (by kernel_rfl),(Fm _).binds (by o_law),_,_,Fn _,ma (by kernel_rfl),(Fn _).binds (by o_law),_,_,Fo _,ma (by kernel_rfl),(Fo _).binds (by o_law),_,_,Fp _,ma (by kernel_rfl),(Fp _).binds (by o_law),_,_,Fs _,ma (by kernel_rfl),(Fs _).binds (by o_law),_,_,Ft _,ma (by kernel_rfl),(Ft _).binds (by o_law),_,_,Fu _,ma (by kernel_rfl),(Fu _).binds (by o_law),_,_,Fv _,ma (by kernel_rfl),(Fv _).binds (by o_law),_,_,Fx _,ma (by kernel_rfl),(Fx _).binds (by o_law),_,_,Fy _,ma (by kernel_rfl),(Fy _).binds (by o_law),_,_,Fz _,ma (by kernel_rfl),(Fz _).binds (by o_law),_,_,FA _,ma (by kernel_rfl),(FA _).binds (by o_law),_,_,FB _,ma (by kernel_rfl),(FB _).binds (by o_law),_,_,FC _,ma (by kernel_rfl),(FC _).binds (by o_law),_,_,FD _,ma (by kernel_rfl),(FD _).binds (by o_law),_,_,FE _,ma (by kernel_rfl),(FE _).binds (by o_law),_,_,FF _,ma (by kernel_rfl),(FF _).binds (by o_law),_,_,FG _,ma (by kernel_rfl),(FG _).binds (by o_law),_,_,FH _,ma (by kernel_rfl),(FH _).binds (by o_law),_,_,FI _,(FI _).binds (by o_law),_,_,FJ _,(FJ _).binds (by o_law),_,_,FK _,(FK _).binds (by o_law),_,_,FL _,(FL _).binds (by o_law),_,_,FM _,(FM _).binds (by o_law),_,_,FN _,(FN _).binds (by o_law),_,_,FO _,(FO _).binds (by o_law),_,_,FP _,(FP _).binds (by o_law),_,_,FQ _,(FQ _).binds (by o_law),37,ma (by kernel_rfl),by kernel_rfl,235,ma (by kernel_rfl),⟨by kernel_rfl,by kernel_rfl,by kernel_rfl,by kernel_rfl⟩,⟨by kernel_rfl,by kernel_rfl,by kernel_rfl,by kernel_rfl⟩,⟨by kernel_rfl,by kernel_rfl,by kernel_rfl⟩,⟨by kernel_rfl,by kernel_rfl,by kernel_rfl⟩,⟨by kernel_rfl,by kernel_rfl,by kernel_rfl⟩,⟨by kernel_rfl,by kernel_rfl,by kernel_rfl⟩,⟨by kernel_rfl,by kernel_rfl,by kernel_rfl⟩,⟨by kernel_rfl,by kernel_rfl,by kernel_rfl⟩,⟨by kernel_rfl,by kernel_rfl,by kernel_rfl⟩,⟨by kernel_rfl,by kernel_rfl,by kernel_rfl⟩,by show PySem.W.findIn _ _ _=_;kernel_rfl,by show PySem.W.findIn _ _ _=_;kernel_rfl,by show PySem.W.findIn _ _ _=_;kernel_rfl,by show PySem.W.findIn _ _ _=_;kernel_rfl,by show PySem.W.findIn _ _ _=_;kernel_rfl,mz (by kernel_rfl),mz (by kernel_rfl),mz (by kernel_rfl),mz (by kernel_rfl),mz (by kernel_rfl),mz (by kernel_rfl),mz (by kernel_rfl),mz (by kernel_rfl),mz (by kernel_rfl),mz (by kernel_rfl),mz (by kernel_rfl),mz (by kernel_rfl),mz (by kernel_rfl),⟨287,mi (by kernel_rfl)⟩,⟨285,mi (by kernel_rfl)⟩,⟨384,mi (by kernel_rfl)⟩⟩,rfl,λs v=>.of_eq rfl⟩
end My
open PySem PySem.W PyProof.Rows
set_option maxRecDepth 100000 in
set_option maxHeartbeats 0 in
theorem PySem.Challenge.cw_sumcraft_k21_a_relation_made_holds : PySem.Challenge.rw_sumcraft_k21_a_relation_made.Holds := by
 refine holds_law My.Hr λsaid=>?_;refine holds_open (r:=PySem.Challenge.rw_sumcraft_k21_a_relation_made.row)
  (q:=My.qv) (loose:=[]) (Xt:=My.xt)
  (XP:=XL My.qv []) (Yf:=My.hk.obs) (Ya:=My.hk.val)
  (YP:=My.hk.says) (N:=3944)
  My.Hq My.hk.of My.hk.keeps
  (λs e=>xl_of s (Bool.and_eq_true_iff.mp e).1)
  XL.keeps (by rfl) (by rfl) (by rfl)
  (λs e=>recFacts_of (Bool.and_eq_true_iff.mp e).2)
  (by rfl) said (by decide +kernel)
  My.Hs ?wit ?go
 case wit=>w_witness2
 case go=>exact My.Nc (l:=PySem.Challenge.rw_sumcraft_k21_a_relation_made) rfl rfl (λw h Y=>kIn_of Y) My.facts
