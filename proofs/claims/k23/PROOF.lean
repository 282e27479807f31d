import PyProof.Rows.All
import Wide.All
import OpenK.AllK
import Wide.FinOn
import Lean
import PyProof.EqAt
import PyProof.EqKinds
import PyProof.TupleCall
import PySem.Challenge.RW_sumcraft_k23_two_of_one_line
set_option Elab.async false
set_option linter.all false
set_option maxRecDepth 100000
set_option maxHeartbeats 4000000
namespace My
open PySem PySem.Spec PyProof.Rows PySem.W
def top (i:Nat):Stmt:=PySem.Challenge.pw_sumcraft_k23_two_of_one_line.main.body.getD i (.Pass ⟨0,0,0,0⟩)
def inCls (s:Stmt) (j:Nat):Stmt:=match s with
 | .ClassDef _ _ _ b _ _ _ _ _ _ _=>b.getD j (.Pass ⟨0,0,0,0⟩)
 | _=>.Pass ⟨0,0,0,0⟩
abbrev s_trimmed:Stmt:=top 4
abbrev s_poly_plus:Stmt:=top 5
abbrev s_poly_times:Stmt:=top 6
abbrev s_poly_value:Stmt:=top 7
abbrev s_quotient:Stmt:=top 8
abbrev s_divisor:Stmt:=top 13
abbrev s_content:Stmt:=top 15
abbrev s_over:Stmt:=top 16
abbrev s_upright:Stmt:=top 17
abbrev s_spread:Stmt:=top 18
abbrev s_greatest_size:Stmt:=top 19
abbrev s_bare_common:Stmt:=top 20
abbrev s_common:Stmt:=top 21
abbrev s_common_of:Stmt:=top 22
abbrev s_lowered:Stmt:=top 25
abbrev s_through:Stmt:=top 26
abbrev s_greatest_degree:Stmt:=top 27
abbrev s_degree_bound:Stmt:=top 28
abbrev s_cleared:Stmt:=top 29
abbrev s_relation:Stmt:=top 31
abbrev s__law_cell_at:Stmt:=top 33
abbrev s__law_cut:Stmt:=top 34
abbrev s__law_product:Stmt:=top 35
abbrev s__law_sum:Stmt:=top 36
abbrev s__law_divisor:Stmt:=top 37
abbrev s__law_pair:Stmt:=top 38
abbrev s__law_shared:Stmt:=top 39
abbrev s__law_line:Stmt:=top 40
abbrev s__law_due:Stmt:=top 41
abbrev s__law_is:Stmt:=top 42
abbrev s_law:Stmt:=top 43
abbrev s_Span___init__:Stmt:=inCls (top 30) 0
abbrev s_Span_row_at:Stmt:=inCls (top 30) 1
abbrev s_Span_table_at:Stmt:=inCls (top 30) 2
abbrev s_Span_lowered_at:Stmt:=inCls (top 30) 3
abbrev s_Span_only_choice:Stmt:=inCls (top 30) 4
abbrev s_Span_failing_column:Stmt:=inCls (top 30) 5
abbrev s_Span_keep:Stmt:=inCls (top 30) 6
abbrev s_Span_by_few:Stmt:=inCls (top 30) 7
abbrev s_Span_take:Stmt:=inCls (top 30) 8
def kE (P:Params) (x:String) (n:Nat) (v:Value):DictEntry:=⟨PyData.keyHash P (Str.ofString x),.str (Str.ofString x) n,v⟩
def kM (x q:Str) (s:Stmt) (m:Str) (k c:Nat):Obj:=match s with
 | .FunctionDef _ a b _ _ _ sc _ _ _=>⟨.type "function",none,.func (fnOf x q a b sc .none .none .none (.str m k) none (.ref c) .none),#[]⟩
 | _=>⟨.none,none,.plain,#[]⟩
def kN (x q:Str) (s:Stmt):Obj:=match s with
 | .FunctionDef _ a b _ _ _ sc _ _ _=>⟨.none,none,.func { name:=x,qualname:=q,params:=a,body:=.stmts b,scope:=sc,globals:=0,closure:=[],defaults:=.none,kwdefaults:=.none },#[]⟩
 | _=>⟨.none,none,.plain,#[]⟩
def oT (x:Array Value):Obj:={ cls:=.type "tuple",data:=Data.seq x }
def oF (x:Array Value):Obj:={ cls:=.none,data:=Data.fields x }
def oK (x:Array Value):Obj:={ cls:=.type "code",data:=Data.fields x }
def oB (x:Array Value):Obj:={ cls:=.type "builtin_function_or_method",data:=Data.fields x }
def cp (n:Nat):Value:=.str "/claim/cut.py" n
def ob11:Obj:=oT #[]
def ob12:Obj:=oF #[]
def ob13:Obj:=oK #[.str "<module>" 182,.str "<module>" 183,cp 184,.int 1 0,.int 0 0,.int 0 0,.int 0 0,.int 0 0,.ref 11,.bool false,.int 181 0,.ref 12,.none,.none,.none,.none,.int 185 0,.int 1 0,cp 186]
def ob14:Obj:={ cls:=.type "frame",slots:=#[some (.ref 13),some (.ref 3),some (.ref 3),none,some (.str "__main__" 164),none,some (.ref 0)] }
def ob3 (P:Params):Obj:={ cls:=.type "dict",data:=Data.dict #[kE P "__name__" 165 (.str "sumcraft.spans" 382),kE P "__doc__" 166 (.none),kE P "__package__" 167 (.none),kE P "__loader__" 168 (.builtin "__main__.__loader__#opaque"),kE P "__spec__" 169 (.none),kE P "__annotations__" 170 (.ref 6),kE P "__builtins__" 171 (.ref 4),kE P "__file__" 173 (cp 172),kE P "__cached__" 174 (.none),kE P "SumError" 206 (.ref 24),kE P "NoNumber" 222 (.ref 37),kE P "trimmed" 232 (.ref 46),kE P "poly_plus" 243 (.ref 53),kE P "poly_times" 256 (.ref 60),kE P "poly_value" 266 (.ref 67),kE P "quotient" 282 (.ref 74),kE P "LONG" 286 (.int 4000 285),kE P "WINDOW" 288 (.int 300 287),kE P "shortened" 305 (.ref 81),kE P "divisor" 317 (.ref 88),kE P "content" 328 (.ref 95),kE P "over" 334 (.ref 100),kE P "upright" 340 (.ref 105),kE P "spread" 350 (.ref 112),kE P "greatest_size" 356 (.ref 117),kE P "bare_common" 366 (.ref 124),kE P "common" 372 (.ref 129),kE P "common_of" 381 (.ref 136),kE P "START" 385 (.int 97 384),kE P "lowered" 391 (.ref 141),kE P "through" 403 (.ref 148),kE P "greatest_degree" 409 (.ref 153),kE P "degree_bound" 415 (.ref 158),kE P "cleared" 421 (.ref 163),kE P "Span" 528 (.ref 235)] 35 }
def ob12':Obj:=oF #[.int 2 0,.int 0 0,.ref 20,.int 4 0,.int 0 0,.ref 33,.int 7 0,.int 0 0,.ref 45,.int 12 0,.int 0 0,.ref 52,.int 17 0,.int 0 0,.ref 59,.int 25 0,.int 0 0,.ref 66,.int 30 0,.int 0 0,.ref 73,.int 50 0,.int 0 0,.ref 80,.int 66 0,.int 0 0,.ref 87,.int 79 0,.int 0 0,.ref 94,.int 84 0,.int 0 0,.ref 99,.int 86 0,.int 0 0,.ref 104,.int 90 0,.int 0 0,.ref 111,.int 99 0,.int 0 0,.ref 116,.int 101 0,.int 0 0,.ref 123,.int 109 0,.int 0 0,.ref 128,.int 118 0,.int 0 0,.ref 135,.int 125 0,.int 0 0,.ref 140,.int 133 0,.int 0 0,.ref 147,.int 142 0,.int 0 0,.ref 152,.int 144 0,.int 0 0,.ref 157,.int 148 0,.int 0 0,.ref 162,.int 153 0,.int 0 0,.ref 169]
def ob15:Obj:=oT #[.type "ValueError"]
def ob16:Obj:=oB #[.builtin "type.__prepare__",.type "type"]
def ob17 (P:Params):Obj:={ cls:=.type "dict",data:=Data.dict #[kE P "__module__" 196 (.str "sumcraft.errors" 187),kE P "__qualname__" 198 (.str "SumError" 197),kE P "__firstlineno__" 200 (.int 2 199),kE P "__static_attributes__" 201 (.ref 22)] 4 }
def ob18:Obj:=oT #[]
def ob19:Obj:=oF #[]
def ob20:Obj:=oK #[.str "SumError" 191,.str "SumError" 192,cp 193,.int 2 0,.int 0 0,.int 0 0,.int 0 0,.int 0 0,.ref 18,.bool false,.int 181 0,.ref 19,.none,.none,.none,.none,.int 194 0,.int 2 0,cp 195]
def ob21:Obj:={ cls:=.type "frame",slots:=#[some (.ref 20),some (.ref 3),some (.ref 17),none,some (.str "sumcraft.errors" 187),none,some (.ref 0)] }
def ob22:Obj:=oT #[]
def ob23 (P:Params):Obj:={ cls:=.type "dict",data:=Data.dict #[kE P "__module__" 196 (.str "sumcraft.errors" 187),kE P "__firstlineno__" 200 (.int 2 199),kE P "__static_attributes__" 201 (.ref 22),kE P "__weakref__" 203 (.ref 25),kE P "__doc__" 204 (.none)] 3 }
def ob24:Obj:={ cls:=.type "type",data:=Data.cls { name := "SumError",bases:=[.type "ValueError"],mro:=[.ref 24,.type "ValueError",.type "Exception",.type "BaseException",.type "object"],ns:=23,qualname := "SumError",subclasses:=[.ref 37] },slots:=#[some (.ref 15),none,some (.str "SumError" 189),some (.str "SumError" 197),some (.builtin "ValueError.__new__"),some (.bool true)] }
def ob25:Obj:={ cls:=.type "getset_descriptor",data:=Data.fields #[.str "__weakref__" 202,.ref 24,.builtin "ExceptionGroup.__weakref__",.none] }
def ob26:Obj:={ cls:=.type "super",data:=Data.fields #[.ref 24,.ref 24,.ref 24] }
def ob27:Obj:=oB #[.builtin "object.__init_subclass__",.ref 24]
def ob28:Obj:=oT #[.ref 24]
def ob29:Obj:=oB #[.builtin "type.__prepare__",.type "type"]
def ob30 (P:Params):Obj:={ cls:=.type "dict",data:=Data.dict #[kE P "__module__" 214 (.str "sumcraft.errors" 187),kE P "__qualname__" 216 (.str "NoNumber" 215),kE P "__firstlineno__" 218 (.int 4 217),kE P "__static_attributes__" 219 (.ref 35)] 4 }
def ob31:Obj:=oT #[]
def ob32:Obj:=oF #[]
def ob33:Obj:=oK #[.str "NoNumber" 209,.str "NoNumber" 210,cp 211,.int 4 0,.int 0 0,.int 0 0,.int 0 0,.int 0 0,.ref 31,.bool false,.int 181 0,.ref 32,.none,.none,.none,.none,.int 212 0,.int 4 0,cp 213]
def ob34:Obj:={ cls:=.type "frame",slots:=#[some (.ref 33),some (.ref 3),some (.ref 30),none,some (.str "sumcraft.errors" 187),none,some (.ref 0)] }
def ob35:Obj:=oT #[]
def ob36 (P:Params):Obj:={ cls:=.type "dict",data:=Data.dict #[kE P "__module__" 214 (.str "sumcraft.errors" 187),kE P "__firstlineno__" 218 (.int 4 217),kE P "__static_attributes__" 219 (.ref 35),kE P "__doc__" 220 (.none)] 2 }
def ob37:Obj:={ cls:=.type "type",data:=Data.cls { name := "NoNumber",bases:=[.ref 24],mro:=[.ref 37,.ref 24,.type "ValueError",.type "Exception",.type "BaseException",.type "object"],ns:=36,qualname := "NoNumber" },slots:=#[some (.ref 28),none,some (.str "NoNumber" 207),some (.str "NoNumber" 215),some (.builtin "ValueError.__new__"),some (.bool true)] }
def ob38:Obj:={ cls:=.type "super",data:=Data.fields #[.ref 37,.ref 37,.ref 37] }
def ob39:Obj:=oB #[.builtin "object.__init_subclass__",.ref 37]
def ob40:Obj:=oT #[]
def ob41:Obj:=oF #[]
def ob42:Obj:=oT #[.str "numbers" 228,.str "size" 229]
def ob43:Obj:=oT #[]
def ob44:Obj:=kN "trimmed" "trimmed" (top 4)
def ob45:Obj:=oK #[.str "trimmed" 225,.str "trimmed" 226,cp 227,.int 7 0,.int 1 0,.int 0 0,.int 0 0,.int 3 0,.ref 40,.bool true,.int 181 0,.ref 41,.none,.ref 42,.ref 43,.ref 44,.int 230 0,.int 7 0,cp 231]
def ob46:Obj:=kM "trimmed" "trimmed" (top 4) "sumcraft.polys" 223 45
def ob47:Obj:=oT #[]
def ob48:Obj:=oF #[]
def ob49:Obj:=oT #[.str "one" 236,.str "other" 237,.str "answer" 238,.str "place" 239,.str "number" 240]
def ob50:Obj:=oT #[]
def ob51:Obj:=kN "poly_plus" "poly_plus" (top 5)
def ob52:Obj:=oK #[.str "poly_plus" 233,.str "poly_plus" 234,cp 235,.int 12 0,.int 2 0,.int 0 0,.int 0 0,.int 3 0,.ref 47,.bool true,.int 181 0,.ref 48,.none,.ref 49,.ref 50,.ref 51,.int 241 0,.int 12 0,cp 242]
def ob53:Obj:=kM "poly_plus" "poly_plus" (top 5) "sumcraft.polys" 223 52
def ob54:Obj:=oT #[]
def ob55:Obj:=oF #[]
def ob56:Obj:=oT #[.str "one" 247,.str "other" 248,.str "answer" 249,.str "low" 250,.str "number" 251,.str "place" 252,.str "factor" 253]
def ob57:Obj:=oT #[]
def ob58:Obj:=kN "poly_times" "poly_times" (top 6)
def ob59:Obj:=oK #[.str "poly_times" 244,.str "poly_times" 245,cp 246,.int 17 0,.int 2 0,.int 0 0,.int 0 0,.int 3 0,.ref 54,.bool true,.int 181 0,.ref 55,.none,.ref 56,.ref 57,.ref 58,.int 254 0,.int 17 0,cp 255]
def ob60:Obj:=kM "poly_times" "poly_times" (top 6) "sumcraft.polys" 223 59
def ob61:Obj:=oT #[]
def ob62:Obj:=oF #[]
def ob63:Obj:=oT #[.str "poly" 260,.str "n" 261,.str "answer" 262,.str "number" 263]
def ob64:Obj:=oT #[]
def ob65:Obj:=kN "poly_value" "poly_value" (top 7)
def ob66:Obj:=oK #[.str "poly_value" 257,.str "poly_value" 258,cp 259,.int 25 0,.int 2 0,.int 0 0,.int 0 0,.int 3 0,.ref 61,.bool true,.int 181 0,.ref 62,.none,.ref 63,.ref 64,.ref 65,.int 264 0,.int 25 0,cp 265]
def ob67:Obj:=kM "poly_value" "poly_value" (top 7) "sumcraft.polys" 223 66
def ob68:Obj:=oT #[]
def ob69:Obj:=oF #[]
def ob70:Obj:=oT #[.str "one" 270,.str "other" 271,.str "rest" 272,.str "steps" 273,.str "answer" 274,.str "low" 275,.str "top" 276,.str "factor" 277,.str "place" 278,.str "number" 279]
def ob71:Obj:=oT #[]
def ob72:Obj:=kN "quotient" "quotient" (top 8)
def ob73:Obj:=oK #[.str "quotient" 267,.str "quotient" 268,cp 269,.int 30 0,.int 2 0,.int 0 0,.int 0 0,.int 3 0,.ref 68,.bool true,.int 181 0,.ref 69,.none,.ref 70,.ref 71,.ref 72,.int 280 0,.int 30 0,cp 281]
def ob74:Obj:=kM "quotient" "quotient" (top 8) "sumcraft.polys" 223 73
def ob75:Obj:=oT #[]
def ob76:Obj:=oF #[]
def ob77:Obj:=oT #[.str "big" 292,.str "small" 293,.str "cut" 294,.str "ahead" 295,.str "behind" 296,.str "half" 297,.str "upper" 298,.str "lower" 299,.str "times" 300,.str "rest" 301,.str "further" 302]
def ob78:Obj:=oT #[]
def ob79:Obj:=kN "shortened" "shortened" (top 12)
def ob80:Obj:=oK #[.str "shortened" 289,.str "shortened" 290,cp 291,.int 50 0,.int 2 0,.int 0 0,.int 0 0,.int 3 0,.ref 75,.bool true,.int 181 0,.ref 76,.none,.ref 77,.ref 78,.ref 79,.int 303 0,.int 50 0,cp 304]
def ob81:Obj:=kM "shortened" "shortened" (top 12) "sumcraft.ratios" 283 80
def ob82:Obj:=oT #[]
def ob83:Obj:=oF #[]
def ob84:Obj:=oT #[.str "one" 309,.str "other" 310,.str "big" 311,.str "small" 312,.str "pair" 313,.str "rest" 314]
def ob85:Obj:=oT #[]
def ob86:Obj:=kN "divisor" "divisor" (top 13)
def ob87:Obj:=oK #[.str "divisor" 306,.str "divisor" 307,cp 308,.int 66 0,.int 2 0,.int 0 0,.int 0 0,.int 3 0,.ref 82,.bool true,.int 181 0,.ref 83,.none,.ref 84,.ref 85,.ref 86,.int 315 0,.int 66 0,cp 316]
def ob88:Obj:=kM "divisor" "divisor" (top 13) "sumcraft.ratios" 283 87
def ob89:Obj:=oT #[]
def ob90:Obj:=oF #[]
def ob91:Obj:=oT #[.str "poly" 323,.str "answer" 324,.str "number" 325]
def ob92:Obj:=oT #[]
def ob93:Obj:=kN "content" "content" (top 15)
def ob94:Obj:=oK #[.str "content" 320,.str "content" 321,cp 322,.int 79 0,.int 1 0,.int 0 0,.int 0 0,.int 3 0,.ref 89,.bool true,.int 181 0,.ref 90,.none,.ref 91,.ref 92,.ref 93,.int 326 0,.int 79 0,cp 327]
def ob95:Obj:=kM "content" "content" (top 15) "sumcraft.reaches" 318 94
def ob96:Obj:=oT #[]
def ob97:Obj:=oF #[]
def ob98:Obj:=kN "over" "over" (top 16)
def ob99:Obj:=oK #[.str "over" 329,.str "over" 330,cp 331,.int 84 0,.int 2 0,.int 0 0,.int 0 0,.int 3 0,.ref 96,.bool true,.int 181 0,.ref 97,.none,.none,.none,.ref 98,.int 332 0,.int 84 0,cp 333]
def ob100:Obj:=kM "over" "over" (top 16) "sumcraft.reaches" 318 99
def ob101:Obj:=oT #[]
def ob102:Obj:=oF #[]
def ob103:Obj:=kN "upright" "upright" (top 17)
def ob104:Obj:=oK #[.str "upright" 335,.str "upright" 336,cp 337,.int 86 0,.int 1 0,.int 0 0,.int 0 0,.int 3 0,.ref 101,.bool true,.int 181 0,.ref 102,.none,.none,.none,.ref 103,.int 338 0,.int 86 0,cp 339]
def ob105:Obj:=kM "upright" "upright" (top 17) "sumcraft.reaches" 318 104
def ob106:Obj:=oT #[]
def ob107:Obj:=oF #[]
def ob108:Obj:=oT #[.str "number" 344,.str "base" 345,.str "answer" 346,.str "low" 347]
def ob109:Obj:=oT #[]
def ob110:Obj:=kN "spread" "spread" (top 18)
def ob111:Obj:=oK #[.str "spread" 341,.str "spread" 342,cp 343,.int 90 0,.int 2 0,.int 0 0,.int 0 0,.int 3 0,.ref 106,.bool true,.int 181 0,.ref 107,.none,.ref 108,.ref 109,.ref 110,.int 348 0,.int 90 0,cp 349]
def ob112:Obj:=kM "spread" "spread" (top 18) "sumcraft.reaches" 318 111
def ob113:Obj:=oT #[]
def ob114:Obj:=oF #[]
def ob115:Obj:=kN "greatest_size" "greatest_size" (top 19)
def ob116:Obj:=oK #[.str "greatest_size" 351,.str "greatest_size" 352,cp 353,.int 99 0,.int 1 0,.int 0 0,.int 0 0,.int 3 0,.ref 113,.bool true,.int 181 0,.ref 114,.none,.none,.none,.ref 115,.int 354 0,.int 99 0,cp 355]
def ob117:Obj:=kM "greatest_size" "greatest_size" (top 19) "sumcraft.reaches" 318 116
def ob118:Obj:=oT #[]
def ob119:Obj:=oF #[]
def ob120:Obj:=oT #[.str "one" 360,.str "other" 361,.str "place" 362,.str "found" 363]
def ob121:Obj:=oT #[]
def ob122:Obj:=kN "bare_common" "bare_common" (top 20)
def ob123:Obj:=oK #[.str "bare_common" 357,.str "bare_common" 358,cp 359,.int 101 0,.int 2 0,.int 0 0,.int 0 0,.int 3 0,.ref 118,.bool true,.int 181 0,.ref 119,.none,.ref 120,.ref 121,.ref 122,.int 364 0,.int 101 0,cp 365]
def ob124:Obj:=kM "bare_common" "bare_common" (top 20) "sumcraft.reaches" 318 123
def ob125:Obj:=oT #[]
def ob126:Obj:=oF #[]
def ob127:Obj:=kN "common" "common" (top 21)
def ob128:Obj:=oK #[.str "common" 367,.str "common" 368,cp 369,.int 109 0,.int 2 0,.int 0 0,.int 0 0,.int 3 0,.ref 125,.bool true,.int 181 0,.ref 126,.none,.none,.none,.ref 127,.int 370 0,.int 109 0,cp 371]
def ob129:Obj:=kM "common" "common" (top 21) "sumcraft.reaches" 318 128
def ob130:Obj:=oT #[]
def ob131:Obj:=oF #[]
def ob132:Obj:=oT #[.str "polys" 376,.str "answer" 377,.str "poly" 378]
def ob133:Obj:=oT #[]
def ob134:Obj:=kN "common_of" "common_of" (top 22)
def ob135:Obj:=oK #[.str "common_of" 373,.str "common_of" 374,cp 375,.int 118 0,.int 1 0,.int 0 0,.int 0 0,.int 3 0,.ref 130,.bool true,.int 181 0,.ref 131,.none,.ref 132,.ref 133,.ref 134,.int 379 0,.int 118 0,cp 380]
def ob136:Obj:=kM "common_of" "common_of" (top 22) "sumcraft.reaches" 318 135
def ob137:Obj:=oT #[]
def ob138:Obj:=oF #[]
def ob139:Obj:=kN "lowered" "lowered" (top 25)
def ob140:Obj:=oK #[.str "lowered" 386,.str "lowered" 387,cp 388,.int 125 0,.int 3 0,.int 0 0,.int 0 0,.int 3 0,.ref 137,.bool true,.int 181 0,.ref 138,.none,.none,.none,.ref 139,.int 389 0,.int 125 0,cp 390]
def ob141:Obj:=kM "lowered" "lowered" (top 25) "sumcraft.spans" 382 140
def ob142:Obj:=oT #[]
def ob143:Obj:=oF #[]
def ob144:Obj:=oT #[.str "places" 395,.str "values" 396,.str "steps" 397,.str "gap" 398,.str "place" 399,.str "answer" 400]
def ob145:Obj:=oT #[]
def ob146:Obj:=kN "through" "through" (top 26)
def ob147:Obj:=oK #[.str "through" 392,.str "through" 393,cp 394,.int 133 0,.int 2 0,.int 0 0,.int 0 0,.int 3 0,.ref 142,.bool true,.int 181 0,.ref 143,.none,.ref 144,.ref 145,.ref 146,.int 401 0,.int 133 0,cp 402]
def ob148:Obj:=kM "through" "through" (top 26) "sumcraft.spans" 382 147
def ob149:Obj:=oT #[]
def ob150:Obj:=oF #[]
def ob151:Obj:=kN "greatest_degree" "greatest_degree" (top 27)
def ob152:Obj:=oK #[.str "greatest_degree" 404,.str "greatest_degree" 405,cp 406,.int 142 0,.int 1 0,.int 0 0,.int 0 0,.int 3 0,.ref 149,.bool true,.int 181 0,.ref 150,.none,.none,.none,.ref 151,.int 407 0,.int 142 0,cp 408]
def ob153:Obj:=kM "greatest_degree" "greatest_degree" (top 27) "sumcraft.spans" 382 152
def ob154:Obj:=oT #[]
def ob155:Obj:=oF #[]
def ob156:Obj:=kN "degree_bound" "degree_bound" (top 28)
def ob157:Obj:=oK #[.str "degree_bound" 410,.str "degree_bound" 411,cp 412,.int 144 0,.int 2 0,.int 0 0,.int 0 0,.int 3 0,.ref 154,.bool true,.int 181 0,.ref 155,.none,.none,.none,.ref 156,.int 413 0,.int 144 0,cp 414]
def ob158:Obj:=kM "degree_bound" "degree_bound" (top 28) "sumcraft.spans" 382 157
def ob159:Obj:=oT #[]
def ob160:Obj:=oF #[]
def ob161:Obj:=kN "cleared" "cleared" (top 29)
def ob162:Obj:=oK #[.str "cleared" 416,.str "cleared" 417,cp 418,.int 148 0,.int 1 0,.int 0 0,.int 0 0,.int 3 0,.ref 159,.bool true,.int 181 0,.ref 160,.none,.none,.none,.ref 161,.int 419 0,.int 148 0,cp 420]
def ob163:Obj:=kM "cleared" "cleared" (top 29) "sumcraft.spans" 382 162
def ob164:Obj:=oT #[]
def ob165:Obj:=oB #[.builtin "type.__prepare__",.type "type"]
def ob166 (P:Params):Obj:={ cls:=.type "dict",data:=Data.dict #[kE P "__module__" 429 (.str "sumcraft.spans" 382),kE P "__qualname__" 431 (.str "Span" 430),kE P "__firstlineno__" 433 (.int 153 432),kE P "__init__" 441 (.ref 177),kE P "row_at" 447 (.ref 182),kE P "table_at" 458 (.ref 189),kE P "lowered_at" 468 (.ref 196),kE P "only_choice" 474 (.ref 201),kE P "failing_column" 487 (.ref 208),kE P "keep" 496 (.ref 215),kE P "by_few" 502 (.ref 220),kE P "take" 508 (.ref 225),kE P "apart" 515 (.ref 232),kE P "__static_attributes__" 521 (.ref 233)] 14 }
def ob167:Obj:=oT #[]
def ob168:Obj:=oF #[.int 155 0,.int 4 0,.ref 176,.int 162 0,.int 4 0,.ref 181,.int 166 0,.int 4 0,.ref 188,.int 176 0,.int 4 0,.ref 195,.int 182 0,.int 4 0,.ref 200,.int 195 0,.int 4 0,.ref 207,.int 206 0,.int 4 0,.ref 214,.int 212 0,.int 4 0,.ref 219,.int 224 0,.int 4 0,.ref 224,.int 242 0,.int 4 0,.ref 231]
def ob169:Obj:=oK #[.str "Span" 424,.str "Span" 425,cp 426,.int 153 0,.int 0 0,.int 0 0,.int 0 0,.int 0 0,.ref 167,.bool false,.int 181 0,.ref 168,.none,.none,.none,.none,.int 427 0,.int 153 0,cp 428]
def ob170:Obj:={ cls:=.type "frame",slots:=#[some (.ref 169),some (.ref 3),some (.ref 166),none,some (.str "sumcraft.spans" 382),none,some (.ref 0)] }
def ob171:Obj:=oT #[]
def ob172:Obj:=oF #[]
def ob173:Obj:=oT #[.str "self" 437,.str "width" 438]
def ob174:Obj:=oT #[]
def ob175:Obj:=kN "__init__" "Span.__init__" (inCls (top 30) 0)
def ob176:Obj:=oK #[.str "__init__" 434,.str "Span.__init__" 435,cp 436,.int 155 0,.int 2 0,.int 0 0,.int 0 0,.int 3 0,.ref 171,.bool true,.int 181 0,.ref 172,.none,.ref 173,.ref 174,.ref 175,.int 439 0,.int 155 0,cp 440]
def ob177:Obj:=kM "__init__" "Span.__init__" (inCls (top 30) 0) "sumcraft.spans" 382 176
def ob178:Obj:=oT #[]
def ob179:Obj:=oF #[]
def ob180:Obj:=kN "row_at" "Span.row_at" (inCls (top 30) 1)
def ob181:Obj:=oK #[.str "row_at" 442,.str "Span.row_at" 443,cp 444,.int 162 0,.int 4 0,.int 0 0,.int 0 0,.int 3 0,.ref 178,.bool true,.int 181 0,.ref 179,.none,.none,.none,.ref 180,.int 445 0,.int 162 0,cp 446]
def ob182:Obj:=kM "row_at" "Span.row_at" (inCls (top 30) 1) "sumcraft.spans" 382 181
def ob183:Obj:=oT #[]
def ob184:Obj:=oF #[]
def ob185:Obj:=oT #[.str "self" 451,.str "place" 452,.str "table" 453,.str "number" 454,.str "row" 455]
def ob186:Obj:=oT #[]
def ob187:Obj:=kN "table_at" "Span.table_at" (inCls (top 30) 2)
def ob188:Obj:=oK #[.str "table_at" 448,.str "Span.table_at" 449,cp 450,.int 166 0,.int 2 0,.int 0 0,.int 0 0,.int 3 0,.ref 183,.bool true,.int 181 0,.ref 184,.none,.ref 185,.ref 186,.ref 187,.int 456 0,.int 166 0,cp 457]
def ob189:Obj:=kM "table_at" "Span.table_at" (inCls (top 30) 2) "sumcraft.spans" 382 188
def ob190:Obj:=oT #[]
def ob191:Obj:=oF #[]
def ob192:Obj:=oT #[.str "self" 462,.str "vector" 463,.str "place" 464,.str "table" 465]
def ob193:Obj:=oT #[]
def ob194:Obj:=kN "lowered_at" "Span.lowered_at" (inCls (top 30) 3)
def ob195:Obj:=oK #[.str "lowered_at" 459,.str "Span.lowered_at" 460,cp 461,.int 176 0,.int 3 0,.int 0 0,.int 0 0,.int 3 0,.ref 190,.bool true,.int 181 0,.ref 191,.none,.ref 192,.ref 193,.ref 194,.int 466 0,.int 176 0,cp 467]
def ob196:Obj:=kM "lowered_at" "Span.lowered_at" (inCls (top 30) 3) "sumcraft.spans" 382 195
def ob197:Obj:=oT #[]
def ob198:Obj:=oF #[]
def ob199:Obj:=kN "only_choice" "Span.only_choice" (inCls (top 30) 4)
def ob200:Obj:=oK #[.str "only_choice" 469,.str "Span.only_choice" 470,cp 471,.int 182 0,.int 2 0,.int 0 0,.int 0 0,.int 3 0,.ref 197,.bool true,.int 181 0,.ref 198,.none,.none,.none,.ref 199,.int 472 0,.int 182 0,cp 473]
def ob201:Obj:=kM "only_choice" "Span.only_choice" (inCls (top 30) 4) "sumcraft.spans" 382 200
def ob202:Obj:=oT #[]
def ob203:Obj:=oF #[]
def ob204:Obj:=oT #[.str "self" 478,.str "vector" 479,.str "weights" 480,.str "column" 481,.str "answer" 482,.str "other" 483,.str "weight" 484]
def ob205:Obj:=oT #[]
def ob206:Obj:=kN "failing_column" "Span.failing_column" (inCls (top 30) 5)
def ob207:Obj:=oK #[.str "failing_column" 475,.str "Span.failing_column" 476,cp 477,.int 195 0,.int 3 0,.int 0 0,.int 0 0,.int 3 0,.ref 202,.bool true,.int 181 0,.ref 203,.none,.ref 204,.ref 205,.ref 206,.int 485 0,.int 195 0,cp 486]
def ob208:Obj:=kM "failing_column" "Span.failing_column" (inCls (top 30) 5) "sumcraft.spans" 382 207
def ob209:Obj:=oT #[]
def ob210:Obj:=oF #[]
def ob211:Obj:=oT #[.str "self" 491,.str "vector" 492,.str "column" 493]
def ob212:Obj:=oT #[]
def ob213:Obj:=kN "keep" "Span.keep" (inCls (top 30) 6)
def ob214:Obj:=oK #[.str "keep" 488,.str "Span.keep" 489,cp 490,.int 206 0,.int 3 0,.int 0 0,.int 0 0,.int 3 0,.ref 209,.bool true,.int 181 0,.ref 210,.none,.ref 211,.ref 212,.ref 213,.int 494 0,.int 206 0,cp 495]
def ob215:Obj:=kM "keep" "Span.keep" (inCls (top 30) 6) "sumcraft.spans" 382 214
def ob216:Obj:=oT #[]
def ob217:Obj:=oF #[]
def ob218:Obj:=kN "by_few" "Span.by_few" (inCls (top 30) 7)
def ob219:Obj:=oK #[.str "by_few" 497,.str "Span.by_few" 498,cp 499,.int 212 0,.int 3 0,.int 0 0,.int 0 0,.int 3 0,.ref 216,.bool true,.int 181 0,.ref 217,.none,.none,.none,.ref 218,.int 500 0,.int 212 0,cp 501]
def ob220:Obj:=kM "by_few" "Span.by_few" (inCls (top 30) 7) "sumcraft.spans" 382 219
def ob221:Obj:=oT #[]
def ob222:Obj:=oF #[]
def ob223:Obj:=kN "take" "Span.take" (inCls (top 30) 8)
def ob224:Obj:=oK #[.str "take" 503,.str "Span.take" 504,cp 505,.int 224 0,.int 2 0,.int 0 0,.int 0 0,.int 3 0,.ref 221,.bool true,.int 181 0,.ref 222,.none,.none,.none,.ref 223,.int 506 0,.int 224 0,cp 507]
def ob225:Obj:=kM "take" "Span.take" (inCls (top 30) 8) "sumcraft.spans" 382 224
def ob226:Obj:=oT #[]
def ob227:Obj:=oF #[]
def ob228:Obj:=oT #[.str "self" 512]
def ob229:Obj:=oT #[]
def ob230:Obj:=kN "apart" "Span.apart" (inCls (top 30) 9)
def ob231:Obj:=oK #[.str "apart" 509,.str "Span.apart" 510,cp 511,.int 242 0,.int 1 0,.int 0 0,.int 0 0,.int 3 0,.ref 226,.bool true,.int 181 0,.ref 227,.none,.ref 228,.ref 229,.ref 230,.int 513 0,.int 242 0,cp 514]
def ob232:Obj:=kM "apart" "Span.apart" (inCls (top 30) 9) "sumcraft.spans" 382 231
def ob233:Obj:=oT #[.str "columns" 516,.str "kept" 517,.str "place" 518,.str "tables" 519,.str "width" 520]
def ob234 (P:Params):Obj:={ cls:=.type "dict",data:=Data.dict #[kE P "__module__" 429 (.str "sumcraft.spans" 382),kE P "__firstlineno__" 433 (.int 153 432),kE P "__init__" 441 (.ref 177),kE P "row_at" 447 (.ref 182),kE P "table_at" 458 (.ref 189),kE P "lowered_at" 468 (.ref 196),kE P "only_choice" 474 (.ref 201),kE P "failing_column" 487 (.ref 208),kE P "keep" 496 (.ref 215),kE P "by_few" 502 (.ref 220),kE P "take" 508 (.ref 225),kE P "apart" 515 (.ref 232),kE P "__static_attributes__" 521 (.ref 233),kE P "__dict__" 523 (.ref 236),kE P "__weakref__" 525 (.ref 237),kE P "__doc__" 526 (.none)] 4 }
def ob235:Obj:={ cls:=.type "type",data:=Data.cls { name := "Span",bases:=[.type "object"],mro:=[.ref 235,.type "object"],ns:=234,qualname := "Span" },slots:=#[none,none,some (.str "Span" 422),some (.str "Span" 430),some (.builtin "object.__new__"),some (.bool true)] }
def ob236:Obj:={ cls:=.type "getset_descriptor",data:=Data.fields #[.str "__dict__" 522,.ref 235,.builtin "function.__dict__",.builtin "function.__dict__#set"] }
def ob237:Obj:={ cls:=.type "getset_descriptor",data:=Data.fields #[.str "__weakref__" 524,.ref 235,.builtin "ExceptionGroup.__weakref__",.none] }
def ob238:Obj:={ cls:=.type "super",data:=Data.fields #[.ref 235,.ref 235,.ref 235] }
def ob239:Obj:=oB #[.builtin "object.__init_subclass__",.ref 235]
def ob3' (P:Params):Obj:={ cls:=.type "dict",data:=Data.dict #[kE P "__name__" 165 (.str "law_sumcraft_k23_two_of_one_line" 539),kE P "__doc__" 166 (.none),kE P "__package__" 167 (.none),kE P "__loader__" 168 (.builtin "__main__.__loader__#opaque"),kE P "__spec__" 169 (.none),kE P "__annotations__" 170 (.ref 6),kE P "__builtins__" 171 (.ref 4),kE P "__file__" 173 (cp 172),kE P "__cached__" 174 (.none),kE P "SumError" 206 (.ref 24),kE P "NoNumber" 222 (.ref 37),kE P "trimmed" 232 (.ref 46),kE P "poly_plus" 243 (.ref 53),kE P "poly_times" 256 (.ref 60),kE P "poly_value" 266 (.ref 67),kE P "quotient" 282 (.ref 74),kE P "LONG" 286 (.int 4000 285),kE P "WINDOW" 288 (.int 300 287),kE P "shortened" 305 (.ref 81),kE P "divisor" 317 (.ref 88),kE P "content" 328 (.ref 95),kE P "over" 334 (.ref 100),kE P "upright" 340 (.ref 105),kE P "spread" 350 (.ref 112),kE P "greatest_size" 356 (.ref 117),kE P "bare_common" 366 (.ref 124),kE P "common" 372 (.ref 129),kE P "common_of" 381 (.ref 136),kE P "START" 385 (.int 97 384),kE P "lowered" 391 (.ref 141),kE P "through" 403 (.ref 148),kE P "greatest_degree" 409 (.ref 153),kE P "degree_bound" 415 (.ref 158),kE P "cleared" 421 (.ref 163),kE P "Span" 528 (.ref 235),kE P "relation" 538 (.ref 246),kE P "_law_cell_at" 548 (.ref 253),kE P "_law_cut" 556 (.ref 260),kE P "_law_product" 567 (.ref 267),kE P "_law_sum" 577 (.ref 274),kE P "_law_divisor" 586 (.ref 281),kE P "_law_pair" 600 (.ref 288),kE P "_law_shared" 610 (.ref 295),kE P "_law_line" 621 (.ref 302),kE P "_law_due" 627 (.ref 307),kE P "_law_is" 638 (.ref 314),kE P "law" 644 (.ref 319)] 47 }
def ob12'':Obj:=oF #[.int 2 0,.int 0 0,.ref 20,.int 4 0,.int 0 0,.ref 33,.int 7 0,.int 0 0,.ref 45,.int 12 0,.int 0 0,.ref 52,.int 17 0,.int 0 0,.ref 59,.int 25 0,.int 0 0,.ref 66,.int 30 0,.int 0 0,.ref 73,.int 50 0,.int 0 0,.ref 80,.int 66 0,.int 0 0,.ref 87,.int 79 0,.int 0 0,.ref 94,.int 84 0,.int 0 0,.ref 99,.int 86 0,.int 0 0,.ref 104,.int 90 0,.int 0 0,.ref 111,.int 99 0,.int 0 0,.ref 116,.int 101 0,.int 0 0,.ref 123,.int 109 0,.int 0 0,.ref 128,.int 118 0,.int 0 0,.ref 135,.int 125 0,.int 0 0,.ref 140,.int 133 0,.int 0 0,.ref 147,.int 142 0,.int 0 0,.ref 152,.int 144 0,.int 0 0,.ref 157,.int 148 0,.int 0 0,.ref 162,.int 153 0,.int 0 0,.ref 169,.int 244 0,.int 0 0,.ref 245,.int 254 0,.int 0 0,.ref 252,.int 258 0,.int 0 0,.ref 259,.int 263 0,.int 0 0,.ref 266,.int 269 0,.int 0 0,.ref 273,.int 276 0,.int 0 0,.ref 280,.int 284 0,.int 0 0,.ref 287,.int 300 0,.int 0 0,.ref 294,.int 308 0,.int 0 0,.ref 301,.int 316 0,.int 0 0,.ref 306,.int 323 0,.int 0 0,.ref 313,.int 333 0,.int 0 0,.ref 318]
def ob240:Obj:=oT #[]
def ob241:Obj:=oF #[]
def ob242:Obj:=oT #[.str "vectors" 532,.str "span" 533,.str "vector" 534,.str "found" 535]
def ob243:Obj:=oT #[]
def ob244:Obj:=kN "relation" "relation" (top 31)
def ob245:Obj:=oK #[.str "relation" 529,.str "relation" 530,cp 531,.int 244 0,.int 1 0,.int 0 0,.int 0 0,.int 3 0,.ref 240,.bool true,.int 181 0,.ref 241,.none,.ref 242,.ref 243,.ref 244,.int 536 0,.int 244 0,cp 537]
def ob246:Obj:=kM "relation" "relation" (top 31) "sumcraft.spans" 382 245
def ob247:Obj:=oT #[]
def ob248:Obj:=oF #[]
def ob249:Obj:=oT #[.str "_law_script" 544,.str "_law_k" 545]
def ob250:Obj:=oT #[]
def ob251:Obj:=kN "_law_cell_at" "_law_cell_at" (top 33)
def ob252:Obj:=oK #[.str "_law_cell_at" 541,.str "_law_cell_at" 542,cp 543,.int 254 0,.int 2 0,.int 0 0,.int 0 0,.int 3 0,.ref 247,.bool true,.int 181 0,.ref 248,.none,.ref 249,.ref 250,.ref 251,.int 546 0,.int 254 0,cp 547]
def ob253:Obj:=kM "_law_cell_at" "_law_cell_at" (top 33) "law_sumcraft_k23_two_of_one_line" 539 252
def ob254:Obj:=oT #[]
def ob255:Obj:=oF #[]
def ob256:Obj:=oT #[.str "_law_numbers" 552,.str "_law_found" 553]
def ob257:Obj:=oT #[]
def ob258:Obj:=kN "_law_cut" "_law_cut" (top 34)
def ob259:Obj:=oK #[.str "_law_cut" 549,.str "_law_cut" 550,cp 551,.int 258 0,.int 1 0,.int 0 0,.int 0 0,.int 3 0,.ref 254,.bool true,.int 181 0,.ref 255,.none,.ref 256,.ref 257,.ref 258,.int 554 0,.int 258 0,cp 555]
def ob260:Obj:=kM "_law_cut" "_law_cut" (top 34) "law_sumcraft_k23_two_of_one_line" 539 259
def ob261:Obj:=oT #[]
def ob262:Obj:=oF #[]
def ob263:Obj:=oT #[.str "_law_one" 560,.str "_law_other" 561,.str "_law_found" 562,.str "_law_i" 563,.str "_law_j" 564]
def ob264:Obj:=oT #[]
def ob265:Obj:=kN "_law_product" "_law_product" (top 35)
def ob266:Obj:=oK #[.str "_law_product" 557,.str "_law_product" 558,cp 559,.int 263 0,.int 2 0,.int 0 0,.int 0 0,.int 3 0,.ref 261,.bool true,.int 181 0,.ref 262,.none,.ref 263,.ref 264,.ref 265,.int 565 0,.int 263 0,cp 566]
def ob267:Obj:=kM "_law_product" "_law_product" (top 35) "law_sumcraft_k23_two_of_one_line" 539 266
def ob268:Obj:=oT #[]
def ob269:Obj:=oF #[]
def ob270:Obj:=oT #[.str "_law_one" 571,.str "_law_other" 572,.str "_law_found" 573,.str "_law_k" 574]
def ob271:Obj:=oT #[]
def ob272:Obj:=kN "_law_sum" "_law_sum" (top 36)
def ob273:Obj:=oK #[.str "_law_sum" 568,.str "_law_sum" 569,cp 570,.int 269 0,.int 2 0,.int 0 0,.int 0 0,.int 3 0,.ref 268,.bool true,.int 181 0,.ref 269,.none,.ref 270,.ref 271,.ref 272,.int 575 0,.int 269 0,cp 576]
def ob274:Obj:=kM "_law_sum" "_law_sum" (top 36) "law_sumcraft_k23_two_of_one_line" 539 273
def ob275:Obj:=oT #[]
def ob276:Obj:=oF #[]
def ob277:Obj:=oT #[.str "_law_one" 581,.str "_law_other" 582,.str "_law_rest" 583]
def ob278:Obj:=oT #[]
def ob279:Obj:=kN "_law_divisor" "_law_divisor" (top 37)
def ob280:Obj:=oK #[.str "_law_divisor" 578,.str "_law_divisor" 579,cp 580,.int 276 0,.int 2 0,.int 0 0,.int 0 0,.int 3 0,.ref 275,.bool true,.int 181 0,.ref 276,.none,.ref 277,.ref 278,.ref 279,.int 584 0,.int 276 0,cp 585]
def ob281:Obj:=kM "_law_divisor" "_law_divisor" (top 37) "law_sumcraft_k23_two_of_one_line" 539 280
def ob282:Obj:=oT #[]
def ob283:Obj:=oF #[]
def ob284:Obj:=oT #[.str "_law_script" 590,.str "_law_one" 591,.str "_law_other" 592,.str "_law_k" 593,.str "_law_cell" 594,.str "_law_step" 595,.str "_law_more" 596,.str "_law_scales" 597]
def ob285:Obj:=oT #[]
def ob286:Obj:=kN "_law_pair" "_law_pair" (top 38)
def ob287:Obj:=oK #[.str "_law_pair" 587,.str "_law_pair" 588,cp 589,.int 284 0,.int 1 0,.int 0 0,.int 0 0,.int 3 0,.ref 282,.bool true,.int 181 0,.ref 283,.none,.ref 284,.ref 285,.ref 286,.int 598 0,.int 284 0,cp 599]
def ob288:Obj:=kM "_law_pair" "_law_pair" (top 38) "law_sumcraft_k23_two_of_one_line" 539 287
def ob289:Obj:=oT #[]
def ob290:Obj:=oF #[]
def ob291:Obj:=oT #[.str "_law_script" 604,.str "_law_found" 605,.str "_law_mixed" 606,.str "_law_k" 607]
def ob292:Obj:=oT #[]
def ob293:Obj:=kN "_law_shared" "_law_shared" (top 39)
def ob294:Obj:=oK #[.str "_law_shared" 601,.str "_law_shared" 602,cp 603,.int 300 0,.int 1 0,.int 0 0,.int 0 0,.int 3 0,.ref 289,.bool true,.int 181 0,.ref 290,.none,.ref 291,.ref 292,.ref 293,.int 608 0,.int 300 0,cp 609]
def ob295:Obj:=kM "_law_shared" "_law_shared" (top 39) "law_sumcraft_k23_two_of_one_line" 539 294
def ob296:Obj:=oT #[]
def ob297:Obj:=oF #[]
def ob298:Obj:=oT #[.str "_law_script" 614,.str "_law_found" 615,.str "_law_k" 616,.str "_law_cell" 617,.str "_law_poly" 618]
def ob299:Obj:=oT #[]
def ob300:Obj:=kN "_law_line" "_law_line" (top 40)
def ob301:Obj:=oK #[.str "_law_line" 611,.str "_law_line" 612,cp 613,.int 308 0,.int 1 0,.int 0 0,.int 0 0,.int 3 0,.ref 296,.bool true,.int 181 0,.ref 297,.none,.ref 298,.ref 299,.ref 300,.int 619 0,.int 308 0,cp 620]
def ob302:Obj:=kM "_law_line" "_law_line" (top 40) "law_sumcraft_k23_two_of_one_line" 539 301
def ob303:Obj:=oT #[]
def ob304:Obj:=oF #[]
def ob305:Obj:=kN "_law_due" "_law_due" (top 41)
def ob306:Obj:=oK #[.str "_law_due" 622,.str "_law_due" 623,cp 624,.int 316 0,.int 2 0,.int 0 0,.int 0 0,.int 3 0,.ref 303,.bool true,.int 181 0,.ref 304,.none,.none,.none,.ref 305,.int 625 0,.int 316 0,cp 626]
def ob307:Obj:=kM "_law_due" "_law_due" (top 41) "law_sumcraft_k23_two_of_one_line" 539 306
def ob308:Obj:=oT #[]
def ob309:Obj:=oF #[]
def ob310:Obj:=oT #[.str "_law_found" 631,.str "_law_due_here" 632,.str "_law_poly" 633,.str "_law_right" 634,.str "_law_k" 635]
def ob311:Obj:=oT #[]
def ob312:Obj:=kN "_law_is" "_law_is" (top 42)
def ob313:Obj:=oK #[.str "_law_is" 628,.str "_law_is" 629,cp 630,.int 323 0,.int 2 0,.int 0 0,.int 0 0,.int 3 0,.ref 308,.bool true,.int 181 0,.ref 309,.none,.ref 310,.ref 311,.ref 312,.int 636 0,.int 323 0,cp 637]
def ob314:Obj:=kM "_law_is" "_law_is" (top 42) "law_sumcraft_k23_two_of_one_line" 539 313
def ob315:Obj:=oT #[]
def ob316:Obj:=oF #[]
def ob317:Obj:=kN "law" "law" (top 43)
def ob318:Obj:=oK #[.str "law" 639,.str "law" 640,cp 641,.int 333 0,.int 1 0,.int 0 0,.int 0 0,.int 3 0,.ref 315,.bool true,.int 181 0,.ref 316,.none,.none,.none,.ref 317,.int 642 0,.int 333 0,cp 643]
def ob319:Obj:=kM "law" "law" (top 43) "law_sumcraft_k23_two_of_one_line" 539 318
def env0:Env:={ scope:=PySem.Challenge.pw_sumcraft_k23_two_of_one_line.main.scope,locals:=mainNs,globals:=mainNs,cells:=[],code:=.ref 13,frame:=some 14 }
def cd0:Code:=.body (behindTheImports PySem.Challenge.pw_sumcraft_k23_two_of_one_line) env0
def fr0:List Frame:=[topFrame { line:=0,col:=0,endLine:=0,endCol:=0 }]
noncomputable def hp1 (P:Params):Heap:=⟨⟨[boot_o_0 P,boot_o_1 P,boot_o_2 P,boot_o_3 P,boot_o_4 P,boot_o_5 P,boot_o_6 P,boot_o_7 P,boot_o_8 P,boot_o_9 P,boot_o_10 P,ob11,ob12,ob13,ob14]⟩,{}⟩
noncomputable def hp3 (P:Params):Heap:=⟨⟨[boot_o_0 P,boot_o_1 P,boot_o_2 P,ob3 P,boot_o_4 P,boot_o_5 P,boot_o_6 P,boot_o_7 P,boot_o_8 P,boot_o_9 P,boot_o_10 P,ob11,ob12',ob13,ob14,ob15,ob16,ob17 P,ob18,ob19,ob20,ob21,ob22,ob23 P,ob24,ob25,ob26,ob27,ob28,ob29,ob30 P,ob31,ob32,ob33,ob34,ob35,ob36 P,ob37,ob38,ob39,ob40,ob41,ob42,ob43,ob44,ob45,ob46,ob47,ob48,ob49,ob50,ob51,ob52,ob53,ob54,ob55,ob56,ob57,ob58,ob59,ob60,ob61,ob62,ob63,ob64,ob65,ob66,ob67,ob68,ob69,ob70,ob71,ob72,ob73,ob74,ob75,ob76,ob77,ob78,ob79,ob80,ob81,ob82,ob83,ob84,ob85,ob86,ob87,ob88,ob89,ob90,ob91,ob92,ob93,ob94,ob95,ob96,ob97,ob98,ob99,ob100,ob101,ob102,ob103,ob104,ob105,ob106,ob107,ob108,ob109,ob110,ob111,ob112,ob113,ob114,ob115,ob116,ob117,ob118,ob119,ob120,ob121,ob122,ob123,ob124,ob125,ob126,ob127,ob128,ob129,ob130,ob131,ob132,ob133,ob134,ob135,ob136,ob137,ob138,ob139,ob140,ob141,ob142,ob143,ob144,ob145,ob146,ob147,ob148,ob149,ob150,ob151,ob152,ob153,ob154,ob155,ob156,ob157,ob158,ob159,ob160,ob161,ob162,ob163,ob164,ob165,ob166 P,ob167,ob168,ob169,ob170,ob171,ob172,ob173,ob174,ob175,ob176,ob177,ob178,ob179,ob180,ob181,ob182,ob183,ob184,ob185,ob186,ob187,ob188,ob189,ob190,ob191,ob192,ob193,ob194,ob195,ob196,ob197,ob198,ob199,ob200,ob201,ob202,ob203,ob204,ob205,ob206,ob207,ob208,ob209,ob210,ob211,ob212,ob213,ob214,ob215,ob216,ob217,ob218,ob219,ob220,ob221,ob222,ob223,ob224,ob225,ob226,ob227,ob228,ob229,ob230,ob231,ob232,ob233,ob234 P,ob235,ob236,ob237,ob238,ob239]⟩,{}⟩
noncomputable def hp4 (P:Params):Heap:=⟨⟨[boot_o_0 P,boot_o_1 P,boot_o_2 P,ob3' P,boot_o_4 P,boot_o_5 P,boot_o_6 P,boot_o_7 P,boot_o_8 P,boot_o_9 P,boot_o_10 P,ob11,ob12'',ob13,ob14,ob15,ob16,ob17 P,ob18,ob19,ob20,ob21,ob22,ob23 P,ob24,ob25,ob26,ob27,ob28,ob29,ob30 P,ob31,ob32,ob33,ob34,ob35,ob36 P,ob37,ob38,ob39,ob40,ob41,ob42,ob43,ob44,ob45,ob46,ob47,ob48,ob49,ob50,ob51,ob52,ob53,ob54,ob55,ob56,ob57,ob58,ob59,ob60,ob61,ob62,ob63,ob64,ob65,ob66,ob67,ob68,ob69,ob70,ob71,ob72,ob73,ob74,ob75,ob76,ob77,ob78,ob79,ob80,ob81,ob82,ob83,ob84,ob85,ob86,ob87,ob88,ob89,ob90,ob91,ob92,ob93,ob94,ob95,ob96,ob97,ob98,ob99,ob100,ob101,ob102,ob103,ob104,ob105,ob106,ob107,ob108,ob109,ob110,ob111,ob112,ob113,ob114,ob115,ob116,ob117,ob118,ob119,ob120,ob121,ob122,ob123,ob124,ob125,ob126,ob127,ob128,ob129,ob130,ob131,ob132,ob133,ob134,ob135,ob136,ob137,ob138,ob139,ob140,ob141,ob142,ob143,ob144,ob145,ob146,ob147,ob148,ob149,ob150,ob151,ob152,ob153,ob154,ob155,ob156,ob157,ob158,ob159,ob160,ob161,ob162,ob163,ob164,ob165,ob166 P,ob167,ob168,ob169,ob170,ob171,ob172,ob173,ob174,ob175,ob176,ob177,ob178,ob179,ob180,ob181,ob182,ob183,ob184,ob185,ob186,ob187,ob188,ob189,ob190,ob191,ob192,ob193,ob194,ob195,ob196,ob197,ob198,ob199,ob200,ob201,ob202,ob203,ob204,ob205,ob206,ob207,ob208,ob209,ob210,ob211,ob212,ob213,ob214,ob215,ob216,ob217,ob218,ob219,ob220,ob221,ob222,ob223,ob224,ob225,ob226,ob227,ob228,ob229,ob230,ob231,ob232,ob233,ob234 P,ob235,ob236,ob237,ob238,ob239,ob240,ob241,ob242,ob243,ob244,ob245,ob246,ob247,ob248,ob249,ob250,ob251,ob252,ob253,ob254,ob255,ob256,ob257,ob258,ob259,ob260,ob261,ob262,ob263,ob264,ob265,ob266,ob267,ob268,ob269,ob270,ob271,ob272,ob273,ob274,ob275,ob276,ob277,ob278,ob279,ob280,ob281,ob282,ob283,ob284,ob285,ob286,ob287,ob288,ob289,ob290,ob291,ob292,ob293,ob294,ob295,ob296,ob297,ob298,ob299,ob300,ob301,ob302,ob303,ob304,ob305,ob306,ob307,ob308,ob309,ob310,ob311,ob312,ob313,ob314,ob315,ob316,ob317,ob318,ob319]⟩,{}⟩
set_option maxHeartbeats 0 in
theorem pc_pre (w:World) (os:OsState):topGo treeTable PySem.Challenge.pw_sumcraft_k23_two_of_one_line w 11 (some (.ref 6)) 12 (⟨boot_heap w.params,Array.mk [],boot_drawn,boot_toks,os⟩:Shared) (topStub PySem.Challenge.pw_sumcraft_k23_two_of_one_line)=some ((⟨hp1 w.params,#[],{},187,os⟩:Shared),⟨denote treeTable cd0,cd0,{ line:=0,col:=0,endLine:=0,endCol:=0 },fr0⟩):=by kernel_rfl
set_option maxHeartbeats 0 in
theorem pc_blk (w:World) (os:OsState):segRun treeTable PySem.Challenge.pw_sumcraft_k23_two_of_one_line w 11 (some (.ref 6)) 1 1 (⟨hp1 w.params,#[],{},187,os⟩:Shared) (blockOf (behindTheImports PySem.Challenge.pw_sumcraft_k23_two_of_one_line) env0 cd0 { line:=0,col:=0,endLine:=0,endCol:=0 } fr0)=some (.next,(⟨hp1 w.params,#[],{},187,os⟩:Shared),cd0,{ line:=0,col:=0,endLine:=0,endCol:=0 }):=by kernel_rfl
def gl3:List Stmt:=[top 0,top 1,top 2,top 3,top 4,top 5,top 6,top 7,top 8,top 9,top 10,top 11,top 12,top 13,top 14,top 15,top 16,top 17,top 18,top 19,top 20,top 21,top 22,top 23,top 24,top 25,top 26,top 27,top 28,top 29,top 30]
set_option maxHeartbeats 0 in
theorem pc3 (w:World) (os:OsState):segRun treeTable PySem.Challenge.pw_sumcraft_k23_two_of_one_line w 11 (some (.ref 6)) 1 1589 (⟨hp1 w.params,#[],{},187,os⟩:Shared) (piecesOf gl3 env0 cd0 { line:=0,col:=0,endLine:=0,endCol:=0 } fr0)=some (.next,(⟨hp3 w.params,#[],{},529,os⟩:Shared),cd0,{ line:=153,col:=0,endLine:=243,endCol:=47 }):=by kernel_rfl
def gl4:List Stmt:=[top 31,top 32,top 33,top 34,top 35,top 36,top 37,top 38,top 39,top 40,top 41,top 42,top 43]
set_option maxHeartbeats 0 in
theorem pc4 (w:World) (os:OsState):segRun treeTable PySem.Challenge.pw_sumcraft_k23_two_of_one_line w 11 (some (.ref 6)) 1 384 (⟨hp3 w.params,#[],{},529,os⟩:Shared) (piecesOf gl4 env0 cd0 { line:=153,col:=0,endLine:=243,endCol:=47 } fr0)=some (.next,(⟨hp4 w.params,#[],{},645,os⟩:Shared),cd0,{ line:=333,col:=0,endLine:=344,endCol:=147 }):=by kernel_rfl
set_option maxHeartbeats 0 in
theorem pc_fin (w:World) (os:OsState):topRun treeTable PySem.Challenge.pw_sumcraft_k23_two_of_one_line w 11 (some (.ref 6)) 2 (⟨hp4 w.params,#[],{},645,os⟩:Shared) ⟨doneF .next,cd0,{ line:=333,col:=0,endLine:=344,endCol:=147 },fr0⟩=some (⟨hp4 w.params,#[],{},645,os⟩:Shared):=by kernel_rfl
theorem body_is:behindTheImports PySem.Challenge.pw_sumcraft_k23_two_of_one_line=gl3++(gl4++[]):=by kernel_rfl
theorem run0 (w:World) (os:OsState):topRun treeTable PySem.Challenge.pw_sumcraft_k23_two_of_one_line w 11 (some (.ref 6)) (12+(1+(1589+(384+2)))) (⟨boot_heap w.params,Array.mk [],boot_drawn,boot_toks,os⟩:Shared) (topStub PySem.Challenge.pw_sumcraft_k23_two_of_one_line)=some (⟨hp4 w.params,#[],{},645,os⟩:Shared):=
 go_top (pc_pre w os) (piece_block (pc_blk w os) (by
  rw [body_is]
  exact piece_app (pc3 w os) (piece_app (pc4 w os) (piece_nil (pc_fin w os)))))
def KK (P:Params):Frag:=[(3,ob3' P),(17,ob17 P),(23,ob23 P),(24,ob24),(30,ob30 P),(36,ob36 P),(37,ob37),(45,ob45),(46,ob46),(52,ob52),(53,ob53),(59,ob59),(60,ob60),(66,ob66),(67,ob67),(73,ob73),(74,ob74),(87,ob87),(88,ob88),(94,ob94),(95,ob95),(99,ob99),(100,ob100),(104,ob104),(105,ob105),(111,ob111),(112,ob112),(116,ob116),(117,ob117),(123,ob123),(124,ob124),(128,ob128),(129,ob129),(135,ob135),(136,ob136),(140,ob140),(141,ob141),(147,ob147),(148,ob148),(152,ob152),(153,ob153),(157,ob157),(158,ob158),(162,ob162),(163,ob163),(166,ob166 P),(176,ob176),(177,ob177),(181,ob181),(182,ob182),(188,ob188),(189,ob189),(195,ob195),(196,ob196),(200,ob200),(201,ob201),(207,ob207),(208,ob208),(214,ob214),(215,ob215),(219,ob219),(220,ob220),(224,ob224),(225,ob225),(234,ob234 P),(235,ob235),(245,ob245),(246,ob246),(252,ob252),(253,ob253),(259,ob259),(260,ob260),(266,ob266),(267,ob267),(273,ob273),(274,ob274),(280,ob280),(281,ob281),(287,ob287),(288,ob288),(294,ob294),(295,ob295),(301,ob301),(302,ob302),(306,ob306),(307,ob307),(313,ob313),(314,ob314),(318,ob318),(319,ob319)]
def KA:List Addr:=[3,17,23,24,30,36,37,45,46,52,53,59,60,66,67,73,74,87,88,94,95,99,100,104,105,111,112,116,117,123,124,128,129,135,136,140,141,147,148,152,153,157,158,162,163,166,176,177,181,182,188,189,195,196,200,201,207,208,214,215,219,220,224,225,234,235,245,246,252,253,259,260,266,267,273,274,280,281,287,288,294,295,301,302,306,307,313,314,318,319]
def qv:Program:=view PySem.Challenge.pw_sumcraft_k23_two_of_one_line [1,2,4,5,6,7,8,10,11,12,13,15,16,17,18,19,20,21,22,24,25,26,27,28,29,30,31,33,34,35,36,37,38,39,40,41,42,43]
def xt (s:Shared):Bool:=xlAt qv [] s && recOk (PySem.Challenge.rw_sumcraft_k23_two_of_one_line.row.toRowW).records s
def hk:Hook:=kHook KK KA fun _=>rfl
set_option maxHeartbeats 0 in
theorem left:LeftO PySem.Challenge.pw_sumcraft_k23_two_of_one_line qv [] xt hk.obs hk.val 4068:=
 LeftO.of_pieces (H₀:=boot_heap) (H₁:=hp4) (gs₁:=#[]) (d₁:={}) (k₁:=645)
  (boot_open (by kernel_rfl) rfl fun s=>by kernel_rfl)
  (fun w=>by kernel_rfl) run0 (by kernel_rfl)
  fun w=>by kernel_rfl
set_option maxHeartbeats 0 in
theorem h_well:PySem.Challenge.rw_sumcraft_k23_two_of_one_line.wellSaid=true:=by kernel_rfl
set_option maxHeartbeats 0 in
theorem h_bare:PySem.Challenge.rw_sumcraft_k23_two_of_one_line.row.prog.bare:=⟨rfl,rfl,rfl,rfl,rfl,by decide +kernel⟩
end My
namespace L2
open PySem PySem.Spec PyProof.Rows
abbrev Key:=Sum Int Str
def keyIs:Key->Value->Bool
 | .inl k,v=>Value.isInt k v
 | .inr x,v=>Value.isStrOf x v
def keyH (w:World):Key->Int
 | .inl k=>hashInt k
 | .inr x=>hashStr w x
theorem keyIs_shape:∀{k:Key} {v:Value},keyIs k v=true->(∃i t,k=Sum.inl i∧v=Value.int i t)∨(∃x t,k=Sum.inr x∧v=Value.str x t)
 | .inl i,v,h=>by
  obtain⟨t,e⟩:=Value.isInt_shape (k:=i) (v:=v) h
  exact .inl ⟨i,t,rfl,e⟩
 | .inr x,v,h=>by
  obtain⟨t,e⟩:=Value.isStrOf_shape (x:=x) (v:=v) h
  exact .inr ⟨x,t,rfl,e⟩
theorem keyIs_int (i:Int) (t:Tok):keyIs (.inl i) (.int i t)=true:=by simp [keyIs,Value.isInt]
theorem keyIs_str (x:Str) (t:Tok):keyIs (.inr x) (.str x t)=true:=by simp [keyIs,Value.isStrOf]
theorem key_ll (a b:Int):decide ((Sum.inl a:Key)=Sum.inl b)=(a == b):=by
 by_cases e:a=b
 ·subst e;simp
 ·have h:¬(Sum.inl a:Key)=Sum.inl b:=fun q=>e (Sum.inl.inj q)
  rw [decide_eq_false h]
  exact (beq_eq_false_iff_ne.mpr e).symm
theorem key_rr (a b:Str):decide ((Sum.inr a:Key)=Sum.inr b)=decide (a=b):=by
 by_cases e:a=b
 ·subst e;simp
 ·have h:¬(Sum.inr a:Key)=Sum.inr b:=fun q=>e (Sum.inr.inj q)
  rw [decide_eq_false h,decide_eq_false e]
theorem key_lr (a:Int) (b:Str):decide ((Sum.inl a:Key)=Sum.inr b)=false:=decide_eq_false (fun q=>nomatch q)
theorem key_rl (a:Str) (b:Int):decide ((Sum.inr a:Key)=Sum.inl b)=false:=decide_eq_false (fun q=>nomatch q)
def mixKind (prog:Program) (w:World):PySem.KeyKind prog w Key where
 is:=keyIs
 hash:=keyH w
 inj:=fun v a b ha hb=>by
  rcases keyIs_shape ha with ⟨i,t,rfl,rfl⟩ | ⟨x,t,rfl,rfl⟩
  ·rcases keyIs_shape hb with ⟨j,u,rfl,e⟩ | ⟨y,u,rfl,e⟩
   ·injection e with e1 _;rw [e1]
   ·exact nomatch e
  ·rcases keyIs_shape hb with ⟨j,u,rfl,e⟩ | ⟨y,u,rfl,e⟩
   ·exact nomatch e
   ·injection e with e1 _;rw [e1]
 byValue:=fun k v h=>by
  rcases keyIs_shape h with ⟨i,t,rfl,rfl⟩ | ⟨x,t,rfl,rfl⟩ <;> rfl
 pyHash:=fun hv h=>by
  rcases keyIs_shape hv with ⟨i,t,rfl,rfl⟩ | ⟨x,t,rfl,rfl⟩
  ·exact wpAny_pyHash_int h
  ·exact wpAny_pyHash_str h
 eqBool:=fun hu hv h=>by
  rcases keyIs_shape hu with ⟨i,t,rfl,rfl⟩ | ⟨x,t,rfl,rfl⟩
  ·rcases keyIs_shape hv with ⟨j,u,rfl,rfl⟩ | ⟨y,u,rfl,rfl⟩
   ·rw [key_ll] at h;exact wpAny_eqBool_int h
   ·rw [key_lr] at h;exact SeqAt.EqAt.int_str i t y u _ _ _ _ h
  ·rcases keyIs_shape hv with ⟨j,u,rfl,rfl⟩ | ⟨y,u,rfl,rfl⟩
   ·rw [key_rl] at h;exact SeqAt.EqAt.str_int x t j u _ _ _ _ h
   ·rw [key_rr] at h;exact wpAny_eqBool_str h
 «strs»:=fun k x t v h=>by
  rcases keyIs_shape h with ⟨i,u,rfl,e⟩ | ⟨y,u,rfl,e⟩
  ·exact nomatch e
  ·injection e with e1 _
   subst e1
   cases v <;> rfl
theorem mixKind_int (prog:Program) (w:World) (i:Int) (t:Tok):(mixKind prog w).is (.inl i) (.int i t)=true:=keyIs_int i t
theorem mixKind_str (prog:Program) (w:World) (x:Str) (t:Tok):(mixKind prog w).is (.inr x) (.str x t)=true:=keyIs_str x t
end L2
namespace L2
open PySem PySem.Spec PyProof.Rows
inductive V where
 | non | bl (b:Bool) | int (i:Int) | str (x:Str) | byt (b:Array UInt8) | flt (b:UInt64) | ref (a:Addr) | ty (n:String)
 deriving DecidableEq
def RelV:V->Value->Prop
 | .non,u=>u=Value.none
 | .bl b,u=>u=Value.bool b
 | .int i,u=>∃t,u=Value.int i t
 | .str x,u=>∃t,u=Value.str x t
 | .byt b,u=>∃t,u=Value.bytes b t
 | .flt b,u=>∃t,u=Value.float b t
 | .ref a,u=>u=Value.ref a
 | .ty n,u=>u=Value.type n
abbrev Vals:List V->List Value->Prop:=Paired RelV
theorem Vals.length {xs:List V} {us:List Value} (r:Vals xs us):xs.length=us.length:=Paired.length r
theorem Vals.get:∀{xs:List V} {us:List Value} {i:Nat} {x:V},Vals xs us->xs[i]?=some x->∃u,us[i]?=some u∧RelV x u
 | _,_,_,_,.nil,e=>by simp at e
 | _,_,0,_,.cons r _,e=>by simp at e;subst e;exact⟨_,rfl,r⟩
 | _,_,i+1,x,.cons _ t,e=>by
  obtain⟨u,h1,h2⟩:=Vals.get (i:=i) (x:=x) t (by simpa using e)
  exact⟨u,by simpa using h1,h2⟩
theorem Vals.set {x:V} {u:Value} (r:RelV x u):∀{xs:List V} {us:List Value} (i:Nat),Vals xs us->Vals (xs.set i x) (us.set i u)
 | _,_,_,.nil=>.nil
 | _,_,0,.cons _ t=>.cons r t
 | _,_,i+1,.cons q t=>.cons q (Vals.set r i t)
theorem Vals.append:∀{xs ys:List V} {us ws:List Value},Vals xs us->Vals ys ws->Vals (xs++ys) (us++ws)
 | _,_,_,_,.nil,s=>s
 | _,_,_,_,.cons r t,s=>.cons r (Vals.append t s)
theorem Vals.take:∀{xs:List V} {us:List Value} (n:Nat),Vals xs us->Vals (xs.take n) (us.take n)
 | _,_,0,_=>.nil
 | _,_,_+1,.nil=>.nil
 | _,_,n+1,.cons r t=>.cons r (Vals.take n t)
theorem Vals.drop:∀{xs:List V} {us:List Value} (n:Nat),Vals xs us->Vals (xs.drop n) (us.drop n)
 | _,_,0,r=>r
 | _,_,_+1,.nil=>.nil
 | _,_,n+1,.cons _ t=>Vals.drop n t
def RelO:Option V->Option Value->Prop
 | some v,some u=>RelV v u
 | none,none=>True
 | _,_=>False
def KV {κ:Type}:List (κ×V)->List (κ×Value)->Prop:=Paired fun (p:κ×V) (q:κ×Value)=>p.1=q.1∧RelV p.2 q.2
def kV:Key->V
 | .inl i=>.int i
 | .inr x=>.str x
inductive HO where
  | lst (xs:List V)
  | tup (xs:List V)
  | dK (kvs:List (Key×V)) | dT (kvs:List (List Key×V))
  | set (S:Int->Bool) (n:Nat)
  | ins (C dx:Addr) (fs:List (Str×V))
  | own (x:Addr)
  | xd (fs:List (Str×V))
  | met (f x:Addr)
  | rng (lo hi:Int)
  | frz (o:Obj) (u:HO)
  | tbl (ps:Array Value)
  | ext (φ:Heap->Prop)
abbrev Hp:=Addr->Option HO
def upd (H:Hp) (a:Addr) (o:HO):Hp:=fun b=>if b=a then some o else H b
theorem upd_same {H:Hp} {a:Addr} {o:HO}:upd H a o a=some o:=by unfold upd;rw [if_pos rfl]
theorem upd_ne {H:Hp} {a b:Addr} {o:HO} (h:b≠a):upd H a o b=H b:=by unfold upd;rw [if_neg h]
theorem upd_upd {H:Hp} {a:Addr} {o u:HO}:upd (upd H a o) a u=upd H a u:=by
 funext b;unfold upd;split <;> rfl
theorem ne_of {H:Hp} {a b:Addr} {o u:HO} (h:H a=some o) (h':H b=some u) (d:o≠u):a≠b:=by
 intro e;subst e;rw [h] at h';exact d (Option.some.inj h')
theorem ne_of_none {H:Hp} {a b:Addr} {o:HO} (h:H a=some o) (h':H b=none):a≠b:=by
 intro e;subst e;rw [h] at h';cases h'
section
variable (P:Program) (w:World)
def ObjOk (H:Hp) (h:Heap) (a:Addr):HO->Prop
 | .lst xs=>xs.length<=sizeLine∧∃(its:List Value) (n:Nat),Vals xs its∧h.get? a=some { cls:=.type "list",data:=.seq its.toArray n }
 | .tup xs=>xs.length<=sizeLine∧∃its:List Value,Vals xs its∧IsTup h a its.toArray
 | .dK kvs=>kvs.length<=sizeLine∧(a == sysModules)=false∧∃vs,KV kvs vs∧h.DictOf (mixKind P w) a vs
 | .dT kvs=>kvs.length<=sizeLine∧(a == sysModules)=false∧∃xs:List (List Key×Addr×Value),
   Paired (fun (p:List Key×V) (q:List Key×Addr×Value)=>p.1=q.1∧H q.2.1=some (.tup (p.1.map kV))∧RelV p.2 q.2.2) kvs xs∧
   ∃o es ep,h.get? a=some o∧o.ExactDict∧o.data=.dict es ep∧es.toList=xs.map (entryOfKey (tupleKind (mixKind P w)))∧(xs.map (·.1)).Nodup
 | .set S n=>h.SetOf (intKind P w) a S n
 | .ins C dx fs=>H dx=some (.own a)∧fs.length<=1000∧dx≠a∧h.get? a=some (PySem.W.instObj C dx)∧
   ∃mA,h.Ns1 dx mA∧(∀f,RelO (fs.lookup f) (mA f))∧PySem.Within mA (fs.map (·.1))
 | .own _=>∃o,h.get? a=some o
 | .xd fs=>∃mA,h.Ns1 a mA∧∀f,RelO (fs.lookup f) (mA f)
 | .rng lo hi=>∃t u v,h.get? a=some { cls:=.type "range",data:=.fields #[.int lo t,.int hi u,.int 1 v] }
 | .frz o u=>h.get? a=some o∧ObjOk H h a u
 | .tbl ps=>h.get? a=some { cls:=.none,data:=.fields ps }
 | .met f x=>h.get? a=some (PySem.W.methodObj (.ref f) (.ref x))
 | .ext φ=>φ h∧(∃o,h.get? a=some o)∧∀h1 h2:Heap,φ h1->(∀o,h1.get? a=some o->h2.get? a=some o)->φ h2
def HOk (H:Hp) (h:Heap):Prop:=∀a o,H a=some o->ObjOk P w H h a o
end
section
variable {P:Program} {w:World} {H H':Hp} {h h':Heap} {a:Addr} {o:HO}
theorem ObjOk.lt (x:ObjOk P w H h a o):a < h.objs.size:=by
 cases o with
 | lst xs=>obtain⟨_,_,_,_,e⟩:=x;exact Heap.lt_size e
 | tup xs=>obtain⟨_,_,_,p⟩:=x;exact p.lt
 | dK kvs=>obtain⟨_,_,_,_,o,_,_,e,_⟩:=x;exact Heap.lt_size e
 | dT kvs=>obtain⟨_,_,_,_,o,_,_,e,_⟩:=x;exact Heap.lt_size e
 | set S n=>obtain⟨o,_,_,_,e,_⟩:=x;exact Heap.lt_size e
 | ins C dx fs=>obtain⟨_,_,_,e,_⟩:=x;exact Heap.lt_size e
 | own y=>obtain⟨_,e⟩:=x;exact Heap.lt_size e
 | xd fs=>obtain⟨_,⟨_,_,_,e,_⟩,_⟩:=x;exact Heap.lt_size e
 | rng lo hi=>obtain⟨_,_,_,e⟩:=x;exact Heap.lt_size e
 | frz ob u=>obtain⟨e,_⟩:=x;exact Heap.lt_size e
 | tbl ps=>exact Heap.lt_size (show h.get? a=some _ from x)
 | met f y=>exact Heap.lt_size (show h.get? a=some _ from x)
 | ext φ=>obtain⟨_,⟨_,e⟩,_⟩:=x;exact Heap.lt_size e
theorem Paired.mapP {α β:Type} {F G:α->β->Prop}:∀{l₁:List α} {l₂:List β},Paired F l₁ l₂->(∀a b,F a b->G a b)->Paired G l₁ l₂
 | _,_,.nil,_=>.nil
 | _,_,.cons r t,f=>.cons (f _ _ r) (Paired.mapP t f)
theorem ObjOk.stay (x:ObjOk P w H h a o) (k:∀b u,(b=a∨H b=some (.own a))->h.get? b=some u->h'.get? b=some u)
  (ho:∀b,H b=some (.own a)->H' b=some (.own a)) (ht:∀b xs,H b=some (.tup xs)->H' b=some (.tup xs)):ObjOk P w H' h' a o:=by
 induction o with
 | lst xs=>obtain⟨z,its,n,r,e⟩:=x;exact⟨z,its,n,r,k _ _ (.inl rfl) e⟩
 | tup xs=>obtain⟨z,its,r,ob,e,c⟩:=x;exact⟨z,its,r,ob,k _ _ (.inl rfl) e,c⟩
 | dK kvs=>obtain⟨z,y,vs,r,ob,es,ep,e,c⟩:=x;exact⟨z,y,vs,r,ob,es,ep,k _ _ (.inl rfl) e,c⟩
 | dT kvs=>
  obtain⟨z,y,xs,r,ob,es,ep,e,c⟩:=x
  exact⟨z,y,xs,Paired.mapP r fun p q z=>⟨z.1,ht _ _ z.2.1,z.2.2⟩,ob,es,ep,k _ _ (.inl rfl) e,c⟩
 | set S n=>obtain⟨ob,es,ep,t,e,c⟩:=x;exact⟨ob,es,ep,t,k _ _ (.inl rfl) e,c⟩
 | ins C dx fs=>
  obtain⟨d,z,ne,e,mA,⟨od,es,ep,e2,c⟩,r⟩:=x
  exact⟨ho _ d,z,ne,k _ _ (.inl rfl) e,mA,⟨od,es,ep,k _ _ (.inr d) e2,c⟩,r⟩
 | own y=>obtain⟨ob,e⟩:=x;exact⟨ob,k _ _ (.inl rfl) e⟩
 | xd fs=>obtain⟨mA,⟨od,es,ep,e,c⟩,r⟩:=x;exact⟨mA,⟨od,es,ep,k _ _ (.inl rfl) e,c⟩,r⟩
 | rng lo hi=>obtain⟨t,u,v,e⟩:=x;exact⟨t,u,v,k _ _ (.inl rfl) e⟩
 | frz ob u ih=>obtain⟨e,q⟩:=x;exact⟨k _ _ (.inl rfl) e,ih q⟩
 | tbl ps=>
  have e:h.get? a=some { cls:=.none,data:=.fields ps }:=x
  show h'.get? a=some { cls:=.none,data:=.fields ps }
  exact k a _ (.inl rfl) e
 | met f y=>
  have e:h.get? a=some (PySem.W.methodObj (.ref f) (.ref y)):=x
  show h'.get? a=some (PySem.W.methodObj (.ref f) (.ref y))
  exact k a _ (.inl rfl) e
 | ext φ=>obtain⟨p,⟨o,e⟩,st⟩:=x;exact⟨st _ _ p fun o q=>k _ _ (.inl rfl) q,⟨o,k _ _ (.inl rfl) e⟩,st⟩
theorem HOk.lt (x:HOk P w H h) (e:H a=some o):a < h.objs.size:=(x a o e).lt
theorem HOk.fresh (x:HOk P w H h) (e:h.objs.size<=a):H a=none:=by
 cases q:H a with
 | none=>rfl
 | some u=>exact absurd (Nat.lt_of_lt_of_le (x.lt q) e) (Nat.lt_irrefl _)
theorem HOk.kept (x:HOk P w H h) (k:∀b u,h.get? b=some u->h'.get? b=some u):HOk P w H h':=fun a o e=>
 (x a o e).stay (fun b u _ q=>k b u q) (fun _ q=>q) fun _ _ q=>q
theorem HOk.laid (x:HOk P w H h) (k:∀b u,h.get? b=some u->h'.get? b=some u) (hp:h.objs.size<=a) (new:ObjOk P w (upd H a o) h' a o):HOk P w (upd H a o) h':=fun b u e=>by
 have hn:=x.fresh hp
 by_cases hb:b=a
 ·subst hb;rw [upd_same] at e;cases e;exact new
 ·rw [upd_ne hb] at e
  exact (x b u e).stay (fun c v _ q=>k c v q) (fun c q=>by rw [upd_ne (ne_of_none q hn)];exact q) fun c xs q=>by rw [upd_ne (ne_of_none q hn)];exact q
end
def Rd (H:Hp) (a:Addr) (u:HO):Prop:=H a=some u∨∃o,H a=some (.frz o u)
theorem Rd.ok {P:Program} {w:World} {H:Hp} {h:Heap} {a:Addr} {u:HO} (r:Rd H a u) (x:HOk P w H h):ObjOk P w H h a u:=by
 rcases r with r | ⟨o,r⟩
 ·exact x a u r
 ·obtain⟨_,q⟩:=x a _ r
  exact q
def Mut:Option HO->Prop
 | some (.lst _)=>True
 | some (.dK _)=>True
 | some (.dT _)=>True
 | some (.set _ _)=>True
 | some (.ins _ _ _)=>True
 | some (.ext _)=>True
 | _=>False
section
variable {P:Program} {w:World} {H:Hp} {h h':Heap} {x e:Addr} {o':HO}
theorem HOk.write (ok:HOk P w H h) (mu:Mut (H x)) (he:e=x∨H e=some (.own x)) (k:∀b u,b≠e->h.get? b=some u->h'.get? b=some u) (heo:∃u,h'.get? e=some u)
  (new:ObjOk P w (upd H x o') h' x o'):HOk P w (upd H x o') h':=fun b u q=>by
 have nown:∀c y,H c=some (.own y)->c≠x:=fun c y r z=>by subst z;rw [r] at mu;exact mu
 have ntup:∀c xs,H c=some (.tup xs)->c≠x:=fun c xs r z=>by subst z;rw [r] at mu;exact mu
 by_cases hb:b=x
 ·subst hb;rw [upd_same] at q;cases q;exact new
 ·rw [upd_ne hb] at q
  by_cases hbe:b=e
  ·have q':H b=some (.own x):=by
    rcases he with z | z
    ·exact absurd (hbe.trans z) hb
    ·rw [hbe];exact z
   rw [q] at q';cases q'
   obtain⟨v,hv⟩:=heo
   exact⟨v,by rw [hbe];exact hv⟩
  ·refine (ok b u q).stay (fun c v hc r=>k c v ?_ r) (fun c r=>by rw [upd_ne (nown c b r)];exact r) fun c xs r=>by rw [upd_ne (ntup c xs r)];exact r
   rcases hc with rfl | hc
   ·exact hbe
   ·rintro rfl
    rcases he with z | z
    ·exact nown c b hc z
    ·rw [hc] at z;cases z;exact hb rfl
end
structure Un (fs ex:List Addr) (H H':Hp) (h h':Heap):Prop where
 keep:∀b o,h.get? b=some o->H b=none->b∉fs->b∉ex->h'.get? b=some o
 slot:∀b o,h.get? b=some o->H b=none->b∈fs->b∉ex->∃sl,h'.get? b=some { o with slots:=sl }
 free:∀b o,h.get? b=some o->H b=none->b∉ex->H' b=none
 there:∀b o,h.get? b=some o->b∉ex->∃o',h'.get? b=some o'
 tups:∀b xs,H b=some (.tup xs)->H' b=some (.tup xs)
 frzs:∀b o u,H b=some (.frz o u)->H' b=some (.frz o u)
 tbls:∀b ps,H b=some (.tbl ps)->∃more,H' b=some (.tbl (ps++more))
section
variable {fs fs' ex ex':List Addr} {H H1 H2:Hp} {h h1 h2 h':Heap} {a x e:Addr} {o:HO}
theorem Un.any (u:Un fs ex H H1 h h1) {b:Addr} {ob:Obj} (q:h.get? b=some ob) (n:H b=none) (hx:b∉ex):∃sl,h1.get? b=some { ob with slots:=sl }:=by
 by_cases hb:b∈fs
 ·exact u.slot b ob q n hb hx
 ·exact⟨ob.slots,u.keep b ob q n hb hx⟩
theorem Un.trans (a:Un fs ex H H1 h h1) (b:Un fs ex H1 H2 h1 h2):Un fs ex H H2 h h2 where
 keep:=fun c ob q n hc hx=>b.keep c ob (a.keep c ob q n hc hx) (a.free c ob q n hx) hc hx
 slot:=fun c ob q n hc hx=>by
  obtain⟨sl,e1⟩:=a.slot c ob q n hc hx
  obtain⟨sl',e2⟩:=b.slot c _ e1 (a.free c ob q n hx) hc hx
  exact⟨sl',e2⟩
 free:=fun c ob q n hx=>by
  obtain⟨o',e1⟩:=a.there c ob q hx
  exact b.free c o' e1 (a.free c ob q n hx) hx
 there:=fun c ob q hx=>by
  obtain⟨o',e1⟩:=a.there c ob q hx
  exact b.there c o' e1 hx
 tups:=fun c xs q=>b.tups c xs (a.tups c xs q)
 frzs:=fun c ob xs q=>b.frzs c ob xs (a.frzs c ob xs q)
 tbls:=fun c ps q=>by
  obtain⟨m1,e1⟩:=a.tbls c ps q
  obtain⟨m2,e2⟩:=b.tbls c _ e1
  exact⟨m1++m2,by rw [e2,Array.append_assoc]⟩
theorem Un.kept (k:∀b u,h.get? b=some u->h'.get? b=some u):Un fs ex H H h h':=
 ⟨fun b ob q _ _ _=>k b ob q,fun b ob q _ _ _=>⟨ob.slots,k b ob q⟩,fun _ _ _ n _=>n,fun b ob q _=>⟨ob,k b ob q⟩,fun _ _ q=>q,fun _ _ _ q=>q,fun _ ps q=>⟨#[],by rw [q];simp⟩⟩
theorem Un.refl:Un fs ex H H h h:=Un.kept fun _ _ q=>q
theorem Un.laid (k:∀b u,h.get? b=some u->h'.get? b=some u) (hp:h.objs.size<=a) (hn:H a=none):Un fs ex H (upd H a o) h h' where
 keep:=fun b u q _ _ _=>k b u q
 slot:=fun b u q _ _ _=>⟨u.slots,k b u q⟩
 free:=fun b u q n _=>by rw [upd_ne (Nat.ne_of_lt (Nat.lt_of_lt_of_le (Heap.lt_size q) hp))];exact n
 there:=fun b u q _=>⟨u,k b u q⟩
 tups:=fun b xs q=>by rw [upd_ne (ne_of_none q hn)];exact q
 frzs:=fun b u xs q=>by rw [upd_ne (ne_of_none q hn)];exact q
 tbls:=fun b ps q=>⟨#[],by rw [upd_ne (ne_of_none q hn),q];simp⟩
theorem Un.write (mu:Mut (H x)) (he:e=x∨H e=some (.own x)) (k:∀b u,b≠e->h.get? b=some u->h'.get? b=some u) (heo:∃u,h'.get? e=some u):Un fs ex H (upd H x o) h h':=by
 have hx:∀b,H b=none->b≠x:=fun b n z=>by subst z;rw [n] at mu;exact mu
 have hb:∀b,H b=none->b≠e:=fun b n z=>by
  subst z
  rcases he with r | r
  ·exact hx b n r
  ·rw [n] at r;cases r
 have hm:∀b u,H b=some u->¬Mut (some u)->b≠x:=fun b u q nm z=>by subst z;rw [q] at mu;exact nm mu
 refine⟨fun b u q n _ _=>k b u (hb b n) q,fun b u q n _ _=>⟨u.slots,k b u (hb b n) q⟩,fun b u q n _=>by rw [upd_ne (hx b n)];exact n,fun b u q _=>?_,
  fun b xs q=>by rw [upd_ne (hm b _ q fun z=>z)];exact q,fun b u xs q=>by rw [upd_ne (hm b _ q fun z=>z)];exact q,fun b ps q=>⟨#[],by rw [upd_ne (hm b _ q fun z=>z),q];simp⟩⟩
 by_cases hbe:b=e
 ·subst hbe;exact heo
 ·exact⟨u,k b u hbe q⟩
end
def trk (h:Heap) (H:Hp):List Addr:=(List.range h.objs.size).filter fun a=>(H a).isSome
def hidT (h:Heap) (H:Hp):Heap:=PySem.W.hideAll h (trk h H)
theorem hidT_size (h:Heap) (H:Hp):(hidT h H).objs.size=h.objs.size:=PySem.W.hideAll_size _ _
theorem hidT_get {h:Heap} {H:Hp} {b:Addr} {o:Obj} (e:h.get? b=some o) (n:H b=none):(hidT h H).get? b=some o:=
 PySem.W.hideAll_get _ e fun hm=>by
  have q:(H b).isSome=true:=(List.mem_filter.mp hm).2
  rw [n] at q;simp at q
theorem of_hidT {h:Heap} {H:Hp} {b:Addr} {o:Obj} (e:(hidT h H).get? b=some o):h.get? b=some o∧H b=none:=by
 have e':h.get? b=some o:=PySem.W.of_hideAll (trk h H) e
 refine⟨e',?_⟩
 cases q:H b with
 | none=>rfl
 | some x=>
  have hm:b∈trk h H:=List.mem_filter.mpr ⟨List.mem_range.mpr (Heap.lt_size e'),by simp [q]⟩
  have z:(hidT h H).get? b=none:=PySem.W.hideAll_none (trk h H) hm
  rw [z] at e;cases e
def allNews (g h:Heap) (L:Addr):List (Addr×Obj):=(List.range h.objs.size).filterMap fun a=>if a=L∨(g.get? a).isSome=true then none else (h.get? a).map fun o=>(a,o)
def rest (g h:Heap) (L d:Addr):List (Addr×Obj):=(allNews g h L).filter fun p=>decide (p.1≠d)
end L2
namespace L2
open PySem PySem.Spec PyProof.Rows
structure Mod (K:PySem.W.Frag) (mg:Str->Option Value) (base:Heap):Prop where
 kin:K.In base
 glob:base.Ns mainGlobals mg
 blt:∃mb,base.Ns builtinsNs mb∧∀x:Str,x ≠ "__name__" -> mb x=bootBuiltins x
 nolimit:base.NoLimit
structure Cx where
 prog:Program
 w:World
 K:PySem.W.Frag
 mg:Str->Option Value
 base:Heap
 A:Around
 N:List Str
 s₀:Shared
 H₀:Hp
 env:Env
 outer:List Env
 stack:List Env
 ex:List Addr
 fn:Str->Bool
 calm:Bool
 pn:List (Addr×Obj)
 xe:Value->Shared->Prop
def frs (l:List Env):List Addr:=l.filterMap (·.frame)
abbrev Cx.fs (X:Cx):List Addr:=frs X.outer
def Vis (sc:Scope) (x:Str):Prop:=sc.names.lookup x=some .local∨sc.names.lookup x=some .cell∨sc.names.lookup x=some .free
def Loc (sc:Scope) (x:Str):Prop:=sc.names.lookup x=some .local∨sc.names.lookup x=some .cell
def Look (env:Env) (h:Heap) (m:Str->Option Value) (x:Str) (u:Value):Prop:=
 (env.kindOf x=some .local∧m x=some u)∨((env.kindOf x=some .cell∨env.kindOf x=some .free)∧∃c,env.cells.lookup x=some c∧h.IsCell c (some u))
structure Cx.Ok (X:Cx):Prop where
 mod:Mod X.K X.mg X.base
 kind:X.env.scope.kind=.function
 glob:X.env.globals=mainGlobals
 blt:X.env.builtins=builtinsNs
 above:X.s₀.heap.objs.size<=X.env.locals
 inj:∀x y c,X.env.cells.lookup x=some c->X.env.cells.lookup y=some c->x=y
 has:∀x,(X.env.kindOf x=some .cell∨X.env.kindOf x=some .free)->∃c,X.env.cells.lookup x=some c
 cab:∀x c,X.fn x=true->X.env.cells.lookup x=some c->X.s₀.heap.objs.size<=c
 hd:X.calm=true->X.A.handled=none
 frames:X.A.frames=some X.stack
 stk:X.stack=X.outer∨(X.stack=X.env :: X.outer∧X.env.frame=some X.env.locals)
 exf:∀b∈X.ex,b≠X.env.locals∧∀x c,X.env.cells.lookup x=some c->c≠b
 bs:∀b o,X.base.get? b=some o->X.s₀.heap.get? b=some o∧X.H₀ b=none
 bsz:X.base.objs.size<=X.s₀.heap.objs.size
 noex:∀b o,X.base.get? b=some o->b∉X.ex
 exfs:∀b∈X.ex,b∉X.fs
 funs:X.s₀.heap.FunFrames X.base X.outer
 frf:∀b∈X.fs,X.H₀ b=none
structure Inv (X:Cx) (pins:List (Addr×Obj)) (σ:List (Option V)) (H:Hp) (s:Shared):Prop where
 ok:X.Ok
 os:s.os=X.s₀.os
 bare:AllBare s.gens
 base:Un X.fs X.ex X.H₀ H X.s₀.heap s.heap
 loc:∃m,s.heap.Ns X.env.locals m∧∀(i:Nat) (x:Str) (v:V),X.N[i]?=some x->σ[i]?=some (some v)->Vis X.env.scope x->∃u,RelV v u∧Look X.env s.heap m x u
 cell:∀x c,X.env.cells.lookup x=some c->∃v,s.heap.IsCell c v
 free:H X.env.locals=none
 freeC:∀x c,X.env.cells.lookup x=some c->H c=none
 pin:∀p∈X.pn++pins,s.heap.get? p.1=some p.2∧H p.1=none∧p.1≠X.env.locals∧p.1∉X.fs∧∀v,p.2.data≠.cell v
 hok:HOk X.prog X.w H s.heap
 len:σ.length=X.N.length
section
variable {X:Cx} {pins:List (Addr×Obj)} {σ:List (Option V)} {H H':Hp} {s:Shared} {h':Heap}
theorem Cx.Ok.nofr (ok:X.Ok) {b:Addr} {o:Obj} (e:X.base.get? b=some o):b∉X.fs:=fun hb=>by
 have:=(ok.funs.mem hb).1
 rw [e] at this;cases this
theorem Inv.bs (I:Inv X pins σ H s):∀b o,X.base.get? b=some o->s.heap.get? b=some o∧H b=none:=fun b o e=>
 ⟨I.base.keep b o (I.ok.bs b o e).1 (I.ok.bs b o e).2 (I.ok.nofr e) (I.ok.noex b o e),I.base.free b o (I.ok.bs b o e).1 (I.ok.bs b o e).2 (I.ok.noex b o e)⟩
theorem Inv.bk (I:Inv X pins σ H s):∀b o,X.base.get? b=some o->s.heap.get? b=some o:=fun b o e=>(I.bs b o e).1
theorem Inv.mod (I:Inv X pins σ H s):Mod X.K X.mg X.base:=I.ok.mod
theorem Inv.kIn (I:Inv X pins σ H s):X.K.In s.heap:=I.ok.mod.kin.keeps I.bk
theorem Inv.lt (I:Inv X pins σ H s):X.env.locals < s.heap.objs.size:=let ⟨_,hn,_⟩:=I.loc;hn.lt
theorem Inv.sz (I:Inv X pins σ H s):X.s₀.heap.objs.size<=s.heap.objs.size:=Nat.le_trans I.ok.above (Nat.le_of_lt I.lt)
theorem Inv.nofs (I:Inv X pins σ H s) {a:Addr} (h:s.heap.objs.size<=a):a∉X.fs:=fun hb=>by
 obtain⟨_,o,ho,_⟩:=I.ok.funs.mem hb
 exact absurd (Nat.lt_of_lt_of_le (Heap.lt_size ho) (Nat.le_trans I.sz h)) (Nat.lt_irrefl _)
theorem Inv.cne (I:Inv X pins σ H s):∀x c,X.env.cells.lookup x=some c->c≠X.env.locals:=fun x c e z=>by
 obtain⟨v,o,ho,hd⟩:=I.cell x c e
 obtain⟨m,⟨o',es,ep,ho',hd',_⟩,_⟩:=I.loc
 rw [z,ho'] at ho;cases ho;rw [hd'] at hd;cases hd
theorem Inv.funs (I:Inv X pins σ H s):s.heap.FunFrames X.base X.outer:=by
 have all:∀(l:List Env),(∀b∈frs l,b∈X.fs)->X.s₀.heap.FunFrames X.base l->s.heap.FunFrames X.base l:=by
  intro l
  induction l with
  | nil=>intro _ _;trivial
  | cons env r ih=>
   intro hs hl
   obtain⟨hk,⟨L,o,hf,hn,ho,hd⟩,hr⟩:=hl
   have hL:L∈X.fs:=hs L (by unfold frs;rw [List.filterMap_cons,hf];exact List.mem_cons_self)
   obtain⟨sl,e⟩:=I.base.slot L o ho (I.ok.frf L hL) hL fun z=>I.ok.exfs L z hL
   exact⟨hk,⟨L,_,hf,hn,e,hd⟩,ih (fun b hb=>hs b (by unfold frs;rw [List.filterMap_cons,hf];exact List.mem_cons_of_mem _ hb)) hr⟩
 exact all X.outer (fun _ hb=>hb) I.ok.funs
theorem Inv.stack (I:Inv X pins σ H s):s.heap.FunFrames X.base X.stack:=by
 rcases I.ok.stk with e | ⟨e,hf⟩
 ·rw [e];exact I.funs
 ·rw [e]
  obtain⟨m,hn,_⟩:=I.loc
  refine .cons (by rw [I.ok.kind];decide) hf hn ?_ I.funs
  exact Heap.get?_none_of_le (Nat.le_trans I.ok.bsz I.ok.above)
theorem Inv.stkSub (I:Inv X pins σ H s):∀b∈frs X.stack,b∈X.env.locals :: X.fs:=fun b hb=>by
 rcases I.ok.stk with e | ⟨e,hf⟩
 ·rw [e] at hb;exact List.mem_cons_of_mem _ hb
 ·rw [e] at hb
  unfold frs at hb
  rw [List.filterMap_cons,hf] at hb
  exact hb
theorem Inv.stkFree (I:Inv X pins σ H s):∀b∈frs X.stack,H b=none:=fun b hb=>by
 rcases List.mem_cons.mp (I.stkSub b hb) with e | hb
 ·rw [e];exact I.free
 ·obtain⟨_,o,ho,_⟩:=I.ok.funs.mem hb
  exact I.base.free b o ho (I.ok.frf b hb) fun z=>I.ok.exfs b z hb
theorem Inv.step {g':Array GenState} {t':Nat} {d':Drawn} {ch:List Addr} (I:Inv X pins σ H s)
  (hch:∀b∈ch,(b∈X.ex∨X.s₀.heap.objs.size<=b)∧b≠X.env.locals∧(∀x c,X.env.cells.lookup x=some c->c≠b)∧∀p∈X.pn++pins,p.1≠b)
  (keep:∀b o,b≠X.env.locals->b∉X.fs->b∉ch->s.heap.get? b=some o->H b=none->h'.get? b=some o)
  (slot:∀b o,b≠X.env.locals->b∈X.fs->b∉ch->s.heap.get? b=some o->H b=none->∃sl,h'.get? b=some { o with slots:=sl }) (free:∀b o,b∉ch->s.heap.get? b=some o->H b=none->H' b=none)
  (there:∀b o,b∉ch->s.heap.get? b=some o->∃o',h'.get? b=some o')
  (tups:∀b xs,H b=some (.tup xs)->H' b=some (.tup xs)) (frzs:∀b o u,H b=some (.frz o u)->H' b=some (.frz o u)) (tbls:∀b ps,H b=some (.tbl ps)->∃more,H' b=some (.tbl (ps++more)))
  (ns:∀m,s.heap.Ns X.env.locals m->h'.Ns X.env.locals m) (hok:HOk X.prog X.w H' h') (hg:AllBare g'):
  Inv X pins σ H' { s with heap:=h',gens:=g',drawn:=d',toks:=t' }:=by
 have neL:∀b o,X.s₀.heap.get? b=some o->b≠X.env.locals:=fun b o e=>Nat.ne_of_lt (Nat.lt_of_lt_of_le (Heap.lt_size e) I.ok.above)
 have neC:∀b o,X.s₀.heap.get? b=some o->b∉X.ex->b∉ch:=fun b o e hx hb=>by
  rcases (hch b hb).1 with z | z
  ·exact hx z
  ·exact absurd (Nat.lt_of_lt_of_le (Heap.lt_size e) z) (Nat.lt_irrefl _)
 have cellK:∀x c,X.env.cells.lookup x=some c->∀v,s.heap.IsCell c v->h'.IsCell c v:=fun x c e v ⟨o,ho,hd⟩=>by
  have nch:c∉ch:=fun z=>(hch c z).2.2.1 x c e rfl
  by_cases hc:c∈X.fs
  ·obtain⟨sl,q⟩:=slot c o (I.cne x c e) hc nch ho (I.freeC x c e)
   exact⟨_,q,hd⟩
  ·exact⟨o,keep c o (I.cne x c e) hc nch ho (I.freeC x c e),hd⟩
 refine⟨I.ok,I.os,hg,⟨fun b o e n hb hx=>?_,fun b o e n hb hx=>?_,fun b o e n hx=>?_,fun b o e hx=>?_,fun b xs e=>tups b xs (I.base.tups b xs e),fun b o xs e=>frzs b o xs (I.base.frzs b o xs e),fun b ps e=>?_⟩,?_,fun x c e=>?_,?_,fun x c e=>?_,fun p hp=>?_,hok,I.len⟩
 ·exact keep b o (neL b o e) hb (neC b o e hx) (I.base.keep b o e n hb hx) (I.base.free b o e n hx)
 ·obtain⟨sl,e1⟩:=I.base.slot b o e n hb hx
  obtain⟨sl',e2⟩:=slot b _ (neL b o e) hb (neC b o e hx) e1 (I.base.free b o e n hx)
  exact⟨sl',e2⟩
 ·obtain⟨o',e1⟩:=I.base.there b o e hx
  exact free b o' (neC b o e hx) e1 (I.base.free b o e n hx)
 ·obtain⟨o',e1⟩:=I.base.there b o e hx
  exact there b o' (neC b o e hx) e1
 ·obtain⟨m1,e1⟩:=I.base.tbls b ps e
  obtain⟨m2,e2⟩:=tbls b _ e1
  exact⟨m1++m2,by rw [e2,Array.append_assoc]⟩
 ·obtain⟨m,hn,hl⟩:=I.loc
  refine⟨m,ns m hn,fun i x v e1 e2 e3=>?_⟩
  obtain⟨u,r,l⟩:=hl i x v e1 e2 e3
  refine⟨u,r,?_⟩
  rcases l with l | ⟨k,c,e,z⟩
  ·exact .inl l
  ·exact .inr ⟨k,c,e,cellK x c e _ z⟩
 ·obtain⟨v,z⟩:=I.cell x c e
  exact⟨v,cellK x c e v z⟩
 ·obtain⟨m,⟨o,_,_,ho,_⟩,_⟩:=I.loc
  exact free _ o (fun z=>(hch _ z).2.1 rfl) ho I.free
 ·obtain⟨v,o,ho,hd⟩:=I.cell x c e
  exact free c o (fun z=>(hch c z).2.2.1 x c e rfl) ho (I.freeC x c e)
 ·obtain⟨e,n,ne,nf,d⟩:=I.pin p hp
  have nch:p.1∉ch:=fun z=>(hch p.1 z).2.2.2 p hp rfl
  exact⟨keep p.1 p.2 ne nf nch e n,free p.1 p.2 nch e n,ne,nf,d⟩
theorem Inv.un {t':Nat} (I:Inv X pins σ H s) (u:Un X.fs [] H H' s.heap h') (hok:HOk X.prog X.w H' h'):Inv X pins σ H' { s with heap:=h',toks:=t' }:=by
 obtain⟨m,⟨o,es,ep,ho,r⟩,_⟩:=id I.loc
 obtain⟨sl,hL⟩:=u.any ho I.free (by simp)
 exact I.step (g':=s.gens) (d':=s.drawn) (ch:=[]) (fun _ z=>nomatch z) (fun b o _ hb _ e n=>u.keep b o e n hb (by simp)) (fun b o _ hb _ e n=>u.slot b o e n hb (by simp)) (fun b o _ e n=>u.free b o e n (by simp)) (fun b o _ e=>u.there b o e (by simp)) u.tups u.frzs u.tbls (fun m' hm=>by
  obtain⟨o',es',ep',ho',r'⟩:=hm
  rw [ho] at ho';cases ho'
  exact⟨_,es',ep',hL,r'⟩) hok I.bare
theorem Inv.call {g':Array GenState} {t':Nat} {d':Drawn} {ch:List Addr} (I:Inv X pins σ H s) (u:Un (frs X.stack) ch H H' s.heap h') (hok:HOk X.prog X.w H' h') (hg:AllBare g')
  (hch:∀b∈ch,(b∈X.ex∨X.s₀.heap.objs.size<=b)∧b≠X.env.locals∧(∀x c,X.env.cells.lookup x=some c->c≠b)∧∀p∈X.pn++pins,p.1≠b):
  Inv X pins σ H' { s with heap:=h',gens:=g',drawn:=d',toks:=t' }:=by
 obtain⟨m,⟨o,es,ep,ho,r⟩,_⟩:=id I.loc
 obtain⟨sl,hL⟩:=u.any ho I.free fun z=>(hch _ z).2.1 rfl
 exact I.step (ch:=ch) hch (fun b o hL hb hc e n=>u.keep b o e n (fun z=>(List.mem_cons.mp (I.stkSub b z)).elim hL hb) hc) (fun b o _ _ hc e n=>u.any e n hc) (fun b o hc e n=>u.free b o e n hc) (fun b o hc e=>u.there b o e hc) u.tups u.frzs u.tbls (fun m' hm=>by
  obtain⟨o',es',ep',ho',r'⟩:=hm
  rw [ho] at ho';cases ho'
  exact⟨_,es',ep',hL,r'⟩) hok hg
theorem Inv.turned {t':Nat} {it:Addr} (I:Inv X pins σ H s) (k:∀b o,b≠it->s.heap.get? b=some o->h'.get? b=some o) (hn:H it=none) (hL:it≠X.env.locals)
  (h1:it∈X.ex∨X.s₀.heap.objs.size<=it) (h2:∀x c,X.env.cells.lookup x=some c->c≠it) (h3:∀p∈X.pn++pins,p.1≠it):Inv X pins σ H { s with heap:=h',toks:=t' }:=by
 have nit:∀b u,H b=some u->b≠it:=fun b u e z=>by rw [z,hn] at e;cases e
 refine I.step (g':=s.gens) (d':=s.drawn) (ch:=[it]) (fun b hb=>?_) (fun b o _ _ hc e _=>k b o (fun z=>hc (by simp [z])) e) (fun b o _ _ hc e _=>⟨o.slots,k b o (fun z=>hc (by simp [z])) e⟩) (fun _ _ _ _ n=>n)
  (fun b o hc e=>⟨o,k b o (fun z=>hc (by simp [z])) e⟩) (fun _ _ e=>e) (fun _ _ _ e=>e) (fun b ps e=>⟨#[],by rw [e];simp⟩) (fun m hm=>?_) (fun b u e=>?_) I.bare
 ·have e:b=it:=by simpa using hb
  subst e
  exact⟨h1,hL,h2,h3⟩
 ·obtain⟨o,es,ep,ho,r⟩:=hm
  exact⟨o,es,ep,k _ o (Ne.symm hL) ho,r⟩
 ·refine (I.hok b u e).stay (fun c v hc q=>k c v ?_ q) (fun _ q=>q) fun _ _ q=>q
  rcases hc with z | z
  ·rw [z];exact nit b u e
  ·exact nit c _ z
theorem Inv.tok (I:Inv X pins σ H s) (t:Nat):Inv X pins σ H { s with toks:=t }:=I.un (h':=s.heap) (t':=t) Un.refl I.hok
theorem Inv.kept {t':Nat} (I:Inv X pins σ H s) (k:∀b u,s.heap.get? b=some u->h'.get? b=some u):Inv X pins σ H { s with heap:=h',toks:=t' }:=I.un (Un.kept k) (I.hok.kept k)
theorem Inv.laid {a:Addr} {o:HO} {t':Nat} (I:Inv X pins σ H s) (k:∀b u,s.heap.get? b=some u->h'.get? b=some u) (hp:s.heap.objs.size<=a) (new:ObjOk X.prog X.w (upd H a o) h' a o):
  Inv X pins σ (upd H a o) { s with heap:=h',toks:=t' }:=I.un (Un.laid k hp (I.hok.fresh hp)) (I.hok.laid k hp new)
theorem Inv.write {x e:Addr} {o:HO} {t':Nat} (I:Inv X pins σ H s) (mu:Mut (H x)) (he:e=x∨H e=some (.own x)) (k:∀b u,b≠e->s.heap.get? b=some u->h'.get? b=some u) (heo:∃u,h'.get? e=some u)
  (new:ObjOk X.prog X.w (upd H x o) h' x o):Inv X pins σ (upd H x o) { s with heap:=h',toks:=t' }:=I.un (Un.write mu he k heo) (I.hok.write mu he k heo new)
theorem Inv.pins_of {pins':List (Addr×Obj)} (I:Inv X pins σ H s) (h:∀p∈pins',s.heap.get? p.1=some p.2∧H p.1=none∧p.1≠X.env.locals∧p.1∉X.fs∧∀v,p.2.data≠.cell v):Inv X pins' σ H s:=
 ⟨I.ok,I.os,I.bare,I.base,I.loc,I.cell,I.free,I.freeC,fun p hp=>(List.mem_append.mp hp).elim (fun z=>I.pin p (List.mem_append_left _ z)) (h p),I.hok,I.len⟩
theorem nodup_ix {N:List Str} (hN:N.Nodup) {i j:Nat} {x:Str} (a:N[i]?=some x) (b:N[j]?=some x):i=j:=by
 obtain⟨h1,e1⟩:=List.getElem?_eq_some_iff.mp a
 obtain⟨h2,e2⟩:=List.getElem?_eq_some_iff.mp b
 exact (List.getElem_inj hN).mp (e1.trans e2.symm)
theorem store_ok2 {M:Model} {A:Around} {E:Value->Shared->Prop} {i:Nat} {x:Str} {v:V} {u:Value} {Q:Unit->Shared->Prop} (I:Inv X pins σ H s) (hN:X.N.Nodup) (hi:X.N[i]?=some x) (hx:Loc X.env.scope x) (r:RelV v u)
  (h:∀s',Inv X pins (σ.set i (some v)) H s'->(∃a,Heap.SameBut a s.heap s'.heap∧(a=X.env.locals∨X.env.cells.lookup x=some a))->Q () s') (hf:X.fn x=true∨X.env.scope.names.lookup x=some .local:=by first | exact .inl rfl | exact .inr rfl | assumption):wpAny M A (storeName X.env x u) Q E s:=by
 obtain⟨m,hn,hl⟩:=id I.loc
 have hcls:(X.env.scope.kind == .class || (X.env.scope.kind == .module && X.env.locals != X.env.globals))=false:=by rw [I.ok.kind];rfl
 have hiσ:i < σ.length:=by rw [I.len];exact (List.getElem?_eq_some_iff.mp hi).1
 have cne:=I.cne
 have tracked:∀{a:Addr} {h':Heap},(∃o,s.heap.get? a=some o∧H a=none)->Heap.SameBut a s.heap h'->HOk X.prog X.w H h':=fun {a h'} ha hs b ob e=>by
  obtain⟨_,_,hfree⟩:=ha
  refine (I.hok b ob e).stay (fun c w' hc q=>(hs.2 c ?_).trans q) (fun _ q=>q) fun _ _ q=>q
  rintro rfl
  rcases hc with rfl | hc
  ·rw [hfree] at e;cases e
  ·rw [hfree] at hc;cases hc
 rcases hx with hk | hk
 ·refine wpAny_storeName_local hk hn (fun h' hn' hs=>?_) hcls
  obtain⟨oL,_,_,hoL,_⟩:=id hn
  refine h _ ⟨I.ok,I.os,I.bare,⟨fun b o e n hb hx=>?_,fun b o e n hb hx=>?_,I.base.free,fun b o e hx=>?_,I.base.tups,I.base.frzs,I.base.tbls⟩,⟨_,hn',fun j y v' e1 e2 e3=>?_⟩,fun y c e=>?_,I.free,I.freeC,fun p hp=>?_,tracked ⟨oL,hoL,I.free⟩ hs,by simpa using I.len⟩ ⟨_,hs,.inl rfl⟩
  ·exact (hs.2 b (Nat.ne_of_lt (Nat.lt_of_lt_of_le (Heap.lt_size e) I.ok.above))).trans (I.base.keep b o e n hb hx)
  ·obtain⟨sl,e1⟩:=I.base.slot b o e n hb hx
   exact⟨sl,(hs.2 b (Nat.ne_of_lt (Nat.lt_of_lt_of_le (Heap.lt_size e) I.ok.above))).trans e1⟩
  ·obtain⟨o',e1⟩:=I.base.there b o e hx
   exact⟨o',(hs.2 b (Nat.ne_of_lt (Nat.lt_of_lt_of_le (Heap.lt_size e) I.ok.above))).trans e1⟩
  ·by_cases hj:j=i
   ·subst hj
    rw [hi] at e1;cases e1
    rw [List.getElem?_set_self hiσ] at e2
    cases e2
    exact⟨u,r,.inl ⟨hk,by simp⟩⟩
   ·rw [List.getElem?_set_ne (Ne.symm hj)] at e2
    obtain⟨u',r',q⟩:=hl j y v' e1 e2 e3
    refine⟨u',r',?_⟩
    rcases q with ⟨k,e⟩ | ⟨k,c,e,z⟩
    ·refine .inl ⟨k,?_⟩
     have:y≠x:=fun e=>hj (nodup_ix hN e1 (e ▸ hi))
     simp [this,e]
    ·exact .inr ⟨k,c,e,z.sameBut hs (cne y c e)⟩
  ·obtain⟨w',z⟩:=I.cell y c e
   exact⟨w',z.sameBut hs (cne y c e)⟩
  ·obtain⟨e,n,ne,nf,d⟩:=I.pin p hp
   exact⟨(hs.2 p.1 ne).trans e,n,ne,nf,d⟩
 ·have hfn:X.fn x=true:=by
   rcases hf with z | z
   ·exact z
   ·rw [z] at hk;cases hk
  obtain⟨c,hc⟩:=I.ok.has x (.inl hk)
  obtain⟨w',z⟩:=I.cell x c hc
  refine wpAny_storeName_cell I.ok.kind hk hc z (fun h' hc' hs=>?_)
  obtain⟨oc,hoc,hocd⟩:=id z
  refine h { s with heap:=h' } ⟨I.ok,I.os,I.bare,⟨fun b o e n hb hx=>?_,fun b o e n hb hx=>?_,I.base.free,fun b o e hx=>?_,I.base.tups,I.base.frzs,I.base.tbls⟩,⟨m,hn.sameBut hs (Ne.symm (cne x c hc)),fun j y v' e1 e2 e3=>?_⟩,fun y c' e=>?_,I.free,I.freeC,fun p hp=>?_,tracked ⟨oc,hoc,I.freeC x c hc⟩ hs,by simpa using I.len⟩ ⟨c,hs,.inr hc⟩
  ·exact (hs.2 b (Nat.ne_of_lt (Nat.lt_of_lt_of_le (Heap.lt_size e) (I.ok.cab x c hfn hc)))).trans (I.base.keep b o e n hb hx)
  ·obtain⟨sl,e1⟩:=I.base.slot b o e n hb hx
   exact⟨sl,(hs.2 b (Nat.ne_of_lt (Nat.lt_of_lt_of_le (Heap.lt_size e) (I.ok.cab x c hfn hc)))).trans e1⟩
  ·obtain⟨o',e1⟩:=I.base.there b o e hx
   exact⟨o',(hs.2 b (Nat.ne_of_lt (Nat.lt_of_lt_of_le (Heap.lt_size e) (I.ok.cab x c hfn hc)))).trans e1⟩
  ·by_cases hj:j=i
   ·subst hj
    rw [hi] at e1;cases e1
    rw [List.getElem?_set_self hiσ] at e2
    cases e2
    exact⟨u,r,.inr ⟨.inl hk,c,hc,hc'⟩⟩
   ·rw [List.getElem?_set_ne (Ne.symm hj)] at e2
    obtain⟨u',r',q⟩:=hl j y v' e1 e2 e3
    refine⟨u',r',?_⟩
    rcases q with q | ⟨k,c',e,z'⟩
    ·exact .inl q
    ·refine .inr ⟨k,c',e,z'.sameBut hs ?_⟩
     rintro rfl
     exact hj (nodup_ix hN e1 (I.ok.inj _ _ _ e hc ▸ hi))
  ·by_cases hcc:c'=c
   ·subst hcc;exact⟨_,hc'⟩
   ·obtain⟨w2,z2⟩:=I.cell y c' e
    exact⟨w2,z2.sameBut hs hcc⟩
  ·obtain⟨e,n,ne,nf,d⟩:=I.pin p hp
   refine⟨(hs.2 p.1 ?_).trans e,n,ne,nf,d⟩
   intro q
   rw [q,hoc] at e
   have q':oc=p.2:=Option.some.inj e
   exact d w' (by rw [← q'];exact hocd)
theorem store_ok {M:Model} {A:Around} {E:Value->Shared->Prop} {i:Nat} {x:Str} {v:V} {u:Value} {Q:Unit->Shared->Prop} (I:Inv X pins σ H s) (hN:X.N.Nodup) (hi:X.N[i]?=some x) (hx:Loc X.env.scope x) (r:RelV v u)
  (h:∀s',Inv X pins (σ.set i (some v)) H s'->Q () s') (hf:X.fn x=true∨X.env.scope.names.lookup x=some .local:=by first | exact .inl rfl | exact .inr rfl | assumption):wpAny M A (storeName X.env x u) Q E s:=
 store_ok2 I hN hi hx r (fun s' I' _=>h s' I') hf
theorem Inv.call' {s':Shared} {ch:List Addr} (I:Inv X pins σ H s) (ho:s'.os=s.os) (u:Un (frs X.stack) ch H H' s.heap s'.heap) (hok:HOk X.prog X.w H' s'.heap) (hg:AllBare s'.gens)
  (hch:∀b∈ch,(b∈X.ex∨X.s₀.heap.objs.size<=b)∧b≠X.env.locals∧(∀x c,X.env.cells.lookup x=some c->c≠b)∧∀p∈X.pn++pins,p.1≠b):Inv X pins σ H' s':=by
 obtain⟨h',g',d',t',o'⟩:=s'
 have e:o'=s.os:=ho
 subst e
 exact I.call (g':=g') (t':=t') (d':=d') u hok hg hch
end
abbrev XK:=Value->Option Addr->Hp->Prop
abbrev St:=List (Option V)
abbrev VK:=V->Hp->Prop
abbrev TE:=St->Hp->VK->Prop
abbrev TT:=St->Hp->(Bool->Hp->Prop)->Prop
abbrev TA:=St->Hp->(List V->Hp->Prop)->Prop
structure Ends where
 nx:St->Hp->Prop
 rt:VK
 bk:St->Hp->Prop:=fun _ _=>False
 ct:St->Hp->Prop:=fun _ _=>False
abbrev TS:=Ends->St->Hp->Prop
def EP (X:Cx) (pins:List (Addr×Obj)) (σ:St) (Q:VK) (u:Value) (s':Shared):Prop:=∃v H',Inv X pins σ H' s'∧RelV v u∧Q v H'
def TP (X:Cx) (pins:List (Addr×Obj)) (σ:St) (Q:Bool->Hp->Prop) (b:Bool) (s':Shared):Prop:=∃H',Inv X pins σ H' s'∧Q b H'
def AP (X:Cx) (pins:List (Addr×Obj)) (σ:St) (Q:List V->Hp->Prop) (us:List Value) (s':Shared):Prop:=∃vs H',Inv X pins σ H' s'∧Vals vs us∧Q vs H'
def SP (X:Cx) (pins:List (Addr×Obj)) (D:Ends) (f:Flow) (s':Shared):Prop:=
 match f with
 | .next=>∃σ' H',Inv X pins σ' H' s'∧D.nx σ' H'
 | .brk=>∃σ' H',Inv X pins σ' H' s'∧D.bk σ' H'
 | .cont=>∃σ' H',Inv X pins σ' H' s'∧D.ct σ' H'
 | .ret u=>∃v σ' H',Inv X pins σ' H' s'∧RelV v u∧D.rt v H'
def PE (X:Cx) (e:Expr) (t:TE):Prop:=
 ∀(pins:List (Addr×Obj)) (s:Shared) (σ:St) (H:Hp) (Q:VK),Inv X pins σ H s->t σ H Q->wpAny (model X.prog X.w) X.A (eval e X.env) (EP X pins σ Q) X.xe s
def PT (X:Cx) (e:Expr) (t:TT):Prop:=
 ∀(pins:List (Addr×Obj)) (s:Shared) (σ:St) (H:Hp) (Q:Bool->Hp->Prop),Inv X pins σ H s->t σ H Q->wpAny (model X.prog X.w) X.A (isTrue e X.env (eval e X.env)) (TP X pins σ Q) X.xe s
def PW (X:Cx) (e:Expr) (t:TT):Prop:=
 ∀(whole:Sem Value) (pins:List (Addr×Obj)) (s:Shared) (σ:St) (H:Hp) (Q:Bool->Hp->Prop),Inv X pins σ H s->t σ H Q->wpAny (model X.prog X.w) X.A (isTrue e X.env whole) (TP X pins σ Q) X.xe s
theorem PW.pt {X:Cx} {e:Expr} {t:TT} (h:PW X e t):PT X e t:=h _
def PA (X:Cx) (es:List Expr) (t:TA):Prop:=
 ∀(pos:Pos) (pins:List (Addr×Obj)) (s:Shared) (σ:St) (H:Hp) (Q:List V->Hp->Prop),Inv X pins σ H s->t σ H Q->wpAny (model X.prog X.w) X.A (spliced (backTo pos (starEach es X.env))) (AP X pins σ Q) X.xe s
def PS (X:Cx) (st:Stmt) (t:TS):Prop:=
 ∀(pins:List (Addr×Obj)) (s:Shared) (σ:St) (H:Hp) (D:Ends),Inv X pins σ H s->t D σ H->wpAny (model X.prog X.w) X.A (exec st X.env) (SP X pins D) X.xe s
def PSs (X:Cx) (st:List Stmt) (t:TS):Prop:=
 ∀(pins:List (Addr×Obj)) (s:Shared) (σ:St) (H:Hp) (D:Ends),Inv X pins σ H s->t D σ H->wpAny (model X.prog X.w) X.A (execs st X.env) (SP X pins D) X.xe s
theorem thn {α:Type} {t:Sem α} {Q Q':α->Shared->Prop} {M:Model} {A:Around} {E:Value->Shared->Prop} {s:Shared} (h:wpAny M A t Q E s) (hQ:∀a s,Q a s->Q' a s):wpAny M A t Q' E s:=wpAny_mono h hQ fun _ _ x=>x
end L2
namespace L2
open PySem PySem.Spec PyProof.Rows
section
variable {X:Cx}
theorem bin {a b:Expr} {ta tb:TE} (ha:PE X a ta) (hb:PE X b tb) {pins:List (Addr×Obj)} {s:Shared} {σ:St} {H:Hp} {R:V->V->Hp->Prop} (I:Inv X pins σ H s) (h:ta σ H fun x H1=>tb σ H1 fun y H2=>R x y H2)
  {α:Type} {Q:α->Shared->Prop} {f:Value->Value->Sem α}
  (hf:∀v u s2 x y H2,Inv X pins σ H2 s2->RelV x v->RelV y u->R x y H2->wpAny (model X.prog X.w) X.A (f v u) Q X.xe s2):
  wpAny (model X.prog X.w) X.A (eval a X.env) (fun v s₁=>wpAny (model X.prog X.w) X.A (eval b X.env) (fun u s₂=>wpAny (model X.prog X.w) X.A (f v u) Q X.xe s₂) X.xe s₁) X.xe s:=by
 refine thn (ha pins s σ H _ I h) fun v s1 ⟨x,H1,I1,r1,q1⟩=>?_
 refine thn (hb pins s1 σ H1 _ I1 q1) fun u s2 ⟨y,H2,I2,r2,q2⟩=>?_
 exact hf v u s2 x y H2 I2 r1 r2 q2
def tVar (i:Nat):TE:=fun σ H Q=>∃v,σ[i]?=some (some v)∧Q v H
def tC (v:V):TE:=fun _ H Q=>Q v H
theorem pe_var {i:Nat} {x:Str} {pos:Pos} (hN:X.N[i]?=some x) (hv:Vis X.env.scope x) (hd:(x == ("__debug__" : Str))=false:=by decide) (hcd:(x == ("__classdict__" : Str))=false:=by decide):PE X (.Name x pos) (tVar i):=by
 intro pins s σ H Q I h
 obtain⟨v,e,h⟩:=h
 obtain⟨m,hn,hl⟩:=I.loc
 obtain⟨u,r,l⟩:=hl i x v hN e hv
 have fin:EP X pins σ Q u s:=⟨v,H,I,r,h⟩
 rcases l with ⟨hk,hm⟩ | ⟨hk,c,hc,hcell⟩
 ·exact wpAny_Name (wpAny_loadName_local I.ok.kind hk hn hm fin) hd
 ·rcases hk with hk | hk
  ·exact wpAny_Name (wpAny_loadName_cell I.ok.kind hk hc hcell fin) hd
  ·exact wpAny_Name (wpAny_loadName_free I.ok.kind hk hc hcell fin hcd) hd
theorem pe_int {i j pos}:PE X (.Constant (.int i) j pos) (tC (.int i)):=fun _ _ _ H _ I h=>wpAny_Constant_int ⟨.int i,H,I.tok _,⟨_,rfl⟩,h⟩
theorem pe_bl {b j pos}:PE X (.Constant (.bool b) j pos) (tC (.bl b)):=fun _ _ _ H _ I h=>Constant_bool ⟨.bl b,H,I,rfl,h⟩
theorem pe_non {j pos}:PE X (.Constant .none j pos) (tC .non):=fun _ _ _ H _ I h=>Constant_none ⟨.non,H,I,rfl,h⟩
theorem pe_str {x j pos}:PE X (.Constant (.str x) j pos) (tC (.str x)):=fun _ _ _ H _ I h=>Calls.Constant_str ⟨.str x,H,I.tok _,⟨_,rfl⟩,h⟩
def Gl (X:Cx) (x:Str):Prop:=X.env.kindOf x=some .globalImplicit
theorem ld_glob {E:Value->Shared->Prop} {pins:List (Addr×Obj)} {s:Shared} {σ:St} {H:Hp} {x:Str} {u:Value} {pos:Pos} {Q:Value->Shared->Prop} (I:Inv X pins σ H s) (hg:Gl X x) (hm:X.mg x=some u) (h:Q u s)
  (hd:(x == ("__debug__" : Str))=false:=by decide):wpAny (model X.prog X.w) X.A (eval (.Name x pos) X.env) Q E s:=
 Calls.Name_function_global I.ok.kind hg (Calls.loadGlobal_global (by rw [I.ok.glob];exact I.mod.glob.keeps I.bk) hm h) hd
theorem ld_blt {E:Value->Shared->Prop} {pins:List (Addr×Obj)} {s:Shared} {σ:St} {H:Hp} {x:Str} {u:Value} {pos:Pos} {Q:Value->Shared->Prop} (I:Inv X pins σ H s) (hg:Gl X x) (hm:X.mg x=none) (hv:bootBuiltins x=some u) (h:Q u s)
  (hn:x ≠ "__name__" := by decide) (hd:(x == ("__debug__" : Str))=false:=by decide):wpAny (model X.prog X.w) X.A (eval (.Name x pos) X.env) Q E s:=by
 obtain⟨mb,h1,h2⟩:=I.mod.blt
 exact Calls.Name_function_global I.ok.kind hg (Calls.loadGlobal_builtin (by rw [I.ok.glob];exact I.mod.glob.keeps I.bk) hm (by rw [I.ok.blt];exact h1.keeps I.bk) ((h2 x hn).trans hv) h) hd
theorem pe_glob {x:Str} {v:V} {u:Value} {pos:Pos} (hg:Gl X x) (hm:X.mg x=some u) (r:RelV v u) (hd:(x == ("__debug__" : Str))=false:=by decide):PE X (.Name x pos) (tC v):=
 fun _ _ _ H _ I h=>ld_glob I hg hm ⟨v,H,I,r,h⟩ hd
theorem pe_bltn {x:Str} {v:V} {u:Value} {pos:Pos} (hg:Gl X x) (hm:X.mg x=none) (hv:bootBuiltins x=some u) (r:RelV v u) (hn:x ≠ "__name__" := by decide) (hd:(x == ("__debug__" : Str))=false:=by decide):PE X (.Name x pos) (tC v):=
 fun _ _ _ H _ I h=>ld_blt I hg hm hv ⟨v,H,I,r,h⟩ hn hd
variable {a b:Expr} {ta tb:TE} {pos:Pos}
def PC (X:Cx) (op:CmpOp) (a b:Expr) (t:TE):Prop:=
 ∀(pins:List (Addr×Obj)) (s:Shared) (σ:St) (H:Hp) (Q:VK),Inv X pins σ H s->t σ H Q->
  wpAny (model X.prog X.w) X.A (eval a X.env) (fun v s₁=>wpAny (model X.prog X.w) X.A (eval b X.env) (fun u s₂=>wpAny (model X.prog X.w) X.A (compareOp op v u) (EP X pins σ Q) X.xe s₂) X.xe s₁) X.xe s
theorem nobehind (b:Expr) {op:CmpOp} (h:op≠.In) (h2:op≠.NotIn):behindInMarks op b=false:=by
 have e1:(op == CmpOp.In)=false:=by cases op <;> first | rfl | exact absurd rfl h
 have e2:(op == CmpOp.NotIn)=false:=by cases op <;> first | rfl | exact absurd rfl h2
 cases b <;> simp [behindInMarks,e1,e2]
def tB (t:TE):TT:=fun σ H Q=>t σ H fun x H1=>∃c,x=.bl c∧Q c H1
theorem pt_cmp {op:CmpOp} {t:TE} (h:PC X op a b t) (h1:behindInMarks op b=false:=by first | exact nobehind _ (by decide) (by decide) | rfl):PT X (.Compare a [op] [b] pos) (tB t):=by
 intro pins s σ H Q I hw
 refine wpAny_isTrue_Compare1 (thn (h pins s σ H _ I hw) fun v s1 h1=>thn h1 fun u s2 h2=>thn h2 fun c s3 ⟨x,H1,I1,r1,q1⟩=>?_) h1
 obtain⟨d,rfl,q⟩:=q1
 cases r1
 exact wpAny_truthy_bool ⟨H1,I1,q⟩
theorem pt_val {e:Expr} {t:TE} (h:PE X e t) (he:∀whole,isTrue e X.env whole=(do let v ← whole;standAt e.pos;holding [v] (truthy v)):=by intro _;rfl):PT X e (tB t):=by
 intro pins s σ H Q I hw
 refine isTrue_plain (thn (h pins s σ H _ I hw) fun v s1 ⟨x,H1,I1,r1,q1⟩=>?_) (he _)
 obtain⟨d,rfl,q⟩:=q1
 cases r1
 exact wpAny_truthy_bool ⟨H1,I1,q⟩
variable {tA tB':TT} {rest:List Expr}
def tAnd (t u:TT):TT:=fun σ H Q=>t σ H fun c H1=>if c=true then u σ H1 Q else Q false H1
def tOr (t u:TT):TT:=fun σ H Q=>t σ H fun c H1=>if c=true then Q true H1 else u σ H1 Q
def tNot (t:TT):TT:=fun σ H Q=>t σ H fun c H1=>Q (!c) H1
theorem pw_and1 (ha:PT X a tA):PW X (.BoolOp .And [a] pos) tA:=by
 intro wh pins s σ H Q I h
 refine isTrue_and (thn (ha pins s σ H Q I h) fun c s1 e=>?_)
 cases c with
 | true=>exact isTrue_and_nil e
 | false=>exact e
theorem pw_or1 (ha:PT X a tA):PW X (.BoolOp .Or [a] pos) tA:=by
 intro wh pins s σ H Q I h
 refine isTrue_or (thn (ha pins s σ H Q I h) fun c s1 e=>?_)
 cases c with
 | false=>exact isTrue_or_nil e
 | true=>exact e
theorem pw_and (ha:PT X a tA) (hb:PW X (.BoolOp .And (b :: rest) pos) tB'):PW X (.BoolOp .And (a :: b :: rest) pos) (tAnd tA tB'):=by
 intro wh pins s σ H Q I h
 refine isTrue_and (thn (ha pins s σ H _ I h) fun c s1 ⟨H1,I1,q1⟩=>?_)
 cases c with
 | true=>exact hb wh pins s1 σ H1 Q I1 q1
 | false=>exact⟨H1,I1,q1⟩
theorem pw_or (ha:PT X a tA) (hb:PW X (.BoolOp .Or (b :: rest) pos) tB'):PW X (.BoolOp .Or (a :: b :: rest) pos) (tOr tA tB'):=by
 intro wh pins s σ H Q I h
 refine isTrue_or (thn (ha pins s σ H _ I h) fun c s1 ⟨H1,I1,q1⟩=>?_)
 cases c with
 | true=>exact⟨H1,I1,q1⟩
 | false=>exact hb wh pins s1 σ H1 Q I1 q1
theorem pt_not (ha:PT X a tA):PT X (.UnaryOp .Not a pos) (tNot tA):=by
 intro pins s σ H Q I h
 exact isTrue_not (ha pins s σ H (fun c H1=>Q (!c) H1) I h)
def tAndV (ta tb:TE):TE:=fun σ H Q=>ta σ H fun x H1=>∃c,x=.bl c∧if c=true then tb σ H1 Q else Q (.bl false) H1
def tOrV (ta tb:TE):TE:=fun σ H Q=>ta σ H fun x H1=>∃c,x=.bl c∧if c=true then Q (.bl true) H1 else tb σ H1 Q
def tNotV (ta:TE):TE:=fun σ H Q=>ta σ H fun x H1=>∃c,x=.bl c∧Q (.bl (!c)) H1
theorem pe_one {op} {t:TE} (h:PE X a t):PE X (.BoolOp op [a] pos) t:=fun pins s σ H Q I hw=>BoolOp_one (h pins s σ H Q I hw)
theorem pe_and (ha:PE X a ta) (hb:PE X (.BoolOp .And (b :: rest) pos) tb):PE X (.BoolOp .And (a :: b :: rest) pos) (tAndV ta tb):=by
 intro pins s σ H Q I h
 refine BoolOp_and (thn (ha pins s σ H _ I h) fun v s1 ⟨x,H1,I1,r1,q1⟩=>?_)
 obtain⟨c,rfl,q1⟩:=q1
 cases r1
 refine wpAny_truthy_bool ?_
 cases c with
 | true=>exact hb pins s1 σ H1 Q I1 q1
 | false=>exact⟨.bl false,H1,I1,rfl,q1⟩
def tIf (t:TT) (ta tb:TE):TE:=fun σ H Q=>t σ H fun c H1=>if c=true then ta σ H1 Q else tb σ H1 Q
theorem pe_ifExp {c:Expr} (hc:PT X c tA) (ha:PE X a ta) (hb:PE X b tb):PE X (.IfExp c a b pos) (tIf tA ta tb):=by
 intro pins s σ H Q I h
 refine wpAny_IfExp (thn (hc pins s σ H _ I h) fun d s1 ⟨H1,I1,q1⟩=>?_)
 cases d with
 | true=>exact ha pins s1 σ H1 Q I1 q1
 | false=>exact hb pins s1 σ H1 Q I1 q1
end
end L2
namespace L2
open PySem PySem.Spec PyProof.Rows
def SqL (K:PySem.W.Frag) (H:Hp) (a:Addr) (xs:List V):Prop:=
 Rd H a (.lst xs)∨
  ∃(o:Obj) (its:Array Value) (n:Nat),K.lookup a=some o∧o.cls=.type "list" ∧ o.dict=none∧o.data=.seq its n∧its.size<=sizeLine∧Vals xs its.toList
def SqT (K:PySem.W.Frag) (H:Hp) (a:Addr) (xs:List V):Prop:=
 Rd H a (.tup xs)∨
  ∃(o:Obj) (its:Array Value) (n:Nat),K.lookup a=some o∧o.cls=.type "tuple" ∧ o.data=.seq its n∧its.size<=sizeLine∧Vals xs its.toList
def absV:Value->Option V
 | .none=>some .non
 | .bool b=>some (.bl b)
 | .int i _=>some (.int i)
 | .str x _=>some (.str x)
 | .bytes b _=>some (.byt b)
 | .float b _=>some (.flt b)
 | .ref a=>some (.ref a)
 | .type n=>some (.ty n)
 | _=>none
theorem RelV.abs {x:V} {u:Value} (r:RelV x u):absV u=some x:=by
 cases x with
 | non=>cases r;rfl
 | bl _=>cases r;rfl
 | int _=>obtain⟨t,rfl⟩:=r;rfl
 | str _=>obtain⟨t,rfl⟩:=r;rfl
 | byt _=>obtain⟨t,rfl⟩:=r;rfl
 | flt _=>obtain⟨t,rfl⟩:=r;rfl
 | ref _=>cases r;rfl
 | ty _=>cases r;rfl
theorem RelV.inj {x y:V} {u:Value} (r:RelV x u) (q:RelV y u):x=y:=Option.some.inj (r.abs.symm.trans q.abs)
theorem Vals.inj:∀{xs ys:List V} {us:List Value},Vals xs us->Vals ys us->xs=ys
 | _,_,_,.nil,.nil=>rfl
 | _,_,_,.cons r t,.cons r' t'=>by rw [r.inj r',Vals.inj t t']
section
variable {X:Cx} {pins:List (Addr×Obj)} {σ:St} {H:Hp} {s:Shared} {a:Addr} {xs ys:List V}
theorem SqL.of {K:PySem.W.Frag} (h:H a=some (.lst xs)):SqL K H a xs:=.inl (.inl h)
theorem SqT.of {K:PySem.W.Frag} (h:H a=some (.tup xs)):SqT K H a xs:=.inl (.inl h)
theorem Inv.list (I:Inv X pins σ H s) (h:SqL X.K H a xs):∃its:List Value,Vals xs its∧PlainL s.heap a its.toArray∧xs.length<=sizeLine:=by
 rcases h with h | ⟨o,its,n,hk,hc,hd,hs,hz,r⟩
 ·obtain⟨z,its,n,r,e⟩:=h.ok I.hok
  exact⟨its,r,⟨_,n,e,rfl,rfl,rfl⟩,z⟩
 ·refine⟨its.toList,r,⟨o,n,I.kIn a o hk,hc,hd,by simpa using hs⟩,?_⟩
  have e:=r.length
  simp only [Array.length_toList] at e
  omega
theorem Inv.tuple (I:Inv X pins σ H s) (h:SqT X.K H a xs):∃its:List Value,Vals xs its∧IsTup s.heap a its.toArray∧xs.length<=sizeLine:=by
 rcases h with h | ⟨o,its,n,hk,hc,hs,hz,r⟩
 ·obtain⟨z,its,r,p⟩:=h.ok I.hok
  exact⟨its,r,p,z⟩
 ·refine⟨its.toList,r,⟨o,I.kIn a o hk,hc,n,by simpa using hs⟩,?_⟩
  have e:=r.length
  simp only [Array.length_toList] at e
  omega
theorem Inv.list_inj (I:Inv X pins σ H s) (h:SqL X.K H a xs) (h':SqL X.K H a ys):xs=ys:=by
 obtain⟨its,r,⟨o,n,e,_,_,d⟩,_⟩:=I.list h
 obtain⟨its',r',⟨o',n',e',_,_,d'⟩,_⟩:=I.list h'
 rw [e] at e';cases e'
 rw [d] at d'
 injection d' with d1 _
 have:its=its':=by simpa using congrArg Array.toList d1
 subst this
 exact r.inj r'
end
abbrev Cx.wish (X:Cx) (E:Value->Shared->Prop):Cx:={ X with xe:=E }
abbrev Cx.nox (X:Cx):Cx:=X.wish fun _ _=>False
theorem Cx.Ok.wish {X:Cx} (ok:X.Ok) (E:Value->Shared->Prop):(X.wish E).Ok:=
 ⟨ok.mod,ok.kind,ok.glob,ok.blt,ok.above,ok.inj,ok.has,ok.cab,ok.hd,ok.frames,ok.stk,ok.exf,ok.bs,ok.bsz,ok.noex,ok.exfs,ok.funs,ok.frf⟩
theorem Cx.Ok.unwish {X:Cx} {E:Value->Shared->Prop} (ok:(X.wish E).Ok):X.Ok:=
 ⟨ok.mod,ok.kind,ok.glob,ok.blt,ok.above,ok.inj,ok.has,ok.cab,ok.hd,ok.frames,ok.stk,ok.exf,ok.bs,ok.bsz,ok.noex,ok.exfs,ok.funs,ok.frf⟩
section
variable {X:Cx} {pins:List (Addr×Obj)} {σ:St} {H:Hp} {s:Shared} {E:Value->Shared->Prop}
theorem Inv.wish (I:Inv X pins σ H s) (E:Value->Shared->Prop):Inv (X.wish E) pins σ H s:=⟨I.ok.wish E,I.os,I.bare,I.base,I.loc,I.cell,I.free,I.freeC,I.pin,I.hok,I.len⟩
theorem Inv.unwish (I:Inv (X.wish E) pins σ H s):Inv X pins σ H s:=⟨I.ok.unwish,I.os,I.bare,I.base,I.loc,I.cell,I.free,I.freeC,I.pin,I.hok,I.len⟩
theorem SP.unwish {D:Ends} {f:Flow} {s':Shared} (h:SP (X.wish E) pins D f s'):SP X pins D f s':=by
 cases f with
 | next=>obtain⟨σ',H',I,q⟩:=h;exact⟨σ',H',I.unwish,q⟩
 | brk=>obtain⟨σ',H',I,q⟩:=h;exact⟨σ',H',I.unwish,q⟩
 | cont=>obtain⟨σ',H',I,q⟩:=h;exact⟨σ',H',I.unwish,q⟩
 | ret u=>obtain⟨v,σ',H',I,r,q⟩:=h;exact⟨v,σ',H',I.unwish,r,q⟩
theorem PT.nox {e:Expr} {t:TT} (h:PT X.nox e t):PT X e t:=fun pins s σ H Q I hw=>
 wpAny_mono (h pins s σ H Q (I.wish _) hw) (fun _ _ ⟨H',I',q⟩=>⟨H',I'.unwish,q⟩) fun _ _ z=>False.elim z
theorem PSs.nox {st:List Stmt} {t:TS} (h:PSs X.nox st t):PSs X st t:=fun pins s σ H D I hw=>
 wpAny_mono (h pins s σ H D (I.wish _) hw) (fun _ _ q=>q.unwish) fun _ _ z=>False.elim z
end
section
variable {X:Cx} {st:Stmt} {rest:List Stmt} {t u:TS} {e:Expr} {te:TE} {pos:Pos}
def tNext:TS:=fun D σ H=>D.nx σ H
def tSeq (t u:TS):TS:=fun D σ H=>t { D with nx:=u D } σ H
theorem pss_nil:PSs X [] tNext:=fun _ _ σ H _ I h=>wpAny_execs_nil ⟨σ,H,I,h⟩
theorem pss_cons (h1:PS X st t) (h2:PSs X rest u):PSs X (st :: rest) (tSeq t u):=by
 intro pins s σ H D I h
 refine wpAny_execs_cons (thn (h1 pins s σ H { D with nx:=u D } I h) fun f s1 q=>?_)
 cases f with
 | next=>
  obtain⟨σ',H',I',q⟩:=q
  exact h2 pins s1 σ' H' D I' q
 | ret v=>exact q
 | brk=>exact q
 | cont=>exact q
theorem pss_one (h1:PS X st t):PSs X [st] t:=by
 intro pins s σ H D I h
 refine wpAny_execs_cons (thn (h1 pins s σ H D I h) fun f s1 q=>?_)
 cases f with
 | next=>exact wpAny_execs_nil q
 | ret v=>exact q
 | brk=>exact q
 | cont=>exact q
def tBreak:TS:=fun D σ H=>D.bk σ H
def tCont:TS:=fun D σ H=>D.ct σ H
theorem ps_continue:PS X (.Continue pos) tCont:=fun _ _ σ H _ I h=>wpAny_Continue ⟨σ,H,I,h⟩
theorem Inv.quiet {pins:List (Addr×Obj)} {σ:St} {H:Hp} {s:Shared} (I:Inv X pins σ H s):interactive X.env=false:=by simp [interactive,I.ok.kind]
def tDrop (te:TE):TS:=fun D σ H=>te σ H fun _ H1=>D.nx σ H1
theorem ps_expr (he:PE X e te) (hs:swapsWith e none pos.line X.env=pure false:=by rfl):PS X (.Expr e pos) (tDrop te):=by
 intro pins s σ H D I h
 exact wpAny_Expr_any (thn (he pins s σ H _ I h) fun v s1 ⟨x,H1,I1,r1,q1⟩=>⟨σ,H1,I1,q1⟩) I.quiet hs
def tRet (te:TE):TS:=fun D σ H=>te σ H D.rt
theorem ps_ret (he:PE X e te):PS X (.Return (some e) pos) (tRet te):=by
 intro pins s σ H D I h
 exact wpAny_Return_some (thn (he pins s σ H _ I h) fun v s1 ⟨x,H1,I1,r1,q1⟩=>⟨x,σ,H1,I1,r1,q1⟩)
def tRetN:TS:=fun D _ H=>D.rt .non H
def tIfS (c:TT) (t u:TS):TS:=fun D σ H=>c σ H fun b H1=>if b=true then t D σ H1 else u D σ H1
theorem ps_if {c:Expr} {a b:List Stmt} {tc:TT} (hc:PT X c tc) (ha:PSs X a t) (hb:PSs X b u):PS X (.If c a b pos) (tIfS tc t u):=by
 intro pins s σ H D I h
 refine wpAny_If (thn (hc pins s σ H _ I h) fun d s1 ⟨H1,I1,q1⟩=>?_)
 cases d with
 | true=>exact ha pins s1 σ H1 D I1 q1
 | false=>exact hb pins s1 σ H1 D I1 q1
def tNever:TS:=fun _ _ _=>False
theorem pss_never {sts:List Stmt}:PSs X sts tNever:=fun _ _ _ _ _ _ h=>h.elim
end
abbrev TG:=V->St->Hp->(St->Hp->Prop)->Prop
abbrev TGs:=List V->St->Hp->(St->Hp->Prop)->Prop
def PG (X:Cx) (target:Expr) (t:TG):Prop:=
 ∀(pins:List (Addr×Obj)) (s:Shared) (σ:St) (H:Hp) (v:V) (u:Value) (Q:St->Hp->Prop),Inv X pins σ H s->RelV v u->t v σ H Q->
  wpAny (model X.prog X.w) X.A (assign target X.env u) (fun _ s'=>∃σ' H',Inv X pins σ' H' s'∧Q σ' H') X.xe s
def PGs (X:Cx) (ts:List Expr) (t:TGs):Prop:=
 ∀(pins:List (Addr×Obj)) (s:Shared) (σ:St) (H:Hp) (vs:List V) (us:List Value) (Q:St->Hp->Prop),Inv X pins σ H s->Vals vs us->t vs σ H Q->
  wpAny (model X.prog X.w) X.A (assignInOrder ((assignEach ts X.env).map (·.2)) us) (fun _ s'=>∃σ' H',Inv X pins σ' H' s'∧Q σ' H') X.xe s
abbrev TSet:=V->V->V->Hp->(Hp->Prop)->Prop
def PSet (X:Cx) (t:TSet):Prop:=
 ∀(pins:List (Addr×Obj)) (s:Shared) (σ:St) (H:Hp) (o i v:V) (ov iv u:Value) (Q:Hp->Prop),Inv X pins σ H s->RelV o ov->RelV i iv->RelV v u->t o i v H Q->
  wpAny (model X.prog X.w) X.A (setItem ov iv u) (fun _ s'=>∃H',Inv X pins σ H' s'∧Q H') X.xe s
abbrev TIp:=V->V->Hp->VK->Prop
def PIp (X:Cx) (op:Operator) (t:TIp):Prop:=
 ∀(pins:List (Addr×Obj)) (s:Shared) (σ:St) (H:Hp) (x y:V) (v u:Value) (Q:VK),Inv X pins σ H s->RelV x v->RelV y u->t x y H Q->
  wpAny (model X.prog X.w) X.A (inplaceOp op v u) (EP X pins σ Q) X.xe s
section
variable {X:Cx} {pos:Pos}
def gName (i:Nat):TG:=fun v σ H Q=>Q (σ.set i (some v)) H
theorem pg_name {i:Nat} {x:Str} (hN:X.N.Nodup) (hi:X.N[i]?=some x) (hx:Loc X.env.scope x) (hf:X.fn x=true∨X.env.scope.names.lookup x=some .local:=by first | exact .inl rfl | exact .inr rfl | assumption):PG X (.Name x pos) (gName i):=by
 intro pins s σ H v u Q I r h
 exact wpAny_assign_Name (store_ok I hN hi hx r (fun s' I'=>⟨_,H,I',h⟩) hf)
def gNil:TGs:=fun vs σ H Q=>vs=[]∧Q σ H
def gCons (t:TG) (u:TGs):TGs:=fun vs σ H Q=>∃v r,vs=v :: r∧t v σ H fun σ' H'=>u r σ' H' Q
theorem pgs_nil:PGs X [] gNil:=by
 intro pins s σ H vs us Q I r h
 obtain⟨e,h⟩:=h
 subst e
 cases r
 exact assignInOrder_nil ⟨σ,H,I,h⟩
theorem pgs_cons {e:Expr} {es:List Expr} {t:TG} {u:TGs} (h1:PG X e t) (h2:PGs X es u)
  (hs:(assignEach (e :: es) X.env).map (·.2)=assign e X.env :: (assignEach es X.env).map (·.2):=by rfl):PGs X (e :: es) (gCons t u):=by
 intro pins s σ H vs us Q I r h
 obtain⟨v,vr,e1,h⟩:=h
 subst e1
 cases r with
 | cons r rr=>
  rw [hs]
  refine assignInOrder_cons (thn (h1 pins s σ H _ _ _ I r h) fun _ s1 ⟨σ1,H1,I1,q1⟩=>?_)
  exact h2 pins s1 σ1 H1 _ _ Q I1 rr q1
def gTup (K:PySem.W.Frag) (n:Nat) (t:TGs):TG:=fun v σ H Q=>∃a xs,v=.ref a∧SqT K H a xs∧xs.length=n∧t xs σ H Q
theorem pg_tup {es:List Expr} {k:Nat} {t:TGs} {n:Nat} (hc:X.calm=true) (h:PGs X es t)
  (hn:(assignEach es X.env).length=n:=by rfl) (hst:(assignEach es X.env).findIdx? (·.1)=none:=by rfl):PG X (.Tuple es k pos) (gTup X.K n t):=by
 intro pins s σ H v u Q I r hw
 obtain⟨a,xs,e1,hq,hl,hw⟩:=hw
 subst e1
 cases r
 obtain⟨its,rv,ht,hz⟩:=I.tuple hq
 refine assign_Tuple_tuple (I.ok.hd hc) ht (by simp [hn,← hl,rv.length]) hst fun h' hx=>?_
 have I1:Inv X pins σ H { s with heap:=h' }:=I.kept (t':=s.toks) fun b o e=>hx b o (Nat.ne_of_lt (Heap.lt_size e)) e
 exact h pins _ σ H xs _ Q I1 (by simpa using rv) hw
def gSub (to ti:TE) (t:TSet):TG:=fun v σ H Q=>to σ H fun o H1=>ti σ H1 fun i H2=>t o i v H2 fun H3=>Q σ H3
theorem pg_sub {o i:Expr} {to ti:TE} {t:TSet} (ho:PE X o to) (hi:PE X i ti) (hs:PSet X t)
  (ha:∀v,assign (.Subscript o i pos) X.env v=(do
   let ov ← holding [v] (eval o X.env)
   let iv ← holding [v,ov] (eval i X.env)
   standAt pos
   holding [v,ov,iv] (setItem ov iv v)
   release [v,ov,iv] []):=by intro _;rfl):PG X (.Subscript o i pos) (gSub to ti t):=by
 intro pins s σ H v u Q I r h
 rw [ha]
 refine wpAny_bind (wpAny_holding (thn (ho pins s σ H _ I h) fun ov s1 ⟨x,H1,I1,r1,q1⟩=>?_))
 refine wpAny_bind (wpAny_holding (thn (hi pins s1 σ H1 _ I1 q1) fun iv s2 ⟨y,H2,I2,r2,q2⟩=>?_))
 refine wpAny_bind (wpAny_standAt (wpAny_bind (wpAny_holding (thn (hs pins s2 σ H2 x y v ov iv u _ I2 r1 r2 r q2) fun _ s3 ⟨H3,I3,q3⟩=>?_))))
 exact wpAny_release ⟨σ,H3,I3,q3⟩
def tAsg (te:TE) (g:TG):TS:=fun D σ H=>te σ H fun x H1=>g x σ H1 D.nx
theorem ps_asg {tg e:Expr} {te:TE} {g:TG} (he:PE X e te) (hg:PG X tg g) (hs:swapsWithSole [tg] e pos.line X.env=pure false:=by rfl) (hw:swappedStores [tg] e X.env=pure none:=by rfl)
  (h1:(assignEach [tg] X.env).map (·.2)=[assign tg X.env]:=by rfl):PS X (.Assign [tg] e pos) (tAsg te g):=by
 intro pins s σ H D I h
 refine wpAny_Assign_stores (thn (he pins s σ H _ I h) fun v s1 ⟨x,H1,I1,r1,q1⟩=>?_) hs hw
 rw [h1]
 exact thn (hg pins s1 σ H1 x v _ I1 r1 q1) fun _ s2 q=>q
theorem ps_set {i:Nat} {x:Str} {e:Expr} {te:TE} {pos':Pos} (hN:X.N.Nodup) (hi:X.N[i]?=some x) (hx:Loc X.env.scope x) (he:PE X e te) (hs:swapsWith e (some (.Name x pos')) pos.line X.env=pure false:=by rfl) (hf:X.fn x=true∨X.env.scope.names.lookup x=some .local:=by first | exact .inl rfl | exact .inr rfl | assumption):
  PS X (.Assign [.Name x pos'] e pos) (tAsg te (gName i)):=by
 intro pins s σ H D I h
 refine wpAny_Assign_Name (thn (he pins s σ H _ I h) fun v s1 ⟨y,H1,I1,r1,q1⟩=>?_) hs
 exact store_ok I1 hN hi hx r1 (fun s2 I2=>⟨_,H1,I2,q1⟩) hf
def tAug (i:Nat) (te:TE) (ti:TIp):TS:=fun D σ H=>∃x,σ[i]?=some (some x)∧te σ H fun y H1=>ti x y H1 fun z H2=>D.nx (σ.set i (some z)) H2
theorem ps_aug {i:Nat} {x:Str} {e:Expr} {te:TE} {op:Operator} {ti:TIp} {pos':Pos} (hN:X.N.Nodup) (hi:X.N[i]?=some x) (hx:Loc X.env.scope x) (he:PE X e te) (ho:PIp X op ti) (hf:X.fn x=true∨X.env.scope.names.lookup x=some .local:=by first | exact .inl rfl | exact .inr rfl | assumption):
  PS X (.AugAssign (.Name x pos') op e pos) (tAug i te ti):=by
 intro pins s σ H D I h
 obtain⟨v,e1,h⟩:=h
 obtain⟨m,hn,hl⟩:=I.loc
 have vis:Vis X.env.scope x:=by rcases hx with k | k;exact .inl k;exact .inr (.inl k)
 obtain⟨u,r,l⟩:=hl i x v hi e1 vis
 refine wpAny_AugAssign_Name ?_
 have go:wpAny (model X.prog X.w) X.A (eval e X.env) (fun w s₂=>wpAny (model X.prog X.w) X.A (inplaceOp op u w) (fun r s₃=>wpAny (model X.prog X.w) X.A (storeName X.env x r) (fun _=>SP X pins D .next) X.xe s₃) X.xe s₂) X.xe s:=by
  refine thn (he pins s σ H _ I h) fun w s1 ⟨y,H1,I1,r1,q1⟩=>?_
  refine thn (ho pins s1 σ H1 v y u w _ I1 r r1 q1) fun z s2 ⟨zv,H2,I2,r2,q2⟩=>?_
  exact store_ok I2 hN hi hx r2 (fun s3 I3=>⟨_,H2,I3,q2⟩) hf
 rcases l with ⟨hk,hm⟩ | ⟨hk,c,hc,hcell⟩
 ·exact wpAny_loadName_local I.ok.kind hk hn hm go
 ·rcases hk with hk | hk
  ·exact wpAny_loadName_cell I.ok.kind hk hc hcell go
  ·rcases hx with k | k
   ·have:X.env.scope.names.lookup x=some .free:=hk
    rw [k] at this;cases this
   ·have:X.env.scope.names.lookup x=some .free:=hk
    rw [k] at this;cases this
def tAugS (to ti te:TE) (tget:V->V->Hp->VK->Prop) (tip:TIp) (tset:TSet):TS:=fun D σ H=>to σ H fun o H1=>ti σ H1 fun i H2=>tget o i H2 fun x H3=>te σ H3 fun y H4=>tip x y H4 fun z H5=>tset o i z H5 fun H6=>D.nx σ H6
def PGet (X:Cx) (t:V->V->Hp->VK->Prop):Prop:=
 ∀(pins:List (Addr×Obj)) (s:Shared) (σ:St) (H:Hp) (o i:V) (ov iv:Value) (Q:VK),Inv X pins σ H s->RelV o ov->RelV i iv->t o i H Q->
  wpAny (model X.prog X.w) X.A (getItem ov iv) (EP X pins σ Q) X.xe s
theorem ps_augS {o i e:Expr} {to ti te:TE} {tget:V->V->Hp->VK->Prop} {tip:TIp} {tset:TSet} {op:Operator} {tpos:Pos} (ho:PE X o to) (hi:PE X i ti) (hg:PGet X tget) (he:PE X e te) (hp:PIp X op tip) (hs:PSet X tset)
  (ha:∀ov iv new,augStore i ov iv new=(do holding [new,ov,iv] (setItem ov iv new);release [new,ov,iv] [];pure .next):=by intros;rfl):PS X (.AugAssign (.Subscript o i tpos) op e pos) (tAugS to ti te tget tip tset):=by
 intro pins s σ H D I h
 refine wpAny_AugAssign_SubscriptAny (thn (ho pins s σ H _ I h) fun ov s1 ⟨x1,H1,I1,r1,q1⟩=>?_) ha
 refine thn (hi pins s1 σ H1 _ I1 q1) fun iv s2 ⟨x2,H2,I2,r2,q2⟩=>?_
 refine thn (hg pins s2 σ H2 x1 x2 ov iv _ I2 r1 r2 q2) fun old s3 ⟨x3,H3,I3,r3,q3⟩=>?_
 refine thn (he pins s3 σ H3 _ I3 q3) fun v s4 ⟨x4,H4,I4,r4,q4⟩=>?_
 refine thn (hp pins s4 σ H4 x3 x4 old v _ I4 r3 r4 q4) fun new s5 ⟨x5,H5,I5,r5,q5⟩=>?_
 exact thn (hs pins s5 σ H5 x1 x2 x5 ov iv new _ I5 r1 r2 r5 q5) fun _ s6 ⟨H6,I6,q6⟩=>⟨σ,H6,I6,q6⟩
def ipI (f:Int->Int->Int):TIp:=fun x y H Q=>∃i j,x=.int i∧y=.int j∧Q (.int (f i j)) H
theorem ip_add:PIp X .Add (ipI fun i j=>i+j):=by
 intro pins s σ H x y v u Q I r1 r2 h
 obtain⟨i,j,e1,e2,q⟩:=h
 subst e1;subst e2
 obtain⟨t,rfl⟩:=r1
 obtain⟨t',rfl⟩:=r2
 exact iadd_int ⟨.int _,H,I.tok _,⟨_,rfl⟩,q⟩
theorem ip_sub:PIp X .Sub (ipI fun i j=>i - j):=by
 intro pins s σ H x y v u Q I r1 r2 h
 obtain⟨i,j,e1,e2,q⟩:=h
 subst e1;subst e2
 obtain⟨t,rfl⟩:=r1
 obtain⟨t',rfl⟩:=r2
 exact isub_int ⟨.int _,H,I.tok _,⟨_,rfl⟩,q⟩
end
section
variable {X:Cx} {pos:Pos}
def tWhile (c:TT) (tb:TS):TS:=fun D σ H=>∃W:Nat->St->Hp->Prop,(∃m,W m σ H)∧∀m σ H,W m σ H->
 c σ H fun b H1=>if b=true then ∃N:St->Hp->Prop,(∀σ' H',N σ' H'->∃m',m' < m∧W m' σ' H')∧tb { D with nx:=N,ct:=N,bk:=D.nx } σ H1 else D.nx σ H1
theorem ps_while {c:Expr} {body:List Stmt} {tc:TT} {tb:TS} (hp:PassesOwn (model X.prog X.w) X.A X.env X.xe) (hc:PT X c tc) (hb:PSs X body tb):PS X (.While c body [] pos) (tWhile tc tb):=by
 intro pins s σ H D I h
 obtain⟨W,⟨m0,w0⟩,turn⟩:=h
 refine wpAny_While (codeAny_whileLoop (fun n s'=>∃σ' H',Inv X pins σ' H' s'∧W n σ' H') ?_ m0 ⟨σ,H,I,w0⟩)
 rintro n s1 ⟨σ1,H1,I1,w1⟩
 refine wpAny_passesOwn hp (thn (hc pins s1 σ1 H1 _ I1 (turn n σ1 H1 w1)) fun b s2 ⟨H2,I2,q2⟩=>?_)
 cases b with
 | true=>
  obtain⟨N,hN,q2⟩:=q2
  rw [if_pos rfl]
  refine wpAny_passesOwn hp (thn (hb pins s2 σ1 H2 _ I2 q2) fun f s3 q3=>?_)
  cases f with
  | next=>
   obtain⟨σ3,H3,I3,n3⟩:=q3
   obtain⟨m',hm,w3⟩:=hN σ3 H3 n3
   exact⟨m',hm,σ3,H3,I3,w3⟩
  | cont=>
   obtain⟨σ3,H3,I3,n3⟩:=q3
   obtain⟨m',hm,w3⟩:=hN σ3 H3 n3
   exact⟨m',hm,σ3,H3,I3,w3⟩
  | brk=>exact q3
  | ret v=>exact q3
 | false=>
  rw [if_neg Bool.false_ne_true]
  exact wpAny_execs_nil ⟨σ1,H2,I2,q2⟩
end
structure It where
 go:Nat->Hp->Prop
 yld:Nat->Hp->V->Hp->Prop
 stop:Nat->Hp->Prop
def FpOk (X:Cx) (pins:List (Addr×Obj)) (H:Hp) (b:Addr):Prop:=
 H b=none∧b≠X.env.locals∧b∉X.fs∧(b∈X.ex∨X.s₀.heap.objs.size<=b)∧(∀x c,X.env.cells.lookup x=some c->c≠b)∧∀p∈X.pn++pins,p.1≠b
theorem Inv.fpOk {X:Cx} {pins:List (Addr×Obj)} {σ:St} {H H':Hp} {s:Shared} {b:Addr} (I:Inv X pins σ H s) (hb:s.heap.objs.size<=b) (hn:H' b=none):FpOk X pins H' b:=by
 refine⟨hn,Nat.ne_of_gt (Nat.lt_of_lt_of_le I.lt hb),I.nofs hb,.inr (Nat.le_trans I.sz hb),fun x c e z=>?_,fun p hp z=>?_⟩
 ·obtain⟨v,q⟩:=I.cell x c e
  exact absurd (Nat.lt_of_lt_of_le q.lt (by rw [z];exact hb)) (Nat.lt_irrefl _)
 ·exact absurd (Nat.lt_of_lt_of_le (Heap.lt_size (I.pin p hp).1) (by rw [z];exact hb)) (Nat.lt_irrefl _)
structure Turn (P:Program) (w:World) (K:PySem.W.Frag) (tg:Expr) (J:It) (fp:List Addr) (it:Addr) (tn:Nat->Heap->Prop):Prop where
 mem:it∈fp
 obj:∀i h,tn i h->∀b∈fp,∃o,h.get? b=some o∧∀v,o.data≠.cell v
 keep:∀i h h',tn i h->(∀b∈fp,∀o,h.get? b=some o->h'.get? b=some o)->tn i h'
 item:∀(X:Cx),X.prog=P->X.w=w->X.K=K->X.calm=true->∀(i:Nat) (pins:List (Addr×Obj)) (s:Shared) (σ:St) (H:Hp) (E:Value->Shared->Prop),Inv X pins σ H s->(∀b∈fp,FpOk X pins H b)->tn i s.heap->J.go i H->
  wpAny (model P w) X.A (pyNext (.ref it)) (fun r s1=>∃u,r=some u∧
   wpAny (model P w) X.A (letOwnedTupleGo tg (.ref it) u) (fun _ s2=>∃x H',Inv X pins σ H' s2∧RelV x u∧J.yld i H x H'∧tn (i+1) s2.heap∧∀b∈fp,H' b=none) E s1) E s
 done:∀(X:Cx),X.prog=P->X.w=w->X.K=K->X.calm=true->∀(i:Nat) (pins:List (Addr×Obj)) (s:Shared) (σ:St) (H:Hp) (E:Value->Shared->Prop),Inv X pins σ H s->(∀b∈fp,FpOk X pins H b)->tn i s.heap->J.stop i H->
  wpAny (model P w) X.A (pyNext (.ref it)) (fun r s1=>r=none∧Inv X pins σ H s1) E s
 self:∀(A:Around) (i:Nat) (s:Shared) (Q:Value->Shared->Prop) (E:Value->Shared->Prop),tn i s.heap->Q (.ref it) s->wpAny (model P w) A (pyIter (.ref it)) Q E s
abbrev TI:=St->Hp->(It->Hp->Prop)->Prop
def PIE (X:Cx) (pins:List (Addr×Obj)) (σ:St) (tg:Expr) (R:It->Hp->Prop) (itv:Value) (s2:Shared):Prop:=
 ∃(it:Addr) (fp:List Addr) (tn:Nat->Heap->Prop) (J:It) (H':Hp),itv=.ref it∧Inv X pins σ H' s2∧Turn X.prog X.w X.K tg J fp it tn∧tn 0 s2.heap∧(∀b∈fp,FpOk X pins H' b)∧R J H'
def PI (X:Cx) (tg iter:Expr) (wi:TI):Prop:=
 ∀(pins:List (Addr×Obj)) (s:Shared) (σ:St) (H:Hp) (R:It->Hp->Prop),Inv X pins σ H s->wi σ H R->
  wpAny (model X.prog X.w) X.A (eval iter X.env) (fun v s1=>wpAny (model X.prog X.w) X.A (pyIter v) (PIE X pins σ tg R) X.xe s1) X.xe s
theorem go_of {M:Model} {A:Around} {E:Value->Shared->Prop} {s:Shared} {tg:Expr} {it:Addr} {u:Value} {o:Obj} {n:String} {vs:Array Value} {Q:Unit->Shared->Prop} (ho:s.heap.get? it=some o) (hc:o.cls=.type n) (hd:o.data=.fields vs)
  (hn:["enumerate","zip","dict_itemiterator","dict_reverseitemiterator","odict_iterator","itertools.zip_longest","itertools.pairwise"].contains n=false) (hQ:Q () s):wpAny M A (letOwnedTupleGo tg (.ref it) u) Q E s:=by
 unfold letOwnedTupleGo
 cases tg <;> first
  | exact wpAny_pure hQ
  |(cases u <;> first
    | exact wpAny_pure hQ
    |(refine wpAny_bind (wpAny_load ho ?_)
      rw [hc,hd]
      show wpAny M A (if (["enumerate","zip","dict_itemiterator","dict_reverseitemiterator","odict_iterator","itertools.zip_longest","itertools.pairwise"].contains n && vs[0]? == some (rawInt _))=true then _ else _) Q E s
      rw [if_neg (by intro h;rw [hn,Bool.false_and] at h;cases h)]
      exact wpAny_pure hQ))
def Itl (K:PySem.W.Frag) (a:Addr):It:=
 ⟨fun i H=>∃xs x,SqL K H a xs∧xs[i]?=some x,fun i H x H'=>H'=H∧∀xs,SqL K H a xs->xs[i]?=some x,fun i H=>∃xs,SqL K H a xs∧xs.length<=i⟩
def Itt (K:PySem.W.Frag) (a:Addr):It:=
 ⟨fun i H=>∃xs x,SqT K H a xs∧xs[i]?=some x,fun i H x H'=>H'=H∧∀xs,SqT K H a xs->xs[i]?=some x,fun i H=>∃xs,SqT K H a xs∧xs.length<=i⟩
def Itr (lo:Int) (n:Nat):It:=⟨fun i _=>i < n,fun i H x H'=>H'=H∧x=.int (lo+i),fun i _=>n<=i⟩
theorem turn_list {P:Program} {w:World} {K:PySem.W.Frag} {tg:Expr} (a it:Addr):Turn P w K tg (Itl K a) [it] it (fun i h=>h.IsListIter it a i) where
 mem:=by simp
 obj:=fun i h st b hb=>by
  have e:b=it:=by simpa using hb
  subst e
  obtain⟨o,e,c,d⟩:=st
  exact⟨o,e,fun v z=>by rw [d] at z;cases z⟩
 keep:=fun i h h' st k=>st.at fun o e=>k it (by simp) o e
 item:=by
  intro X hP hw hK hc i pins s σ H E I hf st hg
  subst hP hw hK
  obtain⟨xs,x,hq,hx⟩:=hg
  obtain⟨its,rv,p,hz⟩:=I.list hq
  obtain⟨u,hu,ru⟩:=rv.get hx
  obtain⟨f0,f1,f2,f3,f4,f5⟩:=hf it (by simp)
  refine wpAny_pyNext_list_item st p.isList (x:=u) (by simpa using hu) fun h' st' sb=>?_
  have I1:Inv X pins σ H { s with heap:=h' }:=I.turned (t':=s.toks) (fun b o hb e=>(sb.2 b hb).trans e) f0 f1 f3 f4 f5
  obtain⟨o,e,c,d⟩:=id st'
  exact⟨u,rfl,go_of (s:={ s with heap:=h' }) e c d (by decide) ⟨x,H,I1,ru,⟨rfl,fun ys hy=>by rw [I.list_inj hy hq];exact hx⟩,st',fun b hb=>(hf b hb).1⟩⟩
 done:=by
  intro X hP hw hK hc i pins s σ H E I hf st hg
  subst hP hw hK
  obtain⟨xs,hq,hx⟩:=hg
  obtain⟨its,rv,p,hz⟩:=I.list hq
  obtain⟨f0,f1,f2,f3,f4,f5⟩:=hf it (by simp)
  have hl:=rv.length
  exact wpAny_pyNext_list_end (I.ok.hd hc) st p.isList (by simp;omega) fun h' eb=>⟨rfl,I.turned (t':=s.toks) (fun b o hb e=>eb b o hb e) f0 f1 f3 f4 f5⟩
 self:=fun _ _ _ _ _ st h=>wpAny_pyIter_listiter st h
theorem turn_range {P:Program} {w:World} {K:PySem.W.Frag} {tg:Expr} (it:Addr) (lo:Int) (n:Nat):Turn P w K tg (Itr lo n) [it] it (fun i h=>IsRangeIter h it (lo+(i:Nat) * 1) ((n:Int) - (i:Nat)) 1) where
 mem:=by simp
 obj:=fun i h st b hb=>by
  have e:b=it:=by simpa using hb
  subst e
  exact⟨_,st,fun v z=>by
   have z':Data.fields _=Data.cell v:=z
   cases z'⟩
 keep:=fun i h h' st k=>k it (by simp) _ st
 item:=by
  intro X hP hw hK hc i pins s σ H E I hf st hg
  subst hP hw hK
  obtain⟨f0,f1,f2,f3,f4,f5⟩:=hf it (by simp)
  have W:=Walks.range (prog:=X.prog) (w:=X.w) (I.ok.hd hc) it lo 1 n
  refine W.item i s _ _ hg st fun v h' tk hv st' kk=>?_
  obtain⟨t,rfl⟩:=hv
  have I1:Inv X pins σ H { s with heap:=h',toks:=tk }:=I.turned (fun b o hb e=>kk b o (by simpa using hb) e) f0 f1 f3 f4 f5
  refine⟨_,rfl,go_of (s:={ s with heap:=h',toks:=tk }) (n := "range_iterator") st' rfl rfl (by decide) ⟨.int (lo+i),H,I1,⟨t,?_⟩,⟨rfl,rfl⟩,st',fun b hb=>(hf b hb).1⟩⟩
  rw [Int.mul_one]
 done:=by
  intro X hP hw hK hc i pins s σ H E I hf st hg
  subst hP hw hK
  obtain⟨f0,f1,f2,f3,f4,f5⟩:=hf it (by simp)
  exact wpAny_pyNext_range_end (I.ok.hd hc) st (by have:n<=i:=hg;omega) fun h' eb=>⟨rfl,I.turned (t':=s.toks) (fun b o hb e=>eb b o hb e) f0 f1 f3 f4 f5⟩
 self:=fun _ _ _ _ _ st h=>wpAny_pyIter_rangeiter st h
end L2
namespace L2
open PySem PySem.Spec PyProof.Rows
section
variable {X:Cx} {tg:Expr}
def iList (K:PySem.W.Frag) (tl:TE):TI:=fun σ H R=>tl σ H fun x H1=>∃a,x=.ref a∧(∃xs,SqL K H1 a xs)∧R (Itl K a) H1
def iTup (K:PySem.W.Frag) (tl:TE):TI:=fun σ H R=>tl σ H fun x H1=>∃a,x=.ref a∧(∃xs,SqT K H1 a xs)∧R (Itt K a) H1
theorem pi_list {l:Expr} {tl:TE} (hl:PE X l tl):PI X tg l (iList X.K tl):=by
 intro pins s σ H R I h
 refine thn (hl pins s σ H _ I h) fun v s1 ⟨x,H1,I1,r1,q1⟩=>?_
 obtain⟨a,e,⟨xs,hq⟩,q⟩:=q1
 subst e
 cases r1
 obtain⟨its,rv,p,hz⟩:=I1.list hq
 refine wpAny_pyIter_list p.isList ?_
 refine⟨s1.heap.objs.size,[s1.heap.objs.size],_,_,H1,rfl,I1.kept (t':=s1.toks) fun b o e=>Heap.get?_push_of_some _ e,turn_list a _,⟨_,Heap.get?_push_size _ rfl,rfl,rfl⟩,fun b hb=>?_,q⟩
 have e:b=s1.heap.objs.size:=by simpa using hb
 subst e
 exact I1.fpOk (Nat.le_refl _) (I1.hok.fresh (Nat.le_refl _))
theorem range_it {pins:List (Addr×Obj)} {σ:St} {H:Hp} {s:Shared} {R:It->Hp->Prop} {E:Value->Shared->Prop} {lo hi:Int} {t u v:Tok} {tk:Nat} (I:Inv X pins σ H s) (h1:-(2 ^ 62)<=lo) (h2:lo < 2 ^ 62) (h3:-(2 ^ 62)<=hi) (h4:hi < 2 ^ 62)
  (q:R (Itr lo (hi - lo).toNat) H):wpAny (model X.prog X.w) X.A (pyIter (.ref s.heap.objs.size)) (PIE X pins σ tg R) E { s with heap:=s.heap.push { cls:=.type "range",data:=.fields #[.int lo t,.int hi u,.int 1 v] },toks:=tk }:=by
 refine wpAny_pyIter_range (IsRange.new ..) (small_one h1 h2 h3 h4) ?_
 have I1:Inv X pins σ H { s with heap:=s.heap.push { cls:=.type "range",data:=.fields #[.int lo t,.int hi u,.int 1 v] },toks:=tk }:=I.kept fun b o e=>Heap.get?_push_of_some _ e
 refine⟨(s.heap.push { cls:=.type "range",data:=.fields #[.int lo t,.int hi u,.int 1 v] }).objs.size,[(s.heap.push { cls:=.type "range",data:=.fields #[.int lo t,.int hi u,.int 1 v] }).objs.size],_,_,H,rfl,
  I1.kept (t':=tk) fun b o e=>Heap.get?_push_of_some _ e,turn_range _ lo (hi - lo).toNat,?_,fun b hb=>?_,q⟩
 ·have e1:lo+((0:Nat):Int) * 1=lo:=by simp
  have e2:(((hi - lo).toNat:Nat):Int) - ((0:Nat):Int)=Builtin.Range.rangeSize lo hi 1:=by rw [rangeSize_one];split <;> omega
  show IsRangeIter _ _ (lo+((0:Nat):Int) * 1) ((((hi - lo).toNat:Nat):Int) - ((0:Nat):Int)) 1
  rw [e1,e2]
  exact Heap.get?_push_size _ rfl
 ·have e:b=(s.heap.push { cls:=.type "range",data:=.fields #[.int lo t,.int hi u,.int 1 v] }).objs.size:=by simpa using hb
  subst e
  exact I1.fpOk (Nat.le_refl _) (I1.hok.fresh (Nat.le_refl _))
def iRng1 (ta:TA):TI:=fun σ H R=>ta σ H fun vs H1=>∃j:Int,vs=[.int j]∧-(2 ^ 62)<=j∧j < 2 ^ 62∧R (Itr 0 j.toNat) H1
def iRng2 (ta:TA):TI:=fun σ H R=>ta σ H fun vs H1=>∃i j:Int,vs=[.int i,.int j]∧(-(2 ^ 62)<=i∧i < 2 ^ 62∧-(2 ^ 62)<=j∧j < 2 ^ 62)∧R (Itr i (j - i).toNat) H1
theorem pi_range1 {a:Expr} {ta:TA} {p pos:Pos} (hg:Gl X "range") (hm:X.mg "range" = none) (ha:PA X [a] ta) (hs:starEach [a] X.env=[(false,eval a X.env)]:=by rfl):PI X tg (.Call (.Name "range" p) [a] [] pos) (iRng1 ta):=by
 intro pins s σ H R I h
 refine Call_ (ld_blt I hg hm boot_range (PyProof.Rows.callWith_type1 (thn (ha pos pins s σ H _ I h) fun us s1 ⟨vs,H1,I1,r1,q1⟩=>?_) hs rfl))
 obtain⟨j,e,q1,q2,q⟩:=q1
 subst e
 cases r1 with
 | cons r rr=>
  cases rr
  obtain⟨t,rfl⟩:=r
  exact call_range_1 (range_it I1 (by omega) (by omega) q1 q2 (by simpa using q))
theorem pi_range2 {a b:Expr} {ta:TA} {p pos:Pos} (hg:Gl X "range") (hm:X.mg "range" = none) (ha:PA X [a,b] ta) (hs:starEach [a,b] X.env=[(false,eval a X.env),(false,eval b X.env)]:=by rfl) (hs2:starEach [b] X.env=[(false,eval b X.env)]:=by rfl):
  PI X tg (.Call (.Name "range" p) [a,b] [] pos) (iRng2 ta):=by
 intro pins s σ H R I h
 refine Call_ (ld_blt I hg hm boot_range (PyProof.Rows.callWith_type1 (thn (ha pos pins s σ H _ I h) fun us s1 ⟨vs,H1,I1,r1,q1⟩=>?_) (by rw [hs,hs2]) (by rw [hs2];rfl)))
 obtain⟨i,j,e,⟨q1,q2,q3,q4⟩,q⟩:=q1
 subst e
 cases r1 with
 | cons r rr=>
  cases rr with
  | cons r' rr=>
   cases rr
   obtain⟨t,rfl⟩:=r
   obtain⟨t',rfl⟩:=r'
   exact call_range_2 (range_it I1 q1 q2 q3 q4 q)
def tFor (wi:TI) (g:TG) (tb:TS):TS:=fun D σ H=>wi σ H fun J H1=>∃W:Nat->Nat->St->Hp->Prop,(∃m,W 0 m σ H1)∧∀i m σ H,W i m σ H->
 (J.stop i H∧D.nx σ H)∨(J.go i H∧∃N:St->Hp->Prop,(∀σ' H',N σ' H'->∃m',m' < m∧W (i+1) m' σ' H')∧∀x H',J.yld i H x H'->g x σ H' fun σ2 H2=>tb { D with nx:=N,ct:=N,bk:=D.nx } σ2 H2)
def pinsAt (fp:List Addr) (h:Heap):List (Addr×Obj):=fp.filterMap fun b=>(h.get? b).map fun o=>(b,o)
theorem mem_pinsAt {fp:List Addr} {h:Heap} {b:Addr} {o:Obj} (hb:b∈fp) (e:h.get? b=some o):(b,o)∈pinsAt fp h:=List.mem_filterMap.mpr ⟨b,hb,by rw [e];rfl⟩
theorem of_pinsAt {fp:List Addr} {h:Heap} {p:Addr×Obj} (hp:p∈pinsAt fp h):p.1∈fp∧h.get? p.1=some p.2:=by
 obtain⟨b,hb,e⟩:=List.mem_filterMap.mp hp
 cases q:h.get? b with
 | none=>rw [q] at e;cases e
 | some o=>
  rw [q] at e
  have e':(b,o)=p:=Option.some.inj e
  subst e'
  exact⟨hb,q⟩
theorem Inv.pinned {pins:List (Addr×Obj)} {σ:St} {H:Hp} {s:Shared} {fp:List Addr} (I:Inv X pins σ H s) (hf:∀b∈fp,FpOk X pins H b) (ho:∀b∈fp,∃o,s.heap.get? b=some o∧∀v,o.data≠.cell v):Inv X (pins++pinsAt fp s.heap) σ H s:=
 I.pins_of fun p hp=>(List.mem_append.mp hp).elim (fun z=>I.pin p (List.mem_append_right _ z)) fun z=>by
  obtain⟨hb,e⟩:=of_pinsAt z
  obtain⟨f0,f1,f2,_⟩:=hf p.1 hb
  obtain⟨o,e',d⟩:=ho p.1 hb
  rw [e] at e';cases e'
  exact⟨e,f0,f1,f2,d⟩
theorem Inv.unpinned {pins pl:List (Addr×Obj)} {σ:St} {H:Hp} {s:Shared} (I:Inv X (pins++pl) σ H s):Inv X pins σ H s:=I.pins_of fun p hp=>I.pin p (List.mem_append_right _ (List.mem_append_left _ hp))
theorem ps_for {iter:Expr} {body:List Stmt} {wi:TI} {g:TG} {tb:TS} {pos:Pos} (hp:PassesOwn (model X.prog X.w) X.A X.env X.xe) (hc:X.calm=true) (hi:PI X tg iter wi) (hg:PG X tg g) (hb:PSs X body tb)
  (hs:∀x,foldedSetIterable iter X.env x=pure x:=by intro _;rfl):PS X (.For tg iter body [] pos) (tFor wi g tb):=by
 intro pins s σ H D I h
 refine wpAny_For (thn (hi pins s σ H _ I h) fun v s1 h1=>thn h1 fun itv s2 h2=>?_) hs
 obtain⟨it,fp,tn,J,H2,e,I2,T,st2,f2,W,⟨m0,w0⟩,turn⟩:=h2
 subst e
 have stat:∀{H':Hp},(∀b∈fp,H' b=none)->∀b∈fp,FpOk X pins H' b:=fun hn b hb=>⟨hn b hb,(f2 b hb).2⟩
 refine codeAny_forLoop_any (fun n s'=>∃i σ' H',Inv X pins σ' H' s'∧tn i s'.heap∧(∀b∈fp,H' b=none)∧W i n σ' H') ?_ m0 ⟨0,σ,H2,I2,st2,fun b hb=>(f2 b hb).1,w0⟩
 rintro n s3 ⟨i,σ3,H3,I3,st3,fr3,w3⟩
 rcases turn i n σ3 H3 w3 with ⟨stop,qn⟩ | ⟨go,N,hN,step⟩
 ·refine wpAny_passesOwn hp (thn (T.done X rfl rfl rfl hc i pins s3 σ3 H3 X.xe I3 (stat fr3) st3 stop) fun r s4 ⟨hr,I4⟩=>?_)
  subst hr
  exact wpAny_execs_nil ⟨σ3,H3,I4,qn⟩
 ·refine wpAny_passesOwn hp (thn (T.item X rfl rfl rfl hc i pins s3 σ3 H3 X.xe I3 (stat fr3) st3 go) fun r s4 ⟨u,hr,h4⟩=>?_)
  subst hr
  refine wpAny_passesOwn hp (thn h4 fun _ s5 ⟨x,H5,I5,r5,y5,st5,fr5⟩=>?_)
  have I5':=I5.pinned (stat fr5) (T.obj _ _ st5)
  refine wpAny_passesOwn hp (thn (hg _ s5 σ3 H5 x u _ I5' r5 (step x H5 y5)) fun _ s6 ⟨σ6,H6,I6,q6⟩=>?_)
  refine wpAny_passesOwn hp (thn (hb _ s6 σ6 H6 _ I6 q6) fun f s7 q7=>?_)
  have again:∀{σ7:St} {H7:Hp},Inv X (pins++pinsAt fp s5.heap) σ7 H7 s7->N σ7 H7->∃m,m < n∧∃i σ' H',Inv X pins σ' H' s7∧tn i s7.heap∧(∀b∈fp,H' b=none)∧W i m σ' H':=fun {σ7 H7} I7 n7=>by
   obtain⟨m',hm,w7⟩:=hN σ7 H7 n7
   refine⟨m',hm,i+1,σ7,H7,I7.unpinned,T.keep _ _ _ st5 fun b hb o e=>(I7.pin (b,o) (List.mem_append_right _ (List.mem_append_right _ (mem_pinsAt hb e)))).1,fun b hb=>?_,w7⟩
   obtain⟨o,e,d⟩:=T.obj _ _ st5 b hb
   exact (I7.pin (b,o) (List.mem_append_right _ (List.mem_append_right _ (mem_pinsAt hb e)))).2.1
  cases f with
  | next=>obtain⟨σ7,H7,I7,n7⟩:=q7;exact again I7 n7
  | cont=>obtain⟨σ7,H7,I7,n7⟩:=q7;exact again I7 n7
  | brk=>obtain⟨σ7,H7,I7,q7⟩:=q7;exact⟨σ7,H7,I7.unpinned,q7⟩
  | ret v=>obtain⟨x7,σ7,H7,I7,r7,q7⟩:=q7;exact⟨x7,σ7,H7,I7.unpinned,r7,q7⟩
end
theorem for_list {K:PySem.W.Frag} {a:Addr} {xs:List V} {g:TG} {tb:TS} {D:Ends} {σ:St} {H:Hp} (Pv:Nat->St->Hp->Prop) (h0:Pv 0 σ H) (hl:∀i σ H,i<=xs.length->Pv i σ H->SqL K H a xs)
  (hs:∀i x σ H,xs[i]?=some x->Pv i σ H->g x σ H fun σ2 H2=>tb { D with nx:=Pv (i+1),ct:=Pv (i+1),bk:=D.nx } σ2 H2) (hd:∀σ H,Pv xs.length σ H->D.nx σ H):
  ∃W:Nat->Nat->St->Hp->Prop,(∃m,W 0 m σ H)∧∀i m σ H,W i m σ H->
   ((Itl K a).stop i H∧D.nx σ H)∨((Itl K a).go i H∧∃N:St->Hp->Prop,(∀σ' H',N σ' H'->∃m',m' < m∧W (i+1) m' σ' H')∧∀x H',(Itl K a).yld i H x H'->g x σ H' fun σ2 H2=>tb { D with nx:=N,ct:=N,bk:=D.nx } σ2 H2):=by
 refine⟨fun i m σ H=>m=xs.length - i∧i<=xs.length∧Pv i σ H,⟨xs.length,by simp,Nat.zero_le _,h0⟩,?_⟩
 rintro i m σ H ⟨rfl,hi,p⟩
 have q:=hl i σ H hi p
 by_cases hlt:i < xs.length
 ·refine .inr ⟨⟨xs,xs[i],q,by simp [hlt]⟩,Pv (i+1),fun σ' H' p'=>⟨xs.length - (i+1),by omega,rfl,hlt,p'⟩,fun x H' y=>?_⟩
  obtain⟨e,y⟩:=y
  subst e
  exact hs i x σ _ (y xs q) p
 ·have e:i=xs.length:=by omega
  subst e
  exact .inl ⟨⟨xs,q,Nat.le_refl _⟩,hd σ H p⟩
theorem for_range {lo:Int} {n:Nat} {g:TG} {tb:TS} {D:Ends} {σ:St} {H:Hp} (Pv:Nat->St->Hp->Prop) (h0:Pv 0 σ H)
  (hs:∀i σ H,i < n->Pv i σ H->g (.int (lo+i)) σ H fun σ2 H2=>tb { D with nx:=Pv (i+1),ct:=Pv (i+1),bk:=D.nx } σ2 H2) (hd:∀σ H,Pv n σ H->D.nx σ H):
  ∃W:Nat->Nat->St->Hp->Prop,(∃m,W 0 m σ H)∧∀i m σ H,W i m σ H->
   ((Itr lo n).stop i H∧D.nx σ H)∨((Itr lo n).go i H∧∃N:St->Hp->Prop,(∀σ' H',N σ' H'->∃m',m' < m∧W (i+1) m' σ' H')∧∀x H',(Itr lo n).yld i H x H'->g x σ H' fun σ2 H2=>tb { D with nx:=N,ct:=N,bk:=D.nx } σ2 H2):=by
 refine⟨fun i m σ H=>m=n - i∧i<=n∧Pv i σ H,⟨n,by simp,Nat.zero_le _,h0⟩,?_⟩
 rintro i m σ H ⟨rfl,hi,p⟩
 by_cases hlt:i < n
 ·refine .inr ⟨hlt,Pv (i+1),fun σ' H' p'=>⟨n - (i+1),by omega,rfl,hlt,p'⟩,fun x H' y=>?_⟩
  obtain⟨e,y⟩:=y
  subst e y
  exact hs i σ _ hlt p
 ·have e:i=n:=by omega
  subst e
  exact .inl ⟨Nat.le_refl _,hd σ H p⟩
end L2
namespace L2
open PySem PySem.Spec PyProof.Rows
abbrev R2:=V->V->Hp->VK->Prop
def OpR (X:Cx) (f:Value->Value->Sem Value) (r:R2):Prop:=
 ∀(pins:List (Addr×Obj)) (s:Shared) (σ:St) (H:Hp) (x y:V) (v u:Value) (Q:VK),Inv X pins σ H s->RelV x v->RelV y u->r x y H Q->
  wpAny (model X.prog X.w) X.A (f v u) (EP X pins σ Q) X.xe s
def UnR (X:Cx) (f:Value->Sem Value) (r:V->Hp->VK->Prop):Prop:=
 ∀(pins:List (Addr×Obj)) (s:Shared) (σ:St) (H:Hp) (x:V) (v:Value) (Q:VK),Inv X pins σ H s->RelV x v->r x H Q->
  wpAny (model X.prog X.w) X.A (f v) (EP X pins σ Q) X.xe s
def CallR (X:Cx) (f:Value) (r:List V->Hp->VK->Prop):Prop:=
 ∀(pins:List (Addr×Obj)) (s:Shared) (σ:St) (H:Hp) (xs:List V) (us:List Value) (Q:VK),Inv X pins σ H s->Vals xs us->r xs H Q->
  wpAny (model X.prog X.w) X.A (call f us) (EP X pins σ Q) X.xe s
def tOp (r:R2) (ta tb:TE):TE:=fun σ H Q=>ta σ H fun x H1=>tb σ H1 fun y H2=>r x y H2 Q
def tUn (r:V->Hp->VK->Prop) (ta:TE):TE:=fun σ H Q=>ta σ H fun x H1=>r x H1 Q
def rI (C:Int->Int->Prop) (g:Int->Int->V):R2:=fun x y H Q=>∃i j,x=.int i∧y=.int j∧C i j∧Q (g i j) H
def rI0 (g:Int->Int->V):R2:=fun x y H Q=>∃i j,x=.int i∧y=.int j∧Q (g i j) H
def rU (g:Int->V):V->Hp->VK->Prop:=fun x H Q=>∃i,x=.int i∧Q (g i) H
section
variable {X:Cx} {a b c:Expr} {ta tb tc:TE} {pos:Pos}
theorem binT (ha:PE X a ta) (hb:PE X b tb) {pins:List (Addr×Obj)} {s:Shared} {σ:St} {H:Hp} {R:V->V->Hp->Prop} (I:Inv X pins σ H s)
  (h:ta σ H fun x H1=>tb σ H1 fun y H2=>R x y H2) {Q:Value->Shared->Prop} {f:Value->Value->Sem Value}
  (hf:∀v u s2 x y H2,Inv X pins σ H2 s2->RelV x v->RelV y u->R x y H2->wpAny (model X.prog X.w) X.A (f v u) Q X.xe s2):
  wpAny (model X.prog X.w) X.A (eval a X.env) (fun v s₁=>wpAny (model X.prog X.w) X.A (eval b X.env) (fun u s₂=>wpAny (model X.prog X.w) X.A (f v u) Q X.xe s₂) X.xe s₁) X.xe s:=by
 refine thn (ha pins s σ H _ I h) fun v s1 ⟨x,H1,I1,r1,q1⟩=>?_
 refine thn (hb pins s1 σ H1 _ I1 q1) fun u s2 ⟨y,H2,I2,r2,q2⟩=>?_
 exact hf v u s2 x y H2 I2 r1 r2 q2
theorem pe_op {op:Operator} {r:R2} (ho:OpR X (binaryOp op) r) (ha:PE X a ta) (hb:PE X b tb):PE X (.BinOp a op b pos) (tOp r ta tb):=by
 intro pins s σ H Q I h
 exact wpAny_BinOp (binT ha hb I h fun v u s2 x y H2 I2 rx ry q=>ho pins s2 σ H2 x y v u Q I2 rx ry q)
theorem pe_un {op:UnaryOp} {r:V->Hp->VK->Prop} (ho:UnR X (unaryOp op) r) (ha:PE X a ta):PE X (.UnaryOp op a pos) (tUn r ta):=by
 intro pins s σ H Q I h
 exact UnaryOp_ (thn (ha pins s σ H _ I h) fun v s1 ⟨x,H1,I1,r1,q1⟩=>ho pins s1 σ H1 x v Q I1 r1 q1)
theorem opI {f:Value->Value->Sem Value} {C:Int->Int->Prop} {g:Int->Int->Int}
  (rule:∀(i j:Int) (t u:Tok) (s:Shared) (Q:Value->Shared->Prop) (E:Value->Shared->Prop),C i j->Q (.int (g i j) s.toks) { s with toks:=s.toks+1 }->wpAny (model X.prog X.w) X.A (f (.int i t) (.int j u)) Q E s):
  OpR X f (rI C fun i j=>.int (g i j)):=by
 intro pins s σ H x y v u Q I rx ry h
 obtain⟨i,j,rfl,rfl,hc,q⟩:=h
 obtain⟨t,rfl⟩:=rx
 obtain⟨t',rfl⟩:=ry
 exact rule i j t t' s _ _ hc ⟨.int (g i j),H,I.tok _,⟨_,rfl⟩,q⟩
theorem opI0 {f:Value->Value->Sem Value} {g:Int->Int->Int}
  (rule:∀(i j:Int) (t u:Tok) (s:Shared) (Q:Value->Shared->Prop) (E:Value->Shared->Prop),Q (.int (g i j) s.toks) { s with toks:=s.toks+1 }->wpAny (model X.prog X.w) X.A (f (.int i t) (.int j u)) Q E s):
  OpR X f (rI0 fun i j=>.int (g i j)):=by
 intro pins s σ H x y v u Q I rx ry h
 obtain⟨i,j,rfl,rfl,q⟩:=h
 obtain⟨t,rfl⟩:=rx
 obtain⟨t',rfl⟩:=ry
 exact rule i j t t' s _ _ ⟨.int (g i j),H,I.tok _,⟨_,rfl⟩,q⟩
theorem opB0 {f:Value->Value->Sem Value} {g:Int->Int->Bool}
  (rule:∀(i j:Int) (t u:Tok) (s:Shared) (Q:Value->Shared->Prop) (E:Value->Shared->Prop),Q (.bool (g i j)) s->wpAny (model X.prog X.w) X.A (f (.int i t) (.int j u)) Q E s):
  OpR X f (rI0 fun i j=>.bl (g i j)):=by
 intro pins s σ H x y v u Q I rx ry h
 obtain⟨i,j,rfl,rfl,q⟩:=h
 obtain⟨t,rfl⟩:=rx
 obtain⟨t',rfl⟩:=ry
 exact rule i j t t' s _ _ ⟨.bl (g i j),H,I,rfl,q⟩
def CDiv (i j:Int):Prop:=0 < j∧j < 1073741824
def CMul (i j:Int):Prop:=(-(2 ^ 64) < i∧i < 2 ^ 64)∨(-(2 ^ 64) < j∧j < 2 ^ 64)
theorem CMul.ok {i j:Int} (h:CMul i j):IntMulOk i j:=by
 rcases h with ⟨h1,h2⟩ | ⟨h1,h2⟩
 ·exact .of_left (intBits_le_64 h1 h2)
 ·exact .of_right (intBits_le_64 h1 h2)
theorem op_add:OpR X (binaryOp .Add) (rI0 fun i j=>.int (i+j)):=opI0 fun _ _ _ _ _ _ _ q=>add_int q
theorem op_sub:OpR X (binaryOp .Sub) (rI0 fun i j=>.int (i - j)):=opI0 fun _ _ _ _ _ _ _ q=>sub_int q
theorem op_mul:OpR X (binaryOp .Mult) (rI CMul fun i j=>.int (i * j)):=opI fun _ _ _ _ _ _ _ hc q=>mul_int q hc.ok
theorem op_fdiv:OpR X (binaryOp .FloorDiv) (rI CDiv fun i j=>.int (i / j)):=opI fun i j _ _ _ _ _ hc q=>by
 have h1:(0:Int) < j:=hc.1
 have h2:j < 1073741824:=hc.2
 exact floordiv_int (by omega) (by rw [Int.fdiv_eq_ediv_of_nonneg i (by omega)];exact q) (.inl (PyProof.noPylong_small (by omega)))
theorem op_mod:OpR X (binaryOp .Mod) (rI (fun _ j=>0 < j) fun i j=>.int (i % j)):=opI fun i j _ _ _ _ _ hc q=>by
 have h1:(0:Int) < j:=hc
 exact mod_int' (by omega) (by rw [Int.fmod_eq_emod_of_nonneg i (by omega)];exact q)
theorem unI {f:Value->Sem Value} {g:Int->Int}
  (rule:∀(i:Int) (t:Tok) (s:Shared) (Q:Value->Shared->Prop) (E:Value->Shared->Prop),Q (.int (g i) s.toks) { s with toks:=s.toks+1 }->wpAny (model X.prog X.w) X.A (f (.int i t)) Q E s):
  UnR X f (rU fun i=>.int (g i)):=by
 intro pins s σ H x v Q I rx h
 obtain⟨i,rfl,q⟩:=h
 obtain⟨t,rfl⟩:=rx
 exact rule i t s _ _ ⟨.int (g i),H,I.tok _,⟨_,rfl⟩,q⟩
theorem un_neg:UnR X (unaryOp .USub) (rU fun i=>.int (-i)):=unI fun _ _ _ _ _ q=>neg_int q
end
def scal:V->V->Bool
 | .non,.non=>true | .non,.int _=>true | .int _,.non=>true | .non,.bl _=>true | .bl _,.non=>true | .non,.str _=>true | .str _,.non=>true
 | .int _,.int _=>true | .bl _,.bl _=>true | .str _,.str _=>true | .byt _,.byt _=>true
 | .int _,.str _=>true | .str _,.int _=>true | .bl _,.str _=>true | .str _,.bl _=>true
 | _,_=>false
def rEq:R2:=fun x y H Q=>scal x y=true∧Q (.bl (decide (x=y))) H
def rNe:R2:=fun x y H Q=>scal x y=true∧Q (.bl (!decide (x=y))) H
theorem dec_int {i j:Int}:decide (V.int i=V.int j)=(i == j):=by
 rw [Bool.eq_iff_iff]
 simp
theorem dec_bl {i j:Bool}:decide (V.bl i=V.bl j)=(i == j):=by
 rw [Bool.eq_iff_iff]
 simp
theorem dec_str {i j:Str}:decide (V.str i=V.str j)=(i == j):=by
 rw [Bool.eq_iff_iff]
 simp
theorem dec_byt {i j:Array UInt8}:decide (V.byt i=V.byt j)=(i.toList == j.toList):=by
 rw [Bool.eq_iff_iff]
 cases i
 cases j
 simp
section
variable {X:Cx} {a b c:Expr} {ta tb tc:TE} {pos:Pos}
theorem fin_bl {pins:List (Addr×Obj)} {σ:St} {H:Hp} {s:Shared} {Q:VK} {k k':Bool} (I:Inv X pins σ H s) (q:Q (.bl k) H) (e:k=k'):EP X pins σ Q (.bool k') s:=by
 subst e
 exact⟨.bl k,H,I,rfl,q⟩
theorem op_eq:OpR X (compareOp .Eq) rEq:=by
 intro pins s σ H x y v u Q I rx ry h
 obtain⟨hs,q⟩:=h
 cases x with
 | non=>
  cases rx
  cases y with
  | non=>cases ry;exact PySem.EqNone.eq_none_none (fin_bl I q (by simp))
  | bl j=>cases ry;exact PySem.EqNone.eq_none_bool (fin_bl I q (by simp))
  | int j=>obtain⟨t',rfl⟩:=ry;exact PySem.EqNone.eq_none_int (fin_bl I q (by simp))
  | str j=>obtain⟨t',rfl⟩:=ry;exact PySem.EqNone.eq_none_str (fin_bl I q (by simp))
  | _=>exact absurd (show false=true from hs) Bool.false_ne_true
 | bl i=>
  cases rx
  cases y with
  | non=>cases ry;exact PySem.EqNone.eq_bool_none (fin_bl I q (by simp))
  | bl j=>cases ry;exact eq_bool (fin_bl I q dec_bl)
  | str j=>obtain⟨t',rfl⟩:=ry;exact PySem.EqMixed.eq_bool_str (fin_bl I q (by simp))
  | _=>exact absurd (show false=true from hs) Bool.false_ne_true
 | int i=>
  obtain⟨t,rfl⟩:=rx
  cases y with
  | non=>cases ry;exact PySem.EqNone.eq_int_none (fin_bl I q (by simp))
  | int j=>obtain⟨t',rfl⟩:=ry;exact eq_int (fin_bl I q dec_int)
  | str j=>obtain⟨t',rfl⟩:=ry;exact PySem.EqMixed.eq_int_str (fin_bl I q (by simp))
  | _=>exact absurd (show false=true from hs) Bool.false_ne_true
 | str i=>
  obtain⟨t,rfl⟩:=rx
  cases y with
  | non=>cases ry;exact PySem.EqNone.eq_str_none (fin_bl I q (by simp))
  | bl j=>cases ry;exact PySem.EqMixed.eq_str_bool (fin_bl I q (by simp))
  | int j=>obtain⟨t',rfl⟩:=ry;exact PySem.EqMixed.eq_str_int (fin_bl I q (by simp))
  | str j=>obtain⟨t',rfl⟩:=ry;exact eq_str (fin_bl I q dec_str)
  | _=>exact absurd (show false=true from hs) Bool.false_ne_true
 | byt i=>
  obtain⟨t,rfl⟩:=rx
  cases y with
  | byt j=>obtain⟨t',rfl⟩:=ry;exact PySem.W.eq_bytes (fin_bl I q dec_byt)
  | _=>exact absurd (show false=true from hs) Bool.false_ne_true
 | _=>cases y <;> exact absurd (show false=true from hs) Bool.false_ne_true
theorem op_ne:OpR X (compareOp .NotEq) rNe:=by
 intro pins s σ H x y v u Q I rx ry h
 obtain⟨hs,q⟩:=h
 cases x with
 | non=>
  cases rx
  cases y with
  | non=>cases ry;exact PySem.EqNone.ne_none_none (fin_bl I q (by simp))
  | bl j=>cases ry;exact PySem.EqNone.ne_none_bool (fin_bl I q (by simp))
  | int j=>obtain⟨t',rfl⟩:=ry;exact PySem.EqNone.ne_none_int (fin_bl I q (by simp))
  | str j=>obtain⟨t',rfl⟩:=ry;exact PySem.EqNone.ne_none_str (fin_bl I q (by simp))
  | _=>exact absurd (show false=true from hs) Bool.false_ne_true
 | bl i=>
  cases rx
  cases y with
  | non=>cases ry;exact PySem.EqNone.ne_bool_none (fin_bl I q (by simp))
  | bl j=>cases ry;exact ne_bool (fin_bl I q (congrArg not dec_bl))
  | str j=>obtain⟨t',rfl⟩:=ry;exact PySem.EqMixed.ne_bool_str (fin_bl I q (by simp))
  | _=>exact absurd (show false=true from hs) Bool.false_ne_true
 | int i=>
  obtain⟨t,rfl⟩:=rx
  cases y with
  | non=>cases ry;exact PySem.EqNone.ne_int_none (fin_bl I q (by simp))
  | int j=>obtain⟨t',rfl⟩:=ry;exact ne_int (fin_bl I q (congrArg not dec_int))
  | str j=>obtain⟨t',rfl⟩:=ry;exact PySem.EqMixed.ne_int_str (fin_bl I q (by simp))
  | _=>exact absurd (show false=true from hs) Bool.false_ne_true
 | str i=>
  obtain⟨t,rfl⟩:=rx
  cases y with
  | non=>cases ry;exact PySem.EqNone.ne_str_none (fin_bl I q (by simp))
  | bl j=>cases ry;exact PySem.EqMixed.ne_str_bool (fin_bl I q (by simp))
  | int j=>obtain⟨t',rfl⟩:=ry;exact PySem.EqMixed.ne_str_int (fin_bl I q (by simp))
  | str j=>obtain⟨t',rfl⟩:=ry;exact ne_str (fin_bl I q (congrArg not dec_str))
  | _=>exact absurd (show false=true from hs) Bool.false_ne_true
 | byt i=>
  obtain⟨t,rfl⟩:=rx
  cases y with
  | byt j=>obtain⟨t',rfl⟩:=ry;exact PySem.W.ne_bytes (fin_bl I q (congrArg not dec_byt))
  | _=>exact absurd (show false=true from hs) Bool.false_ne_true
 | _=>cases y <;> exact absurd (show false=true from hs) Bool.false_ne_true
theorem op_lt:OpR X (compareOp .Lt) (rI0 fun i j=>.bl (decide (i < j))):=opB0 fun _ _ _ _ _ _ _ q=>lt_int q
theorem op_gt:OpR X (compareOp .Gt) (rI0 fun i j=>.bl (decide (j < i))):=opB0 fun _ _ _ _ _ _ _ q=>gt_int q
theorem op_isN:OpR X (compareOp .Is) (fun x y H Q=>y=.non∧Q (.bl (decide (x=.non))) H):=by
 intro pins s σ H x y v u Q I rx ry h
 obtain⟨rfl,q⟩:=h
 cases ry
 refine is_none_gen (fin_bl I q ?_)
 cases x <;> first
  |(cases rx;rfl)
  |(obtain⟨t,rfl⟩:=rx;rfl)
theorem op_notN:OpR X (compareOp .IsNot) (fun x y H Q=>y=.non∧Q (.bl (!decide (x=.non))) H):=by
 intro pins s σ H x y v u Q I rx ry h
 obtain⟨rfl,q⟩:=h
 cases ry
 refine isnot_none_gen (fin_bl I q ?_)
 cases x <;> first
  |(cases rx;rfl)
  |(obtain⟨t,rfl⟩:=rx;rfl)
theorem nomark (b:Expr) {op:CmpOp} (h:op≠.In:=by decide) (h2:op≠.NotIn:=by decide):behindInMarks op b=false:=by
 have e1:(op == CmpOp.In)=false:=by cases op <;> first | rfl | exact absurd rfl h
 have e2:(op == CmpOp.NotIn)=false:=by cases op <;> first | rfl | exact absurd rfl h2
 cases b <;> simp [behindInMarks,e1,e2]
def tTest (t:TE):TT:=fun σ H Q=>t σ H fun x H'=>∃k,x=.bl k∧Q k H'
theorem pt_cmpR {op:CmpOp} {r:R2} (ho:OpR X (compareOp op) r) (ha:PE X a ta) (hb:PE X b tb) (hm:behindInMarks op b=false):PT X (.Compare a [op] [b] pos) (tTest (tOp r ta tb)):=by
 intro pins s σ H Q I h
 refine wpAny_isTrue_Compare1 (thn (ha pins s σ H _ I h) fun v s1 ⟨x,H1,I1,r1,q1⟩=>thn (hb pins s1 σ H1 _ I1 q1) fun u s2 ⟨y,H2,I2,r2,q2⟩=>
  thn (ho pins s2 σ H2 x y v u _ I2 r1 r2 q2) fun c s3 ⟨z,H3,I3,r3,k,e,q3⟩=>?_) hm
 subst e
 cases r3
 exact wpAny_truthy_bool ⟨H3,I3,q3⟩
def tChain (r r':R2) (ta tb tc:TE):TE:=fun σ H Q=>ta σ H fun x H1=>tb σ H1 fun y H2=>r x y H2 fun z H3=>∃k,z=.bl k∧
 (if k=true then tc σ H3 fun w' H4=>r' y w' H4 Q else Q (.bl false) H3)
theorem line63:(sizeLine:Nat) < 2 ^ 63:=by rw [sizeLine_eq];decide
theorem vals1 {x:V} {us:List Value} (r:Vals [x] us):∃u,us=[u]∧RelV x u:=by
 cases r with
 | cons r1 r2=>cases r2;exact⟨_,rfl,r1⟩
theorem vals2 {x y:V} {us:List Value} (r:Vals [x,y] us):∃u w',us=[u,w']∧RelV x u∧RelV y w':=by
 cases r with
 | cons r1 r2=>
  cases r2 with
  | cons r3 r4=>cases r4;exact⟨_,_,rfl,r1,r3⟩
theorem call_abs:CallR X (.builtin "abs") (fun xs H Q=>∃i,xs=[.int i]∧Q (.int (if i < 0 then -i else i)) H):=by
 intro pins s σ H xs us Q I r h
 obtain⟨i,rfl,q⟩:=h
 obtain⟨u,rfl,t,rfl⟩:=vals1 r
 exact call_abs_int fun u tk=>⟨.int (if i < 0 then -i else i),H,I.tok _,⟨_,rfl⟩,q⟩
theorem call_max2 (hc:X.calm=true):CallR X (.builtin "max") (fun xs H Q=>∃i j,xs=[.int i,.int j]∧Q (.int (if j > i then j else i)) H):=by
 intro pins s σ H xs us Q I r h
 obtain⟨i,j,rfl,q⟩:=h
 obtain⟨u,w',rfl,⟨t,rfl⟩,⟨t',rfl⟩⟩:=vals2 r
 refine max_two_ints (I.ok.hd hc) fun h' tk k=>⟨_,H,I.kept k,?_,q⟩
 by_cases hj:j > i
 ·rw [if_pos hj,if_pos hj];exact⟨_,rfl⟩
 ·rw [if_neg hj,if_neg hj];exact⟨_,rfl⟩
theorem call_min2 (hc:X.calm=true):CallR X (.builtin "min") (fun xs H Q=>∃i j,xs=[.int i,.int j]∧Q (.int (if j < i then j else i)) H):=by
 intro pins s σ H xs us Q I r h
 obtain⟨i,j,rfl,q⟩:=h
 obtain⟨u,w',rfl,⟨t,rfl⟩,⟨t',rfl⟩⟩:=vals2 r
 refine min_two_ints (I.ok.hd hc) fun h' tk k=>⟨_,H,I.kept k,?_,q⟩
 by_cases hj:j < i
 ·rw [if_pos hj,if_pos hj];exact⟨_,rfl⟩
 ·rw [if_neg hj,if_neg hj];exact⟨_,rfl⟩
end
end L2
namespace L2
open PySem PySem.Spec PyProof.Rows
structure ObjM (h:Heap) (x dx C:Addr) (mA:Str->Option Value):Prop where
 obj:h.get? x=some (PySem.W.instObj C dx)
 ns:h.Ns1 dx mA
 ne:dx≠x
theorem lookIn_ns {h:Heap} {dx:Addr} {mA:Str->Option Value} (n:h.Ns1 dx mA):∃od,h.get? dx=some od∧∀name,PySem.W.lookIn name od=some (mA name):=by
 obtain⟨o,es,ep,ho,hd,hk,_,hm⟩:=n
 refine⟨o,ho,fun name=>?_⟩
 have e:=hm name
 unfold nsFind findBy at e
 rw [← Array.find?_toList] at e
 unfold PySem.W.lookIn
 rw [hd]
 dsimp only
 split
 ·rename_i y q
  rw [q] at e
  exact congrArg some e
 ·rename_i q
  rw [q] at e
  have a:es.toList.any (·.refKey)=false:=by
   rw [List.any_eq_false]
   intro y hy
   obtain⟨z,t,hkey⟩:=hk y (Array.mem_toList_iff.mp hy)
   simp [DictEntry.refKey,hkey]
  have a':¬es.toList.any (·.refKey)=true:=by rw [a];exact Bool.false_ne_true
  rw [if_neg a']
  exact congrArg some e
theorem ObjM.look {h:Heap} {x dx C:Addr} {mA:Str->Option Value} (I:ObjM h x dx C mA):∃od,PySem.W.InstAt h x (PySem.W.instObj C dx) C (some od)∧∀name,PySem.W.lookIn name od=some (mA name):=
 let ⟨od,ho,hl⟩:=lookIn_ns I.ns
 ⟨od,⟨I.obj,rfl,rfl,ho⟩,hl⟩
section
variable {prog:Program} {w:World} {A:Around} {E:Value->Shared->Prop} {s:Shared} {K:PySem.W.Frag} {x dx C f:Addr} {mA:Str->Option Value} {name:Str} {v:Value}
theorem get_map {expr:Bool} {Q:Value->Shared->Prop} (X:K.In s.heap) (I:ObjM s.heap x dx C mA) (hg:PySem.W.plainGet K C name=true) (hh:PySem.W.hasDictIn K C=true)
  (ha:PySem.W.findIn K (.ref C) name=some none) (hv:mA name=some v) (hv':PySem.W.handedIn v=true) (h:Q v { s with toks:=s.toks+1 }):
  wpAny (model prog w) A (getAttr (.ref x) name expr) Q E s:=by
 obtain⟨od,J,hl⟩:=I.look
 exact PySem.W.get_value X J (PySem.W.plainGet_of hg).1 (PySem.W.findObj_own hh ha rfl (by rw [hl,hv])) hv' h
theorem get_meth {pl:Sem Bool} {Q:Value×List Value->Shared->Prop} (X:K.In s.heap) (I:ObjM s.heap x dx C mA) (hg:PySem.W.plainGet K C name=true)
  (hf:PySem.W.findIn K (.ref C) name=some (some (.ref f))) (ht:PySem.W.isFn K (.ref f)=true) (hv:mA name=none) (h:Q (.ref f,[.ref x]) s):
  wpAny (model prog w) A (getMethod (.ref x) name pl) Q E s:=by
 obtain⟨od,J,hl⟩:=I.look
 exact PySem.W.method_fn X J (PySem.W.plainGet_of hg).1 (PySem.W.plainGet_of hg).2 hf (beq_iff_eq.mp ht) (by show (PySem.W.lookIn name od).map (·.isSome)=some false;rw [hl,hv];rfl) h
theorem set_map {ns:List Str} {Q:Unit->Shared->Prop} (X:K.In s.heap) (I:ObjM s.heap x dx C mA)
  (hs:PySem.W.findIn K (.ref C) "__setattr__" = some (some (.builtin "object.__setattr__"))) (hp:PySem.W.plainOver K C=true) (ht:PySem.W.takerIn K C name=some none) (hh:PySem.W.hasDictIn K C=true)
  (hw:PySem.Within mA ns) (hsz:ns.length<=sizeLine)
  (h:∀h',ObjM h' x dx C (fun y=>if y=name then some v else mA y)->Heap.SameBut dx s.heap h'->Q () { s with heap:=h',toks:=s.toks+2 }):
  wpAny (model prog w) A (setAttr (.ref x) name v) Q E s:=by
 obtain⟨od,J,hl⟩:=I.look
 refine PySem.W.set_plain X J hs (PySem.W.osa_open (s:={ s with toks:=s.toks+1 }) (r:=none) X J hp ht fun b=>?_)
 obtain⟨cd,hc,hd'⟩:=PySem.W.any_some hh
 have hx:s.heap.get? x=some ⟨.ref C,some dx,.plain,#[]⟩:=I.obj
 refine wpAny_bind (wpAny_pure (wpAny_bind (wpAny_bind (wpAny_loadPart hx (wpAny_bind (PySem.W.Looks.here (s:={ s with toks:=s.toks+1 }) (PySem.W.looks_clsIn X hc) ?_))))))
 rw [hd']
 refine wpAny_pure (a:=some dx) (wpAny_bind (wpAny_pure (wpAny_bind ?_)))
 refine wpAny_nsSet1 (s:={ s with toks:=s.toks+1 }) I.ns fun h' hn2 hs2=>?_
 obtain⟨oD,esD,epD,hoD,hdD,hcD⟩:=hn2.count (PySem.Within.cons name v hw)
 refine wpAny_bind (wpAny_lookBehind hoD (by rw [hdD];exact pastItsLine_dict (Nat.le_trans hcD (by rw [List.length_cons];omega))) ?_)
 exact wpAny_pure (h _ ⟨(hs2.2 _ (Ne.symm I.ne)).trans I.obj,hn2,I.ne⟩ hs2)
theorem make_map {R:Result->Shared->Prop} {vs:List Value} {kw:List (Str×Value)} (X:K.In s.heap) (hm:PySem.W.makesIn K C=true)
  (hi:PySem.W.findIn K (.ref C) "__init__" = some (some (.ref f))) (hf:PySem.W.typeIn K (.ref f)=some (.type "function"))
  (h:codeAny (model prog w) (A.under (.builtin "type.__call__" ⟨.ref C :: vs,kw⟩)) (.call (.ref f) ⟨.ref (s.heap.objs.size+1) :: vs,kw⟩) (PySem.W.InitBack (s.heap.objs.size+1) R)
   { s with heap:=(s.heap.push PySem.W.emptyDict).push (PySem.W.instObj C s.heap.objs.size) }):
  codeAny (model prog w) A (.call (.ref C) ⟨vs,kw⟩) R s:=by
 obtain⟨hh,g,d,t,os⟩:=s
 exact PySem.W.make_core (PySem.W.makes_of X hm) (PySem.W.looks_findIn X hi) (fun self=>PySem.W.bind_fn X self hf) (.inl rfl) h
end
def putF (f:Str) (v:V):List (Str×V)->List (Str×V)
 | []=>[(f,v)]
 |(g,x) :: r=>if g=f then (g,v) :: r else (g,x) :: putF f v r
theorem lookup_putF (f g:Str) (v:V):∀fs:List (Str×V),(putF f v fs).lookup g=if g=f then some v else fs.lookup g
 | []=>by
  show List.lookup g [(f,v)]=_
  by_cases h:g=f
  ·have hb:(g == f)=true:=beq_iff_eq.mpr h
   simp only [List.lookup,hb,if_pos h]
  ·have hb:(g == f)=false:=beq_eq_false_iff_ne.mpr h
   simp only [List.lookup,hb,if_neg h]
 |(k,x) :: r=>by
  have ih:=lookup_putF f g v r
  rw [show putF f v ((k,x) :: r)=(if k=f then (k,v) :: r else (k,x) :: putF f v r) from rfl]
  by_cases hk:k=f
  ·rw [if_pos hk]
   by_cases h:g=k
   ·have hb:(g == k)=true:=beq_iff_eq.mpr h
    simp only [List.lookup,hb,if_pos (h.trans hk)]
   ·have hb:(g == k)=false:=beq_eq_false_iff_ne.mpr h
    simp only [List.lookup,hb,if_neg (fun e:g=f=>h (e.trans hk.symm))]
  ·rw [if_neg hk]
   by_cases h:g=k
   ·have hb:(g == k)=true:=beq_iff_eq.mpr h
    simp only [List.lookup,hb,if_neg (fun e:g=f=>hk (h.symm.trans e))]
   ·have hb:(g == k)=false:=beq_eq_false_iff_ne.mpr h
    simp only [List.lookup,hb]
    exact ih
theorem keys_putF (f:Str) (v:V):∀fs:List (Str×V),f∈(putF f v fs).map (·.1)∧∀g,g∈fs.map (·.1)->g∈(putF f v fs).map (·.1)
 | []=>⟨by simp [putF],fun g h=>by simp at h⟩
 |(k,x) :: r=>by
  obtain⟨i1,i2⟩:=keys_putF f v r
  rw [show putF f v ((k,x) :: r)=(if k=f then (k,v) :: r else (k,x) :: putF f v r) from rfl]
  by_cases hk:k=f
  ·rw [if_pos hk]
   subst hk
   exact⟨by simp,fun g h=>by simpa using h⟩
  ·rw [if_neg hk]
   refine⟨?_,fun g h=>?_⟩
   ·rw [List.map_cons]
    exact List.mem_cons_of_mem _ i1
   ·rw [List.map_cons] at h ⊢
    rcases List.mem_cons.mp h with e | e
    ·exact List.mem_cons.mpr (.inl e)
    ·exact List.mem_cons_of_mem _ (i2 g e)
theorem length_putF (f:Str) (v:V):∀fs:List (Str×V),(putF f v fs).length<=fs.length+1
 | []=>by simp [putF]
 |(k,x) :: r=>by
  have ih:=length_putF f v r
  rw [show putF f v ((k,x) :: r)=(if k=f then (k,v) :: r else (k,x) :: putF f v r) from rfl]
  by_cases hk:k=f
  ·rw [if_pos hk,List.length_cons,List.length_cons];omega
  ·rw [if_neg hk,List.length_cons,List.length_cons];omega
theorem RelO.some_of {v:V} {o:Option Value} (r:RelO (some v) o):∃u,o=some u∧RelV v u:=by
 cases o with
 | none=>exact (show False from r).elim
 | some u=>exact⟨u,rfl,r⟩
theorem RelO.none_of {o:Option Value} (r:RelO none o):o=none:=by
 cases o with
 | none=>rfl
 | some u=>exact (show False from r).elim
theorem handed_of {v:V} {u:Value} (r:RelV v u):PySem.W.handedIn u=true:=by
 cases v with
 | non=>cases (show u=Value.none from r);rfl
 | bl b=>cases (show u=Value.bool b from r);rfl
 | int i=>obtain⟨t,e⟩:=(show ∃t,u=Value.int i t from r);cases e;rfl
 | str x=>obtain⟨t,e⟩:=(show ∃t,u=Value.str x t from r);cases e;rfl
 | byt b=>obtain⟨t,e⟩:=(show ∃t,u=Value.bytes b t from r);cases e;rfl
 | flt b=>obtain⟨t,e⟩:=(show ∃t,u=Value.float b t from r);cases e;rfl
 | ref a=>cases (show u=Value.ref a from r);rfl
 | ty n=>cases (show u=Value.type n from r);rfl
section
variable {P:Program} {w:World} {H H':Hp} {h h':Heap} {a C dx:Addr} {fs fs':List (Str×V)}
theorem ins_get (hok:HOk P w H h) (e:H a=some (.ins C dx fs)):∃mA,ObjM h a dx C mA∧(∀f,RelO (fs.lookup f) (mA f))∧PySem.Within mA (fs.map (·.1))∧fs.length<=1000∧H dx=some (.own a):=by
 obtain⟨d,z,ne,ob,mA,n,r,q⟩:=(show ObjOk P w H h a (.ins C dx fs) from hok a _ e)
 exact⟨mA,⟨ob,n,ne⟩,r,q,z,d⟩
end
structure Cls (K:PySem.W.Frag) (C:Addr):Prop where
 pg:PySem.W.plainGet K C Str.empty=true
 hd:PySem.W.hasDictIn K C=true
 po:PySem.W.plainOver K C=true
 sa:PySem.W.findIn K (.ref C) "__setattr__" = some (some (.builtin "object.__setattr__"))
theorem Cls.get {K:PySem.W.Frag} {C:Addr} (c:Cls K C) (f:Str):PySem.W.plainGet K C f=true:=c.pg
def NoAttr (K:PySem.W.Frag) (C:Addr) (f:Str):Prop:=PySem.W.findIn K (.ref C) f=some none
theorem NoAttr.taker {K:PySem.W.Frag} {C:Addr} {f:Str} (n:NoAttr K C f):PySem.W.takerIn K C f=some none:=by
 unfold PySem.W.takerIn
 rw [show PySem.W.findIn K (.ref C) f=some none from n]
 rfl
structure Meth (K:PySem.W.Frag) (C:Addr) (m:Str) (f:Addr):Prop where
 at_:PySem.W.findIn K (.ref C) m=some (some (.ref f))
 fn:PySem.W.isFn K (.ref f)=true
 kp:PySem.W.keepIn K (.ref f)=true
section
variable {X:Cx} {pins:List (Addr×Obj)} {σ:St} {H:Hp} {s:Shared} {a C dx:Addr} {fs:List (Str×V)} {f:Str} {v:V} {A:Around} {E:Value->Shared->Prop}
theorem getattr_ok {b:Bool} {Q:Value->Shared->Prop} (I:Inv X pins σ H s) (e:H a=some (.ins C dx fs)) (c:Cls X.K C) (n:NoAttr X.K C f) (l:fs.lookup f=some v)
  (h:∀u s',Inv X pins σ H s'->RelV v u->Q u s'):wpAny (model X.prog X.w) A (getAttr (.ref a) f b) Q E s:=by
 obtain⟨mA,O,r,_,_,_⟩:=ins_get I.hok e
 obtain⟨u,hu,ru⟩:=RelO.some_of (v:=v) (o:=mA f) (by rw [← l];exact r f)
 exact get_map I.kIn O (c.get f) c.hd n hu (handed_of ru) (h u _ (I.tok _) ru)
theorem getmeth_ok {m:Str} {g:Addr} {pl:Sem Bool} {Q:Value×List Value->Shared->Prop} (I:Inv X pins σ H s) (e:H a=some (.ins C dx fs)) (c:Cls X.K C) (k:Meth X.K C m g) (l:fs.lookup m=none)
  (h:Q (.ref g,[.ref a]) s):wpAny (model X.prog X.w) A (getMethod (.ref a) m pl) Q E s:=by
 obtain⟨mA,O,r,_,_,_⟩:=ins_get I.hok e
 have hn:mA m=none:=RelO.none_of (by rw [← l];exact r m)
 exact get_meth I.kIn O (c.get m) k.at_ k.fn hn h
theorem setattr_ok {y:V} {u:Value} {Q:Unit->Shared->Prop} (I:Inv X pins σ H s) (e:H a=some (.ins C dx fs)) (c:Cls X.K C) (n:NoAttr X.K C f) (hl:fs.length < 1000) (ry:RelV y u)
  (h:∀s',Inv X pins σ (upd H a (.ins C dx (putF f y fs))) s'->Q () s'):wpAny (model X.prog X.w) A (setAttr (.ref a) f u) Q E s:=by
 obtain⟨mA,O,r,wi,_,ho⟩:=ins_get I.hok e
 have hz:(fs.map (·.1)).length<=sizeLine:=by rw [List.length_map,sizeLine_eq];omega
 refine set_map I.kIn O c.sa c.po n.taker c.hd wi hz fun h' O' sb=>h _ ?_
 have hd:∃o,h'.get? dx=some o:=let ⟨o,_,_,e',_⟩:=O'.ns;⟨o,e'⟩
 refine I.write (x:=a) (e:=dx) (by rw [e];exact True.intro) (.inr ho) (fun b q hb z=>(sb.2 b hb).trans z) hd ?_
 refine⟨by rw [upd_ne O.ne];exact ho,?_,O.ne,O'.obj,_,O'.ns,fun g=>?_,fun g hg=>?_⟩
 ·have:=length_putF f y fs;omega
 ·show RelO ((putF f y fs).lookup g) (if g=f then some u else mA g)
  rw [lookup_putF]
  by_cases q:g=f
  ·rw [if_pos q,if_pos q];exact ry
  ·rw [if_neg q,if_neg q];exact r g
 ·by_cases q:g=f
  ·rw [q];exact (keys_putF f y fs).1
  ·refine (keys_putF f y fs).2 g (wi g fun z=>hg ?_)
   show (if g=f then some u else mA g)=none
   rw [if_neg q];exact z
theorem Inv.made (I:Inv X pins σ H s):Inv X pins σ (upd (upd H s.heap.objs.size (.own (s.heap.objs.size+1))) (s.heap.objs.size+1) (.ins C s.heap.objs.size []))
  { s with heap:=(s.heap.push PySem.W.emptyDict).push (PySem.W.instObj C s.heap.objs.size) }:=by
 have e1:(s.heap.push PySem.W.emptyDict).get? s.heap.objs.size=some PySem.W.emptyDict:=Heap.get?_push_size s.heap rfl
 have e2:((s.heap.push PySem.W.emptyDict).push (PySem.W.instObj C s.heap.objs.size)).get? (s.heap.objs.size+1)=some (PySem.W.instObj C s.heap.objs.size):=by
  have:=Heap.get?_push_size (s.heap.push PySem.W.emptyDict) (o:=PySem.W.instObj C s.heap.objs.size) rfl
  rwa [Heap.size_push] at this
 have e3:(s.heap.push PySem.W.emptyDict).Ns s.heap.objs.size (fun _=>none):=⟨PySem.W.emptyDict,#[],_,e1,rfl,(fun e he=>absurd he (by simp)),fun _=>rfl⟩
 have I1:=I.laid (a:=s.heap.objs.size) (o:=.own (s.heap.objs.size+1)) (h':=s.heap.push PySem.W.emptyDict) (t':=s.toks) (fun b u q=>Heap.get?_push_of_some _ q) (Nat.le_refl _) ⟨_,e1⟩
 refine I1.laid (a:=s.heap.objs.size+1) (o:=.ins C s.heap.objs.size []) (t':=s.toks) (fun b u q=>Heap.get?_push_of_some _ q) (Nat.le_of_eq (Heap.size_push _ _)) ?_
 have ne:s.heap.objs.size≠s.heap.objs.size+1:=Nat.ne_of_lt (Nat.lt_succ_self _)
 refine⟨by rw [upd_ne ne,upd_same],Nat.zero_le _,ne,e2,fun _=>none,(Heap.Ns1.of_empty e3).at fun o q=>Heap.get?_push_of_some _ q,fun _=>True.intro,fun y hy=>absurd rfl hy⟩
theorem attr_of {prog:Program} {w:World} {env:Env} {e:Expr} {f:Str} {pos:Pos} {s:Shared} {Q:Value->Shared->Prop} (hb:attributeBase e f env (eval e env)=eval e env)
  (h:wpAny (model prog w) A (eval e env) (fun o s₁=>wpAny (model prog w) A (getAttr o f true) Q E s₁) E s):wpAny (model prog w) A (eval (.Attribute e f pos) env) Q E s:=
 Attribute_any_ h (by rw [arm_eval_Attribute,hb])
end
def tFld (K:PySem.W.Frag) (ta:TE) (f:Str):TE:=fun σ H Q=>ta σ H fun x H1=>∃a C dx fs v,x=.ref a∧H1 a=some (.ins C dx fs)∧Cls K C∧NoAttr K C f∧fs.lookup f=some v∧Q v H1
def sFld (K:PySem.W.Frag) (ta tv:TE) (f:Str):TS:=fun D σ H=>tv σ H fun y H1=>ta σ H1 fun x H2=>∃a C dx fs,x=.ref a∧H2 a=some (.ins C dx fs)∧Cls K C∧NoAttr K C f∧fs.length < 1000∧
 D.nx σ (upd H2 a (.ins C dx (putF f y fs)))
def InOp (X:Cx) (op:Operator) (rd:V->V->Hp->VK->Prop):Prop:=
 ∀(pins:List (Addr×Obj)) (s:Shared) (σ:St) (H:Hp) (x y:V) (u v:Value) (Q:VK),Inv X pins σ H s->RelV x u->RelV y v->rd x y H Q->wpAny (model X.prog X.w) X.A (inplaceOp op u v) (EP X pins σ Q) X.xe s
def sFldAug (K:PySem.W.Frag) (ta tv:TE) (rd:V->V->Hp->VK->Prop) (f:Str):TS:=fun D σ H=>ta σ H fun x H1=>∃a C dx fs v,x=.ref a∧H1 a=some (.ins C dx fs)∧Cls K C∧NoAttr K C f∧fs.lookup f=some v∧
 tv σ H1 fun y H2=>rd v y H2 fun z H3=>∃dx' fs',H3 a=some (.ins C dx' fs')∧fs'.length < 1000∧D.nx σ (upd H3 a (.ins C dx' (putF f z fs')))
section
variable {X:Cx} {o e value:Expr} {f:Str} {pos pos' tpos:Pos} {ta tv:TE}
theorem pe_fld (he:PE X e ta) (hb:attributeBase e f X.env (eval e X.env)=eval e X.env):PE X (.Attribute e f pos) (tFld X.K ta f):=by
 intro pins s σ H Q I h
 refine attr_of hb (thn (he pins s σ H _ I h) fun u s1 ⟨x,H1,I1,rx,a,C,dx,fs,v,ex,ea,c,n,l,q⟩=>?_)
 subst ex
 obtain rfl:u=Value.ref a:=rx
 exact getattr_ok I1 ea c n l fun u' s2 I2 ru=>⟨v,H1,I2,ru,q⟩
theorem ps_fld (ha:PE X o ta) (hv:PE X value tv) (hs:swapsWith value (some (.Attribute o f pos')) pos.line X.env=pure false):PS X (.Assign [.Attribute o f pos'] value pos) (sFld X.K ta tv f):=by
 intro pins s σ H D I h
 refine plainObj_wpAny_Assign_Attribute (thn (hv pins s σ H _ I h) fun u s1 ⟨y,H1,I1,ry,q⟩=>thn (ha pins s1 σ H1 _ I1 q) fun ov s2 ⟨x,H2,I2,rx,a,C,dx,fs,ex,ea,c,n,l,q2⟩=>?_) hs
 subst ex
 obtain rfl:ov=Value.ref a:=rx
 exact setattr_ok I2 ea c n l ry fun s3 I3=>⟨σ,_,I3,q2⟩
theorem ps_fldaug {op:Operator} {rd:V->V->Hp->VK->Prop} (ha:PE X o ta) (hv:PE X value tv) (hop:InOp X op rd):PS X (.AugAssign (.Attribute o f tpos) op value pos) (sFldAug X.K ta tv rd f):=by
 intro pins s σ H D I h
 refine wpAny_AugAssign_AttributeAny (thn (ha pins s σ H _ I h) fun ov s1 ⟨x,H1,I1,rx,a,C,dx,fs,v,ex,ea,c,n,l,q⟩=>?_)
 subst ex
 obtain rfl:ov=Value.ref a:=rx
 refine getattr_ok I1 ea c n l fun u s2 I2 ru=>thn (hv pins s2 σ H1 _ I2 q) fun w3 s3 ⟨y,H2,I3,ry,q3⟩=>thn (hop pins s3 σ H2 v y u w3 _ I3 ru ry q3) fun w4 s4 ⟨z,H3,I4,rz,dx',fs',ea',l',q4⟩=>?_
 exact setattr_ok I4 ea' c n l' rz fun s5 I5=>⟨σ,_,I5,q4⟩
def rAdd:V->V->Hp->VK->Prop:=fun x y H Q=>∃i j,x=.int i∧y=.int j∧Q (.int (i+j)) H
theorem in_add:InOp X .Add rAdd:=by
 rintro pins s σ H x y u v Q I rx ry ⟨i,j,rfl,rfl,q⟩
 obtain⟨t,rfl⟩:=(show ∃t,u=Value.int i t from rx)
 obtain⟨t',rfl⟩:=(show ∃t',v=Value.int j t' from ry)
 exact PyProof.Rows.iadd_int ⟨.int (i+j),H,I.tok _,⟨_,rfl⟩,q⟩
theorem methcall_of {pl:Sem Bool} {m:Str} {apos:Pos} {args:List Expr} {pins:List (Addr×Obj)} {s:Shared} {σ:St} {H:Hp} {Q:Value->Shared->Prop} {te:TE} (he:PE X e te) (I:Inv X pins σ H s)
  (h:te σ H fun x H1=>∃a C dx fs g,x=.ref a∧H1 a=some (.ins C dx fs)∧Cls X.K C∧Meth X.K C m g∧fs.lookup m=none∧
   ∀s1,Inv X pins σ H1 s1->wpAny (model X.prog X.w) X.A (callWith pos (.ref g) [.ref a] (backTo pos (starEach args X.env)) (backToKw pos (keywordEach [] X.env))) Q X.xe s1)
  (ht:eval (.Call (.Attribute e m apos) args [] pos) X.env=(do
   let ov ← eval e X.env
   standAt apos.atName
   let (f,first) ← holding [ov] (getMethod ov m pl)
   callWith pos f first (backTo pos (starEach args X.env)) (backToKw pos (keywordEach [] X.env)))):
  wpAny (model X.prog X.w) X.A (eval (.Call (.Attribute e m apos) args [] pos) X.env) Q X.xe s:=by
 refine PySem.W.methodCall_KW (pl:=pl) (thn (he pins s σ H _ I h) fun u s1 ⟨x,H1,I1,rx,a,C,dx,fs,g,ex,ea,c,k,l,q⟩=>?_) ht
 subst ex
 obtain rfl:u=Value.ref a:=rx
 exact getmeth_ok I1 ea c k l (q s1 I1)
end
section
variable {X:Cx} {pins:List (Addr×Obj)} {σ:St} {H:Hp} {s:Shared} {A:Around} {E:Value->Shared->Prop} {Q:Value->Shared->Prop} {c:Value} {b:Bool}
inductive TyOf (K:PySem.W.Frag) (H:Hp):V->Value->Prop where
 | non:TyOf K H .non (.type "NoneType")
 | bl (x:Bool):TyOf K H (.bl x) (.type "bool")
 | int (i:Int):TyOf K H (.int i) (.type "int")
 | str (x:Str):TyOf K H (.str x) (.type "str")
 | flt (x:UInt64):TyOf K H (.flt x) (.type "float")
 | lst {a:Addr} {xs:List V} (e:H a=some (.lst xs)):TyOf K H (.ref a) (.type "list")
 | frz {a:Addr} {o:Obj} {xs:List V} (e:H a=some (.frz o (.lst xs))):TyOf K H (.ref a) (.type "list")
 | tup {a:Addr} {xs:List V} (e:H a=some (.tup xs)):TyOf K H (.ref a) (.type "tuple")
 | dK {a:Addr} {kvs:List (Key×V)} (e:H a=some (.dK kvs)):TyOf K H (.ref a) (.type "dict")
 | dT {a:Addr} {kvs:List (List Key×V)} (e:H a=some (.dT kvs)):TyOf K H (.ref a) (.type "dict")
 | ins {a C dx:Addr} {fs:List (Str×V)} (e:H a=some (.ins C dx fs)) (cl:Cls K C) (ha:PySem.W.findIn K (.ref C) "__class__" = some (some (.builtin "object.__class__")))
   (hn:PySem.W.specialIn K (.builtin "object.__class__") "__get__" = some (some (.builtin "getset_descriptor.__get__"))) (htk:PySem.W.takesIn K (.builtin "object.__class__")=some true)
   (hm:PySem.W.mroIn K C (.type "object")=some true):TyOf K H (.ref a) (.ref C)
theorem isinst_ok {x:V} {u t:Value} (I:Inv X pins σ H s) (rx:RelV x u) (ty:TyOf X.K H x t) (e:PySem.W.kitOne X.K t c=some b) (h:∀tk,Q (.bool b) { s with toks:=tk }):
  wpAny (model X.prog X.w) A (call (.builtin "isinstance") [u,c]) Q E s:=by
 cases ty with
 | non=>cases (show u=Value.none from rx);exact PySem.W.kia_one PySem.W.kitx_none I.kIn True.intro e (fun z=>nomatch z) h
 | bl y=>cases (show u=Value.bool y from rx);exact PySem.W.kia_one PySem.W.kitx_bool I.kIn True.intro e (fun z=>nomatch z) h
 | int i=>obtain⟨t,q⟩:=(show ∃t,u=Value.int i t from rx);cases q;exact PySem.W.kia_one PySem.W.kitx_int I.kIn True.intro e (fun z=>nomatch z) h
 | str y=>obtain⟨t,q⟩:=(show ∃t,u=Value.str y t from rx);cases q;exact PySem.W.kia_one PySem.W.kitx_str I.kIn True.intro e (fun z=>nomatch z) h
 | flt y=>obtain⟨t,q⟩:=(show ∃t,u=Value.float y t from rx);cases q;exact PySem.W.kia_one PySem.W.kitx_float I.kIn True.intro e (fun z=>nomatch z) h
 | @lst a xs ea=>
  cases (show u=Value.ref a from rx)
  obtain⟨_,_,n,_,h1⟩:=(show ObjOk X.prog X.w H s.heap a (.lst xs) from I.hok a _ ea)
  exact PySem.W.kia_one PySem.W.kitx_list I.kIn ⟨_,h1,rfl⟩ e (fun z=>nomatch z) h
 | @frz a ob xs ea=>
  cases (show u=Value.ref a from rx)
  obtain⟨_,_,_,n,_,h1⟩:=(show ObjOk X.prog X.w H s.heap a (.frz ob (.lst xs)) from I.hok a _ ea)
  exact PySem.W.kia_one PySem.W.kitx_list I.kIn ⟨_,h1,rfl⟩ e (fun z=>nomatch z) h
 | @tup a xs ea=>
  cases (show u=Value.ref a from rx)
  obtain⟨_,_,_,p⟩:=(show ObjOk X.prog X.w H s.heap a (.tup xs) from I.hok a _ ea)
  obtain⟨o,h1,h2,_⟩:=p
  exact PySem.W.kia_one PySem.W.kitx_tuple I.kIn ⟨o,h1,h2⟩ e (fun z=>nomatch z) h
 | @dK a kvs ea=>
  cases (show u=Value.ref a from rx)
  obtain⟨_,_,vs,_,p⟩:=(show ObjOk X.prog X.w H s.heap a (.dK kvs) from I.hok a _ ea)
  obtain⟨o,es,ep,h1,h2,_⟩:=p
  exact PySem.W.kia_one PySem.W.kitx_dict I.kIn ⟨o,h1,h2.1⟩ e (fun z=>nomatch z) h
 | @dT a kvs ea=>
  cases (show u=Value.ref a from rx)
  obtain⟨_,_,xs,_,o,es,ep,h1,h2,_⟩:=(show ObjOk X.prog X.w H s.heap a (.dT kvs) from I.hok a _ ea)
  exact PySem.W.kia_one PySem.W.kitx_dict I.kIn ⟨o,h1,h2.1⟩ e (fun z=>nomatch z) h
 | @ins a C dx fs ea cl ha hn htk hm=>
  cases (show u=Value.ref a from rx)
  obtain⟨mA,O,_⟩:=ins_get I.hok ea
  obtain⟨od,J,_⟩:=O.look
  exact PySem.W.kia_one (PySem.W.kitx_own (cl.get _) cl.hd ha hn htk hm) I.kIn J e (fun z=>nomatch z) h
end
end L2
namespace L2
open PySem PySem.Spec PyProof.Rows
structure Room (k:Nat) (A:Around):Prop where
 hd:A.handled=none
 dp:A.depth+3 * k+5 < recursionLimit
 un:A.units+16 * k+200 < cLine
theorem Room.mono {j k:Nat} {A:Around} (r:Room k A) (h:j<=k):Room j A:=⟨r.hd,by have:=r.dp;omega,by have:=r.un;omega⟩
theorem Room.deeper {k:Nat} {A:Around} (r:Room (k+1) A) (env:Env):Room k (A.deeper env):=
 ⟨r.hd,by have:=r.dp;show A.depth+1+3 * k+5 < _;omega,by have:=r.un;show A.units+3+16 * k+200 < _;omega⟩
theorem make_depth {A:Around} {C:Addr} {us:List Value} {kw:List (Str×Value)}:(A.under (.builtin "type.__call__" ⟨.ref C :: us,kw⟩)).depth=A.depth+1:=by
 first | rfl | simp [Around.under,Code.weight,Code.isCreation,Code.isGuard,Code.isCaller,Code.frames,Code.isFrame,guardIds]
theorem make_units {A:Around} {C:Addr} {us:List Value} {kw:List (Str×Value)}:(A.under (.builtin "type.__call__" ⟨.ref C :: us,kw⟩)).units=A.units+1:=by
 first | rfl | simp [Around.under,Code.cUnits,Code.frames,Code.isFrame]
theorem Room.make {k:Nat} {A:Around} (r:Room (k+1) A) (C:Addr) (us:List Value) (kw:List (Str×Value)):Room k (A.under (.builtin "type.__call__" ⟨.ref C :: us,kw⟩)):=
 ⟨r.hd,by have:=r.dp;rw [make_depth];omega,by have:=r.un;rw [make_units];omega⟩
theorem Room.depth {k:Nat} {A:Around} (r:Room k A):A.depth < recursionLimit:=by have:=r.dp;omega
theorem Room.units {k:Nat} {A:Around} (r:Room k A):A.units+64 < cLine:=by have:=r.un;omega
def tNil:TA:=fun _ H Q=>Q [] H
def tCons (ta:TE) (tr:TA):TA:=fun σ H Q=>ta σ H fun x H1=>tr σ H1 fun xs H2=>Q (x :: xs) H2
section
variable {X:Cx} {e:Expr} {es:List Expr} {te:TE} {t:TA} {pos:Pos}
theorem pa_nil:PA X [] tNil:=fun _ _ _ _ H Q I h=>Calls.spliced_nil ⟨[],H,I,.nil,h⟩
theorem pa_cons (ha:PE X e te) (hr:PA X es t) (hs:starEach (e :: es) X.env=(false,eval e X.env) :: starEach es X.env:=by rfl):PA X (e :: es) (tCons te t):=by
 intro pos pins s σ H Q I h
 rw [hs]
 show wpAny _ _ (spliced ((false,eval e X.env) :: backTo pos (starEach es X.env))) _ _ s
 refine Calls.spliced_cons (thn (ha pins s σ H _ I h) fun u s1 ⟨x,H1,I1,r1,q1⟩=>?_)
 exact thn (hr pos pins s1 σ H1 _ I1 q1) fun us s2 ⟨xs,H2,I2,r2,q2⟩=>⟨x :: xs,H2,I2,.cons r1 r2,q2⟩
def tTup (t:TA):TE:=fun σ H Q=>t σ H fun xs H1=>xs.length<=sizeLine∧∀p,H1 p=none->Q (.ref p) (upd H1 p (.tup xs))
def tLst (t:TA):TE:=fun σ H Q=>t σ H fun xs H1=>xs.length<=sizeLine∧∀p,H1 p=none->Q (.ref p) (upd H1 p (.lst xs))
theorem pe_lst (h:PA X es t):PE X (.List es pos) (tLst t):=by
 intro pins s σ H Q I hq
 refine wpAny_List_spliced (thn (h pos pins s σ H _ I hq) fun us s1 ⟨xs,H1,I1,r,z,q⟩=>⟨by rw [← r.length];exact z,?_⟩)
 have hf:H1 s1.heap.objs.size=none:=I1.hok.fresh (Nat.le_refl _)
 refine⟨.ref s1.heap.objs.size,upd H1 s1.heap.objs.size (.lst xs),I1.laid (t':=s1.toks) (fun b u e=>Heap.get?_push_of_some _ e) (Nat.le_refl _) ?_,rfl,q _ hf⟩
 exact⟨z,us,0,r,Heap.get?_push_size _ rfl⟩
end
abbrev Sp:=List V->Hp->VK->XK->Prop
abbrev CXT:=List Env->Hp->Shared->XK->Value->Shared->Prop
structure Env0 (P:Program) (w:World) (K:PySem.W.Frag) (mg:Str->Option Value) (base:Heap) (A:Around) (outer:List Env) (s:Shared) (H:Hp):Prop where
 frames:A.frames=some outer
 mod:Mod K mg base
 bs:∀b o,base.get? b=some o->s.heap.get? b=some o∧H b=none
 bsz:base.objs.size<=s.heap.objs.size
 funs:s.heap.FunFrames base outer
 frf:∀b∈frs outer,H b=none
 hok:HOk P w H s.heap
 bare:AllBare s.gens
def CE (outer:List Env) (P:Program) (w:World) (H:Hp) (s:Shared) (Q:VK) (u:Value) (s':Shared):Prop:=
 ∃v H',s'.os=s.os∧AllBare s'.gens∧Un (frs outer) [] H H' s.heap s'.heap∧HOk P w H' s'.heap∧RelV v u∧Q v H'
def CR (CX:CXT) (outer:List Env) (P:Program) (w:World) (H:Hp) (s:Shared) (Q:VK) (E:XK) (r:Result) (s':Shared):Prop:=
 match r with
 | .ok (.ret u)=>CE outer P w H s Q u s'
 | .ok _=>False
 | .error e=>CX outer H s E e s'
structure FnOk (P:Program) (w:World) (K:PySem.W.Frag) (mg:Str->Option Value) (base:Heap) (CX:CXT) (k:Nat) (f:Addr) (fd:FuncData) (ps:List Str) (sp:Sp):Prop where
 len:∀vs H Q E,sp vs H Q E->vs.length=ps.length
 run:∀(A:Around) (outer:List Env) (s:Shared) (H:Hp) (args:Args) (us:List Value) (vs:List V) (Q:VK) (E:XK),Room k A->Env0 P w K mg base A outer s H->BindsTo s fd args (ps.zip us)->Vals vs us->sp vs H Q E->
  codeAny (model P w) A (.call (.ref f) args) (CR CX outer P w H s Q E) s
theorem FnOk.mono {P:Program} {w:World} {K:PySem.W.Frag} {mg:Str->Option Value} {base:Heap} {CX:CXT} {j k:Nat} {f:Addr} {fd:FuncData} {ps:List Str} {sp:Sp} (F:FnOk P w K mg base CX j f fd ps sp) (h:j<=k):
  FnOk P w K mg base CX k f fd ps sp:=⟨F.len,fun A outer s H args us vs Q E hr=>F.run A outer s H args us vs Q E (hr.mono h)⟩
theorem Env0.make {P:Program} {w:World} {K:PySem.W.Frag} {mg:Str->Option Value} {base:Heap} {A:Around} {outer:List Env} {s:Shared} {H:Hp} (e:Env0 P w K mg base A outer s H) (C:Addr) (us:List Value) (kw:List (Str×Value)):
  Env0 P w K mg base (A.under (.builtin "type.__call__" ⟨.ref C :: us,kw⟩)) outer s H:=⟨by first | exact e.frames | (simpa [Around.under,Code.envs,Code.isFrame,pushEnvs] using e.frames),e.mod,e.bs,e.bsz,e.funs,e.frf,e.hok,e.bare⟩
section
variable {X:Cx} {pins:List (Addr×Obj)} {σ:St} {H:Hp} {s s':Shared}
theorem Inv.env0 (I:Inv X pins σ H s):Env0 X.prog X.w X.K X.mg X.base X.A X.stack s H:=
 ⟨I.ok.frames,I.ok.mod,I.bs,Nat.le_trans I.ok.bsz I.sz,I.stack,I.stkFree,I.hok,I.bare⟩
theorem Inv.after {Q:VK} {u:Value} (I:Inv X pins σ H s) (h:CE X.stack X.prog X.w H s Q u s'):EP X pins σ Q u s':=by
 obtain⟨v,H',os,bare,un,hok,r,q⟩:=h
 obtain⟨hh,g,d,t,os'⟩:=s'
 obtain rfl:os'=s.os:=os
 exact⟨v,H',I.call (h':=hh) (g':=g) (d':=d) (t':=t) (ch:=[]) un hok bare (fun b z=>absurd z (by simp)),r,q⟩
end
def tCall (sp:Sp) (dvs:List V) (E:XK) (t:TA):TE:=fun σ H Q=>t σ H fun vs H1=>sp (vs++dvs) H1 Q E
def tMeth (C:Addr) (m:Str) (sp:Sp) (dvs:List V) (E:XK) (ta:TE) (t:TA):TE:=fun σ H Q=>ta σ H fun x H1=>∃a dx fs,x=.ref a∧H1 a=some (.ins C dx fs)∧fs.lookup m=none∧
 t σ H1 fun vs H2=>sp (x :: (vs++dvs)) H2 Q E
def tMake (C:Addr) (sp:Sp) (dvs:List V) (E:XK) (t:TA):TE:=fun σ H Q=>t σ H fun vs H1=>∀x dx,H1 x=none->H1 dx=none->dx≠x->
 sp (.ref x :: (vs++dvs)) (upd (upd H1 dx (.own x)) x (.ins C dx [])) (fun v H2=>v=.non∧Q (.ref x) H2) E
def Binds (K:PySem.W.Frag) (fd:FuncData) (ps:List Str) (ds:List Value):Prop:=
 ∀(s:Shared) (us:List Value),K.In s.heap->(us++ds).length=ps.length->BindsTo s fd ⟨us,[]⟩ (ps.zip (us++ds))
theorem Binds.all {K:PySem.W.Frag} {fd:FuncData} {ps:List Str} (h:∀us:List Value,us.length=ps.length->bindArgs fd ⟨us,[]⟩=pure (ps.zip us)):Binds K fd ps []:=fun s us _ hl=>by
 rw [List.append_nil] at hl ⊢
 exact .of_eq (h us hl)
def Passes (CX:CXT) (X:Cx) (E:XK):Prop:=∀(pins:List (Addr×Obj)) (σ:St) (H:Hp) (s:Shared) (e:Value) (s':Shared),Inv X pins σ H s->CX X.stack H s E e s'->X.xe e s'
section
variable {X:Cx} {CX:CXT} {k:Nat} {f C:Addr} {fd:FuncData} {ps:List Str} {sp:Sp} {dvs:List V} {ds:List Value} {E:XK} {x m:Str} {p pos apos:Pos} {e o:Expr} {es:List Expr} {ta:TE} {t:TA}
theorem run_fn {pins:List (Addr×Obj)} {σ:St} {H:Hp} {s:Shared} {Q:VK} {us:List Value} {vs:List V} (F:FnOk X.prog X.w X.K X.mg X.base CX k f fd ps sp) (hr:Room k X.A) (hb:Binds X.K fd ps ds) (hd:Vals dvs ds) (hx:Passes CX X E)
  (I:Inv X pins σ H s) (r:Vals vs us) (h:sp (vs++dvs) H Q E):wpAny (model X.prog X.w) X.A (call (.ref f) us) (EP X pins σ Q) X.xe s:=by
 have r2:Vals (vs++dvs) (us++ds):=r.append hd
 have hl:(us++ds).length=ps.length:=by rw [← r2.length];exact F.len _ _ _ _ h
 refine wpAny_call (codeAny_mono (F.run X.A X.stack s H ⟨us,[]⟩ (us++ds) (vs++dvs) Q E hr I.env0 (hb s us I.kIn hl) r2 h) fun r s' hq=>?_)
 cases r with
 | error e=>exact hx pins σ H s e s' I hq
 | ok fl=>
  cases fl with
  | ret u=>exact I.after hq
  | next=>exact False.elim hq
  | brk=>exact False.elim hq
  | cont=>exact False.elim hq
theorem pe_call (F:FnOk X.prog X.w X.K X.mg X.base CX k f fd ps sp) (hr:Room k X.A) (hg:Gl X x) (hm:X.mg x=some (.ref f)) (hk:PySem.W.keepIn X.K (.ref f)=true) (hb:Binds X.K fd ps ds) (hd:Vals dvs ds) (hx:Passes CX X E)
  (ha:PA X (e :: es) t) (hdb:(x == ("__debug__" : Str))=false:=by decide) (he:starEach (e :: es) X.env=(false,eval e X.env) :: starEach es X.env:=by rfl) (hpl:(backTo pos (starEach es X.env)).any (·.1)=false:=by rfl):
  PE X (.Call (.Name x p) (e :: es) [] pos) (tCall sp dvs E t):=by
 intro pins s σ H Q I h
 refine wpAny_Call_Name_kw (ld_glob I hg hm ?_ hdb)
 refine PySem.W.callWith_K (h₀:=X.base) I.ok.mod.kin hk (thn (ha pos pins s σ H _ I h) fun us s1 ⟨vs,H1,I1,r,q⟩=>⟨I1.kIn,?_⟩) he hpl
 exact run_fn F hr hb hd hx I1 r q
theorem pe_meth {pl:Sem Bool} (he:PE X o ta) (c:Cls X.K C) (hm:Meth X.K C m f) (F:FnOk X.prog X.w X.K X.mg X.base CX k f fd ps sp) (hr:Room k X.A) (hb:Binds X.K fd ps ds) (hd:Vals dvs ds) (hx:Passes CX X E) (ha:PA X (e :: es) t)
  (hst:starEach (e :: es) X.env=(false,eval e X.env) :: starEach es X.env:=by rfl) (hpl:(backTo pos (starEach es X.env)).any (·.1)=false:=by rfl)
  (ht:eval (.Call (.Attribute o m apos) (e :: es) [] pos) X.env=(do
   let ov ← eval o X.env
   standAt apos.atName
   let (f,first) ← holding [ov] (getMethod ov m pl)
   callWith pos f first (backTo pos (starEach (e :: es) X.env)) (backToKw pos (keywordEach [] X.env))):=by rfl):
  PE X (.Call (.Attribute o m apos) (e :: es) [] pos) (tMeth C m sp dvs E ta t):=by
 intro pins s σ H Q I h
 refine PySem.W.methodCall_KW (pl:=pl) (thn (he pins s σ H _ I h) fun u s1 ⟨x,H1,I1,rx,a,dx,fs,ex,ea,l,q⟩=>?_) ht
 subst ex
 obtain rfl:u=Value.ref a:=rx
 refine getmeth_ok I1 ea c hm l ?_
 refine PySem.W.callWith_K (first:=[.ref a]) (h₀:=X.base) I.ok.mod.kin hm.kp (thn (ha pos pins s1 σ H1 _ I1 q) fun us s2 ⟨vs,H2,I2,r,q2⟩=>⟨I2.kIn,?_⟩) hst hpl
 exact run_fn (us:=.ref a :: us) (vs:=.ref a :: vs) F hr hb hd hx I2 (.cons rfl r) q2
structure Mk (K:PySem.W.Frag) (C f:Addr):Prop where
 makes:PySem.W.makesIn K C=true
 init:PySem.W.findIn K (.ref C) "__init__" = some (some (.ref f))
 fn:PySem.W.isFn K (.ref f)=true
 kp:PySem.W.keepIn K (.ref C)=true
theorem run_make {pins:List (Addr×Obj)} {σ:St} {H:Hp} {s:Shared} {Q:VK} {us:List Value} {vs:List V} (M:Mk X.K C f) (F:FnOk X.prog X.w X.K X.mg X.base CX k f fd ps sp) (hr:Room (k+1) X.A) (hb:Binds X.K fd ps ds) (hd:Vals dvs ds)
  (hx:Passes CX X E) (I:Inv X pins σ H s) (r:Vals vs us)
  (h:∀x dx,H x=none->H dx=none->dx≠x->sp (.ref x :: (vs++dvs)) (upd (upd H dx (.own x)) x (.ins C dx [])) (fun v H2=>v=.non∧Q (.ref x) H2) E):
  wpAny (model X.prog X.w) X.A (call (.ref C) us) (EP X pins σ Q) X.xe s:=by
 have hq:=h (s.heap.objs.size+1) s.heap.objs.size (I.hok.fresh (Nat.le_succ _)) (I.hok.fresh (Nat.le_refl _)) (Nat.ne_of_lt (Nat.lt_succ_self _))
 have I2:=Inv.made (C:=C) I
 have r2:Vals (V.ref (s.heap.objs.size+1) :: (vs++dvs)) (Value.ref (s.heap.objs.size+1) :: (us++ds)):=.cons rfl (r.append hd)
 have hl:(Value.ref (s.heap.objs.size+1) :: us++ds).length=ps.length:=by
  have e:=r2.length
  rw [F.len _ _ _ _ hq] at e
  exact e.symm
 refine wpAny_call (make_map (f:=f) I.kIn M.makes M.init (beq_iff_eq.mp M.fn) (codeAny_mono (F.run _ X.stack _ _ ⟨Value.ref (s.heap.objs.size+1) :: us,[]⟩ (Value.ref (s.heap.objs.size+1) :: (us++ds)) _ _ E (hr.make C us [])
  (I2.env0.make C us []) (hb _ (Value.ref (s.heap.objs.size+1) :: us) I2.kIn hl) r2 hq) fun r s' hq'=>?_))
 cases r with
 | error e=>exact hx pins σ _ _ e s' I2 hq'
 | ok fl=>
  cases fl with
  | ret u=>
   obtain⟨v,H',I3,rv,ev,q3⟩:=I2.after hq'
   subst ev
   exact⟨rv,⟨V.ref (s.heap.objs.size+1),H',I3,rfl,q3⟩⟩
  | next=>exact False.elim hq'
  | brk=>exact False.elim hq'
  | cont=>exact False.elim hq'
theorem pe_make (M:Mk X.K C f) (F:FnOk X.prog X.w X.K X.mg X.base CX k f fd ps sp) (hr:Room (k+1) X.A) (hg:Gl X x) (hm:X.mg x=some (.ref C)) (hb:Binds X.K fd ps ds) (hd:Vals dvs ds) (hx:Passes CX X E)
  (ha:PA X (e :: es) t) (hdb:(x == ("__debug__" : Str))=false:=by decide) (he:starEach (e :: es) X.env=(false,eval e X.env) :: starEach es X.env:=by rfl) (hpl:(backTo pos (starEach es X.env)).any (·.1)=false:=by rfl):
  PE X (.Call (.Name x p) (e :: es) [] pos) (tMake C sp dvs E t):=by
 intro pins s σ H Q I h
 refine wpAny_Call_Name_kw (ld_glob I hg hm ?_ hdb)
 refine PySem.W.callWith_K (h₀:=X.base) I.ok.mod.kin M.kp (thn (ha pos pins s σ H _ I h) fun us s1 ⟨vs,H1,I1,r,q⟩=>⟨I1.kIn,?_⟩) he hpl
 exact run_make M F hr hb hd hx I1 r q
end
def PK (X:Cx) (kws:List Keyword) (t:TA):Prop:=
 ∀(pos:Pos) (pins:List (Addr×Obj)) (s:Shared) (σ:St) (H:Hp) (Q:List V->Hp->Prop),Inv X pins σ H s->t σ H Q->wpAny (model X.prog X.w) X.A (evalAll ((backToKw pos (keywordEach kws X.env)).map (·.2))) (AP X pins σ Q) X.xe s
section
variable {X:Cx} {CX:CXT} {k:Nat} {f C:Addr} {fd:FuncData} {ps ks:List Str} {sp:Sp} {E:XK} {x m:Str} {p pos apos kpos:Pos} {e o:Expr} {es:List Expr} {kws:List Keyword} {te ta:TE} {t tk:TA} {nm:Option Str}
theorem pk_nil:PK X [] tNil:=fun _ _ _ _ H Q I h=>wpAny_evalAll_nil ⟨[],H,I,.nil,h⟩
theorem pk_cons (ha:PE X e te) (hr:PK X kws t):PK X (⟨nm,e,kpos⟩ :: kws) (tCons te t):=by
 intro pos pins s σ H Q I h
 show wpAny _ _ (evalAll ((do let v ← eval e X.env;standAt pos;pure v) :: (backToKw pos (keywordEach kws X.env)).map (·.2))) _ _ s
 refine wpAny_evalAll_cons (wpAny_bind (thn (ha pins s σ H _ I h) fun u s1 ⟨x,H1,I1,r1,q1⟩=>wpAny_bind (wpAny_standAt (wpAny_pure ?_))))
 exact thn (hr pos pins s1 σ H1 _ I1 q1) fun us s2 ⟨xs,H2,I2,r2,q2⟩=>⟨x :: xs,H2,I2,.cons r1 r2,q2⟩
variable {g:List Value->List Value->List Value} {gV:List V->List V->List V}
end
structure FnScope (N P:List Str) (sc:Scope):Prop where
 kind:sc.kind=.function
 co:sc.isCoroutine=false
 gen:sc.isGenerator=false
 nd:N.Nodup
 pre:N.take P.length=P
 par:∀x∈P,sc.names.lookup x=some .local∨sc.names.lookup x=some .cell
 nofree:∀y∈sc.names,y.2≠.free
theorem bindL_out {kindOf:Str->Option NameKind} {x:Str}:∀{binds:List (Str×Value)} {m:Str->Option Value},(∀v,(x,v)∉binds)->bindL kindOf binds m x=m x
 | [],_,_=>rfl
 |(n,v) :: r,m,h=>by
  unfold bindL
  rw [bindL_out fun w hw=>h w (List.mem_cons_of_mem _ hw)]
  split
  ·have:x≠n:=by rintro rfl;exact h v List.mem_cons_self
   simp [this]
  ·rfl
theorem bindC_out {kindOf:Str->Option NameKind} {x:Str}:∀{binds:List (Str×Value)} {m:Str->Option Value},(∀v,(x,v)∉binds)->bindC kindOf binds m x=m x
 | [],_,_=>rfl
 |(n,v) :: r,m,h=>by
  unfold bindC
  rw [bindC_out fun w hw=>h w (List.mem_cons_of_mem _ hw)]
  split
  ·rfl
  ·have:x≠n:=by rintro rfl;exact h v List.mem_cons_self
   simp [this]
theorem bindL_get {kindOf:Str->Option NameKind} {x:Str} {v:Value}:∀{P:List Str} {vs:List Value} {i:Nat} {m:Str->Option Value},P.Nodup->P[i]?=some x->vs[i]?=some v->kindOf x=some .local->
  bindL kindOf (P.zip vs) m x=some v
 | [],_,_,_,_,h,_,_=>by simp at h
 | _ :: _,[],_,_,_,_,h,_=>by simp at h
 | p :: P,w :: vs,0,m,nd,h1,h2,hk=>by
  simp at h1 h2;subst h1;subst h2
  show bindL kindOf ((p,w) :: P.zip vs) m p=_
  unfold bindL
  rw [bindL_out fun v hv=>(List.nodup_cons.mp nd).1 (List.of_mem_zip hv).1,if_pos hk]
  simp
 | p :: P,w :: vs,i+1,m,nd,h1,h2,hk=>by
  show bindL kindOf ((p,w) :: P.zip vs) m x=_
  unfold bindL
  exact bindL_get (i:=i) (List.nodup_cons.mp nd).2 (by simpa using h1) (by simpa using h2) hk
theorem bindC_get {kindOf:Str->Option NameKind} {x:Str} {v:Value}:∀{P:List Str} {vs:List Value} {i:Nat} {m:Str->Option Value},P.Nodup->P[i]?=some x->vs[i]?=some v->kindOf x≠some .local->
  bindC kindOf (P.zip vs) m x=some v
 | [],_,_,_,_,h,_,_=>by simp at h
 | _ :: _,[],_,_,_,_,h,_=>by simp at h
 | p :: P,w :: vs,0,m,nd,h1,h2,hk=>by
  simp at h1 h2;subst h1;subst h2
  show bindC kindOf ((p,w) :: P.zip vs) m p=_
  unfold bindC
  rw [bindC_out fun v hv=>(List.nodup_cons.mp nd).1 (List.of_mem_zip hv).1,if_neg hk]
  simp
 | p :: P,w :: vs,i+1,m,nd,h1,h2,hk=>by
  show bindC kindOf ((p,w) :: P.zip vs) m x=_
  unfold bindC
  exact bindC_get (i:=i) (List.nodup_cons.mp nd).2 (by simpa using h1) (by simpa using h2) hk
def start (N:List Str) (vs:List V):St:=vs.map some++List.replicate (N.length - vs.length) none
def cxOf (CX:CXT) (P:Program) (w:World) (K:PySem.W.Frag) (mg:Str->Option Value) (base:Heap) (N:List Str) (qual:Str) (scope:Scope) (f:Addr) (cd:Value) (A:Around) (outer:List Env) (s:Shared) (H:Hp) (E:XK):Cx where
 prog:=P
 w:=w
 K:=K
 mg:=mg
 base:=base
 A:=A.deeper (envOfC qual scope s.heap.objs.size f cd)
 N:=N
 s₀:=s
 H₀:=H
 env:=envOfC qual scope s.heap.objs.size f cd
 outer:=outer
 stack:=envOfC qual scope s.heap.objs.size f cd :: outer
 ex:=[]
 calm:=true
 fn:=fun _=>true
 pn:=[]
 xe:=fun e s'=>wpAny (model P w) (A.deeper (envOfC qual scope s.heap.objs.size f cd)) (leaving (envOfC qual scope s.heap.objs.size f cd) e) (fun _ s''=>CX outer H s E e s'') (fun e' s''=>CX outer H s E e' s'') s'
theorem cell_has {sc:Scope} {n:Nat} {x:Str} (h:sc.names.lookup x=some .cell):∃c,(cellsFrom n sc.names []).lookup x=some c:=by
 have q:=PySem.W.cellsFrom_some sc.names n [] (.inl h)
 exact Option.isSome_iff_exists.mp q
theorem inv_start {CX:CXT} {P:Program} {w:World} {K:PySem.W.Frag} {mg:Str->Option Value} {base:Heap} {N ps:List Str} {qual:Str} {scope:Scope} {f:Addr} {cd:Value} {A:Around} {outer:List Env} {s s1:Shared} {H:Hp} {E:XK} {us:List Value} {vs:List V}
  (S:FnScope N ps scope) (hd:A.handled=none) (e0:Env0 P w K mg base A outer s H) (hl:vs.length=ps.length) (r:Vals vs us)
  (x:InCallC s s.heap.objs.size (bindL (envOfC qual scope s.heap.objs.size f cd).kindOf (ps.zip us) fun _=>none) (cellsFrom (s.heap.objs.size+1) scope.names []) (bindC (envOfC qual scope s.heap.objs.size f cd).kindOf (ps.zip us) fun _=>none) s1):
  Inv (cxOf CX P w K mg base N qual scope f cd A outer s H E) [] (start N vs) H s1:=by
 have hpl:ps.length<=N.length:=by have:=congrArg List.length S.pre;rw [List.length_take] at this;omega
 obtain⟨h1,tk,rfl,hk⟩:=x.done
 have noA:∀b:Addr,b∉(cxOf CX P w K mg base N qual scope f cd A outer s H E).ex:=fun b z=>absurd (show b∈([]:List Addr) from z) (by simp)
 refine⟨⟨e0.mod,S.kind,rfl,rfl,Nat.le_refl _,fun y z c h1 h2=>?_,fun y hy=>?_,fun y c _ h=>?_,fun _=>hd,Around.frames_deeper e0.frames,.inr ⟨rfl,rfl⟩,fun b z=>absurd z (noA b),e0.bs,e0.bsz,fun b _ _=>noA b,fun b z=>absurd z (noA b),e0.funs,e0.frf⟩,
  rfl,e0.bare,Un.kept hk,⟨_,x.toInCall.ns,fun i y v h1 h2 h3=>?_⟩,fun y c h=>⟨_,x.cell y c h⟩,e0.hok.fresh (Nat.le_refl _),fun y c h=>?_,fun p hp=>absurd (show p∈([]:List (Addr×Obj)) from hp) (by simp),e0.hok.kept hk,?_⟩
 ·exact name_of_addr x.apart (PySem.mem_of_lookup h1) (PySem.mem_of_lookup h2)
 ·have hy:scope.names.lookup y=some .cell∨scope.names.lookup y=some .free:=hy
  rcases hy with hy | hy
  ·exact cell_has hy
  ·exact absurd rfl (S.nofree _ (PySem.mem_of_lookup hy))
 ·exact Nat.le_of_lt (x.above y c (PySem.mem_of_lookup h))
 ·have hi:i < vs.length:=by
   unfold start at h2
   by_cases hi:i < vs.length
   ·exact hi
   ·rw [List.getElem?_append_right (by simpa using hi)] at h2
    rw [List.getElem?_replicate] at h2
    split at h2 <;> cases h2
  have ha:vs[i]?=some v:=by
   unfold start at h2
   rw [List.getElem?_append_left (by simpa using hi),List.getElem?_map] at h2
   cases e:vs[i]? with
   | none=>rw [e] at h2;cases h2
   | some a=>rw [e] at h2;cases h2;rfl
  obtain⟨u,hu,rv⟩:=r.get ha
  have hp:ps[i]?=some y:=by
   rw [← S.pre,List.getElem?_take_of_lt (by omega)];exact h1
  have ndP:ps.Nodup:=by rw [← S.pre];exact S.nd.sublist (List.take_sublist _ _)
  refine⟨u,rv,?_⟩
  rcases S.par y (List.mem_of_getElem? hp) with k | k
  ·exact .inl ⟨k,bindL_get ndP hp hu k⟩
  ·obtain⟨c,e⟩:=cell_has (n:=s.heap.objs.size+1) k
   refine .inr ⟨.inl k,c,e,?_⟩
   have q:=x.cell y c e
   rw [bindC_get ndP hp hu (by show scope.names.lookup y≠_;rw [k];decide)] at q
   exact q
 ·exact e0.hok.fresh (Nat.le_of_lt (x.above y c (PySem.mem_of_lookup h)))
 ·unfold start
  show _=N.length
  rw [List.length_append,List.length_map,List.length_replicate]
  omega
theorem fn_of {CX:CXT} {P:Program} {w:World} {K:PySem.W.Frag} {mg:Str->Option Value} {base:Heap} {k:Nat} {f:Addr} {name qual:Str} {params:Arguments} {body:List Stmt} {scope:Scope} {dV kV doc pm cdv ct oc:Value} {an od:Option Addr}
  {osl:Array (Option Value)} {N ps:List Str} {sp:Sp} (lk:K.lookup f=some ⟨oc,od,.func (PySem.W.fnOf name qual params body scope dV kV doc pm an cdv ct),osl⟩) (hcd:PySem.W.codeIn K cdv qual=true) (S:FnScope N ps scope)
  (len:∀vs H Q E,sp vs H Q E->vs.length=ps.length)
  (hbody:∀(A:Around) (outer:List Env) (s:Shared) (H:Hp) (vs:List V) (Q:VK) (E:XK),Room k (A.deeper (envOfC qual scope s.heap.objs.size f cdv))->sp vs H Q E->
   ∃t,PSs (cxOf CX P w K mg base N qual scope f cdv A outer s H E) body t∧t { nx:=fun _ H'=>Q .non H',rt:=Q } (start N vs) H):
  FnOk P w K mg base CX (k+1) f (PySem.W.fnOf name qual params body scope dV kV doc pm an cdv ct) ps sp:=by
 refine⟨len,fun A outer s H args us vs Q E hr e0 hb r hsp=>?_⟩
 have hl:=len _ _ _ _ hsp
 have KX:K.In s.heap:=e0.mod.kin.keeps fun b o e=>(e0.bs b o e).1
 have lim:s.heap.NoLimit:=e0.mod.nolimit.keeps fun b o e=>(e0.bs b o e).1
 have hkind:∀y∈ps.zip us,scope.names.lookup y.1=some .local∨(scope.names.lookup y.1=some .cell∧((cellsFrom (s.heap.objs.size+1) scope.names []).lookup y.1).isSome=true):=fun ⟨n,v⟩ hy=>by
  rcases S.par n (List.of_mem_zip hy).1 with q | q
  ·exact .inl q
  ·exact .inr ⟨q,PySem.W.cellsFrom_some _ _ _ (.inl q)⟩
 refine codeAny_call_function hr.depth (KX _ _ lk) rfl S.co S.gen rfl (PySem.W.codeRec_of KX hcd) (hb _ _ _ _ ?_)
 refine wpAny_newFunctionEnv_cells S.kind hkind fun env he s1 x=>?_
 subst he
 refine⟨lim.keeps x.toInCall.keep,codeAny_func ?_⟩
 obtain⟨t,ht,hq⟩:=hbody A outer s H vs Q E (hr.deeper _) hsp
 have I:Inv (cxOf CX P w K mg base N qual scope f cdv A outer s H E) [] (start N vs) H s1:=inv_start S hr.hd e0 hl r x
 refine wpAny_mono (ht [] s1 (start N vs) H _ I hq) (fun fl s' hs=>?_) fun e s' hs=>hs
 have fin:∀{σ':St} {H':Hp} {v:V} {u:Value},Inv (cxOf CX P w K mg base N qual scope f cdv A outer s H E) [] σ' H' s'->RelV v u->Q v H'->CE outer P w H s Q u s':=
  fun {σ' H' v u} J rv q=>⟨v,H',J.os,J.bare,J.base,J.hok,rv,q⟩
 cases fl with
 | ret u=>
  obtain⟨v,σ',H',J,rv,q⟩:=hs
  exact fin J rv q
 | next=>
  obtain⟨σ',H',J,q⟩:=hs
  exact fin (v:=V.non) (u:=Value.none) J rfl q
 | brk=>
  obtain⟨_,_,_,q⟩:=hs
  exact False.elim q
 | cont=>
  obtain⟨_,_,_,q⟩:=hs
  exact False.elim q
end L2
namespace L2
open PySem PySem.Spec PyProof.Rows
section
variable {X:Cx} {x:Str} {p pos:Pos} {e:Expr} {es:List Expr} {t:TA} {id T:String} {r:List V->Hp->VK->Prop}
def tCB (r:List V->Hp->VK->Prop) (t:TA):TE:=fun σ H Q=>t σ H fun vs H1=>r vs H1 Q
theorem pe_callB (hc:CallR X (.builtin id) r) (hg:Gl X x) (hm:X.mg x=none) (hv:bootBuiltins x=some (.builtin id)) (ha:PA X (e :: es) t) (hn:x ≠ "__name__" := by decide) (hdb:(x == ("__debug__" : Str))=false:=by decide)
  (he:starEach (e :: es) X.env=(false,eval e X.env) :: starEach es X.env:=by rfl) (hpl:(backTo pos (starEach es X.env)).any (·.1)=false:=by rfl):PE X (.Call (.Name x p) (e :: es) [] pos) (tCB r t):=by
 intro pins s σ H Q I h
 refine wpAny_Call_Name_kw (ld_blt I hg hm hv ?_ hn hdb)
 exact PyProof.Rows.callWith_builtin1 (thn (ha pos pins s σ H _ I h) fun us s1 ⟨vs,H1,I1,r1,q1⟩=>hc pins s1 σ H1 vs us Q I1 r1 q1) he hpl
theorem pe_callTy (hc:CallR X (.type T) r) (hg:Gl X x) (hm:X.mg x=none) (hv:bootBuiltins x=some (.type T)) (ha:PA X (e :: es) t) (hn:x ≠ "__name__" := by decide) (hdb:(x == ("__debug__" : Str))=false:=by decide)
  (he:starEach (e :: es) X.env=(false,eval e X.env) :: starEach es X.env:=by rfl) (hpl:(backTo pos (starEach es X.env)).any (·.1)=false:=by rfl):PE X (.Call (.Name x p) (e :: es) [] pos) (tCB r t):=by
 intro pins s σ H Q I h
 refine wpAny_Call_Name_kw (ld_blt I hg hm hv ?_ hn hdb)
 exact PyProof.Rows.callWith_type1 (thn (ha pos pins s σ H _ I h) fun us s1 ⟨vs,H1,I1,r1,q1⟩=>hc pins s1 σ H1 vs us Q I1 r1 q1) he hpl
end
end L2
namespace HT
open PySem PyProof.Rows
section
open PySem.SeqAt
open PySem.AutoSeq1 (wpAny_loadPart')
open PySem.MeetsSeq PySem.MeetsSeq2 PySem.MeetsSeq3
end
section
variable {prog:Program} {w:World} {A:Around} {E:Value->Shared->Prop} {s:Shared}
def sIx (n d:Nat):Option Int->Nat
 | none=>d
 | some v=>if v < 0 then (v+(n:Int)).toNat else min v.toNat n
theorem sIx_none (n d:Nat):sIx n d none=d:=rfl
theorem sIx_nat (n d k:Nat):sIx n d (some (k:Int))=min k n:=by
 show (if (k:Int) < 0 then ((k:Int)+(n:Int)).toNat else min (k:Int).toNat n)=min k n
 rw [if_neg (by omega),Int.toNat_natCast]
end
end HT
namespace L2
open PySem PySem.Spec PyProof.Rows
abbrev TO:=St->Hp->(Option Int->Hp->Prop)->Prop
def PO (X:Cx) (e:Option Expr) (t:TO):Prop:=
 ∀(pins:List (Addr×Obj)) (s:Shared) (σ:St) (H:Hp) (Q:Option Int->Hp->Prop),Inv X pins σ H s->t σ H Q->
  wpAny (model X.prog X.w) X.A (evalPart e X.env) (fun u s'=>∃o H',Inv X pins σ H' s'∧IsPart u o∧Q o H') X.xe s
def tNoPart:TO:=fun _ H Q=>Q none H
def tPart (t:TE):TO:=fun σ H Q=>t σ H fun x H1=>∃i,x=.int i∧Q (some i) H1
section
variable {X:Cx} {e:Expr} {te:TE} {lo hi:Option Expr} {tl th:TO} {pos p2:Pos}
theorem po_none:PO X none tNoPart:=by
 intro pins s σ H Q I h
 rw [evalPart_none]
 exact wpAny_pure ⟨none,H,I,.none,h⟩
theorem po_some (h:PE X e te):PO X (some e) (tPart te):=by
 intro pins s σ H Q I hw
 rw [evalPart_some]
 refine thn (h pins s σ H _ I hw) fun u s1 ⟨x,H1,I1,r1,q1⟩=>?_
 obtain⟨i,rfl,q⟩:=q1
 obtain⟨t,rfl⟩:=r1
 exact⟨some i,H1,I1,.int i t,q⟩
def SlR (X:Cx) (r:V->Option Int->Option Int->Hp->VK->Prop):Prop:=
 ∀(pins:List (Addr×Obj)) (s:Shared) (σ:St) (H:Hp) (x:V) (v vl vu:Value) (lo hi:Option Int) (sl:Addr) (Q:VK),Inv X pins σ H s->RelV x v->s.heap.IsSliceOf sl vl vu .none->IsPart vl lo->IsPart vu hi->r x lo hi H Q->
  ∃T id,typeLookup (.type T) "__getitem__" = pure (some (.builtin id))∧s.TypeIs v T∧wpAny (model X.prog X.w) X.A (getItem v (.ref sl)) (EP X pins σ Q) X.xe s
def tSl (r:V->Option Int->Option Int->Hp->VK->Prop) (te:TE) (tl th:TO):TE:=fun σ H Q=>te σ H fun x H1=>tl σ H1 fun l H2=>th σ H2 fun u H3=>r x l u H3 Q
theorem pe_slice {r:V->Option Int->Option Int->Hp->VK->Prop} (hr:SlR X r) (he:PE X e te) (hl:PO X lo tl) (hu:PO X hi th):PE X (.Subscript e (.Slice lo hi none p2) pos) (tSl r te tl th):=by
 intro pins s σ H Q I h
 refine Subscript_ (thn (he pins s σ H _ I h) fun v s1 ⟨x,H1,I1,r1,q1⟩=>?_)
 refine wpAny_Slice (thn (hl pins s1 σ H1 _ I1 q1) fun vl s2 ⟨l,H2,I2,pl,q2⟩=>thn (hu pins s2 σ H2 _ I2 q2) fun vu s3 ⟨u,H3,I3,pu,q3⟩=>?_)
 rw [evalPart_none]
 refine wpAny_pure ?_
 have I4:Inv X pins σ H3 { s3 with heap:=s3.heap.push { cls:=.type "slice",data:=.fields #[vl,vu,.none] } }:=I3.kept (t':=s3.toks) fun b ob q=>Heap.get?_push_of_some _ q
 obtain⟨T,id,hT,ht,hg⟩:=hr pins { s3 with heap:=s3.heap.push { cls:=.type "slice",data:=.fields #[vl,vu,.none] } } σ H3 x v vl vu l u s3.heap.objs.size Q I4 r1 (Heap.IsSliceOf.new ..) pl pu q3
 show wpAny (model X.prog X.w) X.A (subscriptTail e (.Slice lo hi none p2) v (.ref s3.heap.objs.size)) (EP X pins σ Q) X.xe { s3 with heap:=s3.heap.push { cls:=.type "slice",data:=.fields #[vl,vu,.none] } }
 exact tail_any (ops:=[.ref s3.heap.objs.size,v]) ht hT hg (by with_unfolding_all rfl)
def cutV (xs:List V) (lo hi:Option Int):List V:=(xs.drop (HT.sIx xs.length 0 lo)).take (HT.sIx xs.length xs.length hi - HT.sIx xs.length 0 lo)
theorem cutV_length (xs:List V) (lo hi:Option Int):(cutV xs lo hi).length<=xs.length:=by
 unfold cutV
 rw [List.length_take,List.length_drop]
 omega
end
end L2
namespace L2
open PySem PySem.Spec PyProof.Rows
def ixN (n:Nat) (i:Int):Option Nat:=if 0<=i then (if i < n then some i.toNat else none) else if -(n:Int)<=i then some (i+n).toNat else none
def atI {α:Type} (xs:List α) (i:Int):Option α:=(ixN xs.length i).bind fun j=>xs[j]?
theorem ixN_seq {n:Nat} {i:Int} {j:Nat} (h:ixN n i=some j):seqIndex? i n=some j∧j < n∧-(n:Int)<=i∧i < n:=by
 unfold ixN at h
 by_cases h0:0<=i
 ·rw [if_pos h0] at h
  by_cases h1:i < n
  ·rw [if_pos h1] at h
   have e:i.toNat=j:=Option.some.inj h
   exact⟨by rw [seqIndex_of h0 h1,e],by omega,by omega,h1⟩
  ·rw [if_neg h1] at h;cases h
 ·rw [if_neg h0] at h
  by_cases h1:-(n:Int)<=i
  ·rw [if_pos h1] at h
   have e:(i+n).toNat=j:=Option.some.inj h
   exact⟨by rw [seqIndex_neg (by omega) h1,e],by omega,h1,by omega⟩
  ·rw [if_neg h1] at h;cases h
theorem atI_get {α:Type} {xs:List α} {i:Int} {v:α} (h:atI xs i=some v):∃j,seqIndex? i xs.length=some j∧xs[j]?=some v∧j < xs.length∧-(xs.length:Int)<=i∧i < xs.length:=by
 unfold atI at h
 cases e:ixN xs.length i with
 | none=>rw [e] at h;cases h
 | some j=>
  rw [e] at h
  obtain⟨h1,h2,h3,h4⟩:=ixN_seq e
  exact⟨j,h1,h,h2,h3,h4⟩
theorem atI_nat {α:Type} {xs:List α} {j:Nat} {v:α} (h:xs[j]?=some v):atI xs (j:Int)=some v:=by
 have hj:j < xs.length:=(List.getElem?_eq_some_iff.mp h).1
 have e:ixN xs.length (j:Int)=some j:=by
  unfold ixN
  rw [if_pos (by omega),if_pos (by omega)];simp
 unfold atI;rw [e];exact h
theorem atI_last {α:Type} (xs:List α) (v:α):atI (xs++[v]) (-1)=some v:=by
 have hl:(xs++[v]).length=xs.length+1:=by simp
 have e:ixN (xs++[v]).length (-1)=some xs.length:=by
  unfold ixN
  rw [hl,if_neg (by decide),if_pos (by omega)]
  congr 1
  omega
 unfold atI
 rw [e]
 show (xs++[v])[xs.length]?=some v
 simp
def PlainIx (b:Expr):Prop:=∀o i,subscripted b false o i=operate [o,i] (getItem o i)
def IxR (X:Cx) (r:R2):Prop:=
 ∀(value slice:Expr) (pins:List (Addr×Obj)) (s:Shared) (σ:St) (H:Hp) (x y:V) (v u:Value) (Q:VK),Inv X pins σ H s->RelV x v->RelV y u->r x y H Q->
  subscripted slice false v u=operate [v,u] (getItem v u)->wpAny (model X.prog X.w) X.A (subscriptTail value slice v u) (EP X pins σ Q) X.xe s
def MtR (X:Cx) (id:String) (r:V->List V->Hp->VK->Prop):Prop:=
 ∀(pins:List (Addr×Obj)) (s:Shared) (σ:St) (H:Hp) (x:V) (xs:List V) (v:Value) (us:List Value) (Q:VK),Inv X pins σ H s->RelV x v->Vals xs us->r x xs H Q->
  wpAny (model X.prog X.w) X.A (call (.builtin id) (v :: us)) (EP X pins σ Q) X.xe s
section
variable {X:Cx} {a b:Expr} {ta tb:TE} {pos:Pos}
theorem pe_ix {r:R2} (hr:IxR X r) (ha:PE X a ta) (hb:PE X b tb) (hs:PlainIx b):PE X (.Subscript a b pos) (tOp r ta tb):=by
 intro pins s σ H Q I h
 exact Subscript_ (binT ha hb I h fun v u s2 x y H2 I2 rx ry q=>hr a b pins s2 σ H2 x y v u Q I2 rx ry q (hs _ _))
def rIxL (K:PySem.W.Frag):R2:=fun x y H Q=>∃p xs i v,x=.ref p∧y=.int i∧SqL K H p xs∧atI xs i=some v∧Q v H
def rIxT (K:PySem.W.Frag):R2:=fun x y H Q=>∃p xs i v,x=.ref p∧y=.int i∧SqT K H p xs∧atI xs i=some v∧Q v H
theorem ix_list:IxR X (rIxL X.K):=by
 intro value slice pins s σ H x y v u Q I rx ry h hs
 obtain⟨p,xs,i,z,rfl,rfl,hq,he,q⟩:=h
 cases rx
 obtain⟨t,rfl⟩:=ry
 obtain⟨its,r,pl,hz⟩:=I.list hq
 obtain⟨j,h1,h2,h3,h4,h5⟩:=atI_get he
 obtain⟨w,ew,rw'⟩:=r.get h2
 have hl:=r.length
 have hn:=line63
 have fin:EP X pins σ Q w s:=⟨z,H,I,rw',q⟩
 by_cases h0:0<=i
 ·have hj:i.toNat=j:=by
   rw [seqIndex_of h0 h5] at h1
   exact Option.some.inj h1
  exact item_listR pl.isList h0 (by omega) (by rw [hj];simpa using ew) fin hs
 ·have hj:(i+(its.toArray.size:Int)).toNat=j:=by
   rw [seqIndex_neg (by omega) h4] at h1
   rw [List.size_toArray,← hl]
   exact Option.some.inj h1
  exact subscriptTail_builtinR (x:=w) pl.isList.typeIs slot_list_getitem.lookup
   (wpAny_getItem_list_neg (Q:=fun r s'=>r=w∧EP X pins σ Q r s') pl.isList (by omega) (by rw [List.size_toArray] <;> omega) (by omega) (by rw [hj];simpa using ew) ⟨rfl,fin⟩) hs
theorem mapSeq_set (its:List Value) (n j:Nat) (u:Value):Obj.mapSeq (·.setIfInBounds j u) { cls:=.type "list",data:=.seq its.toArray n }={ cls:=.type "list",data:=.seq (its.set j u).toArray n }:=by
 simp [Obj.mapSeq]
theorem Inv.lst {pins:List (Addr×Obj)} {σ:St} {H:Hp} {s:Shared} {p:Addr} {xs:List V} (I:Inv X pins σ H s) (h:H p=some (.lst xs)):
  ∃(its:List Value) (n:Nat),Vals xs its∧s.heap.get? p=some { cls:=.type "list",data:=.seq its.toArray n }∧xs.length<=sizeLine:=by
 obtain⟨z,its,n,r,e⟩:=I.hok p _ h
 exact⟨its,n,r,e,z⟩
theorem Inv.lstUpd {pins:List (Addr×Obj)} {σ:St} {H:Hp} {s:Shared} {p:Addr} {xs ys:List V} {its its':List Value} {n n':Nat} {f:Obj->Obj} (I:Inv X pins σ H s) (h:H p=some (.lst xs))
  (ho:s.heap.get? p=some { cls:=.type "list",data:=.seq its.toArray n }) (hf:f { cls:=.type "list",data:=.seq its.toArray n }={ cls:=.type "list",data:=.seq its'.toArray n' }) (r:Vals ys its') (hz:ys.length<=sizeLine) (t:Nat):
  Inv X pins σ (upd H p (.lst ys)) { s with heap:=s.heap.update p f,toks:=t }:=by
 have e:(s.heap.update p f).get? p=some { cls:=.type "list",data:=.seq its'.toArray n' }:=by
  rw [Heap.get?_update_self f ho (by rw [hf] <;> rfl),hf]
 refine I.write (x:=p) (e:=p) (by rw [h];trivial) (.inl rfl) (fun b u hb q=>(Heap.get?_update_other _ _ (Ne.symm hb)).trans q) ⟨_,e⟩ ?_
 exact⟨hz,its',n',r,e⟩
def rSetL:V->V->V->Hp->(Hp->Prop)->Prop:=fun o i v H Q=>∃p xs k j,o=.ref p∧i=.int k∧H p=some (.lst xs)∧ixN xs.length k=some j∧Q (upd H p (.lst (xs.set j v)))
theorem set_list:PSet X rSetL:=by
 intro pins s σ H o i v ov iv u Q I ro ri rv h
 obtain⟨p,xs,k,j,rfl,rfl,hp,hj,q⟩:=h
 cases ro
 obtain⟨t,rfl⟩:=ri
 obtain⟨its,n,r,ho,hz⟩:=I.lst hp
 obtain⟨h1,h2,h3,h4⟩:=ixN_seq hj
 have hl:=r.length
 have hn:=line63
 have I':Inv X pins σ (upd H p (.lst (xs.set j v))) { s with heap:=s.heap.update p (Obj.mapSeq (·.setIfInBounds j u)) }:=
  I.lstUpd hp ho (mapSeq_set its n j u) (r.set rv j) (by rw [List.length_set];exact hz) s.toks
 by_cases h0:0<=k
 ·have hk:k.toNat=j:=by
   rw [seqIndex_of h0 h4] at h1
   exact Option.some.inj h1
  exact PySem.W.ki_setAt ho h0 (by omega) (by rw [List.size_toArray,← hl];exact h4) (by rw [hk];exact⟨_,I',q⟩)
 ·have hk:(k+(its.toArray.size:Int)).toNat=j:=by
   rw [seqIndex_neg (by omega) h3] at h1
   rw [List.size_toArray,← hl]
   exact Option.some.inj h1
  exact PySem.W.ki_setBack ho (by omega) (by rw [List.size_toArray,← hl];exact h3) (by omega) (by rw [hk];exact⟨_,I',q⟩)
theorem slice_bounds (lo hi:Option Int) (n:Nat):(sliceBounds lo hi none n).1=((HT.sIx n 0 lo:Nat):Int)∧(sliceBounds lo hi none n).2.1=((HT.sIx n n hi:Nat):Int)∧(sliceBounds lo hi none n).2.2=1:=by
 refine⟨?_,?_,rfl⟩
 ·cases lo with
  | none=>simp [sliceBounds,HT.sIx]
  | some i=>
   simp only [sliceBounds,HT.sIx,Option.getD_none,show (1:Int) > 0 by decide,if_true]
   by_cases h:i < 0
   ·simp only [h,if_true] <;> omega
   ·simp only [h,if_false] <;> omega
 ·cases hi with
  | none=>simp [sliceBounds,HT.sIx]
  | some i=>
   simp only [sliceBounds,HT.sIx,Option.getD_none,show (1:Int) > 0 by decide,if_true]
   by_cases h:i < 0
   ·simp only [h,if_true] <;> omega
   ·simp only [h,if_false] <;> omega
theorem slicePick_cut (its:List Value) (lo hi:Option Int):slicePick its.toArray lo hi none=((its.drop (HT.sIx its.length 0 lo)).take (HT.sIx its.length its.length hi - HT.sIx its.length 0 lo)).toArray:=by
 obtain⟨h1,h2,h3⟩:=slice_bounds lo hi its.toArray.size
 unfold slicePick
 rw [h1,h2,h3]
 simp only [sliceRange_one,pick_run,List.size_toArray] <;> rfl
def rSlL (K:PySem.W.Frag):V->Option Int->Option Int->Hp->VK->Prop:=fun x lo hi H Q=>∃a xs,x=.ref a∧SqL K H a xs∧∀p,H p=none->Q (.ref p) (upd H p (.lst (cutV xs lo hi)))
theorem sl_list:SlR X (rSlL X.K):=by
 intro pins s σ H x v vl vu lo hi sl Q I rx hs pl pu h
 obtain⟨a,xs,rfl,hx,q⟩:=h
 cases rx
 obtain⟨its,r,ht,hz⟩:=I.list hx
 have hlen:=r.length
 refine⟨"list",_,slot_list_getitem.lookup,ht.isList.typeIs,?_⟩
 refine wpAny_getItem_list_slice ht.isList hs pl pu .none (by simp) ?_ (by rw [List.size_toArray] <;> omega)
 rw [slicePick_cut,← hlen]
 refine⟨.ref s.heap.objs.size,_,I.laid (t':=s.toks) (o:=.lst (cutV xs lo hi)) (fun b ob q=>Heap.get?_push_of_some _ q) (Nat.le_refl _) ?_,rfl,q _ (I.hok.fresh (Nat.le_refl _))⟩
 exact⟨Nat.le_trans (cutV_length xs lo hi) hz,_,0,(r.drop (HT.sIx xs.length 0 lo)).take (HT.sIx xs.length xs.length hi - HT.sIx xs.length 0 lo),Heap.get?_push_size _ rfl⟩
def flatV:V->Bool
 | .non=>true
 | .bl _=>true
 | .int _=>true
 | .str _=>true
 | _=>false
def eqV:V->V->Bool
 | .non,.non=>true
 | .bl a,.bl b=>a == b
 | .bl a,.int b=>(if a then 1 else 0) == b
 | .int a,.bl b=>a == (if b then 1 else 0)
 | .int a,.int b=>a == b
 | .str a,.str b=>a == b
 | _,_=>false
theorem eqAt_V {A:Around} {s:Shared} {y x:V} {u v:Value} (ry:RelV y u) (rx:RelV x v) (fy:flatV y=true) (fx:flatV x=true):SeqAt.EqAt A s u v (eqV y x):=by
 cases y with
 | non=>
  cases ry
  cases x with
  | non=>cases rx;exact SeqAt.EqAt.same _
  | bl b=>cases rx;exact SeqAt.EqAt.none_bool b
  | int b=>obtain⟨t,rfl⟩:=rx;exact SeqAt.EqAt.none_int b t
  | str b=>obtain⟨t,rfl⟩:=rx;exact SeqAt.EqAt.none_str b t
  | _=>exact absurd (show false=true from fx) Bool.false_ne_true
 | bl a=>
  cases ry
  cases x with
  | non=>cases rx;exact SeqAt.EqAt.bool_none a
  | bl b=>cases rx;exact SeqAt.EqAt.bool_bool a b
  | int b=>obtain⟨t,rfl⟩:=rx;exact SeqAt.EqAt.bool_int a b t
  | str b=>obtain⟨t,rfl⟩:=rx;exact SeqAt.EqAt.bool_str a b t
  | _=>exact absurd (show false=true from fx) Bool.false_ne_true
 | int a=>
  obtain⟨t',rfl⟩:=ry
  cases x with
  | non=>cases rx;exact SeqAt.EqAt.int_none a t'
  | bl b=>cases rx;exact SeqAt.EqAt.int_bool a t' b
  | int b=>obtain⟨t,rfl⟩:=rx;exact SeqAt.EqAt.int_int a t' b t
  | str b=>obtain⟨t,rfl⟩:=rx;exact SeqAt.EqAt.int_str a t' b t
  | _=>exact absurd (show false=true from fx) Bool.false_ne_true
 | str a=>
  obtain⟨t',rfl⟩:=ry
  cases x with
  | non=>cases rx;exact SeqAt.EqAt.str_none a t'
  | bl b=>cases rx;exact SeqAt.EqAt.str_bool a t' b
  | int b=>obtain⟨t,rfl⟩:=rx;exact SeqAt.EqAt.str_int a t' b t
  | str b=>obtain⟨t,rfl⟩:=rx;exact SeqAt.EqAt.str_str a t' b t
  | _=>exact absurd (show false=true from fx) Bool.false_ne_true
 | _=>exact absurd (show false=true from fy) Bool.false_ne_true
def eqU (x:V) (u:Value):Bool:=match u with
 | .none=>eqV .non x
 | .bool b=>eqV (.bl b) x
 | .int i _=>eqV (.int i) x
 | .str z _=>eqV (.str z) x
 | _=>false
theorem eqU_of {x y:V} {u:Value} (r:RelV y u) (f:flatV y=true):eqU x u=eqV y x:=by
 cases y with
 | non=>cases r;rfl
 | bl b=>cases r;rfl
 | int i=>obtain⟨t,rfl⟩:=r;rfl
 | str z=>obtain⟨t,rfl⟩:=r;rfl
 | _=>exact absurd (show false=true from f) Bool.false_ne_true
theorem any_eqU {x:V}:∀{xs:List V} {us:List Value},Vals xs us->xs.all flatV=true->us.any (eqU x)=xs.any fun y=>eqV y x
 | _,_,.nil,_=>rfl
 | y :: xs,u :: us,.cons r t,f=>by
  rw [List.all_cons,Bool.and_eq_true] at f
  rw [List.any_cons,List.any_cons,eqU_of r f.1,any_eqU t f.2]
theorem mem_eqAt {A:Around} {s:Shared} {x:V} {v:Value} (rx:RelV x v) (fx:flatV x=true):∀{xs:List V} {us:List Value},Vals xs us->xs.all flatV=true->∀u∈us,SeqAt.EqAt A s u v (eqU x u)
 | _,_,.nil,_=>fun u hu=>by cases hu
 | y :: xs,u :: us,.cons r t,f=>fun u' hu=>by
  rw [List.all_cons,Bool.and_eq_true] at f
  rcases List.mem_cons.mp hu with rfl | hu
  ·rw [eqU_of r f.1];exact eqAt_V r rx f.1 fx
  ·exact mem_eqAt rx fx t f.2 u' hu
def inV (x:V) (xs:List V):Bool:=xs.any fun y=>eqV y x
def rIn (K:PySem.W.Frag) (neg:Bool):R2:=fun x y H Q=>∃p xs,y=.ref p∧(SqL K H p xs∨SqT K H p xs)∧flatV x=true∧xs.all flatV=true∧Q (.bl (if neg then !inV x xs else inV x xs)) H
theorem op_in_seq:OpR X (compareOp .In) (rIn X.K false):=by
 intro pins s σ H x y v u Q I rx ry h
 obtain⟨p,xs,rfl,hq,fx,fs,q⟩:=h
 cases ry
 rcases hq with hq | hq
 ·obtain⟨its,r,pl,hz⟩:=I.list hq
  refine SeqAt.in_listAt (eqU x) pl.isList (fun w hw=>mem_eqAt rx fx r fs w (by simpa using hw)) ⟨.bl _,H,I,rfl,?_⟩
  rw [show its.toArray.any (eqU x)=its.any (eqU x) by simp,any_eqU r fs]
  exact q
 ·obtain⟨its,r,pl,hz⟩:=I.tuple hq
  refine SeqAt.in_tupleAt (eqU x) pl (fun w hw=>mem_eqAt rx fx r fs w (by simpa using hw)) ⟨.bl _,H,I,rfl,?_⟩
  rw [show its.toArray.any (eqU x)=its.any (eqU x) by simp,any_eqU r fs]
  exact q
theorem call_len_seq:CallR X (.builtin "len") (fun xs H Q=>∃p ys,xs=[.ref p]∧(SqL X.K H p ys∨SqT X.K H p ys)∧Q (.int ys.length) H):=by
 intro pins s σ H xs us Q I r h
 obtain⟨p,ys,rfl,hq,q⟩:=h
 obtain⟨u,rfl,rx⟩:=vals1 r
 cases rx
 have hn:=line63
 rcases hq with hq | hq
 ·obtain⟨its,r',pl,hz⟩:=I.list hq
  have hlen:=r'.length
  exact Calls.call_len_list pl.isList (by simp only [List.size_toArray] <;> omega) ⟨.int ys.length,H,I.tok _,⟨s.toks+1,by rw [List.size_toArray,hlen]⟩,q⟩
 ·obtain⟨its,r',pl,hz⟩:=I.tuple hq
  have hlen:=r'.length
  exact len_tuple pl (by simp only [List.size_toArray] <;> omega) ⟨.int ys.length,H,I.tok _,⟨s.toks+1,by rw [List.size_toArray,hlen]⟩,q⟩
theorem call_list_of:CallR X (.type "list") (fun xs H Q=>∃p ys,xs=[.ref p]∧(SqL X.K H p ys∨SqT X.K H p ys)∧∀l,H l=none->Q (.ref l) (upd H l (.lst ys))):=by
 intro pins s σ H xs us Q I r h
 obtain⟨p,ys,rfl,hq,q⟩:=h
 obtain⟨u,rfl,rx⟩:=vals1 r
 cases rx
 have fin:∀(its:List Value),Vals ys its->ys.length<=sizeLine->∀(h':Heap) (c':Nat),(∀b o',s.heap.get? b=some o'->h'.get? b=some o')->
   h'.get? s.heap.objs.size=some { cls:=.type "list",dict:=none,data:=.seq its.toArray c',slots:=#[] }->EP X pins σ Q (.ref s.heap.objs.size) { s with heap:=h' }:=fun its r' hz h' c' kp e=>
  ⟨.ref s.heap.objs.size,_,I.laid (t':=s.toks) kp (Nat.le_refl _) (show ObjOk X.prog X.w _ h' _ (.lst ys) from ⟨hz,its,c',r',e⟩),rfl,q _ (I.hok.fresh (Nat.le_refl _))⟩
 rcases hq with hq | hq
 ·obtain⟨its,r',pl,hz⟩:=I.list hq
  have hlen:=r'.length
  obtain⟨o,ho,hc,n,hd⟩:=pl.isList
  exact call_list_seq p (.inl rfl) ho hc hd (fun h' c' kp e=>fin its r' hz h' c' kp e) (by simp only [List.size_toArray] <;> omega)
 ·obtain⟨its,r',pl,hz⟩:=I.tuple hq
  have hlen:=r'.length
  obtain⟨o,ho,hc,n,hd⟩:=pl
  exact call_list_seq p (.inr rfl) ho hc hd (fun h' c' kp e=>fin its r' hz h' c' kp e) (by simp only [List.size_toArray] <;> omega)
def tyV (K:PySem.W.Frag) (T:String) (x:V) (H:Hp):Prop:=match x with
 | .str _=>T = "str"
 | .int _=>T = "int"
 | .ref p=>(T = "list" ∧ ∃xs,SqL K H p xs)∨(T = "tuple" ∧ ∃o,K.lookup p=some o∧o.cls=.type "tuple" ∧ o.dict=none)∨
   (T = "dict" ∧ ((∃kvs,H p=some (.dK kvs))∨∃kvs,H p=some (.dT kvs)))∨(T = "set" ∧ ∃S n,H p=some (.set S n))
 | _=>False
theorem tyV_is {pins:List (Addr×Obj)} {σ:St} {H:Hp} {s:Shared} {T:String} {x:V} {v:Value} (I:Inv X pins σ H s) (r:RelV x v) (ty:tyV X.K T x H):
  s.TypeIs v T∧∀a,v=.ref a->∃ob,s.heap.get? a=some ob∧ob.dict=none:=by
 cases x with
 | str z=>
  obtain⟨t,rfl⟩:=r
  cases (show T = "str" from ty)
  exact⟨typeIs_str s z t,fun _ e=>nomatch e⟩
 | int i=>
  obtain⟨t,rfl⟩:=r
  cases (show T = "int" from ty)
  exact⟨typeIs_int s i t,fun _ e=>nomatch e⟩
 | ref p=>
  cases r
  rcases ty with ⟨rfl,xs,hq⟩ | ⟨rfl,o,hk,hc,hd⟩ | ⟨rfl,hk⟩ | ⟨rfl,S,n,hk⟩
  ·obtain⟨its,_,pl,_⟩:=I.list hq
   refine⟨pl.isList.typeIs,fun a e=>?_⟩
   cases e
   obtain⟨o,n,e,c,hd,_⟩:=pl
   exact⟨o,e,hd⟩
  ·refine⟨⟨o,I.kIn p o hk,hc⟩,fun a e=>?_⟩
   cases e
   exact⟨o,I.kIn _ o hk,hd⟩
  ·have z:∃o,s.heap.get? p=some o∧o.ExactDict:=by
    rcases hk with ⟨kvs,hk⟩ | ⟨kvs,hk⟩
    ·obtain⟨_,_,_,_,o,_,_,e,ex,_⟩:=I.hok p _ hk
     exact⟨o,e,ex⟩
    ·obtain⟨_,_,_,_,o,_,_,e,ex,_⟩:=I.hok p _ hk
     exact⟨o,e,ex⟩
   obtain⟨o,e,ex⟩:=z
   refine⟨⟨o,e,ex.1⟩,fun a e2=>?_⟩
   cases e2
   exact⟨o,e,ex.2.1⟩
  ·obtain⟨o,_,_,_,e,ex,_⟩:=I.hok p _ hk
   refine⟨⟨o,e,ex.1⟩,fun a e2=>?_⟩
   cases e2
   exact⟨o,e,ex.2.1⟩
 | _=>exact False.elim ty
def tBM0 (K:PySem.W.Frag) (T:String) (r:V->List V->Hp->VK->Prop) (to:TE):TE:=fun σ H Q=>to σ H fun x H1=>tyV K T x H1∧r x [] H1 Q
def tBM (K:PySem.W.Frag) (T:String) (r:V->List V->Hp->VK->Prop) (to:TE) (t:TA):TE:=fun σ H Q=>to σ H fun x H1=>tyV K T x H1∧t σ H1 fun xs H2=>r x xs H2 Q
variable {o e:Expr} {es:List Expr} {to:TE} {t:TA} {name:Str} {apos cpos:Pos} {T id:String} {r:V->List V->Hp->VK->Prop}
theorem pe_bm0 (pa:PlainAttrs T) (slot:Slot T name id) (hty:typeOf (.builtin id)=pure (.type "method_descriptor")) (hm:MtR X id r) (ho:PE X o to)
  (hbase:attributeBase o name X.env (eval o X.env)=eval o X.env:=by rfl) (hline:(apos.endLine == cpos.line)=true:=by rfl):PE X (.Call (.Attribute o name apos) [] [] cpos) (tBM0 X.K T r to):=by
 intro pins s σ H Q I h
 refine wpAny_Call_method0_late hbase hline (thn (ho pins s σ H _ I h) fun v s1 ⟨x,H1,I1,r1,ty,q1⟩=>?_)
 obtain⟨h1,h2⟩:=tyV_is I1 r1 ty
 exact⟨T,id,pa,slot,hty,h1,h2,Calls.callWith_builtin rfl (PySem.evalArgs_none (hm pins s1 σ H1 x [] v [] Q I1 r1 .nil q1))⟩
theorem pe_bm (pa:PlainAttrs T) (slot:Slot T name id) (hty:typeOf (.builtin id)=pure (.type "method_descriptor")) (hm:MtR X id r) (ho:PE X o to) (ha:PA X (e :: es) t)
  (hbase:attributeBase o name X.env (eval o X.env)=eval o X.env:=by rfl)
  (hfew:((backTo cpos (starEach (e :: es) X.env)).all (fun x=>!x.1) && (backToKw cpos (keywordEach [] X.env)).all (fun x=>x.1.isSome)
   && decide ((e :: es).length+([]:List Keyword).length+(if ([]:List Keyword).isEmpty then 0 else 1) < 30))=true:=by rfl)
  (hline:(apos.endLine == cpos.line)=true:=by rfl) (hs:starEach (e :: es) X.env=(false,eval e X.env) :: starEach es X.env:=by rfl) (hplain:(backTo cpos (starEach es X.env)).any (·.1)=false:=by rfl):
  PE X (.Call (.Attribute o name apos) (e :: es) [] cpos) (tBM X.K T r to t):=by
 intro pins s σ H Q I h
 refine wpAny_Call_method_late hbase hfew hline rfl (thn (ho pins s σ H _ I h) fun v s1 ⟨x,H1,I1,r1,ty,q1⟩=>?_)
 obtain⟨h1,h2⟩:=tyV_is I1 r1 ty
 refine⟨T,id,pa,slot,hty,h1,h2,?_⟩
 have hA:=ha cpos pins s1 σ H1 _ I1 q1
 rw [hs] at hA ⊢
 refine Calls.callWith_builtin (by show (false || (backTo cpos (starEach es X.env)).any (·.1))=false;rw [hplain] <;> rfl) (Calls.evalArgs_plain ?_)
 exact thn hA fun us s2 ⟨vs,H2,I2,r2,q2⟩=>hm pins s2 σ H2 x vs v us Q I2 r1 r2 q2
/- xs.append(e),list.index on a module's tuple .. are MtR facts of 06m -/
end
end L2
namespace L2
open PySem PySem.Spec PyProof.Rows
def MtM (X:Cx) (id:String) (r:V->List V->Hp->VK->Prop):Prop:=
 ∀(pins:List (Addr×Obj)) (s:Shared) (σ:St) (H:Hp) (x:V) (xs:List V) (v:Value) (us:List Value) (Q:VK),Inv X pins σ H s->RelV x v->Vals xs us->r x xs H Q->
  wpAny (model X.prog X.w) X.A (call (.builtin id) (v :: us)) (EP X pins σ Q) X.xe s
theorem Vals.one:∀{x:V} {us:List Value},Vals [x] us->∃u,us=[u]∧RelV x u
 | _,_,.cons r .nil=>⟨_,rfl,r⟩
theorem Vals.zero:∀{us:List Value},Vals [] us->us=[]
 | _,.nil=>rfl
theorem Vals.dropLast {xs:List V} {us:List Value} (h:Vals xs us):Vals xs.dropLast us.dropLast:=by
 induction h with
 | nil=>exact .nil
 | cons r t ih=>
  cases t with
  | nil=>exact .nil
  | cons q t'=>exact .cons r ih
theorem Vals.rep {xs:List V} {us:List Value} (h:Vals xs us):∀k:Nat,Vals (List.replicate k xs).flatten (List.replicate k us).flatten
 | 0=>.nil
 | k+1=>by
  rw [List.replicate_succ,List.replicate_succ,List.flatten_cons,List.flatten_cons]
  exact Vals.append h (Vals.rep h k)
theorem erase_last {α:Type} (l:List α):l.eraseIdx (l.length - 1)=l.dropLast:=by
 induction l with
 | nil=>rfl
 | cons a r ih=>
  cases r with
  | nil=>rfl
  | cons b r=>
   have e:(a :: b :: r).length - 1=((b :: r).length - 1)+1:=by
    have h1:(a :: b :: r).length=r.length+2:=rfl
    have h2:(b :: r).length=r.length+1:=rfl
    omega
   rw [e,List.eraseIdx_cons_succ,ih]
   all_goals rfl
theorem foldl_rep (its:List Value):∀(k:Nat) (acc:List Value),
  List.foldl (fun x1 x2=>x1++x2) acc.toArray (List.replicate k its.toArray)=(acc++(List.replicate k its).flatten).toArray
 | 0,acc=>by simp
 | k+1,acc=>by
  have e:acc.toArray++its.toArray=(acc++its).toArray:=by simp
  have e2:(acc++its)++(List.replicate k its).flatten=acc++(List.replicate (k+1) its).flatten:=by
   rw [List.replicate_succ,List.flatten_cons,List.append_assoc]
  rw [← e2,← foldl_rep its k (acc++its),← e,List.replicate_succ,List.foldl_cons]
section
variable {X:Cx} {pins:List (Addr×Obj)} {σ:St} {H:Hp} {s:Shared} {l b:Addr} {xs ys zs:List V}
theorem Inv.lset {its its':List Value} {n:Nat} {f:Array Value->Array Value} {t':Nat} (I:Inv X pins σ H s) (hH:H l=some (.lst xs))
  (e:s.heap.get? l=some { cls:=.type "list",data:=.seq its.toArray n }) (hf:f its.toArray=its'.toArray) (hv:Vals ys its') (hz:ys.length<=sizeLine):
  Inv X pins σ (upd H l (.lst ys)) { s with heap:=s.heap.update l (Obj.mapSeq f),toks:=t' }:=by
 have q:=PySem.IsL.update e f
 rw [hf] at q
 refine I.write (x:=l) (e:=l) (by rw [hH];exact trivial) (.inl rfl) (fun b' u hb hu=>(Heap.get?_update_other s.heap (Obj.mapSeq f) (Ne.symm hb)).trans hu) ⟨_,q⟩ ?_
 exact⟨hz,its',_,hv,q⟩
theorem Inv.lnew {its:List Value} {t':Nat} (I:Inv X pins σ H s) (hv:Vals ys its) (hz:ys.length<=sizeLine):
  Inv X pins σ (upd H s.heap.objs.size (.lst ys)) { s with heap:=s.heap.push { cls:=.type "list",data:=.seq its.toArray },toks:=t' }:=
 I.laid (fun _ _ q=>Heap.get?_push_of_some _ q) (Nat.le_refl _) ⟨hz,its,0,hv,Heap.get?_push_size _ rfl⟩
theorem Inv.fresh (I:Inv X pins σ H s):H s.heap.objs.size=none:=I.hok.fresh (Nat.le_refl _)
theorem Inv.lstM (I:Inv X pins σ H s) (hH:H l=some (.lst xs)):xs.length<=sizeLine∧∃(its:List Value) (n:Nat),Vals xs its∧xs.length=its.length∧s.heap.get? l=some { cls:=.type "list",data:=.seq its.toArray n }:=by
 obtain⟨z,its,n,r,e⟩:=I.hok l _ hH
 exact⟨z,its,n,r,r.length,e⟩
theorem notLongL {n:Nat} (h:n<=sizeLine):Builtin.List.listTooLong n=false:=by
 unfold Builtin.List.listTooLong
 exact decide_eq_false (by omega)
end
section
variable {X:Cx}
def rAppend:V->List V->Hp->VK->Prop:=fun x vs H Q=>∃l xs y,x=.ref l∧vs=[y]∧H l=some (.lst xs)∧xs.length < sizeLine∧Q .non (upd H l (.lst (xs++[y])))
theorem mt_append:MtM X "list.append" rAppend:=by
 intro pins s σ H x vs v us Q I rx rv h
 obtain⟨l,xs,y,rfl,rfl,hH,hz,q⟩:=h
 cases rx
 obtain⟨u,rfl,ru⟩:=rv.one
 obtain⟨z,its,n,r,hl,e⟩:=I.lstM hH
 refine call_meets F.slot_list_append ⟨_,e,rfl⟩ F.entry_list_append (F.args_list_append_2 _ _) (PySem.list_append l its.toArray n u (by rw [List.size_toArray];omega)) ⟨e,?_⟩
 refine⟨.non,_,I.lset (its':=its++[u]) hH e (by simp) (r.append (.cons ru .nil)) ?_,rfl,q⟩
 rw [List.length_append,List.length_singleton]
 omega
def rExtend:V->List V->Hp->VK->Prop:=fun x vs H Q=>∃l b xs zs,x=.ref l∧vs=[.ref b]∧H l=some (.lst xs)∧H b=some (.lst zs)∧xs.length+zs.length<=sizeLine∧Q .non (upd H l (.lst (xs++zs)))
theorem mt_extend:MtM X "list.extend" rExtend:=by
 intro pins s σ H x vs v us Q I rx rv h
 obtain⟨l,b,xs,zs,rfl,rfl,hH,hB,hz,q⟩:=h
 cases rx
 obtain⟨u,rfl,ru⟩:=rv.one
 cases ru
 obtain⟨z,its,n,r,hl,e⟩:=I.lstM hH
 obtain⟨z2,its2,n2,r2,hl2,e2⟩:=I.lstM hB
 have hsz:its.toArray.size+its2.toArray.size<=sizeLine:=by rw [List.size_toArray,List.size_toArray];omega
 have hlong:¬(!its.toArray.isEmpty && Builtin.List.listTooLong (its.toArray.size+its2.toArray.size))=true:=by
  rw [notLongL hsz,Bool.and_false]
  exact Bool.false_ne_true
 refine call_meets F.slot_list_extend ⟨_,e,rfl⟩ F.entry_list_extend (F.args_list_extend_2 _ _)
  (AutoSeq1.list_extend_list_list_0 l its.toArray n b its2.toArray n2 hlong (by rw [List.size_toArray];omega) (by omega)) ⟨e,e2,?_⟩
 refine⟨.non,_,I.lset (its':=its++its2) hH e (by simp) (r.append r2) ?_,rfl,q⟩
 rw [List.length_append]
 omega
def rPop:V->List V->Hp->VK->Prop:=fun x vs H Q=>∃l xs y,x=.ref l∧vs=[]∧H l=some (.lst xs)∧xs[xs.length - 1]?=some y∧Q y (upd H l (.lst xs.dropLast))
theorem mt_pop:MtM X "list.pop" rPop:=by
 intro pins s σ H x vs v us Q I rx rv h
 obtain⟨l,xs,y,rfl,rfl,hH,hy,q⟩:=h
 cases rx
 have hus:=rv.zero
 subst hus
 obtain⟨z,its,n,r,hl,e⟩:=I.lstM hH
 obtain⟨u,hu,ru⟩:=r.get hy
 have hy':its.toArray[its.toArray.size - 1]?=some u:=by
  show its.toArray[its.length - 1]?=some u
  rw [← Array.getElem?_toList,← hl]
  exact hu
 refine call_meets F.slot_list_pop ⟨_,e,rfl⟩ F.entry_list_pop (F.args_list_pop_1 _) (MeetsSeq.list_pop_last l its.toArray n u hy' (by rw [List.size_toArray];omega)) ⟨e,?_⟩
 refine⟨y,_,I.lset (its':=its.dropLast) hH e ?_ r.dropLast ?_,ru,q⟩
 ·show its.toArray.eraseIdxIfInBounds (its.toArray.size - 1)=its.dropLast.toArray
  rw [List.size_toArray,List.eraseIdxIfInBounds_toArray,erase_last]
 ·rw [List.length_dropLast]
  omega
def rClear:V->List V->Hp->VK->Prop:=fun x vs H Q=>∃l xs,x=.ref l∧vs=[]∧H l=some (.lst xs)∧Q .non (upd H l (.lst []))
def rCat:R2:=fun x y H Q=>∃l b xs zs,x=.ref l∧y=.ref b∧H l=some (.lst xs)∧H b=some (.lst zs)∧xs.length+zs.length<=sizeLine∧∀p,H p=none->Q (.ref p) (upd H p (.lst (xs++zs)))
theorem op_cat:OpR X (binaryOp .Add) rCat:=by
 intro pins s σ H x y v u Q I rx ry h
 obtain⟨l,b,xs,zs,rfl,rfl,hH,hB,hz,q⟩:=h
 cases rx
 cases ry
 obtain⟨z,its,n,r,hl,e⟩:=I.lstM hH
 obtain⟨z2,its2,n2,r2,hl2,e2⟩:=I.lstM hB
 refine PySem.P.add_list e e2 ?_ (by rw [List.size_toArray,List.size_toArray];omega)
 have ea:its.toArray++its2.toArray=(its++its2).toArray:=by simp
 rw [ea]
 exact⟨.ref _,_,I.lnew (t':=s.toks) (r.append r2) (by rw [List.length_append];omega),rfl,q _ I.fresh⟩
def rRep:R2:=fun x y H Q=>∃l k xs,x=.ref l∧y=.int k∧H l=some (.lst xs)∧-(2 ^ 63)<=k∧k < 2 ^ 63∧xs.length * k.toNat<=sizeLine∧
 ∀p,H p=none->Q (.ref p) (upd H p (.lst (List.replicate k.toNat xs).flatten))
theorem len_rep {α:Type} (xs:List α) (k:Nat):(List.replicate k xs).flatten.length=k * xs.length:=by
 induction k with
 | zero=>simp
 | succ k ih=>rw [List.replicate_succ,List.flatten_cons,List.length_append,ih,Nat.succ_mul,Nat.add_comm]
theorem op_rep:OpR X (binaryOp .Mult) rRep:=by
 intro pins s σ H x y v u Q I rx ry h
 obtain⟨l,k,xs,rfl,rfl,hH,h1,h2,hz,q⟩:=h
 cases rx
 obtain⟨t,rfl⟩:=ry
 obtain⟨z,its,n,r,hl,e⟩:=I.lstM hH
 have hlen:its.toArray.size * k.toNat<=sizeLine:=by rw [List.size_toArray,← hl];exact hz
 have hcap:¬its.toArray.size * k.toNat > (2 ^ 63 - 1) / 8:=by
  have:(sizeLine:Nat)<=(2 ^ 63 - 1) / 8:=by decide
  omega
 have hfit:¬(!Builtin.List.listFitsIndex k)=true:=by
  rw [fitsIndex_both h1 h2]
  exact Bool.false_ne_true
 have hlong:¬Builtin.List.listTooLong (its.toArray.size * k.toNat)=true:=by
  rw [notLongL hlen]
  exact Bool.false_ne_true
 have hnew:List.foldl (fun x1 x2=>x1++x2) #[] (List.replicate (if its.toArray.isEmpty=true then 0 else k.toNat) its.toArray)=(List.replicate k.toNat its).flatten.toArray:=by
  have f0:∀m:Nat,List.foldl (fun x1 x2=>x1++x2) #[] (List.replicate m its.toArray)=(List.replicate m its).flatten.toArray:=fun m=>by
   have:=foldl_rep its m []
   rw [List.nil_append] at this
   exact this
  rw [f0]
  cases its with
  | nil=>simp
  | cons a r'=>rw [if_neg (by simp)]
 refine wpAny_binaryOp_repeat_ref (T := "list") (U := "int") (by decide) ⟨_,e,rfl⟩ (fun s'=>typeIs_int s' k t) noFill_list_mul F.fills_int_mul F.slot_int_rmul repeat_list F.slot_int_index.lookup
  (call_meets F.slot_int_rmul (typeIs_int s k t) F.entry_int_rmul (F.args_int_rmul_2 _ _) (int___rmul___int_list k t l its.toArray n)
   ⟨e,rfl,⟨_,e,rfl⟩,call_meets F.slot_list_mul ⟨_,e,rfl⟩ F.entry_list_mul (F.args_list_mul_2 _ _) (AutoListH.list___mul___list_int_3 l its.toArray n k t hfit hcap hlong) ⟨e,?_⟩⟩)
 rw [hnew]
 exact⟨.ref _,_,I.lnew (t':=s.toks) (r.rep k.toNat) (by rw [len_rep,Nat.mul_comm];exact hz),rfl,q _ I.fresh⟩
end
section
variable {prog:Program} {w:World} {A:Around} {E:Value->Shared->Prop} {s:Shared}
end
section
variable {X:Cx}
end
end L2
namespace Att
open PySem PySem.W PySem.Calls PyProof.Rows
theorem ints_of_wellAll {P:Params} {h:Heap}:∀(ns:List Int) (vs:List Value),WellAll P h vs (ns.map WData.int)->IntsAre vs ns:=by
 intro ns
 induction ns with
 | nil=>
  intro vs w
  rw [List.map_nil] at w
  cases w
  exact .nil
 | cons n ns ih=>
  intro vs w
  rw [List.map_cons] at w
  cases w with
  | cons a b=>
   cases a
   exact .cons _ _ (ih _ b)
theorem script_of {l:OpenLaw} {n:Nat} (hn:l.most=some n) {P:Params} {h:Heap} {args:List WData} {vals:List Value}
  (hpre:l.row.toRowW.claim.pre args=true) (hwl:WellAll P h vals args):
  ∃a vs ns,vals=[Value.ref a]∧args=[WData.list (ns.map WData.int)]∧h.get? a=some { cls:=.type "list",data:=.seq vs.toArray }∧IntsAre vs ns∧ns.length<=n:=by
 have hsh:WShape.hasAll [] args [.list .int]=true:=(pre_splitW hpre).1
 have hc:l.pre.holds [] { args:=args }=true:=(pre_splitW hpre).2
 obtain⟨d,r,rfl,h1,h2⟩:=hasAllW_cons hsh
 obtain rfl:=hasAllW_nil h2
 obtain⟨xs,rfl,h3⟩:=hasW_list h1
 obtain⟨ns,rfl⟩:=items_int h3
 have hlen:ns.length<=n:=by
  unfold OpenLaw.pre at hc
  have h4:(WTm.not (.lt (.lit (.int (n:Int))) (.len (.arg 0)))).holds [] { args:=[.list (ns.map .int)] }=true:=by
   have h4:=(holds_andW hc).1
   rw [hn] at h4
   exact h4
  have h5:=condW_of h4 (w_not (w_lt w_lit (w_len_list (w_arg rfl))))
  rw [List.length_map] at h5
  refine Nat.le_of_not_lt fun q=>?_
  have q':(n:Int) < ((ns.length:Nat):Int):=by omega
  first
   |(rw [decide_eq_true q'] at h5;exact absurd h5 (by decide))
   |(simp at h5;omega)
 cases hwl with
 | cons w1 w2=>
  cases w2
  cases w1 with
  | list ho hall=>exact⟨_,_,ns,rfl,rfl,ho,ints_of_wellAll ns _ hall,hlen⟩
theorem post_true (l:OpenLaw) (args:List WData):l.row.toRowW.claim.post args (.bool true) args=true:=
 postW_of (r:=l.row.toRowW) (X:=(true == true))
  (show WShape.has [] (.bool true) .bool=true by first | rfl | decide | simp [WShape.has,WShape.arms,WShape.armsAll])
  (show (WTm.eq .res (.lit (.bool true))).value [] { args:=args,res:=some (.bool true),after:=args }=some (.bool (true == true)) from w_eq_bool (w_res rfl) w_lit) rfl
theorem attach_call {l:OpenLaw} {n:Nat} {q:Program} {loose:List Str} {XP:(Str->Option Value)->Heap->Prop} {YP:World->Heap->Prop} {d:DefRec}
  (hn:l.most=some n) (hdf:d.params.defaults=[])
  (call:∀(w:World) (s₀ s₁:Shared) (mg mb:Str->Option Value) (fa:Addr) (o:Obj) (pm cd doc:Value) (a:Addr) (vs:List Value) (ns:List Int),
   Ground q loose [] XP w s₀ mg mb s₁.heap->YP w s₁.heap->
   s₁.heap.get? fa=some o->o.data=.func (docDef d.name d.params d.body d.scope pm cd doc)->s₁.heap.CodeRec cd d.name->mg d.name=some (.ref fa)->
   s₁.heap.get? a=some { cls:=.type "list",data:=.seq vs.toArray }->IntsAre vs ns->ns.length<=n->s₁.gens=#[]->
   codeAny (model l.prog w) callerA (.call (.ref fa) ⟨[.ref a],[]⟩) (fun r s'=>r=.ok (.ret (.bool true))∧OldK s₁.heap s'.heap∧s'.os=s₁.os∧AllBare s'.gens) s₁):
  WalkO q loose XP YP l.row.toRowW d [] (fun f vs=>PySem.call f vs):=by
 intro w s₀ s₁ mg mb G Y fa o pm cd doc dV kV ho hd hcd hD hmg hg args vals as hpre hlay hrd hwl hlo
 obtain rfl:dV=.none:=Dflts.none hD hdf
 obtain rfl:kV=.none:=Dflts.noKw hD
 obtain⟨a,vs,ns,rfl,rfl,hobj,hints,hlen⟩:=script_of hn hpre hwl
 refine enter_call (codeAny_mono (call w s₀ s₁ mg mb fa o pm cd doc a vs ns G Y ho (fd_plain hd) hcd hmg hobj hints hlen hg) fun r s' hq=>?_)
 obtain⟨rfl,h2,h3,h4⟩:=hq
 exact⟨.inl ⟨.bool true,.bool true,[],rfl,fun _=>rfl,.bool true,post_true l _,fun _=>⟨List.Pairwise.nil,fun _ hm=>(nomatch hm)⟩⟩,h2,h3,h4⟩
section
variable {prog:Program} {w:World} {A:Around} {E:Value->Shared->Prop} {s:Shared} {K:Frag}
def ledger (h:Heap) (L d:Addr):List (Addr×Obj):=(List.range h.objs.size).filterMap fun a=>if a=L∨a=d then none else (h.get? a).map fun o=>(a,o)
end
end Att
namespace L2
open PySem PySem.Spec PyProof.Rows
theorem vals_ints:∀{vs:List Value} {ns:List Int},IntsAre vs ns->Vals (ns.map V.int) vs
 | _,_,.nil=>.nil
 | _,_,.cons n t h=>.cons ⟨t,rfl⟩ (vals_ints h)
def Only (H:Hp):Prop:=∀b,H b=none∨∃o xs,H b=some (.frz o (.lst xs))
theorem law_call {P:Program} {w:World} {K:PySem.W.Frag} {mg mb:Str->Option Value} {CX:CXT} {k:Nat} {fa a:Addr} {fd:FuncData} {x:Str} {sp:Sp} {s₁:Shared} {vs:List Value} {ns:List Int}
  (KX:K.In s₁.heap) (hns:s₁.heap.Ns mainGlobals mg) (hb:s₁.heap.Ns builtinsNs mb) (hbb:∀x:Str,x ≠ "__name__" -> mb x=bootBuiltins x) (hlim:s₁.heap.NoLimit) (hg:s₁.gens=#[])
  (ha:s₁.heap.get? a=some { cls:=.type "list",data:=.seq vs.toArray }) (hi:IntsAre vs ns) (hl:ns.length<=sizeLine) (hr:Room k callerA)
  (F:∀base:Heap,K.In base->base.Ns mainGlobals mg->FnOk P w K mg base CX k fa fd [x] sp) (hbind:∀(s:Shared) (u:Value),BindsTo s fd ⟨[u],[]⟩ [(x,u)])
  (hsp:∀H:Hp,Only H->SqL K H a (ns.map V.int)->sp [.ref a] H (fun v _=>v=.bl true) fun _ _ _=>False)
  (hCX:∀H e s',CX [] H s₁ (fun _ _ _=>False) e s'->False):
  codeAny (model P w) callerA (.call (.ref fa) ⟨[.ref a],[]⟩) (fun r s'=>r=.ok (.ret (.bool true))∧OldK s₁.heap s'.heap∧s'.os=s₁.os∧AllBare s'.gens) s₁:=by
 have rv:=vals_ints hi
 have lenV:=hi.length
 have core:∀H:Hp,Only H->SqL K H a (ns.map V.int)->HOk P w H s₁.heap->(∀b,H b≠none->b=a)->(H a≠none->K.lookup a=none)->
   codeAny (model P w) callerA (.call (.ref fa) ⟨[.ref a],[]⟩) (fun r s'=>r=.ok (.ret (.bool true))∧OldK s₁.heap s'.heap∧s'.os=s₁.os∧AllBare s'.gens) s₁:=by
  intro H hO hS hok hA hK
  have base_of:∀{b:Addr} {o:Obj},s₁.heap.get? b=some o->H b=none->(hidT s₁.heap H).get? b=some o:=fun e n=>hidT_get e n
  have noA:∀{b:Addr} {o:Obj} {es:Array DictEntry} {ep:Nat},s₁.heap.get? b=some o->o.data=.dict es ep->H b=none:=fun {b o es ep} e d=>by
   cases q:H b with
   | none=>rfl
   | some u=>
    have e':b=a:=hA b (by rw [q];simp)
    subst e'
    rw [ha] at e;cases e
    have d':Data.seq vs.toArray _=Data.dict es ep:=d
    cases d'
  have nsK:∀{b:Addr} {m:Str->Option Value},s₁.heap.Ns b m->(hidT s₁.heap H).Ns b m:=fun {b m} ⟨o,es,ep,e,d,r⟩=>⟨o,es,ep,base_of e (noA e d),d,r⟩
  have hKb:K.In (hidT s₁.heap H):=fun b o e=>base_of (KX b o e) (by
   cases q:H b with
   | none=>rfl
   | some u=>
    have e':b=a:=hA b (by rw [q];simp)
    subst e'
    rw [hK (by rw [q];simp)] at e;cases e)
  have hM:Mod K mg (hidT s₁.heap H):=⟨hKb,nsK hns,⟨mb,nsK hb,hbb⟩,let ⟨mc,h1,h2⟩:=hlim;⟨mc,nsK h1,h2⟩⟩
  have e0:Env0 P w K mg (hidT s₁.heap H) callerA [] s₁ H:=⟨rfl,hM,fun b o e=>of_hidT e,Nat.le_of_eq (hidT_size _ _),trivial,fun b hb=>absurd (show b∈([]:List Addr) from hb) (by simp),hok,.of_eq hg⟩
  refine codeAny_mono ((F _ hKb (nsK hns)).run callerA [] s₁ H ⟨[.ref a],[]⟩ [.ref a] [.ref a] _ _ hr e0 (hbind s₁ (.ref a)) (.cons rfl .nil) (hsp H hO hS)) fun r s' h=>?_
  cases r with
  | error e=>exact (hCX H e s' h).elim
  | ok fl=>
   cases fl with
   | next=>exact False.elim h
   | brk=>exact False.elim h
   | cont=>exact False.elim h
   | ret u=>
    obtain⟨v,H',os,bare,un,hok',r',q⟩:=h
    have q':v=.bl true:=q
    subst q'
    obtain rfl:u=Value.bool true:=r'
    refine⟨rfl,OldK.of_keep fun b o e=>?_,os,bare⟩
    cases q:H b with
    | none=>exact un.keep b o e q (by intro z;exact absurd (show b∈([]:List Addr) from z) (by simp)) (by simp)
    | some u=>
     rcases hO b with z | ⟨ob,xs,z⟩
     ·rw [q] at z;cases z
     ·have z2:=un.frzs b ob _ z
      obtain⟨e1,_⟩:=hok b _ z
      obtain⟨e2,_⟩:=hok' b _ z2
      rw [e] at e1;cases e1
      exact e2
 cases hk:K.lookup a with
 | some o=>
  have e:=KX a o hk
  rw [ha] at e
  cases e
  refine core (fun _=>none) (fun _=>.inl rfl) (.inr ⟨_,vs.toArray,_,hk,rfl,rfl,rfl,by rw [List.size_toArray,lenV];exact hl,by simpa using rv⟩) (fun b u z=>by have z':(none:Option HO)=some u:=z;cases z') (fun b z=>absurd rfl z) fun z=>absurd rfl z
 | none=>
  refine core (fun b=>if b=a then some (.frz { cls:=.type "list",data:=.seq vs.toArray } (.lst (ns.map V.int))) else none) (fun b=>?_) (.inl (.inr ⟨{ cls:=.type "list",data:=.seq vs.toArray },if_pos rfl⟩)) (fun b u z=>?_) (fun b z=>?_) fun _=>hk
  ·by_cases hb:b=a
   ·exact .inr ⟨_,_,if_pos hb⟩
   ·exact .inl (if_neg hb)
  ·by_cases hb:b=a
   ·have z':=(if_pos hb).symm.trans z
    cases z'
    subst hb
    exact⟨ha,by rw [List.length_map];exact hl,vs,_,rv,ha⟩
   ·have z':=(if_neg hb).symm.trans z
    cases z'
  ·by_cases hb:b=a
   ·exact hb
   ·exact absurd (if_neg hb) z
end L2
namespace L2
open PySem PySem.Spec PyProof.Rows
theorem walk_of {l:PySem.W.OpenLaw} {n k:Nat} {q:Program} {loose:List Str} {XP:(Str->Option Value)->Heap->Prop} {YP:World->Heap->Prop} {d:DefRec} {K:Params->PySem.W.Frag} {CX:World->CXT} {sp:World->Sp} {x:Str}
  (hn:l.most=some n) (hn2:n<=sizeLine) (hdf:d.params.defaults=[]) (hr:Room k callerA)
  (hY:∀(w:World) (h:Heap),YP w h->(K w.params).In h)
  (F:∀(w:World) (mg:Str->Option Value) (fa:Addr) (h:Heap),(K w.params).In h->h.Ns mainGlobals mg->mg d.name=some (.ref fa)->
   ∃fd:FuncData,(∀(s:Shared) (u:Value),BindsTo s fd ⟨[u],[]⟩ [(x,u)])∧
    ∀base:Heap,(K w.params).In base->base.Ns mainGlobals mg->FnOk l.prog w (K w.params) mg base (CX w) k fa fd [x] (sp w))
  (hsp:∀(w:World) (H:Hp) (a:Addr) (ns:List Int),ns.length<=n->Only H->SqL (K w.params) H a (ns.map V.int)->sp w [.ref a] H (fun v _=>v=.bl true) fun _ _ _=>False)
  (hCX:∀(w:World) (H:Hp) (s:Shared) (e:Value) (s':Shared),CX w [] H s (fun _ _ _=>False) e s'->False):
  PySem.W.WalkO q loose XP YP l.row.toRowW d [] (fun f vs=>PySem.call f vs):=by
 refine Att.attach_call hn hdf fun w s₀ s₁ mg mb fa o pm cd doc a vs ns G Y ho hd hcd hmg hobj hints hlen hg=>?_
 have KX:=hY w _ Y
 obtain⟨fd,hb,hF⟩:=F w mg fa _ KX G.T.g hmg
 exact law_call KX G.T.g G.T.b G.T.builtins G.T.nolimit hg hobj hints (Nat.le_trans hlen hn2) hr hF hb (fun H hO hS=>hsp w H a ns hlen hO hS) fun H e s'=>hCX w H s₁ e s'
end L2
namespace L2
open PySem PySem.Spec PyProof.Rows
def defArgs (s:Stmt):Arguments:=match s with
 | .FunctionDef _ a _ _ _ _ _ _ _ _=>a
 | _=>{ posonlyargs:=[],args:=[],vararg:=none,kwonlyargs:=[],kw_defaults:=[],kwarg:=none,defaults:=[] }
def defBody (s:Stmt):List Stmt:=match s with
 | .FunctionDef _ _ b _ _ _ _ _ _ _=>b
 | _=>[]
def defScope (s:Stmt):Scope:=match s with
 | .FunctionDef _ _ _ _ _ _ sc _ _ _=>sc
 | _=>{ kind:=.function,names:=[],isGenerator:=false,isCoroutine:=false }
abbrev CX0:CXT:=fun _ _ _ _ _ _=>False
abbrev E0:XK:=fun _ _ _=>False
theorem pass0 {X:Cx}:Passes CX0 X E0:=fun _ _ _ _ _ _ _ h=>h.elim
structure Fun (K:PySem.W.Frag) (x qual:Str) (st:Stmt) (f:Addr) (fd:FuncData):Prop where
 ex:∃(oc:Value) (od:Option Addr) (kV doc pm:Value) (an:Option Addr) (cdv ct:Value) (osl:Array (Option Value)),
  fd=PySem.W.fnOf x qual (defArgs st) (defBody st) (defScope st) .none kV doc pm an cdv ct∧K.lookup f=some ⟨oc,od,.func fd,osl⟩∧PySem.W.codeIn K cdv qual=true
 kp:PySem.W.keepIn K (.ref f)=true
section
variable {P:Program} {w:World} {K:PySem.W.Frag} {mg:Str->Option Value} {base:Heap}
theorem Fun.ok {x qual:Str} {st:Stmt} {f:Addr} {fd:FuncData} {N ps:List Str} {k:Nat} {sp:Sp} (F:Fun K x qual st f fd) (S:FnScope N ps (defScope st)) (len:∀vs H Q E,sp vs H Q E->vs.length=ps.length)
  (hbody:∀(cdv:Value) (A:Around) (outer:List Env) (s:Shared) (H:Hp) (vs:List V) (Q:VK) (E:XK),Room k (A.deeper (envOfC qual (defScope st) s.heap.objs.size f cdv))->sp vs H Q E->
   ∃t,PSs (cxOf CX0 P w K mg base N qual (defScope st) f cdv A outer s H E).nox (defBody st) t∧t { nx:=fun _ H'=>Q .non H',rt:=Q } (start N vs) H):FnOk P w K mg base CX0 (k+1) f fd ps sp:=by
 obtain⟨oc,od,kV,doc,pm,an,cdv,ct,osl,rfl,lk,hcd⟩:=F.ex
 refine fn_of lk hcd S len fun A outer s H vs Q E hr hsp=>?_
 obtain⟨t,h,q⟩:=hbody cdv A outer s H vs Q E hr hsp
 exact⟨t,h.nox,q⟩
theorem Fun.binds {x qual:Str} {st:Stmt} {f:Addr} {fd:FuncData} {ps:List Str} (F:Fun K x qual st f fd)
  (h:∀(kV doc pm:Value) (an:Option Addr) (cdv ct:Value) (us:List Value),us.length=ps.length->bindArgs (PySem.W.fnOf x qual (defArgs st) (defBody st) (defScope st) .none kV doc pm an cdv ct) ⟨us,[]⟩=pure (ps.zip us)):Binds K fd ps []:=by
 obtain⟨oc,od,kV,doc,pm,an,cdv,ct,osl,rfl,lk,hcd⟩:=F.ex
 exact .all (h kV doc pm an cdv ct)
theorem fun_mk {x qual:Str} {st:Stmt} {f:Addr} {oc:Value} {od an:Option Addr} {osl:Array (Option Value)} {kV doc pm cdv ct:Value} (l:K.lookup f=some ⟨oc,od,.func (PySem.W.fnOf x qual (defArgs st) (defBody st) (defScope st) .none kV doc pm an cdv ct),osl⟩)
  (c:PySem.W.codeIn K cdv qual=true) (k:PySem.W.keepIn K (.ref f)=true):Fun K x qual st f (PySem.W.fnOf x qual (defArgs st) (defBody st) (defScope st) .none kV doc pm an cdv ct):=⟨⟨oc,od,kV,doc,pm,an,cdv,ct,osl,rfl,l,c⟩,k⟩
end
theorem small1000 {n:Nat} (h:n<=1000):n < sizeLine:=Nat.lt_of_le_of_lt h (by decide)
section
variable {X:Cx}
theorem pv (i:Nat) {x:Str} {pos:Pos} (hN:X.N[i]?=some x:=by rfl) (hv:Vis X.env.scope x:=by first | exact Or.inl rfl | exact Or.inr (Or.inl rfl) | exact Or.inr (Or.inr rfl)) (hd:(x == ("__debug__" : Str))=false:=by decide)
  (hcd:(x == ("__classdict__" : Str))=false:=by decide):PE X (.Name x pos) (tVar i):=pe_var hN hv hd hcd
end
theorem ite2 {c A B:Prop} [Decidable c] (h1:c->A) (h2:¬c->B):if c then A else B:=by
 by_cases h:c
 ·rw [if_pos h]
  exact h1 h
 ·rw [if_neg h]
  exact h2 h
def Same (H H':Hp):Prop:=∀b o,H b=some o->H' b=some o
theorem Same.refl (H:Hp):Same H H:=fun _ _ h=>h
theorem Same.trans {H H1 H2:Hp} (a:Same H H1) (b:Same H1 H2):Same H H2:=fun c o h=>b c o (a c o h)
theorem Same.free {H H':Hp} (e:Same H H') {l:Addr} (h:H' l=Option.none):H l=Option.none:=by
 cases q:H l with
 | none=>rfl
 | some o=>
  rw [e l o q] at h
  cases h
theorem Same.seq {K:PySem.W.Frag} {H H':Hp} {a:Addr} {xs:List V} (e:Same H H') (h:SqL K H a xs):SqL K H' a xs:=by
 rcases h with (h | ⟨o,h⟩) | h
 ·exact .inl (.inl (e _ _ h))
 ·exact .inl (.inr ⟨o,e _ _ h⟩)
 ·exact .inr h
end L2
namespace L2
open PySem PySem.Spec PyProof.Rows
@[reducible] def blk (X:Cx) (x:Str) (fv:List (Nat×Str)) (scope:Scope) (cl:List (Str×Addr)) (C:Addr) (s:Shared) (H:Hp) (fp:List Addr):Cx where
 prog:=X.prog
 w:=X.w
 K:=X.K
 mg:=X.mg
 base:=X.base
 A:=X.A
 N:=x :: fv.map (·.2)
 s₀:=s
 H₀:=H
 env:=compEnvC scope cl C X.env
 outer:=X.stack
 stack:=X.stack
 ex:=fp
 fn:=fun _=>false
 calm:=X.calm
 pn:=[]
 xe:=fun _ _=>False
def bst (fv:List (Nat×Str)) (σ:St) (v:Option V):St:=v :: fv.map fun p=>(σ[p.1]?).getD none
structure BlkOk (X:Cx) (x:Str) (fv:List (Nat×Str)) (scope:Scope) (cl:List (Str×Addr)):Prop where
 clos:closureFor scope X.env=pure cl
 nocell:∀y∈scope.names,y.2≠.cell
 kind:scope.kind=.function
 names:∀y∈scope.names,y.2=.local->scope.names.lookup y.1=some .local
 here:scope.names.lookup x=some .local
 sub:∀y c,cl.lookup y=some c->X.env.cells.lookup y=some c
 has:∀y,((relabel scope X.env).names.lookup y=some .cell∨(relabel scope X.env).names.lookup y=some .free)->∃c,cl.lookup y=some c
 fvs:∀p∈fv,p.2≠x∧X.N[p.1]?=some p.2∧(X.env.scope.names.lookup p.2=some .cell∨X.env.scope.names.lookup p.2=some .free)∧
  ((relabel scope X.env).names.lookup p.2=some .cell∨(relabel scope X.env).names.lookup p.2=some .free)∧∃c,cl.lookup p.2=some c
theorem compLoop_one {prog:Program} {w:World} {A:Around} {R:Result->Shared->Prop} {s:Shared} {elt target iter:Expr} {scope:Scope} {pos:Pos} {it acc:Value} {env:Env} (I:Nat->Shared->Prop)
  (turn:∀n s (E:Value->Shared->Prop),I n s->wpAny (model prog w) A (pyNext it) (fun r s₁=>match r with
   | none=>R (.ok .next) s₁
   | some v=>wpAny (model prog w) A (letOwnedTupleGo target it v) (fun _ s₂=>wpAny (model prog w) A (assign target env v) (fun _ s₃=>wpAny (model prog w) A (eval elt env) (fun x s₄=>
     wpAny (model prog w) A (call (.builtin "list.append") [acc,x]) (fun _ s₅=>∃m,m < n∧I m s₅) E s₄) E s₃) E s₂) E s₁) E s)
  (n:Nat) (h:I n s):
  codeAny (model prog w) A (.compLoop (.ListComp elt [⟨target,iter,[],0⟩] scope pos) 0 it acc env) R s:=by
 refine codeAny_loop rfl I (fun n s hI=>?_) n h
 show wpAny _ _ ((compTurn (.ListComp elt [⟨target,iter,[],0⟩] scope pos) 0 it acc env).onRaise (fun x=>do noteFrame x env;theTreesLotGoes x)) _ _ s
 refine wpAny_noted ?_
 rw [PySem.compTurn_list1]
 refine wpAny_bind (wpAny_standAt (wpAny_bind (wpAny_mono (turn n s _ hI) (fun r s₁ h₁=>?_) fun _ _ h'=>h')))
 cases r with
 | none=>exact wpAny_pure h₁
 | some v=>
  exact wpAny_bind (thn h₁ fun _ s₂ h₂=>wpAny_bind (thn h₂ fun _ s₃ h₃=>wpAny_bind (wpAny_bind (thn h₃ fun x s₄ h₄=>wpAny_bind (thn h₄ fun _ s₅ h₅=>wpAny_pure (wpAny_pure ⟨rfl,h₅⟩))))))
section
variable {X:Cx} {elt iter:Expr} {x:Str} {px:Pos} {fv:List (Nat×Str)} {scope:Scope} {cl:List (Str×Addr)} {pos:Pos} {te:TE} {wi:TI}
def tComp (fv:List (Nat×Str)) (wi:TI) (te:TE):TE:=fun σ H Q=>wi σ H fun J H1=>∀D,H1 D=none->∃W:Nat->Nat->Hp->Prop,(∃m,W 0 m (upd H1 D (.lst [])))∧∀i m H,W i m H->
 (J.stop i H∧Q (.ref D) H)∨(J.go i H∧∃N:Hp->Prop,(∀H',N H'->∃m',m' < m∧W (i+1) m' H')∧∀v H',J.yld i H v H'->te (bst fv σ (some v)) H' fun y H2=>∃ys,H2 D=some (.lst ys)∧ys.length < sizeLine∧N (upd H2 D (.lst (ys++[y]))))
theorem blk_ok {pins:List (Addr×Obj)} {σ:St} {H:Hp} {s:Shared} {fp:List Addr} {C:Addr} (B:BlkOk X x fv scope cl) (I:Inv X pins σ H s) (hf:∀b∈fp,FpOk X pins H b) (hC:s.heap.objs.size<=C) (hfC:∀b∈fp,b≠C):
  (blk X x fv scope cl C s H fp).Ok where
 mod:=I.ok.mod
 kind:=B.kind
 glob:=I.ok.glob
 blt:=I.ok.blt
 above:=hC
 inj:=fun y z c h1 h2=>I.ok.inj y z c (B.sub y c h1) (B.sub z c h2)
 has:=fun y hy=>B.has y hy
 cab:=fun y c h=>nomatch h
 hd:=I.ok.hd
 frames:=I.ok.frames
 stk:=.inl rfl
 exf:=fun b hb=>⟨hfC b hb,fun y c e=>(hf b hb).2.2.2.2.1 y c (B.sub y c e)⟩
 bs:=I.bs
 bsz:=Nat.le_trans I.ok.bsz I.sz
 noex:=fun b o e hb=>by
  obtain⟨_,_,_,f3,_⟩:=hf b hb
  rcases f3 with z | z
  ·exact I.ok.noex b o e z
  ·exact absurd (Nat.lt_of_lt_of_le (Heap.lt_size e) (Nat.le_trans I.ok.bsz z)) (Nat.lt_irrefl _)
 exfs:=fun b hb hs=>by
  obtain⟨_,f1,f2,_⟩:=hf b hb
  rcases List.mem_cons.mp (I.stkSub b hs) with z | z
  ·exact f1 z
  ·exact f2 z
 funs:=I.stack
 frf:=I.stkFree
theorem bst_get {fv:List (Nat×Str)} {σ:St} {o:Option V} {j:Nat} {y:Str} {v:V} (h1:(x :: fv.map (·.2))[j+1]?=some y) (h2:(bst fv σ o)[j+1]?=some (some v)):∃p∈fv,p.2=y∧σ[p.1]?=some (some v):=by
 have e1:(fv.map (·.2))[j]?=some y:=by simpa using h1
 have e2:(fv.map fun p=>(σ[p.1]?).getD none)[j]?=some (some v):=by simpa [bst] using h2
 rw [List.getElem?_map] at e1 e2
 cases q:fv[j]? with
 | none=>rw [q] at e1;cases e1
 | some p=>
  rw [q] at e1 e2
  refine⟨p,List.mem_of_getElem? q,Option.some.inj e1,?_⟩
  have e3:(σ[p.1]?).getD none=some v:=Option.some.inj e2
  cases r:σ[p.1]? with
  | none=>rw [r] at e3;cases e3
  | some w=>rw [r] at e3;exact congrArg some e3
theorem blk_start {pins:List (Addr×Obj)} {σ:St} {H:Hp} {s s4:Shared} {fp:List Addr} {C:Addr} {m:Str->Option Value} (B:BlkOk X x fv scope cl) (I:Inv X pins σ H s) (hf:∀b∈fp,FpOk X pins H b) (hC:C=s.heap.objs.size)
  (hfC:∀b∈fp,b≠C) (os:s4.os=s.os) (gens:s4.gens=s.gens) (keep:∀b o,s.heap.get? b=some o->s4.heap.get? b=some o) (ns:s4.heap.Ns C m):
  Inv (blk X x fv scope cl C s H fp) [] (bst fv σ none) H s4:=by
 subst hC
 refine⟨blk_ok B I hf (Nat.le_refl _) hfC,os,by rw [gens];exact I.bare,Un.kept keep,⟨m,ns,fun i y v h1 h2 h3=>?_⟩,fun y c e=>?_,I.hok.fresh (Nat.le_refl _),fun y c e=>I.freeC y c (B.sub y c e),fun p hp=>absurd (show p∈([]:List (Addr×Obj)) from hp) (by simp),I.hok.kept keep,by simp [bst]⟩
 ·cases i with
  | zero=>simp [bst] at h2
  | succ j=>
   obtain⟨p,hp,rfl,hv⟩:=bst_get h1 h2
   obtain⟨_,hN,hk,hk2,c,hc⟩:=B.fvs p hp
   obtain⟨m0,_,hl⟩:=I.loc
   have vis:Vis X.env.scope p.2:=hk.elim (fun z=>.inr (.inl z)) fun z=>.inr (.inr z)
   obtain⟨u,r,l⟩:=hl p.1 p.2 v hN hv vis
   refine⟨u,r,.inr ⟨hk2,c,hc,?_⟩⟩
   rcases l with ⟨z,_⟩ | ⟨_,c',hc',o,ho,hd⟩
   ·have z':X.env.scope.names.lookup p.2=some .local:=z
    rcases hk with k | k <;> (rw [k] at z';cases z')
   ·have:=B.sub p.2 c hc
    rw [hc'] at this;cases this
    exact⟨o,keep _ o ho,hd⟩
 ·obtain⟨v,o,ho,hd⟩:=I.cell y c (B.sub y c e)
  exact⟨v,o,keep c o ho,hd⟩
theorem blk_store {pins':List (Addr×Obj)} {σ:St} {H H0:Hp} {s s5:Shared} {fp:List Addr} {C:Addr} {o:Option V} {v:V} {u:Value} {E:Value->Shared->Prop} {Q:Unit->Shared->Prop} (B:BlkOk X x fv scope cl)
  (I:Inv (blk X x fv scope cl C s H0 fp) pins' (bst fv σ o) H s5) (r:RelV v u) (h:∀s6,Inv (blk X x fv scope cl C s H0 fp) pins' (bst fv σ (some v)) H s6->Q () s6):
  wpAny (model X.prog X.w) X.A (assign (.Name x px) (compEnvC scope cl C X.env) u) Q E s5:=by
 obtain⟨m,hn,hl⟩:=id I.loc
 have hk:(relabel scope X.env).names.lookup x=some .local:=lookup_relabel_local B.here
 have hcls:((compEnvC scope cl C X.env).scope.kind == .class || ((compEnvC scope cl C X.env).scope.kind == .module && (compEnvC scope cl C X.env).locals != (compEnvC scope cl C X.env).globals))=false:=by
  have:(compEnvC scope cl C X.env).scope.kind=.function:=B.kind
  rw [this];rfl
 refine wpAny_assign_Name (wpAny_storeName_local hk hn (fun h' hn' hs=>?_) hcls)
 have cne:=I.cne
 obtain⟨oL,_,_,hoL,_⟩:=id hn
 have tracked:HOk X.prog X.w H h':=fun b ob e=>by
  refine (I.hok b ob e).stay (fun c w' hc q=>(hs.2 c ?_).trans q) (fun _ q=>q) fun _ _ q=>q
  intro z
  have z':c=C:=z
  have fr:H C=none:=I.free
  rcases hc with hc | hc
  ·rw [← hc,z',fr] at e;cases e
  ·rw [z',fr] at hc;cases hc
 refine h _ ⟨I.ok,I.os,I.bare,⟨fun b o e n hb hx=>?_,fun b o e n hb hx=>?_,I.base.free,fun b o e hx=>?_,I.base.tups,I.base.frzs,I.base.tbls⟩,⟨_,hn',fun j y v' e1 e2 e3=>?_⟩,fun y c e=>?_,I.free,I.freeC,fun p hp=>?_,tracked,by simp [bst]⟩
 ·exact (hs.2 b (Nat.ne_of_lt (Nat.lt_of_lt_of_le (Heap.lt_size e) I.ok.above))).trans (I.base.keep b o e n hb hx)
 ·obtain⟨sl,e1⟩:=I.base.slot b o e n hb hx
  exact⟨sl,(hs.2 b (Nat.ne_of_lt (Nat.lt_of_lt_of_le (Heap.lt_size e) I.ok.above))).trans e1⟩
 ·obtain⟨o',e1⟩:=I.base.there b o e hx
  exact⟨o',(hs.2 b (Nat.ne_of_lt (Nat.lt_of_lt_of_le (Heap.lt_size e) I.ok.above))).trans e1⟩
 ·cases j with
  | zero=>
   have e1':x=y:=by simpa using e1
   subst e1'
   have e2':v=v':=by simpa [bst] using e2
   subst e2'
   exact⟨u,r,.inl ⟨hk,by simp⟩⟩
  | succ j=>
   have e2':(bst fv σ o)[j+1]?=some (some v'):=by simpa [bst] using e2
   obtain⟨u',r',q⟩:=hl (j+1) y v' e1 e2' e3
   refine⟨u',r',?_⟩
   obtain⟨p,hp,rfl,_⟩:=bst_get e1 e2
   rcases q with ⟨k,e⟩ | ⟨k,c,e,z⟩
   ·exact .inl ⟨k,by simp [(B.fvs p hp).1,e]⟩
   ·exact .inr ⟨k,c,e,z.sameBut hs (cne _ c e)⟩
 ·obtain⟨w',z⟩:=I.cell y c e
  exact⟨w',z.sameBut hs (cne y c e)⟩
 ·obtain⟨e,n,ne,nf,d⟩:=I.pin p hp
  exact⟨(hs.2 p.1 ne).trans e,n,ne,nf,d⟩
theorem blk_run {pins:List (Addr×Obj)} {σ:St} {H:Hp} {s2:Shared} {it:Addr} {fp:List Addr} {tn:Nat->Heap->Prop} {J:It} {Q:VK} {E:Value->Shared->Prop} {RR:Value->Addr->Result->Shared->Prop}
  (hc:X.calm=true) (B:BlkOk X x fv scope cl) (he:∀C s H fp,PE (blk X x fv scope cl C s H fp) elt te) (I:Inv X pins σ H s2) (T:Turn X.prog X.w X.K (.Name x px) J fp it tn) (st:tn 0 s2.heap) (hf:∀b∈fp,FpOk X pins H b)
  (rd:∀D,H D=none->∃W:Nat->Nat->Hp->Prop,(∃m,W 0 m (upd H D (.lst [])))∧∀i m H,W i m H->
   (J.stop i H∧Q (.ref D) H)∨(J.go i H∧∃N:Hp->Prop,(∀H',N H'->∃m',m' < m∧W (i+1) m' H')∧∀v H',J.yld i H v H'->te (bst fv σ (some v)) H' fun y H2=>∃ys,H2 D=some (.lst ys)∧ys.length < sizeLine∧N (upd H2 D (.lst (ys++[y])))))
  (hRR:∀D C s' H' m',Inv X pins σ H' s'->FpOk X pins H' C->s'.heap.Ns C m'->Q (.ref D) H'->RR (.ref D) C (.ok .next) s'):
  wpAny (model X.prog X.w) X.A (newList []) (fun acc s₃=>wpAny (model X.prog X.w) X.A (newFunctionEnv scope X.env.globals cl [] X.env.qual none .none (some X.env)) (fun cenv s₄=>
   codeAny (model X.prog X.w) X.A (.compStart (.ListComp elt [⟨.Name x px,iter,[],0⟩] scope pos) 0 (.ref it) acc { cenv with scope:=relabel scope X.env }) (RR acc cenv.locals) s₄) E s₃) E s2:=by
 refine wpAny_newObj_type ?_ (by show 0<=sizeLine;exact Nat.zero_le _)
 have hD:H s2.heap.objs.size=none:=I.hok.fresh (Nat.le_refl _)
 have I3:=I.lnew (ys:=[]) (its:=[]) (t':=s2.toks) .nil (Nat.zero_le _)
 generalize hs3:({ s2 with heap:=s2.heap.push { cls:=.type "list",data:=.seq ([]:List Value).toArray },toks:=s2.toks }:Shared)=s3 at I3
 have sz3:s3.heap.objs.size=s2.heap.objs.size+1:=by rw [← hs3];exact Heap.size_push ..
 have up3:∀b o,s2.heap.get? b=some o->s3.heap.get? b=some o:=fun b o e=>by rw [← hs3];exact Heap.get?_push_of_some _ e
 have hf3:∀b∈fp,FpOk X pins (upd H s2.heap.objs.size (.lst [])) b:=fun b hb=>by
  obtain⟨f0,r⟩:=hf b hb
  refine⟨?_,r⟩
  obtain⟨o,e,_⟩:=T.obj 0 _ st b hb
  rw [upd_ne (Nat.ne_of_lt (Heap.lt_size e))];exact f0
 have ltf:∀b∈fp,b < s2.heap.objs.size:=fun b hb=>by
  obtain⟨o,e,_⟩:=T.obj 0 _ st b hb
  exact Heap.lt_size e
 have st3:tn 0 s3.heap:=T.keep 0 _ _ st fun b _ o e=>up3 b o e
 obtain⟨W,⟨m0,w0⟩,turn⟩:=rd _ hD
 refine wpAny_newFunctionEnv B.nocell (by intro y hy;simp at hy) (fun h₁ hns₁ hsb₁=>?_) B.kind
 have hfC:∀b∈fp,b≠s3.heap.objs.size:=fun b hb=>Nat.ne_of_lt (by rw [sz3];exact Nat.lt_succ_of_lt (ltf b hb))
 have up4:∀b o,s3.heap.get? b=some o->h₁.get? b=some o:=fun b o e=>hsb₁.extBut b o (Nat.ne_of_lt (Heap.lt_size e)) (Heap.get?_push_of_some _ e)
 generalize hs4:({ s3 with heap:=h₁,toks:=s3.toks+([]:List (Str×Value)).length }:Shared)=s4
 have h4:s4.heap=h₁:=by rw [← hs4]
 have I4:Inv (blk X x fv scope cl s3.heap.objs.size s3 (upd H s2.heap.objs.size (.lst [])) fp) [] (bst fv σ none) (upd H s2.heap.objs.size (.lst [])) s4:=
  blk_start B I3 hf3 rfl hfC (by rw [← hs4]) (by rw [← hs4]) (fun b o e=>by rw [h4];exact up4 b o e) (by rw [h4];exact hns₁)
 have st4:tn 0 s4.heap:=by rw [h4];exact T.keep 0 _ _ st3 fun b _ o e=>up4 b o e
 have stat:∀{H':Hp},(∀b∈fp,H' b=none)->∀b∈fp,FpOk (blk X x fv scope cl s3.heap.objs.size s3 (upd H s2.heap.objs.size (.lst [])) fp) [] H' b:=fun {H'} hn b hb=>by
  obtain⟨_,f1,f2,f3,f4,f5⟩:=hf b hb
  refine⟨hn b hb,hfC b hb,fun z=>?_,.inl hb,fun y c e=>f4 y c (B.sub y c e),fun p hp=>absurd (show p∈([]:List (Addr×Obj)) from hp) (by simp)⟩
  rcases List.mem_cons.mp (I.stkSub b z) with q | q
  ·exact f1 q
  ·exact f2 q
 have loop:codeAny (model X.prog X.w) X.A (.compLoop (.ListComp elt [⟨.Name x px,iter,[],0⟩] scope pos) 0 (.ref it) (.ref s2.heap.objs.size) (compEnvC scope cl s3.heap.objs.size X.env)) (RR (.ref s2.heap.objs.size) s3.heap.objs.size) s4:=by
  refine compLoop_one (fun n s'=>∃i H' o,Inv (blk X x fv scope cl s3.heap.objs.size s3 (upd H s2.heap.objs.size (.lst [])) fp) [] (bst fv σ o) H' s'∧tn i s'.heap∧(∀b∈fp,H' b=none)∧W i n H') ?_ m0
   ⟨0,_,none,I4,st4,fun b hb=>(hf3 b hb).1,w0⟩
  rintro n s5 E' ⟨i,H5,o5,I5,st5,fr5,w5⟩
  rcases turn i n H5 w5 with ⟨stop,q⟩ | ⟨go,N,hN,step⟩
  ·refine thn (T.done (blk X x fv scope cl s3.heap.objs.size s3 (upd H s2.heap.objs.size (.lst [])) fp) rfl rfl rfl hc i [] s5 _ H5 _ I5 (stat fr5) st5 stop) fun r s6 ⟨hr,I6⟩=>?_
   subst hr
   obtain⟨m6,hn6,_⟩:=I6.loc
   have un:Un (frs X.stack) fp H H5 s2.heap s6.heap:=by
    have u1:Un (frs X.stack) fp H (upd H s2.heap.objs.size (.lst [])) s2.heap s3.heap:=Un.laid up3 (Nat.le_refl _) hD
    exact u1.trans I6.base
   have J6:Inv X pins σ H5 s6:=by
    refine I.call' ?_ un I6.hok I6.bare fun b hb=>?_
    ·have:=I6.os
     rw [show (blk X x fv scope cl s3.heap.objs.size s3 (upd H s2.heap.objs.size (.lst [])) fp).s₀.os=s2.os by rw [← hs3]] at this
     exact this
    ·obtain⟨_,f1,f2,f3,f4,f5⟩:=hf b hb
     exact⟨f3,f1,f4,f5⟩
   refine hRR _ _ s6 H5 m6 J6 ?_ hn6 q
   exact I3.fpOk (Nat.le_refl _) I6.free
  ·refine thn (T.item (blk X x fv scope cl s3.heap.objs.size s3 (upd H s2.heap.objs.size (.lst [])) fp) rfl rfl rfl hc i [] s5 _ H5 _ I5 (stat fr5) st5 go) fun r s6 ⟨u,hr,h6⟩=>?_
   subst hr
   refine thn h6 fun _ s7 ⟨v,H7,I7,r7,y7,st7,fr7⟩=>?_
   have I7':=I7.pinned (stat fr7) (T.obj _ _ st7)
   refine blk_store B I7' r7 fun s8 I8=>?_
   have e8:=he _ _ _ _ _ s8 _ H7 _ I8 (step v H7 y7)
   refine wpAny_mono e8 (fun y s9 ⟨yv,H9,I9,r9,ys,hD9,hz,n9⟩=>?_) fun _ _ z=>False.elim z
   have a9:=mt_append (X:=blk X x fv scope cl s3.heap.objs.size s3 (upd H s2.heap.objs.size (.lst [])) fp) _ s9 _ H9 (.ref s2.heap.objs.size) [yv] (.ref s2.heap.objs.size) [y] (fun _ H10=>H10=upd H9 s2.heap.objs.size (.lst (ys++[yv]))) I9 rfl (.cons r9 .nil)
    ⟨_,ys,yv,rfl,rfl,hD9,hz,rfl⟩
   refine wpAny_mono a9 (fun _ s10 ⟨_,H10,I10,_,e10⟩=>?_) fun _ _ z=>False.elim z
   subst e10
   obtain⟨m',hm,w9⟩:=hN _ n9
   refine⟨m',hm,i+1,_,some v,I10.unpinned,T.keep _ _ _ st7 fun b hb o e=>(I10.pin (b,o) (List.mem_append_right _ (List.mem_append_right _ (mem_pinsAt hb e)))).1,fun b hb=>?_,w9⟩
   obtain⟨o,e,_⟩:=T.obj _ _ st7 b hb
   exact (I10.pin (b,o) (List.mem_append_right _ (List.mem_append_right _ (mem_pinsAt hb e)))).2.1
 exact codeAny_compStart_list loop (T.self _ 0 _ _ _ st4 loop)
end
end L2
namespace L2
open PySem PySem.Spec PyProof.Rows
section
variable {X:Cx} {elt iter:Expr} {x:Str} {px:Pos} {fv:List (Nat×Str)} {scope:Scope} {cl:List (Str×Addr)} {pos:Pos} {te:TE} {wi:TI}
theorem pe_lcomp (hc:X.calm=true) (B:BlkOk X x fv scope cl) (hi:PI X (.Name x px) iter wi) (he:∀C s H fp,PE (blk X x fv scope cl C s H fp) elt te)
  (hs:∀v,foldedSetIterable iter X.env v=pure v:=by intro _;rfl):PE X (.ListComp elt [⟨.Name x px,iter,[],0⟩] scope pos) (tComp fv wi te):=by
 intro pins s σ H Q I h
 rw [eval_ListComp]
 refine wpAny_comprehension_free (use:=none) rfl hs B.clos B.kind B.names (thn (hi pins s σ H _ I h) fun v s1 h1=>thn h1 fun itv s2 h2=>?_)
 obtain⟨it,fp,tn,J,H2,e,I2,T,st2,f2,rd⟩:=h2
 subst e
 refine blk_run (RR:=fun acc C=>compPost (model X.prog X.w) X.A X.xe none (EP X pins σ Q) acc C) hc B he I2 T st2 f2 rd ?_
 intro D C s' H' m' I' fC hn q
 exact⟨m',hn,fun h' sb=>⟨.ref D,H',I'.turned (t':=s'.toks) (fun b o hb e=>(sb.2 b hb).trans e) fC.1 fC.2.1 fC.2.2.2.1 fC.2.2.2.2.1 fC.2.2.2.2.2,rfl,q⟩⟩
theorem ps_setC {i:Nat} {y:Str} {py spos:Pos} (hc:X.calm=true) (B:BlkOk X x fv scope cl) (hi:PI X (.Name x px) iter wi) (he:∀C s H fp,PE (blk X x fv scope cl C s H fp) elt te)
  (hN:X.N.Nodup) (hiy:X.N[i]?=some y) (hy:X.env.scope.names.lookup y=some .local)
  (hsw:swapsWith (.ListComp elt [⟨.Name x px,iter,[],0⟩] scope pos) (some (.Name y py)) spos.line X.env=pure true:=by rfl)
  (hs:∀v,foldedSetIterable iter X.env v=pure v:=by intro _;rfl):
  PS X (.Assign [.Name y py] (.ListComp elt [⟨.Name x px,iter,[],0⟩] scope pos) spos) (tAsg (tComp fv wi te) (gName i)):=by
 intro pins s σ H D I h
 rw [exec_Assign_Name_used _ _ _ _ hsw]
 refine wpAny_bind (wpAny_standAt (wpAny_bind ?_))
 show wpAny _ X.A (do let _ ← comprehension (.ListComp elt [⟨.Name x px,iter,[],0⟩] scope pos) scope X.env _ (newList []) false (eval iter X.env) (some (assign (.Name y py) X.env))) _ _ s
 refine wpAny_bind (wpAny_mono (wpAny_comprehension_free (use:=some (assign (.Name y py) X.env)) (Q:=fun _ s'=>SP X pins D .next s') rfl hs B.clos B.kind B.names
  (thn (hi pins s σ H _ I h) fun v s1 h1=>thn h1 fun itv s2 h2=>?_)) (fun _ s' hq=>wpAny_pure (wpAny_pure hq)) fun _ _ e=>e)
 obtain⟨it,fp,tn,J,H2,e,I2,T,st2,f2,rd⟩:=h2
 subst e
 refine blk_run (Q:=fun x H1=>gName i x σ H1 D.nx) (RR:=fun acc C=>compPost (model X.prog X.w) X.A X.xe (some (assign (.Name y py) X.env)) (fun _ s'=>SP X pins D .next s') acc C) hc B he I2 T st2 f2 rd ?_
 intro Dl C s' H' m' I' fC hn q
 show wpAny _ X.A (assign (.Name y py) X.env (.ref Dl)) _ _ _
 refine wpAny_assign_Name (store_ok2 I' hN hiy (.inl hy) (v:=.ref Dl) rfl (fun s'' I'' hab=>?_) (.inr hy))
 obtain⟨a,sb,ha⟩:=hab
 have hCa:C≠a:=by
  rcases ha with rfl | e
  ·exact fC.2.1
  ·exact Ne.symm (fC.2.2.2.2.1 _ _ e)
 exact⟨m',hn.sameBut sb hCa,fun h' sb'=>⟨_,H',I''.turned (t':=s''.toks) (fun b o hb e=>(sb'.2 b hb).trans e) fC.1 fC.2.1 fC.2.2.2.1 fC.2.2.2.2.1 fC.2.2.2.2.2,q⟩⟩
end
def Itrs (lo c:Int) (n:Nat):It:=⟨fun i _=>i < n,fun i H x H'=>H'=H∧x=.int (lo+i * c),fun i _=>n<=i⟩
theorem turn_ranges {P:Program} {w:World} {K:PySem.W.Frag} {tg:Expr} (it:Addr) (lo c:Int) (n:Nat):Turn P w K tg (Itrs lo c n) [it] it (fun i h=>IsRangeIter h it (lo+(i:Nat) * c) ((n:Int) - (i:Nat)) c) where
 mem:=by simp
 obj:=fun i h st b hb=>by
  have e:b=it:=by simpa using hb
  subst e
  exact⟨_,st,fun v z=>by
   have z':Data.fields _=Data.cell v:=z
   cases z'⟩
 keep:=fun i h h' st k=>k it (by simp) _ st
 item:=by
  intro X hP hw hK hc i pins s σ H E I hf st hg
  subst hP hw hK
  obtain⟨f0,f1,f2,f3,f4,f5⟩:=hf it (by simp)
  have W:=Walks.range (prog:=X.prog) (w:=X.w) (I.ok.hd hc) it lo c n
  refine W.item i s _ _ hg st fun v h' tk hv st' kk=>?_
  obtain⟨t,rfl⟩:=hv
  have I1:Inv X pins σ H { s with heap:=h',toks:=tk }:=I.turned (fun b o hb e=>kk b o (by simpa using hb) e) f0 f1 f3 f4 f5
  exact⟨_,rfl,go_of (s:={ s with heap:=h',toks:=tk }) (n := "range_iterator") st' rfl rfl (by decide) ⟨.int (lo+i * c),H,I1,⟨t,rfl⟩,⟨rfl,rfl⟩,st',fun b hb=>(hf b hb).1⟩⟩
 done:=by
  intro X hP hw hK hc i pins s σ H E I hf st hg
  subst hP hw hK
  obtain⟨f0,f1,f2,f3,f4,f5⟩:=hf it (by simp)
  exact wpAny_pyNext_range_end (I.ok.hd hc) st (by have:n<=i:=hg;omega) fun h' eb=>⟨rfl,I.turned (t':=s.toks) (fun b o hb e=>eb b o hb e) f0 f1 f3 f4 f5⟩
 self:=fun _ _ _ _ _ st h=>wpAny_pyIter_rangeiter st h
section
variable {X:Cx} {tg:Expr}
def iRng3 (ta:TA):TI:=fun σ H R=>ta σ H fun vs H1=>∃(i j k:Int) (n:Nat),vs=[.int i,.int j,.int k]∧k≠0∧k.natAbs < 1073741824∧Builtin.Range.small i j k=true∧Builtin.Range.rangeSize i j k=n∧R (Itrs i k n) H1
theorem pi_range3 {a b c:Expr} {ta:TA} {p pos:Pos} (hg:Gl X "range") (hm:X.mg "range" = none) (ha:PA X [a,b,c] ta) (hs:starEach [a,b,c] X.env=[(false,eval a X.env),(false,eval b X.env),(false,eval c X.env)]:=by rfl)
  (hs2:starEach [b,c] X.env=[(false,eval b X.env),(false,eval c X.env)]:=by rfl):PI X tg (.Call (.Name "range" p) [a,b,c] [] pos) (iRng3 ta):=by
 intro pins s σ H R I h
 refine Call_ (ld_blt I hg hm boot_range (PyProof.Rows.callWith_type1 (thn (ha pos pins s σ H _ I h) fun us s1 ⟨vs,H1,I1,r1,q1⟩=>?_) (by rw [hs,hs2]) (by rw [hs2];rfl)))
 obtain⟨i,j,k,n,e,hk,hk2,hsm,hn,q⟩:=q1
 subst e
 cases r1 with
 | cons r rr=>
  cases rr with
  | cons r' rr=>
   cases rr with
   | cons r'' rr=>
    cases rr
    obtain⟨t,rfl⟩:=r
    obtain⟨t',rfl⟩:=r'
    obtain⟨t'',rfl⟩:=r''
    refine call_range_3 hk ?_ (.inl (PyProof.noPylong_small hk2))
    refine wpAny_pyIter_range (IsRange.new ..) hsm ?_
    have I2:Inv X pins σ H1 { s1 with heap:=s1.heap.push { cls:=.type "range",data:=.fields #[.int i t,.int j t',.int k t''] },toks:=s1.toks }:=I1.kept fun b o e=>Heap.get?_push_of_some _ e
    refine⟨(s1.heap.push { cls:=.type "range",data:=.fields #[.int i t,.int j t',.int k t''] }).objs.size,[(s1.heap.push { cls:=.type "range",data:=.fields #[.int i t,.int j t',.int k t''] }).objs.size],_,_,H1,rfl,
     I2.kept (t':=s1.toks) fun b o e=>Heap.get?_push_of_some _ e,turn_ranges _ i k n,?_,fun b hb=>?_,q⟩
    ·have e1:i+((0:Nat):Int) * k=i:=by simp
     have e2:((n:Nat):Int) - ((0:Nat):Int)=Builtin.Range.rangeSize i j k:=by rw [hn];simp
     show IsRangeIter _ _ (i+((0:Nat):Int) * k) (((n:Nat):Int) - ((0:Nat):Int)) k
     rw [e1,e2]
     exact Heap.get?_push_size _ rfl
    ·have e:b=(s1.heap.push { cls:=.type "range",data:=.fields #[.int i t,.int j t',.int k t''] }).objs.size:=by simpa using hb
     subst e
     exact I2.fpOk (Nat.le_refl _) (I2.hok.fresh (Nat.le_refl _))
end
theorem for_ranges {lo c:Int} {n:Nat} {g:TG} {tb:TS} {D:Ends} {σ:St} {H:Hp} (Pv:Nat->St->Hp->Prop) (h0:Pv 0 σ H)
  (hs:∀i σ H,i < n->Pv i σ H->g (.int (lo+i * c)) σ H fun σ2 H2=>tb { D with nx:=Pv (i+1),ct:=Pv (i+1),bk:=D.nx } σ2 H2) (hd:∀σ H,Pv n σ H->D.nx σ H):
  ∃W:Nat->Nat->St->Hp->Prop,(∃m,W 0 m σ H)∧∀i m σ H,W i m σ H->
   ((Itrs lo c n).stop i H∧D.nx σ H)∨((Itrs lo c n).go i H∧∃N:St->Hp->Prop,(∀σ' H',N σ' H'->∃m',m' < m∧W (i+1) m' σ' H')∧∀x H',(Itrs lo c n).yld i H x H'->g x σ H' fun σ2 H2=>tb { D with nx:=N,ct:=N,bk:=D.nx } σ2 H2):=by
 refine⟨fun i m σ H=>m=n - i∧i<=n∧Pv i σ H,⟨n,by simp,Nat.zero_le _,h0⟩,?_⟩
 rintro i m σ H ⟨rfl,hi,p⟩
 by_cases hlt:i < n
 ·refine .inr ⟨hlt,Pv (i+1),fun σ' H' p'=>⟨n - (i+1),by omega,rfl,hlt,p'⟩,fun x H' y=>?_⟩
  obtain⟨e,y⟩:=y
  subst e y
  exact hs i σ _ hlt p
 ·have e:i=n:=by omega
  subst e
  exact .inl ⟨Nat.le_refl _,hd σ H p⟩
theorem comp_list {K:PySem.W.Frag} {a:Addr} {xs:List V} {fv:List (Nat×Str)} {te:TE} {Q:VK} {σ:St} {H1:Hp} {D:Addr} (Pv:Nat->Hp->Prop) (h0:Pv 0 (upd H1 D (.lst []))) (hl:∀i H,i<=xs.length->Pv i H->SqL K H a xs)
  (hs:∀i v H,xs[i]?=some v->Pv i H->te (bst fv σ (some v)) H fun y H2=>∃ys,H2 D=some (.lst ys)∧ys.length < sizeLine∧Pv (i+1) (upd H2 D (.lst (ys++[y])))) (hd:∀H,Pv xs.length H->Q (.ref D) H):
  ∃W:Nat->Nat->Hp->Prop,(∃m,W 0 m (upd H1 D (.lst [])))∧∀i m H,W i m H->
   ((Itl K a).stop i H∧Q (.ref D) H)∨((Itl K a).go i H∧∃N:Hp->Prop,(∀H',N H'->∃m',m' < m∧W (i+1) m' H')∧∀v H',(Itl K a).yld i H v H'->te (bst fv σ (some v)) H' fun y H2=>∃ys,H2 D=some (.lst ys)∧ys.length < sizeLine∧N (upd H2 D (.lst (ys++[y])))):=by
 refine⟨fun i m H=>m=xs.length - i∧i<=xs.length∧Pv i H,⟨xs.length,by simp,Nat.zero_le _,h0⟩,?_⟩
 rintro i m H ⟨rfl,hi,p⟩
 have q:=hl i H hi p
 by_cases hlt:i < xs.length
 ·refine .inr ⟨⟨xs,xs[i],q,List.getElem?_eq_getElem hlt⟩,Pv (i+1),fun H' p'=>⟨xs.length - (i+1),by omega,rfl,hlt,p'⟩,fun v H' y=>?_⟩
  obtain⟨e,y⟩:=y
  subst e
  exact hs i v _ (y xs q) p
 ·have e:i=xs.length:=by omega
  subst e
  exact .inl ⟨⟨xs,q,Nat.le_refl _⟩,hd H p⟩
theorem comp_range {lo:Int} {n:Nat} {fv:List (Nat×Str)} {te:TE} {Q:VK} {σ:St} {H1:Hp} {D:Addr} (Pv:Nat->Hp->Prop) (h0:Pv 0 (upd H1 D (.lst [])))
  (hs:∀i H,i < n->Pv i H->te (bst fv σ (some (.int (lo+i)))) H fun y H2=>∃ys,H2 D=some (.lst ys)∧ys.length < sizeLine∧Pv (i+1) (upd H2 D (.lst (ys++[y])))) (hd:∀H,Pv n H->Q (.ref D) H):
  ∃W:Nat->Nat->Hp->Prop,(∃m,W 0 m (upd H1 D (.lst [])))∧∀i m H,W i m H->
   ((Itr lo n).stop i H∧Q (.ref D) H)∨((Itr lo n).go i H∧∃N:Hp->Prop,(∀H',N H'->∃m',m' < m∧W (i+1) m' H')∧∀v H',(Itr lo n).yld i H v H'->te (bst fv σ (some v)) H' fun y H2=>∃ys,H2 D=some (.lst ys)∧ys.length < sizeLine∧N (upd H2 D (.lst (ys++[y])))):=by
 refine⟨fun i m H=>m=n - i∧i<=n∧Pv i H,⟨n,by simp,Nat.zero_le _,h0⟩,?_⟩
 rintro i m H ⟨rfl,hi,p⟩
 by_cases hlt:i < n
 ·refine .inr ⟨hlt,Pv (i+1),fun H' p'=>⟨n - (i+1),by omega,rfl,hlt,p'⟩,fun v H' y=>?_⟩
  obtain⟨e,y⟩:=y
  subst e y
  exact hs i _ hlt p
 ·have e:i=n:=by omega
  subst e
  exact .inl ⟨Nat.le_refl _,hd H p⟩
theorem sub_nil {cells:List (Str×Addr)}:∀y c,([]:List (Str×Addr)).lookup y=some c->cells.lookup y=some c:=fun _ _ h=>nomatch h
theorem sub_cons {n:Str} {c0:Addr} {r cells:List (Str×Addr)} (h0:cells.lookup n=some c0) (h:∀y c,r.lookup y=some c->cells.lookup y=some c):∀y c,((n,c0) :: r).lookup y=some c->cells.lookup y=some c:=fun y c q=>by
 rw [List.lookup_cons] at q
 cases e:y == n with
 | true=>
  rw [e] at q
  cases q
  rw [eq_of_beq e];exact h0
 | false=>
  rw [e] at q
  exact h y c q
theorem has_of {l:List (Str×NameKind)} {cl:List (Str×Addr)} (h:(l.all fun p=>(p.2 != .cell && p.2 != .free) || (cl.lookup p.1).isSome)=true):∀y,(l.lookup y=some .cell∨l.lookup y=some .free)->∃c,cl.lookup y=some c:=fun y hy=>by
 have key:∀k,l.lookup y=some k->(k=.cell∨k=.free)->∃c,cl.lookup y=some c:=fun k e hk=>by
  have q:=List.all_eq_true.mp h (y,k) (PySem.mem_of_lookup e)
  have z:(k != .cell && k != .free)=false:=by rcases hk with rfl | rfl <;> rfl
  rw [show ((y,k).2 != .cell && (y,k).2 != .free)=false from z,Bool.false_or] at q
  exact Option.isSome_iff_exists.mp q
 rcases hy with e | e
 ·exact key _ e (.inl rfl)
 ·exact key _ e (.inr rfl)
def FvOk (X:Cx) (x:Str) (scope:Scope) (cl:List (Str×Addr)) (fv:List (Nat×Str)):Prop:=
 ∀p∈fv,p.2≠x∧X.N[p.1]?=some p.2∧(X.env.scope.names.lookup p.2=some .cell∨X.env.scope.names.lookup p.2=some .free)∧
  ((relabel scope X.env).names.lookup p.2=some .cell∨(relabel scope X.env).names.lookup p.2=some .free)∧∃c,cl.lookup p.2=some c
theorem fv_nil {X:Cx} {x:Str} {scope:Scope} {cl:List (Str×Addr)}:FvOk X x scope cl []:=fun _ h=>nomatch h
theorem fv_cons {X:Cx} {x:Str} {scope:Scope} {cl:List (Str×Addr)} {fv:List (Nat×Str)} (i:Nat) (y:Str) (h1:y≠x) (h2:X.N[i]?=some y) (h3:X.env.scope.names.lookup y=some .cell∨X.env.scope.names.lookup y=some .free)
  (h4:(relabel scope X.env).names.lookup y=some .cell∨(relabel scope X.env).names.lookup y=some .free) (h5:∃c,cl.lookup y=some c) (r:FvOk X x scope cl fv):FvOk X x scope cl ((i,y) :: fv):=fun p hp=>by
 rcases List.mem_cons.mp hp with rfl | hp
 ·exact⟨h1,h2,h3,h4,h5⟩
 ·exact r p hp
theorem blkok {X:Cx} {x:Str} {fv:List (Nat×Str)} {scope:Scope} {cl:List (Str×Addr)} (clos:closureFor scope X.env=pure cl) (sub:∀y c,cl.lookup y=some c->X.env.cells.lookup y=some c) (fvs:FvOk X x scope cl fv)
  (kind:scope.kind=.function:=by rfl) (here:scope.names.lookup x=some .local:=by rfl) (nocell:∀y∈scope.names,y.2≠.cell:=by decide +kernel)
  (names:∀y∈scope.names,y.2=.local->scope.names.lookup y.1=some .local:=by decide +kernel)
  (has:((relabel scope X.env).names.all fun p=>(p.2 != .cell && p.2 != .free) || (cl.lookup p.1).isSome)=true:=by rfl):BlkOk X x fv scope cl:=
 ⟨clos,nocell,kind,names,here,sub,has_of has,fvs⟩
section
variable {X:Cx}
theorem call_isinst:CallR X (.builtin "isinstance") (fun xs H Q=>∃x n t b,xs=[x,.ty n]∧TyOf X.K H x t∧PySem.W.kitOne X.K t (.type n)=some b∧Q (.bl b) H):=by
 intro pins s σ H xs us Q I rv h
 obtain⟨x,n,t,b,rfl,ty,e,q⟩:=h
 cases rv with
 | cons r rr=>
  cases rr with
  | cons r' rr=>
   cases rr
   cases r'
   exact isinst_ok I r ty e fun tk=>⟨.bl b,H,I.tok _,rfl,q⟩
theorem mt_bitlen:MtR X "int.bit_length" (fun x xs H Q=>∃i,x=.int i∧xs=[]∧Q (.int (Builtin.Int.intBits i:Nat)) H):=by
 intro pins s σ H x xs v us Q I rx rv h
 obtain⟨i,rfl,rfl,q⟩:=h
 cases rv
 obtain⟨t,rfl⟩:=rx
 exact call_gives F.slot_int_bit_length (typeIs_int s i t) F.entry_int_bit_length (F.args_int_bit_length_1 _) (PySem.AutoIntG2.int_bit_length_int_0 i t) ⟨.int _,H,I.tok _,⟨_,rfl⟩,q⟩
end
theorem intBits_le_of {i:Int} {k:Nat} (h:i.natAbs < 2 ^ k):Builtin.Int.intBits i<=k:=by
 unfold Builtin.Int.intBits
 split
 ·exact Nat.zero_le _
 ·rename_i hz
  have hz':i≠0:=by simpa using hz
  have:i.natAbs.log2 < k:=(Nat.log2_lt (by omega)).mpr h
  omega
theorem mulOk_of {i j:Int} {k l:Nat} (h1:i.natAbs < 2 ^ k) (h2:j.natAbs < 2 ^ l) (h:k+l<=134217728):IntMulOk i j:=IntMulOk.of_le (intBits_le_of h1) (intBits_le_of h2) h
theorem op_fdivB {X:Cx}:OpR X (binaryOp .FloorDiv) (rI (fun _ j=>j≠0∧j.natAbs < 2 ^ 9000) fun i j=>.int (i.fdiv j)):=
 opI fun _ j _ _ _ _ _ hc q=>floordiv_int hc.1 q (.inl (PyProof.noPylong_of_log2 ((Nat.log2_lt (by have:=hc.1;omega)).mpr hc.2)))
end L2
namespace L2
open PySem PySem.Spec PyProof.Rows
section
variable {σ:St} {H:Hp} {Q:VK} {D:Ends} {t u:TS} {te ta tb tc to ti:TE} {tt:TT} {tA:TA} {i:Nat} {x y v:V} {r r':R2} {QT:Bool->Hp->Prop} {QA:List V->Hp->Prop}
theorem a_seq:tSeq t u D σ H=t { D with nx:=u D } σ H:=rfl
theorem a_next:tNext D σ H=D.nx σ H:=rfl
theorem a_brk:tBreak D σ H=D.bk σ H:=rfl
theorem a_cnt:tCont D σ H=D.ct σ H:=rfl
theorem a_drop:tDrop te D σ H=te σ H fun _ H1=>D.nx σ H1:=rfl
theorem a_ret:tRet te D σ H=te σ H D.rt:=rfl
theorem a_retN:tRetN D σ H=D.rt .non H:=rfl
theorem a_if:tIfS tt t u D σ H=tt σ H fun b H1=>if b=true then t D σ H1 else u D σ H1:=rfl
theorem a_asg {g:TG}:tAsg te g D σ H=te σ H fun x H1=>g x σ H1 D.nx:=rfl
theorem a_gname {Q:St->Hp->Prop}:gName i v σ H Q=Q (σ.set i (some v)) H:=rfl
theorem a_gsub {ts:TSet} {Q:St->Hp->Prop}:gSub to ti ts v σ H Q=to σ H fun o H1=>ti σ H1 fun i H2=>ts o i v H2 fun H3=>Q σ H3:=rfl
theorem a_gtup {K:PySem.W.Frag} {n:Nat} {ts:TGs} {Q:St->Hp->Prop}:gTup K n ts v σ H Q=∃a xs,v=.ref a∧SqT K H a xs∧xs.length=n∧ts xs σ H Q:=rfl
theorem a_gnil {vs:List V} {Q:St->Hp->Prop}:gNil vs σ H Q=(vs=[]∧Q σ H):=rfl
theorem a_gcons {g:TG} {gs:TGs} {vs:List V} {Q:St->Hp->Prop}:gCons g gs vs σ H Q=∃v r,vs=v :: r∧g v σ H fun σ' H'=>gs r σ' H' Q:=rfl
theorem a_aug {ip:TIp}:tAug i te ip D σ H=∃x,σ[i]?=some (some x)∧te σ H fun y H1=>ip x y H1 fun z H2=>D.nx (σ.set i (some z)) H2:=rfl
theorem a_augS {tget:V->V->Hp->VK->Prop} {tip:TIp} {tset:TSet}:tAugS to ti te tget tip tset D σ H=to σ H fun o H1=>ti σ H1 fun i H2=>tget o i H2 fun x H3=>te σ H3 fun y H4=>tip x y H4 fun z H5=>tset o i z H5 fun H6=>D.nx σ H6:=rfl
theorem a_ipI {f:Int->Int->Int}:ipI f x y H Q=∃i j,x=.int i∧y=.int j∧Q (.int (f i j)) H:=rfl
theorem a_var:tVar i σ H Q=∃v,σ[i]?=some (some v)∧Q v H:=rfl
theorem a_c:tC v σ H Q=Q v H:=rfl
theorem a_op:tOp r ta tb σ H Q=ta σ H fun x H1=>tb σ H1 fun y H2=>r x y H2 Q:=rfl
theorem a_un {r:V->Hp->VK->Prop}:tUn r ta σ H Q=ta σ H fun x H1=>r x H1 Q:=rfl
theorem a_rI {C:Int->Int->Prop} {g:Int->Int->V}:rI C g x y H Q=∃i j,x=.int i∧y=.int j∧C i j∧Q (g i j) H:=rfl
theorem a_rI0 {g:Int->Int->V}:rI0 g x y H Q=∃i j,x=.int i∧y=.int j∧Q (g i j) H:=rfl
theorem a_rU {g:Int->V}:rU g x H Q=∃i,x=.int i∧Q (g i) H:=rfl
theorem a_eqI {i j:Int}:rEq (.int i) (.int j) H Q=Q (.bl (decide (i=j))) H:=by
 show (true=true∧Q (.bl (decide (V.int i=V.int j))) H)=_
 rw [show decide (V.int i=V.int j)=decide (i=j) by rw [dec_int];exact Bool.beq_eq_decide_eq i j]
 simp
theorem a_neI {i j:Int}:rNe (.int i) (.int j) H Q=Q (.bl (!decide (i=j))) H:=by
 show (true=true∧Q (.bl (!decide (V.int i=V.int j))) H)=_
 rw [show decide (V.int i=V.int j)=decide (i=j) by rw [dec_int];exact Bool.beq_eq_decide_eq i j]
 simp
theorem a_eqB {i j:Bool}:rEq (.bl i) (.bl j) H Q=Q (.bl (decide (i=j))) H:=by
 show (true=true∧Q (.bl (decide (V.bl i=V.bl j))) H)=_
 cases i <;> cases j <;> simp
theorem a_neB {i j:Bool}:rNe (.bl i) (.bl j) H Q=Q (.bl (!decide (i=j))) H:=by
 show (true=true∧Q (.bl (!decide (V.bl i=V.bl j))) H)=_
 cases i <;> cases j <;> simp
theorem a_tB:tB te σ H QT=te σ H fun x H1=>∃c,x=.bl c∧QT c H1:=rfl
theorem a_test:tTest te σ H QT=te σ H fun x H'=>∃k,x=.bl k∧QT k H':=rfl
theorem a_and {tt':TT}:tAnd tt tt' σ H QT=tt σ H fun c H1=>if c=true then tt' σ H1 QT else QT false H1:=rfl
theorem a_or {tt':TT}:tOr tt tt' σ H QT=tt σ H fun c H1=>if c=true then QT true H1 else tt' σ H1 QT:=rfl
theorem a_not:tNot tt σ H QT=tt σ H fun c H1=>QT (!c) H1:=rfl
theorem a_andV:tAndV ta tb σ H Q=ta σ H fun x H1=>∃c,x=.bl c∧if c=true then tb σ H1 Q else Q (.bl false) H1:=rfl
theorem a_orV:tOrV ta tb σ H Q=ta σ H fun x H1=>∃c,x=.bl c∧if c=true then Q (.bl true) H1 else tb σ H1 Q:=rfl
theorem a_notV:tNotV ta σ H Q=ta σ H fun x H1=>∃c,x=.bl c∧Q (.bl (!c)) H1:=rfl
theorem a_ifE:tIf tt ta tb σ H Q=tt σ H fun c H1=>if c=true then ta σ H1 Q else tb σ H1 Q:=rfl
theorem a_chain:tChain r r' ta tb tc σ H Q=ta σ H fun x H1=>tb σ H1 fun y H2=>r x y H2 fun z H3=>∃k,z=.bl k∧(if k=true then tc σ H3 fun w' H4=>r' y w' H4 Q else Q (.bl false) H3):=rfl
theorem a_nil:tNil σ H QA=QA [] H:=rfl
theorem a_cons:tCons ta tA σ H QA=ta σ H fun x H1=>tA σ H1 fun xs H2=>QA (x :: xs) H2:=rfl
theorem a_lst:tLst tA σ H Q=tA σ H fun xs H1=>xs.length<=sizeLine∧∀p,H1 p=none->Q (.ref p) (upd H1 p (.lst xs)):=rfl
theorem a_tup:tTup tA σ H Q=tA σ H fun xs H1=>xs.length<=sizeLine∧∀p,H1 p=none->Q (.ref p) (upd H1 p (.tup xs)):=rfl
theorem a_call {sp:Sp} {dvs:List V} {E:XK}:tCall sp dvs E tA σ H Q=tA σ H fun vs H1=>sp (vs++dvs) H1 Q E:=rfl
theorem a_cb {r:List V->Hp->VK->Prop}:tCB r tA σ H Q=tA σ H fun vs H1=>r vs H1 Q:=rfl
theorem a_bm0 {K:PySem.W.Frag} {T:String} {r:V->List V->Hp->VK->Prop}:tBM0 K T r to σ H Q=to σ H fun x H1=>tyV K T x H1∧r x [] H1 Q:=rfl
theorem a_bm {K:PySem.W.Frag} {T:String} {r:V->List V->Hp->VK->Prop}:tBM K T r to tA σ H Q=to σ H fun x H1=>tyV K T x H1∧tA σ H1 fun xs H2=>r x xs H2 Q:=rfl
theorem a_sl {r:V->Option Int->Option Int->Hp->VK->Prop} {tl th:TO}:tSl r te tl th σ H Q=te σ H fun x H1=>tl σ H1 fun l H2=>th σ H2 fun u H3=>r x l u H3 Q:=rfl
theorem a_nopart {Q:Option Int->Hp->Prop}:tNoPart σ H Q=Q none H:=rfl
theorem a_part {Q:Option Int->Hp->Prop}:tPart te σ H Q=te σ H fun x H1=>∃i,x=.int i∧Q (some i) H1:=rfl
theorem a_tyI {K:PySem.W.Frag} {T:String} {i:Int}:tyV K T (.int i) H=(T = "int"):=rfl
theorem a_tyL {K:PySem.W.Frag} {p:Addr} {xs:List V} (h:SqL K H p xs):tyV K "list" (.ref p) H:=.inl ⟨rfl,xs,h⟩
end
def Loop (J:It) (g:TG) (tb:TS) (D:Ends) (σ:St) (H:Hp):Prop:=∃W:Nat->Nat->St->Hp->Prop,(∃m,W 0 m σ H)∧∀i m σ H,W i m σ H->
 (J.stop i H∧D.nx σ H)∨(J.go i H∧∃N:St->Hp->Prop,(∀σ' H',N σ' H'->∃m',m' < m∧W (i+1) m' σ' H')∧∀x H',J.yld i H x H'->g x σ H' fun σ2 H2=>tb { D with nx:=N,ct:=N,bk:=D.nx } σ2 H2)
theorem a_for {wi:TI} {g:TG} {tb:TS} {D:Ends} {σ:St} {H:Hp}:tFor wi g tb D σ H=wi σ H fun J H1=>Loop J g tb D σ H1:=rfl
def CLoop (J:It) (fv:List (Nat×Str)) (te:TE) (Q:VK) (σ:St) (H1:Hp) (D:Addr):Prop:=∃W:Nat->Nat->Hp->Prop,(∃m,W 0 m (upd H1 D (.lst [])))∧∀i m H,W i m H->
 (J.stop i H∧Q (.ref D) H)∨(J.go i H∧∃N:Hp->Prop,(∀H',N H'->∃m',m' < m∧W (i+1) m' H')∧∀v H',J.yld i H v H'->te (bst fv σ (some v)) H' fun y H2=>∃ys,H2 D=some (.lst ys)∧ys.length < sizeLine∧N (upd H2 D (.lst (ys++[y]))))
theorem a_comp {fv:List (Nat×Str)} {wi:TI} {te:TE} {σ:St} {H:Hp} {Q:VK}:tComp fv wi te σ H Q=wi σ H fun J H1=>∀D,H1 D=none->CLoop J fv te Q σ H1 D:=rfl
theorem a_ilist {K:PySem.W.Frag} {tl:TE} {σ:St} {H:Hp} {R:It->Hp->Prop}:iList K tl σ H R=tl σ H fun x H1=>∃a,x=.ref a∧(∃xs,SqL K H1 a xs)∧R (Itl K a) H1:=rfl
theorem a_itup {K:PySem.W.Frag} {tl:TE} {σ:St} {H:Hp} {R:It->Hp->Prop}:iTup K tl σ H R=tl σ H fun x H1=>∃a,x=.ref a∧(∃xs,SqT K H1 a xs)∧R (Itt K a) H1:=rfl
theorem a_irng1 {ta:TA} {σ:St} {H:Hp} {R:It->Hp->Prop}:iRng1 ta σ H R=ta σ H fun vs H1=>∃j:Int,vs=[.int j]∧-(2 ^ 62)<=j∧j < 2 ^ 62∧R (Itr 0 j.toNat) H1:=rfl
theorem a_irng2 {ta:TA} {σ:St} {H:Hp} {R:It->Hp->Prop}:iRng2 ta σ H R=ta σ H fun vs H1=>∃i j:Int,vs=[.int i,.int j]∧(-(2 ^ 62)<=i∧i < 2 ^ 62∧-(2 ^ 62)<=j∧j < 2 ^ 62)∧R (Itr i (j - i).toNat) H1:=rfl
theorem a_irng3 {ta:TA} {σ:St} {H:Hp} {R:It->Hp->Prop}:iRng3 ta σ H R=ta σ H fun vs H1=>∃(i j k:Int) (n:Nat),vs=[.int i,.int j,.int k]∧k≠0∧k.natAbs < 1073741824∧Builtin.Range.small i j k=true∧Builtin.Range.rangeSize i j k=n∧R (Itrs i k n) H1:=rfl
theorem while_of {c:TT} {tb:TS} {D:Ends} {σ:St} {H:Hp} (Pv:Nat->St->Hp->Prop) (m:Nat) (h0:Pv m σ H)
  (hs:∀m σ H,Pv m σ H->c σ H fun b H1=>if b=true then ∃N:St->Hp->Prop,(∀σ' H',N σ' H'->∃m',m' < m∧Pv m' σ' H')∧tb { D with nx:=N,ct:=N,bk:=D.nx } σ H1 else D.nx σ H1):tWhile c tb D σ H:=⟨Pv,⟨m,h0⟩,hs⟩
section
variable {σ:St} {H:Hp} {Q:VK} {x y v:V} {K:PySem.W.Frag}
theorem a_rslL {lo hi:Option Int}:rSlL K x lo hi H Q=∃a xs,x=.ref a∧SqL K H a xs∧∀p,H p=none->Q (.ref p) (upd H p (.lst (cutV xs lo hi))):=rfl
theorem a_ixL:rIxL K x y H Q=∃p xs i v,x=.ref p∧y=.int i∧SqL K H p xs∧atI xs i=some v∧Q v H:=rfl
theorem a_ixT:rIxT K x y H Q=∃p xs i v,x=.ref p∧y=.int i∧SqT K H p xs∧atI xs i=some v∧Q v H:=rfl
theorem a_setL {Q:Hp->Prop}:rSetL x y v H Q=∃p xs k j,x=.ref p∧y=.int k∧H p=some (.lst xs)∧ixN xs.length k=some j∧Q (upd H p (.lst (xs.set j v))):=rfl
theorem a_app {vs:List V}:rAppend x vs H Q=∃l xs y,x=.ref l∧vs=[y]∧H l=some (.lst xs)∧xs.length < sizeLine∧Q .non (upd H l (.lst (xs++[y]))):=rfl
theorem cutV_map (ns:List Int) (lo hi:Option Int):cutV (ns.map V.int) lo hi=((ns.drop (HT.sIx ns.length 0 lo)).take (HT.sIx ns.length ns.length hi - HT.sIx ns.length 0 lo)).map V.int:=by
 unfold cutV
 rw [List.length_map,List.map_take,List.map_drop]
end
theorem bt_len:bootBuiltins "len" = some (.builtin "len"):=by decide +kernel
theorem bt_abs:bootBuiltins "abs" = some (.builtin "abs"):=by decide +kernel
theorem bt_isinstance:bootBuiltins "isinstance" = some (.builtin "isinstance"):=by decide +kernel
theorem bt_min:bootBuiltins "min" = some (.builtin "min"):=by decide +kernel
theorem bt_max:bootBuiltins "max" = some (.builtin "max"):=by decide +kernel
theorem bt_int:bootBuiltins "int" = some (.type "int"):=by decide +kernel
theorem bt_bool:bootBuiltins "bool" = some (.type "bool"):=by decide +kernel
theorem bt_list:bootBuiltins "list" = some (.type "list"):=by decide +kernel
def tMid (t u:TS):TS:=fun D σ H=>∃M:St->Hp->Prop,t { D with nx:=M } σ H∧∀σ' H',M σ' H'->u D σ' H'
theorem pss_mid {X:Cx} {st:Stmt} {rest:List Stmt} {t u:TS} (h1:PS X st t) (h2:PSs X rest u):PSs X (st :: rest) (tMid t u):=by
 intro pins s σ H D I h
 obtain⟨M,h,hM⟩:=h
 refine wpAny_execs_cons (thn (h1 pins s σ H { D with nx:=M } I h) fun f s1 q=>?_)
 cases f with
 | next=>
  obtain⟨σ',H',I',q⟩:=q
  exact h2 pins s1 σ' H' D I' (hM σ' H' q)
 | ret v=>exact q
 | brk=>exact q
 | cont=>exact q
theorem mid_of {t u:TS} {D:Ends} {σ:St} {H:Hp} (M:St->Hp->Prop) (h1:t { D with nx:=M } σ H) (h2:∀σ' H',M σ' H'->u D σ' H'):tMid t u D σ H:=⟨M,h1,h2⟩
theorem a_cxK {CX:CXT} {P:Program} {w:World} {K:PySem.W.Frag} {mg:Str->Option Value} {base:Heap} {N:List Str} {qual:Str} {scope:Scope} {f:Addr} {cd:Value} {A:Around} {outer:List Env} {s:Shared} {H:Hp} {E:XK}:
  (cxOf CX P w K mg base N qual scope f cd A outer s H E).K=K:=rfl
section
variable {K:PySem.W.Frag} {a:Addr} {xs:List V} {g:TG} {tb:TS} {D:Ends} {σ:St} {H H1:Hp} {fv:List (Nat×Str)} {te:TE} {Q:VK} {L:Addr} {lo c:Int} {n:Nat}
theorem cl_list (Pv:Nat->Hp->Prop) (h0:Pv 0 (upd H1 L (.lst []))) (hl:∀i H,i<=xs.length->Pv i H->SqL K H a xs)
  (hs:∀i v H,xs[i]?=some v->Pv i H->te (bst fv σ (some v)) H fun y H2=>∃ys,H2 L=some (.lst ys)∧ys.length < sizeLine∧Pv (i+1) (upd H2 L (.lst (ys++[y])))) (hd:∀H,Pv xs.length H->Q (.ref L) H):
  CLoop (Itl K a) fv te Q σ H1 L:=comp_list Pv h0 hl hs hd
theorem cl_range (Pv:Nat->Hp->Prop) (h0:Pv 0 (upd H1 L (.lst [])))
  (hs:∀i H,i < n->Pv i H->te (bst fv σ (some (.int (lo+i)))) H fun y H2=>∃ys,H2 L=some (.lst ys)∧ys.length < sizeLine∧Pv (i+1) (upd H2 L (.lst (ys++[y])))) (hd:∀H,Pv n H->Q (.ref L) H):
  CLoop (Itr lo n) fv te Q σ H1 L:=comp_range Pv h0 hs hd
theorem lp_list (Pv:Nat->St->Hp->Prop) (h0:Pv 0 σ H) (hl:∀i σ H,i<=xs.length->Pv i σ H->SqL K H a xs)
  (hs:∀i v σ H,xs[i]?=some v->Pv i σ H->g v σ H fun σ2 H2=>tb { D with nx:=Pv (i+1),ct:=Pv (i+1),bk:=D.nx } σ2 H2) (hd:∀σ H,Pv xs.length σ H->D.nx σ H):Loop (Itl K a) g tb D σ H:=for_list Pv h0 hl hs hd
theorem lp_range (Pv:Nat->St->Hp->Prop) (h0:Pv 0 σ H)
  (hs:∀i σ H,i < n->Pv i σ H->g (.int (lo+i)) σ H fun σ2 H2=>tb { D with nx:=Pv (i+1),ct:=Pv (i+1),bk:=D.nx } σ2 H2) (hd:∀σ H,Pv n σ H->D.nx σ H):Loop (Itr lo n) g tb D σ H:=for_range Pv h0 hs hd
theorem lp_ranges (Pv:Nat->St->Hp->Prop) (h0:Pv 0 σ H)
  (hs:∀i σ H,i < n->Pv i σ H->g (.int (lo+i * c)) σ H fun σ2 H2=>tb { D with nx:=Pv (i+1),ct:=Pv (i+1),bk:=D.nx } σ2 H2) (hd:∀σ H,Pv n σ H->D.nx σ H):Loop (Itrs lo c n) g tb D σ H:=for_ranges Pv h0 hs hd
end
theorem small_two {j:Int} (h0:0<=j) (h1:j < 2 ^ 60):Builtin.Range.small 0 j 2=true:=by
 unfold Builtin.Range.small
 simp only [Builtin.Range.rangeFitsLong,Builtin.Range.rangeSize,Bool.and_eq_true,Bool.or_eq_true,decide_eq_true_eq,beq_iff_eq,show (2:Int) > 0 by decide,if_true]
 split <;> omega
end L2
namespace L2
open PySem PySem.Spec PyProof.Rows
section
variable {X:Cx}
theorem get_list:PGet X (rIxL X.K):=by
 intro pins s σ H o i ov iv Q I ro ri h
 obtain⟨p,xs,i,z,rfl,rfl,hq,he,q⟩:=h
 cases ro
 obtain⟨t,rfl⟩:=ri
 obtain⟨its,r,pl,hz⟩:=I.list hq
 obtain⟨j,h1,h2,h3,h4,h5⟩:=atI_get he
 obtain⟨w,ew,rw'⟩:=r.get h2
 have hl:=r.length
 have hn:=line63
 have fin:EP X pins σ Q w s:=⟨z,H,I,rw',q⟩
 by_cases h0:0<=i
 ·have hj:i.toNat=j:=by
   rw [seqIndex_of h0 h5] at h1
   exact Option.some.inj h1
  exact wpAny_getItem_list pl.isList h0 (by omega) (by rw [hj];simpa using ew) fin
 ·have hj:(i+(its.toArray.size:Int)).toNat=j:=by
   rw [seqIndex_neg (by omega) h4] at h1
   rw [List.size_toArray,← hl]
   exact Option.some.inj h1
  exact wpAny_getItem_list_neg pl.isList (by omega) (by rw [List.size_toArray] <;> omega) (by omega) (by rw [hj];simpa using ew) fin
mutual
inductive DV (K:PySem.W.Frag) (H:Hp):V->PyData->Prop
 | non:DV K H .non .none
 | bl (b):DV K H (.bl b) (.bool b)
 | int (i):DV K H (.int i) (.int i)
 | str (x):DV K H (.str x) (.str x)
 | lst {a xs ds}:SqL K H a xs->DVs K H xs ds->DV K H (.ref a) (.list ds)
 | tup {a xs ds}:SqT K H a xs->DVs K H xs ds->DV K H (.ref a) (.tuple ds)
inductive DVs (K:PySem.W.Frag) (H:Hp):List V->List PyData->Prop
 | nil:DVs K H [] []
 | cons {x xs d ds}:DV K H x d->DVs K H xs ds->DVs K H (x :: xs) (d :: ds)
end
theorem DVs.ints {K:PySem.W.Frag} {H:Hp}:∀ns:List Int,DVs K H (ns.map V.int) (ns.map PyData.int)
 | []=>.nil
 | n :: r=>.cons (.int n) (DVs.ints r)
theorem DV.ints {K:PySem.W.Frag} {H:Hp} {a:Addr} {ns:List Int} (h:SqL K H a (ns.map V.int)):DV K H (.ref a) (.list (ns.map PyData.int)):=.lst h (DVs.ints ns)
mutual
theorem DV.reads {pins:List (Addr×Obj)} {σ:St} {H:Hp} {s:Shared} (I:Inv X pins σ H s):∀{x:V} {d:PyData} {v:Value},DV X.K H x d->RelV x v->∃as,Reads s.heap v d as
 | _,_,_,.non,r=>by cases r;exact⟨_,.none⟩
 | _,_,_,.bl b,r=>by cases r;exact⟨_,.bool b⟩
 | _,_,_,.int i,r=>by obtain⟨t,rfl⟩:=r;exact⟨_,.int i t⟩
 | _,_,_,.str x,r=>by obtain⟨t,rfl⟩:=r;exact⟨_,.str x t⟩
 | _,_,_,.lst hq hs,r=>by
  cases r
  obtain⟨its,rv,⟨o,n,e,c,_,hd⟩,_⟩:=I.list hq
  obtain⟨as,ra⟩:=DVs.reads I hs rv
  exact⟨_,.list e c hd (by simpa using ra)⟩
 | _,_,_,.tup hq hs,r=>by
  cases r
  obtain⟨its,rv,⟨o,e,c,n,hd⟩,_⟩:=I.tuple hq
  obtain⟨as,ra⟩:=DVs.reads I hs rv
  exact⟨_,.tuple e c hd (by simpa using ra)⟩
theorem DVs.reads {pins:List (Addr×Obj)} {σ:St} {H:Hp} {s:Shared} (I:Inv X pins σ H s):∀{xs:List V} {ds:List PyData} {vs:List Value},DVs X.K H xs ds->Vals xs vs->∃as,ReadsAll s.heap vs ds as
 | _,_,_,.nil,r=>by cases r;exact⟨_,.nil⟩
 | _,_,_,.cons h t,r=>by
  cases r with
  | cons r1 r2=>
   obtain⟨as,ra⟩:=DV.reads I h r1
   obtain⟨bs,rb⟩:=DVs.reads I t r2
   exact⟨_,.cons ra rb⟩
end
theorem op_eqD (hu:X.A.units+64 < cLine):OpR X (compareOp .Eq) (fun x y H Q=>∃da db,DV X.K H x da∧DV X.K H y db∧da.canLay0=true∧db.canLay0=true∧da.depth<=64∧Q (.bl (PyData.eqv da db)) H):=by
 intro pins s σ H x y v u Q I rx ry h
 obtain⟨da,db,hx,hy,c1,c2,hd,q⟩:=h
 obtain⟨as,ra⟩:=hx.reads I rx
 obtain⟨bs,rb⟩:=hy.reads I ry
 exact PySem.SeqAt.eqOverData _ _ _ _ _ _ _ _ _ _ _ _ ra rb c1 c2 (by omega) ⟨.bl _,H,I,rfl,q⟩
theorem op_neD (hu:X.A.units+64 < cLine):OpR X (compareOp .NotEq) (fun x y H Q=>∃da db,DV X.K H x da∧DV X.K H y db∧da.canLay0=true∧db.canLay0=true∧da.depth<=64∧Q (.bl (!PyData.eqv da db)) H):=by
 intro pins s σ H x y v u Q I rx ry h
 obtain⟨da,db,hx,hy,c1,c2,hd,q⟩:=h
 obtain⟨as,ra⟩:=hx.reads I rx
 obtain⟨bs,rb⟩:=hy.reads I ry
 exact PySem.SeqAt.neOverData _ _ _ _ _ _ _ _ _ _ _ _ ra rb c1 c2 (by omega) ⟨.bl _,H,I,rfl,q⟩
end
theorem eqvAll_ints:∀xs ys:List Int,PyData.eqvAll (xs.map PyData.int) (ys.map PyData.int)=decide (xs=ys)
 | [],[]=>by simp [PyData.eqvAll]
 | [],_ :: _=>by simp [PyData.eqvAll]
 | _ :: _,[]=>by simp [PyData.eqvAll]
 | x :: xs,y :: ys=>by
  have ih:=eqvAll_ints xs ys
  simp only [List.map_cons,PyData.eqvAll,PyData.eqv,ih]
  by_cases h:x=y
  ·subst h;simp
  ·simp [h]
theorem lay_ints:∀xs:List Int,PyData.canLayAll0 (xs.map PyData.int)=true
 | []=>rfl
 | _ :: r=>by simp [PyData.canLayAll0,PyData.canLay0,lay_ints r]
theorem depth_ints:∀xs:List Int,PyData.depthAll (xs.map PyData.int)=0
 | []=>rfl
 | _ :: r=>by simp [PyData.depthAll,PyData.depth,depth_ints r]
def Ite (K:PySem.W.Frag) (a:Addr):It:=
 ⟨fun i H=>∃xs x,SqL K H a xs∧xs[i]?=some x,fun i H v H'=>∃p x,H p=none∧v=.ref p∧H'=upd H p (.tup [.int i,x])∧∀xs,SqL K H a xs->xs[i]?=some x,fun i H=>∃xs,SqL K H a xs∧xs.length<=i⟩
theorem turn_enum {P:Program} {w:World} {K:PySem.W.Frag} {elts:List Expr} {tk:Nat} {tpos:Pos} (a e it:Addr) (hne:e≠it):
  Turn P w K (.Tuple elts tk tpos) (Ite K a) [e,it] e (fun i h=>(∃old,IsEnum h e it i old)∧h.IsListIter it a i) where
 mem:=by simp
 obj:=fun i h st b hb=>by
  obtain⟨⟨old,he⟩,o,ho,c,d⟩:=st
  rcases List.mem_cons.mp hb with rfl | hb
  ·exact⟨_,he,fun v z=>by
    have z':Data.fields _=Data.cell v:=z
    cases z'⟩
  ·rw [List.mem_singleton.mp hb]
   exact⟨o,ho,fun v z=>by rw [d] at z;cases z⟩
 keep:=fun i h h' st k=>by
  obtain⟨⟨old,he⟩,hit⟩:=st
  exact⟨⟨old,k e (by simp) _ he⟩,hit.at fun o q=>k it (by simp) o q⟩
 item:=by
  intro X hP hw hK hc i pins s σ H E I hf st hg
  subst hP hw hK
  obtain⟨xs,x,hq,hx⟩:=hg
  obtain⟨its,rv,pl,hz⟩:=I.list hq
  obtain⟨u,hu,ru⟩:=rv.get hx
  obtain⟨⟨old,he⟩,hit⟩:=st
  have fe:=hf e (by simp)
  have fi:=hf it (by simp)
  refine wpAny_pyNext_enum_item he hit pl.isList (x:=u) (by simpa using hu) hne fun h1 ho hit1 hT hsz hk=>?_
  refine⟨_,rfl,wpAny_letOwnedTupleGo_enum ho fun h2 he2 hs2=>?_⟩
  have hp:H s.heap.objs.size=none:=I.hok.fresh (Nat.le_refl _)
  have hpe:s.heap.objs.size≠e:=Nat.ne_of_gt (Heap.lt_size he)
  have k2:∀b o,b∉[e,it]->s.heap.get? b=some o->h2.get? b=some o:=fun b o hb q=>
   (hs2.2 b fun z=>hb (by simp [z])).trans (hk b o (fun z=>hb (by simp [z])) (fun z=>hb (by simp [z])) q)
  have hT2:h2.get? s.heap.objs.size=some { cls:=.type "tuple",data:=.seq #[.int i s.toks,u] }:=(hs2.2 _ hpe).trans hT
  have nch:∀b u,H b=some u->b∉[e,it]:=fun b u q hb=>by
   rcases List.mem_cons.mp hb with rfl | hb
   ·rw [fe.1] at q;cases q
   ·rw [List.mem_singleton.mp hb,fi.1] at q;cases q
  have up:∀b,b < s.heap.objs.size->b≠s.heap.objs.size:=fun b hb=>Nat.ne_of_lt hb
  have I2:Inv X pins σ (upd H s.heap.objs.size (.tup [.int i,x])) { s with heap:=h2,toks:=s.toks+1 }:=by
   refine I.step (g':=s.gens) (d':=s.drawn) (t':=s.toks+1) (ch:=[e,it]) (fun b hb=>?_) (fun b o _ _ hc q _=>k2 b o hc q) (fun b o _ _ hc q _=>⟨o.slots,k2 b o hc q⟩)
    (fun b o _ q n=>by rw [upd_ne (up b (Heap.lt_size q))];exact n) (fun b o hc q=>⟨o,k2 b o hc q⟩) (fun b ys q=>by rw [upd_ne (ne_of_none q hp)];exact q) (fun b o v q=>by rw [upd_ne (ne_of_none q hp)];exact q)
    (fun b ps q=>⟨#[],by rw [upd_ne (ne_of_none q hp),q];simp⟩) (fun m hm=>?_) (fun b v q=>?_) I.bare
   ·rcases List.mem_cons.mp hb with rfl | hb
    ·exact⟨fe.2.2.2.1,fe.2.1,fe.2.2.2.2.1,fe.2.2.2.2.2⟩
    ·rw [List.mem_singleton.mp hb];exact⟨fi.2.2.2.1,fi.2.1,fi.2.2.2.2.1,fi.2.2.2.2.2⟩
   ·obtain⟨o,es,ep,q,r⟩:=hm
    refine⟨o,es,ep,k2 _ o (fun z=>?_) q,r⟩
    rcases List.mem_cons.mp z with z | z
    ·exact fe.2.1 z.symm
    ·exact fi.2.1 (List.mem_singleton.mp z).symm
   ·by_cases hb:b=s.heap.objs.size
    ·subst hb
     rw [upd_same] at q;cases q
     exact⟨by show 2<=sizeLine;decide,[.int i s.toks,u],.cons ⟨_,rfl⟩ (.cons ru .nil),⟨_,hT2,rfl,_,rfl⟩⟩
    ·rw [upd_ne hb] at q
     refine (I.hok b v q).stay (fun c o hc r=>k2 c o ?_ r) (fun c r=>by rw [upd_ne (ne_of_none r hp)];exact r) fun c ys r=>by rw [upd_ne (ne_of_none r hp)];exact r
     rcases hc with z | z
     ·rw [z];exact nch b v q
     ·exact nch c _ z
  refine⟨.ref s.heap.objs.size,_,I2,rfl,⟨_,x,hp,rfl,rfl,fun ys hy=>by rw [I.list_inj hy hq];exact hx⟩,⟨⟨_,by simpa using he2⟩,hit1.at fun o q=>(hs2.2 it (Ne.symm hne)).trans q⟩,fun b hb=>?_⟩
  have lb:b < s.heap.objs.size:=by
   rcases List.mem_cons.mp hb with rfl | hb
   ·exact Heap.lt_size he
   ·rw [List.mem_singleton.mp hb];obtain⟨_,q,_⟩:=hit;exact Heap.lt_size q
  rw [upd_ne (up b lb)]
  exact (hf b hb).1
 done:=by
  intro X hP hw hK hc i pins s σ H E I hf st hg
  subst hP hw hK
  obtain⟨xs,hq,hx⟩:=hg
  obtain⟨its,rv,pl,hz⟩:=I.list hq
  obtain⟨⟨old,he⟩,hit⟩:=st
  obtain⟨f0,f1,f2,f3,f4,f5⟩:=hf it (by simp)
  have hl:=rv.length
  exact wpAny_pyNext_enum_end (I.ok.hd hc) he hit pl.isList (by simp;omega) fun h' eb=>⟨rfl,I.turned (t':=s.toks) (fun b o hb q=>eb b o hb q) f0 f1 f3 f4 f5⟩
 self:=fun _ _ _ _ _ st h=>by
  obtain⟨⟨old,he⟩,_⟩:=st
  exact wpAny_pyIter_enum he h
section
variable {X:Cx}
def iEnum (K:PySem.W.Frag) (ta:TA):TI:=fun σ H R=>ta σ H fun vs H1=>∃a xs,vs=[.ref a]∧SqL K H1 a xs∧R (Ite K a) H1
theorem pi_enum {elts:List Expr} {tk:Nat} {tpos:Pos} {a:Expr} {ta:TA} {p pos:Pos} (hg:Gl X "enumerate") (hm:X.mg "enumerate" = none) (ha:PA X [a] ta) (hs:starEach [a] X.env=[(false,eval a X.env)]:=by rfl):
  PI X (.Tuple elts tk tpos) (.Call (.Name "enumerate" p) [a] [] pos) (iEnum X.K ta):=by
 intro pins s σ H R I h
 refine Call_ (ld_blt I hg hm boot_enumerate (PyProof.Rows.callWith_type1 (thn (ha pos pins s σ H _ I h) fun us s1 ⟨vs,H1,I1,r1,q1⟩=>?_) hs rfl))
 obtain⟨a,xs,e,hq,q⟩:=q1
 subst e
 cases r1 with
 | cons r rr=>
  cases rr
  cases r
  obtain⟨its,rv,pl,hz⟩:=I1.list hq
  refine call_enumerate_list pl.isList fun h1 he hit hsz hk=>?_
  have I2:Inv X pins σ H1 { s1 with heap:=h1 }:=I1.kept (t':=s1.toks) hk
  refine wpAny_pyIter_enum he ?_
  refine⟨s1.heap.objs.size+1,[s1.heap.objs.size+1,s1.heap.objs.size],_,_,H1,rfl,I2,turn_enum a _ _ (Nat.succ_ne_self _),⟨⟨_,he⟩,hit⟩,fun b hb=>?_,q⟩
  have hb':s1.heap.objs.size<=b:=by
   rcases List.mem_cons.mp hb with rfl | hb
   ·exact Nat.le_succ _
   ·rw [List.mem_singleton.mp hb];exact Nat.le_refl _
  exact I1.fpOk hb' (I1.hok.fresh hb')
end
theorem a_ienum {K:PySem.W.Frag} {ta:TA} {σ:St} {H:Hp} {R:It->Hp->Prop}:iEnum K ta σ H R=ta σ H fun vs H1=>∃a xs,vs=[.ref a]∧SqL K H1 a xs∧R (Ite K a) H1:=rfl
theorem for_enum {K:PySem.W.Frag} {a:Addr} {xs:List V} {g:TG} {tb:TS} {D:Ends} {σ:St} {H:Hp} (Pv:Nat->St->Hp->Prop) (h0:Pv 0 σ H) (hl:∀i σ H,i<=xs.length->Pv i σ H->SqL K H a xs)
  (hs:∀i v p σ H,xs[i]?=some v->Pv i σ H->H p=none->g (.ref p) σ (upd H p (.tup [.int i,v])) fun σ2 H2=>tb { D with nx:=Pv (i+1),ct:=Pv (i+1),bk:=D.nx } σ2 H2) (hd:∀σ H,Pv xs.length σ H->D.nx σ H):Loop (Ite K a) g tb D σ H:=by
 refine⟨fun i m σ H=>m=xs.length - i∧i<=xs.length∧Pv i σ H,⟨xs.length,by simp,Nat.zero_le _,h0⟩,?_⟩
 rintro i m σ H ⟨rfl,hi,p⟩
 have q:=hl i σ H hi p
 by_cases hlt:i < xs.length
 ·refine .inr ⟨⟨xs,xs[i],q,List.getElem?_eq_getElem hlt⟩,Pv (i+1),fun σ' H' p'=>⟨xs.length - (i+1),by omega,rfl,hlt,p'⟩,fun x H' y=>?_⟩
  obtain⟨pa,z,hn,e1,e2,y⟩:=y
  subst e1 e2
  exact hs i z pa σ H (y xs q) p hn
 ·have e:i=xs.length:=by omega
  subst e
  exact .inl ⟨⟨xs,q,Nat.le_refl _⟩,hd σ H p⟩
end L2
namespace L2
open PySem PySem.Spec PyProof.Rows
def Itv (K:PySem.W.Frag) (a:Addr) (n:Nat):It:=
 ⟨fun i H=>i < n∧∃xs,SqL K H a xs∧xs.length=n,fun i H x H'=>H'=H∧∀xs,SqL K H a xs->xs[n - 1 - i]?=some x,fun i _=>i=n⟩
theorem turn_rev {P:Program} {w:World} {K:PySem.W.Frag} {tg:Expr} (a it:Addr) (n:Nat):Turn P w K tg (Itv K a n) [it] it (fun i h=>h.IsRevIter it a ((n:Int) - 1 - i)) where
 mem:=by simp
 obj:=fun i h st b hb=>by
  have e:b=it:=by simpa using hb
  subst e
  obtain⟨o,e,c,d⟩:=st
  exact⟨o,e,fun v z=>by rw [d] at z;cases z⟩
 keep:=fun i h h' st k=>st.at fun o e=>k it (by simp) o e
 item:=by
  intro X hP hw hK hc i pins s σ H E I hf st hg
  subst hP hw hK
  obtain⟨hi,xs,hq,hn⟩:=hg
  obtain⟨its,rv,p,hz⟩:=I.list hq
  have hx:xs[n - 1 - i]?=some (xs[n - 1 - i]'(by omega)):=List.getElem?_eq_getElem (by omega)
  obtain⟨u,hu,ru⟩:=rv.get hx
  obtain⟨f0,f1,f2,f3,f4,f5⟩:=hf it (by simp)
  have e0:(n:Int) - 1 - i=((n - 1 - i:Nat):Int):=by omega
  rw [e0] at st
  refine wpAny_pyNext_rev_item st p.isList (x:=u) (by simpa using hu) fun h' st' sb=>?_
  have I1:Inv X pins σ H { s with heap:=h' }:=I.turned (t':=s.toks) (fun b o hb e=>(sb.2 b hb).trans e) f0 f1 f3 f4 f5
  have e1:((n - 1 - i:Nat):Int) - 1=(n:Int) - 1 - ((i+1:Nat):Int):=by omega
  rw [e1] at st'
  obtain⟨o,e,c,d⟩:=id st'
  exact⟨u,rfl,go_of (s:={ s with heap:=h' }) e c d (by decide) ⟨_,H,I1,ru,⟨rfl,fun ys hy=>by rw [I.list_inj hy hq];exact hx⟩,st',fun b hb=>(hf b hb).1⟩⟩
 done:=by
  intro X hP hw hK hc i pins s σ H E I hf st hg
  subst hP hw hK
  obtain⟨f0,f1,f2,f3,f4,f5⟩:=hf it (by simp)
  have e0:(n:Int) - 1 - i=-1:=by have:i=n:=hg;omega
  rw [e0] at st
  exact wpAny_pyNext_rev_end (I.ok.hd hc) st fun h' eb=>⟨rfl,I.turned (t':=s.toks) (fun b o hb e=>eb b o hb e) f0 f1 f3 f4 f5⟩
 self:=fun _ _ _ _ _ st h=>wpAny_pyIter_revIter st h
section
variable {X:Cx} {tg:Expr}
def iRev (K:PySem.W.Frag) (ta:TA):TI:=fun σ H R=>ta σ H fun vs H1=>∃a xs,vs=[.ref a]∧SqL K H1 a xs∧R (Itv K a xs.length) H1
theorem pi_rev {a:Expr} {ta:TA} {p pos:Pos} (hg:Gl X "reversed") (hm:X.mg "reversed" = none) (ha:PA X [a] ta) (hs:starEach [a] X.env=[(false,eval a X.env)]:=by rfl):
  PI X tg (.Call (.Name "reversed" p) [a] [] pos) (iRev X.K ta):=by
 intro pins s σ H R I h
 refine Call_ (ld_blt I hg hm boot_reversed (PyProof.Rows.callWith_type1 (thn (ha pos pins s σ H _ I h) fun us s1 ⟨vs,H1,I1,r1,q1⟩=>?_) hs rfl))
 obtain⟨a,xs,e,hq,q⟩:=q1
 subst e
 cases r1 with
 | cons r rr=>
  cases rr
  cases r
  obtain⟨its,rv,pl,hz⟩:=I1.list hq
  have hl:=rv.length
  refine call_reversed_list pl.isList ?_
  have I2:Inv X pins σ H1 { s1 with heap:=s1.heap.push (revObj a ((its.toArray.size:Int) - 1)) }:=I1.kept (t':=s1.toks) fun b o e=>Heap.get?_push_of_some _ e
  have st:(s1.heap.push (revObj a ((its.toArray.size:Int) - 1))).IsRevIter s1.heap.objs.size a ((xs.length:Int) - 1 - ((0:Nat):Int)):=by
   have e1:(xs.length:Int) - 1 - ((0:Nat):Int)=(its.toArray.size:Int) - 1:=by rw [List.size_toArray,hl];simp
   rw [e1]
   exact⟨_,Heap.get?_push_size _ rfl,rfl,rfl⟩
  refine wpAny_pyIter_revIter st ?_
  refine⟨s1.heap.objs.size,[s1.heap.objs.size],_,_,H1,rfl,I2,turn_rev a _ xs.length,st,fun b hb=>?_,q⟩
  have e:b=s1.heap.objs.size:=by simpa using hb
  subst e
  exact I1.fpOk (Nat.le_refl _) (I1.hok.fresh (Nat.le_refl _))
end
theorem a_irev {K:PySem.W.Frag} {ta:TA} {σ:St} {H:Hp} {R:It->Hp->Prop}:iRev K ta σ H R=ta σ H fun vs H1=>∃a xs,vs=[.ref a]∧SqL K H1 a xs∧R (Itv K a xs.length) H1:=rfl
theorem lp_rev {K:PySem.W.Frag} {a:Addr} {xs:List V} {g:TG} {tb:TS} {D:Ends} {σ:St} {H:Hp} (Pv:Nat->St->Hp->Prop) (h0:Pv 0 σ H) (hl:∀i σ H,i<=xs.length->Pv i σ H->SqL K H a xs)
  (hs:∀i v σ H,i < xs.length->xs[xs.length - 1 - i]?=some v->Pv i σ H->g v σ H fun σ2 H2=>tb { D with nx:=Pv (i+1),ct:=Pv (i+1),bk:=D.nx } σ2 H2) (hd:∀σ H,Pv xs.length σ H->D.nx σ H):Loop (Itv K a xs.length) g tb D σ H:=by
 refine⟨fun i m σ H=>m=xs.length - i∧i<=xs.length∧Pv i σ H,⟨xs.length,by simp,Nat.zero_le _,h0⟩,?_⟩
 rintro i m σ H ⟨rfl,hi,p⟩
 have q:=hl i σ H hi p
 by_cases hlt:i < xs.length
 ·refine .inr ⟨⟨hlt,xs,q,rfl⟩,Pv (i+1),fun σ' H' p'=>⟨xs.length - (i+1),by omega,rfl,hlt,p'⟩,fun x H' y=>?_⟩
  obtain⟨e,y⟩:=y
  subst e
  exact hs i x σ _ hlt (y xs q) p
 ·have e:i=xs.length:=by omega
  subst e
  exact .inl ⟨rfl,hd σ H p⟩
section
variable {σ:St} {H:Hp} {Q:VK} {x y v:V} {vs:List V}
theorem a_cat:rCat x y H Q=∃l b xs zs,x=.ref l∧y=.ref b∧H l=some (.lst xs)∧H b=some (.lst zs)∧xs.length+zs.length<=sizeLine∧∀p,H p=none->Q (.ref p) (upd H p (.lst (xs++zs))):=rfl
theorem a_rep:rRep x y H Q=∃l k xs,x=.ref l∧y=.int k∧H l=some (.lst xs)∧-(2 ^ 63)<=k∧k < 2 ^ 63∧xs.length * k.toNat<=sizeLine∧∀p,H p=none->Q (.ref p) (upd H p (.lst (List.replicate k.toNat xs).flatten)):=rfl
theorem a_pop:rPop x vs H Q=∃l xs y,x=.ref l∧vs=[]∧H l=some (.lst xs)∧xs[xs.length - 1]?=some y∧Q y (upd H l (.lst xs.dropLast)):=rfl
theorem a_clear:rClear x vs H Q=∃l xs,x=.ref l∧vs=[]∧H l=some (.lst xs)∧Q .non (upd H l (.lst [])):=rfl
end
end L2
namespace L2
open PySem PySem.Spec PyProof.Rows
theorem op_mulZ {X:Cx}:OpR X (binaryOp .Mult) (rI IntMulOk fun i j=>.int (i * j)):=opI fun _ _ _ _ _ _ _ hc q=>mul_int q hc
def Bd (k:Nat) (x:Int):Prop:=x.natAbs < 2 ^ k
theorem Bd.mono {k l:Nat} {x:Int} (h:Bd k x) (hl:k<=l):Bd l x:=Nat.lt_of_lt_of_le h (Nat.pow_le_pow_right (by decide) hl)
theorem Bd.zero (k:Nat):Bd k 0:=Nat.two_pow_pos k
theorem Bd.one {k:Nat} (h:0 < k):Bd k 1:=by
 have:Bd 1 1:=by show (1:Nat) < 2 ^ 1;decide
 exact this.mono h
theorem Bd.neg {k:Nat} {x:Int} (h:Bd k x):Bd k (-x):=by unfold Bd;rw [Int.natAbs_neg];exact h
theorem Bd.mul {k l:Nat} {x y:Int} (h:Bd k x) (g:Bd l y):Bd (k+l) (x * y):=by
 unfold Bd at *
 rw [Int.natAbs_mul,Nat.pow_add]
 exact Nat.mul_lt_mul_of_lt_of_lt h g
theorem Bd.add {k:Nat} {x y:Int} (h:Bd k x) (g:Bd k y):Bd (k+1) (x+y):=by
 unfold Bd at *
 rw [Nat.pow_succ]
 have:=Int.natAbs_add_le x y
 omega
theorem Bd.sub {k:Nat} {x y:Int} (h:Bd k x) (g:Bd k y):Bd (k+1) (x - y):=by
 rw [Int.sub_eq_add_neg];exact h.add g.neg
theorem Bd.fits {k l:Nat} {x y:Int} (h:Bd k x) (g:Bd l y) (hz:k+l<=134217728):IntMulOk x y:=mulOk_of h g hz
theorem Bd.of_lt {k:Nat} {x:Int} {m:Nat} (h:x.natAbs < m) (hm:m<=2 ^ k):Bd k x:=Nat.lt_of_lt_of_le h hm
def newL (H:Hp) (Q:VK) (ys:List V):Prop:=∀r H',Same H H'->H r=none->H' r=some (.lst ys)->Q (.ref r) H'
theorem same_upd {H:Hp} {p:Addr} (h:H p=none) (o:HO):Same H (upd H p o):=fun b u q=>by rw [upd_ne (ne_of_none q h)];exact q
theorem at_int {xs:List Int} {i:Nat} (h:i < xs.length):atI (xs.map V.int) (i:Int)=some (V.int xs[i]):=atI_nat (by rw [List.getElem?_map,List.getElem?_eq_getElem h];rfl)
theorem ixN_nat {n i:Nat} (h:i < n):ixN n (i:Int)=some i:=by
 unfold ixN
 rw [if_pos (by omega),if_pos (by omega)];simp
theorem ixN_neg {n i:Nat} (h:0 < i) (h2:i<=n):ixN n (-(i:Int))=some (n - i):=by
 unfold ixN
 rw [if_neg (by omega),if_pos (by omega)]
 congr 1
 omega
theorem at_last {xs:List Int} (h:xs≠[]):atI (xs.map V.int) (-1)=some (V.int (xs.getLast h)):=by
 unfold atI
 have h0:0 < xs.length:=by cases xs with | nil=>exact absurd rfl h | cons _ _=>simp
 have e:=ixN_neg (n:=(xs.map V.int).length) (i:=1) (by decide) (by rw [List.length_map];exact h0)
 have e1:(-((1:Nat):Int))=-1:=rfl
 rw [e1] at e
 rw [e]
 show (xs.map V.int)[(xs.map V.int).length - 1]?=_
 rw [List.getElem?_map,List.length_map,← List.getLast?_eq_getElem?,List.getLast?_eq_some_getLast h];rfl
theorem map_set (xs:List Int) (i:Nat) (v:Int):(xs.map V.int).set i (V.int v)=(xs.set i v).map V.int:=by rw [List.map_set]
theorem small_down {i j:Int} (h1:-(2 ^ 60) < i) (h2:i < 2 ^ 60) (h3:-(2 ^ 60) < j) (h4:j < 2 ^ 60):Builtin.Range.small i j (-1)=true:=by
 unfold Builtin.Range.small
 simp only [Builtin.Range.rangeFitsLong,Builtin.Range.rangeSize,Bool.and_eq_true,Bool.or_eq_true,decide_eq_true_eq,beq_iff_eq,show ¬(-1:Int) > 0 by decide,if_false,Int.neg_neg,Int.ediv_one]
 split <;> omega
theorem size_down {i j:Int} {n:Nat} (h:(i - j).toNat=n):Builtin.Range.rangeSize i j (-1)=n:=by
 unfold Builtin.Range.rangeSize
 simp only [show ¬(-1:Int) > 0 by decide,if_false,Int.neg_neg,Int.ediv_one]
 split <;> omega
theorem at_some {xs:List Int} {i:Nat} {v:Int} (h:xs[i]?=some v):atI (xs.map V.int) (i:Int)=some (V.int v):=atI_nat (by rw [List.getElem?_map,h];rfl)
theorem Same.more {H H':Hp} {p:Addr} {o:HO} (e:Same H H') (h:H p=none):Same H (L2.upd H' p o):=fun b u q=>by rw [upd_ne (ne_of_none q h)];exact e b u q
end L2
namespace L2
open PySem PySem.Spec PyProof.Rows
section
variable {κ:Type} [DecidableEq κ]
def valV (kvs:List (κ×V)) (k:κ):Option V:=(kvs.find? fun kv=>decide (kv.1=k)).map (·.2)
def putK (kvs:List (κ×V)) (k:κ) (v:V):List (κ×V):=
 if (kvs.any fun kv=>decide (kv.1=k))=true then kvs.map (fun kv=>if kv.1=k then (kv.1,v) else kv) else kvs++[(k,v)]
theorem valV_pos {p:κ×V} {r:List (κ×V)} {k:κ} (e:p.1=k):valV (p :: r) k=some p.2:=by simp [valV,List.find?_cons,e]
theorem valV_neg {p:κ×V} {r:List (κ×V)} {k:κ} (e:¬p.1=k):valV (p :: r) k=valV r k:=by simp [valV,List.find?_cons,e]
theorem length_putK (kvs:List (κ×V)) (k:κ) (v:V):(putK kvs k v).length<=kvs.length+1:=by
 unfold putK
 split
 ·rw [List.length_map];omega
 ·rw [List.length_append,List.length_cons,List.length_nil];omega
theorem KV.val {kvs:List (κ×V)} {vs:List (κ×Value)} (r:KV kvs vs) (k:κ):RelO (valV kvs k) (valueAt vs k):=by
 unfold KV at r
 induction r with
 | nil=>exact True.intro
 | @cons p q ps qs h t ih=>
  obtain⟨h1,h2⟩:=h
  by_cases e:p.1=k
  ·have e':q.1=k:=h1.symm.trans e
   have b:valueAt (q :: qs) k=some q.2:=by simp [valueAt,List.find?_cons,e']
   rw [valV_pos e,b];exact h2
  ·have e':¬q.1=k:=fun z=>e (h1.trans z)
   have b:valueAt (q :: qs) k=valueAt qs k:=by simp [valueAt,List.find?_cons,e']
   rw [valV_neg e,b];exact ih
theorem KV.any {kvs:List (κ×V)} {vs:List (κ×Value)} (r:KV kvs vs) (k:κ):(kvs.any fun kv=>decide (kv.1=k))=vs.any fun kv=>decide (kv.1=k):=by
 unfold KV at r
 induction r with
 | nil=>rfl
 | cons h t ih=>rw [List.any_cons,List.any_cons,ih,h.1]
theorem KV.repl {kvs:List (κ×V)} {vs:List (κ×Value)} (r:KV kvs vs) (k:κ) {y:V} {u:Value} (ry:RelV y u):
  KV (kvs.map fun kv=>if kv.1=k then (kv.1,y) else kv) (vs.map fun kv=>if kv.1=k then (kv.1,u) else kv):=by
 unfold KV at r ⊢
 induction r with
 | nil=>exact .nil
 | @cons p q ps qs h t ih=>
  rw [List.map_cons,List.map_cons]
  refine .cons ?_ ih
  obtain⟨h1,h2⟩:=h
  by_cases e:p.1=k
  ·rw [if_pos e,if_pos (h1.symm.trans e)];exact⟨h1,ry⟩
  ·rw [if_neg e,if_neg (fun z=>e (h1.trans z))];exact⟨h1,h2⟩
theorem KV.put {kvs:List (κ×V)} {vs:List (κ×Value)} (r:KV kvs vs) (k:κ) {y:V} {u:Value} (ry:RelV y u):KV (putK kvs k y) (stored vs k u):=by
 unfold putK stored
 rw [r.any k]
 by_cases e:(vs.any fun kv=>decide (kv.1=k))=true
 ·rw [if_pos e,if_pos e];exact r.repl k ry
 ·rw [if_neg e,if_neg e];exact Paired.snoc r ⟨rfl,ry⟩
theorem KV.length {kvs:List (κ×V)} {vs:List (κ×Value)} (r:KV kvs vs):kvs.length=vs.length:=Paired.length r
end
theorem kV_is {P:Program} {w:World} {k:Key} {u:Value} (r:RelV (kV k) u):(mixKind P w).is k u=true:=by
 cases k with
 | inl i=>obtain⟨t,e⟩:=(show ∃t,u=Value.int i t from r);subst e;exact mixKind_int P w i t
 | inr x=>obtain⟨t,e⟩:=(show ∃t,u=Value.str x t from r);subst e;exact mixKind_str P w x t
section
variable {P:Program} {w:World} {H:Hp} {h:Heap} {a:Addr}
theorem rd_of {u:HO} (ok:HOk P w H h) (e:Rd H a u):ObjOk P w H h a u:=e.ok ok
theorem dk_rd {kvs:List (Key×V)} (ok:HOk P w H h) (e:Rd H a (.dK kvs)):kvs.length<=sizeLine∧(a == sysModules)=false∧∃vs,KV kvs vs∧h.DictOf (mixKind P w) a vs:=
 show ObjOk P w H h a (.dK kvs) from rd_of ok e
theorem dk_of {kvs:List (Key×V)} (ok:HOk P w H h) (e:H a=some (.dK kvs)):kvs.length<=sizeLine∧(a == sysModules)=false∧∃vs,KV kvs vs∧h.DictOf (mixKind P w) a vs:=dk_rd ok (.inl e)
end
def DGet (H:Hp) (a:Addr) (y:V) (r:Option V):Prop:=
 (∃kvs k,Rd H a (.dK kvs)∧y=kV k∧r=valV kvs k)∨∃kvs k b,Rd H a (.dT kvs)∧y=.ref b∧H b=some (.tup (k.map kV))∧r=valV kvs k
def DPut (H:Hp) (a:Addr) (y v:V) (H':Hp):Prop:=
 (∃kvs k,H a=some (.dK kvs)∧y=kV k∧kvs.length < sizeLine∧H'=upd H a (.dK (putK kvs k v)))∨
 ∃kvs k b,H a=some (.dT kvs)∧y=.ref b∧H b=some (.tup (k.map kV))∧kvs.length < sizeLine∧H'=upd H a (.dT (putK kvs k v))
section
variable {X:Cx} {pins:List (Addr×Obj)} {σ:St} {H:Hp} {s:Shared} {a:Addr} {y v:V} {u r:Value} {o:Option V} {A:Around} {E:Value->Shared->Prop}
theorem Inv.big (I:Inv X pins σ H s):sysModules < s.heap.objs.size:=by
 have h:mainGlobals < s.heap.objs.size:=(I.mod.glob.keeps I.bk).lt
 exact Nat.lt_trans (by decide) h
theorem d_write {h':Heap} {t':Nat} {ob:HO} (I:Inv X pins σ H s) (mu:Mut (H a)) (hs:Heap.SameBut a s.heap h') (he:∃q,h'.get? a=some q) (new:ObjOk X.prog X.w (upd H a ob) h' a ob):
  Inv X pins σ (upd H a ob) { s with heap:=h',toks:=t' }:=
 I.write (x:=a) (e:=a) mu (.inl rfl) (fun b q hb z=>(hs.2 b hb).trans z) he new
theorem dk_new {P:Program} {w:World} {H':Hp} {h':Heap} {kvs:List (Key×V)} {vs:List (Key×Value)} (z:kvs.length<=sizeLine) (hd:(a == sysModules)=false) (rel:KV kvs vs) (dd:h'.DictOf (mixKind P w) a vs):
  ObjOk P w H' h' a (.dK kvs):=⟨z,hd,vs,rel,dd⟩
end
section
variable {X:Cx} {pins:List (Addr×Obj)} {σ:St} {H:Hp} {s:Shared} {a:Addr} {kvs:List (Key×V)} {k:Key} {u:Value} {A:Around} {E:Value->Shared->Prop}
end
def tDGet (td ty:TE):TE:=fun σ H Q=>td σ H fun x H1=>ty σ H1 fun y H2=>∃a v,x=.ref a∧DGet H2 a y (some v)∧Q v H2
def tDNotIn (ty td:TE):TE:=fun σ H Q=>ty σ H fun y H1=>td σ H1 fun x H2=>∃a o,x=.ref a∧DGet H2 a y o∧Q (.bl (!o.isSome)) H2
def sDPut (td ty tv:TE):TS:=fun D σ H=>tv σ H fun v H1=>td σ H1 fun x H2=>ty σ H2 fun y H3=>∃a H4,x=.ref a∧DPut H3 a y v H4∧D.nx σ H4
section
variable {X:Cx} {o i e value:Expr} {pos pos' tpos:Pos} {td ty tv:TE}
end
theorem dk_empty {P:Program} {w:World} {H:Hp} (h:Heap) (hb:sysModules < h.objs.size):ObjOk P w H (h.push { cls:=.type "dict",data:=.dict #[] }) h.objs.size (.dK []):=
 ⟨Nat.zero_le _,beq_eq_false_iff_ne.mpr (Ne.symm (Nat.ne_of_lt hb)),[],.nil,Heap.DictOf.new h⟩
def tDNewK:TE:=fun _ H Q=>∀p,H p=none->Q (.ref p) (upd H p (.dK []))
def tDNewT:TE:=fun _ H Q=>∀p,H p=none->Q (.ref p) (upd H p (.dT []))
section
variable {X:Cx} {pos:Pos}
theorem pe_dnewK:PE X (.Dict [] [] pos) tDNewK:=fun pins s σ H Q I h=>
 wpAny_Dict_empty ⟨.ref s.heap.objs.size,_,I.laid (a:=s.heap.objs.size) (o:=.dK []) (t':=s.toks) (fun _ _ q=>Heap.get?_push_of_some _ q) (Nat.le_refl _) (dk_empty s.heap I.big),rfl,h _ (I.hok.fresh (Nat.le_refl _))⟩
end
def tPairs:List (TE×TE)->St->Hp->(List (V×V)->Hp->Prop)->Prop
 | [],_,H,Q=>Q [] H
 |(tk,tv) :: r,σ,H,Q=>tk σ H fun x H1=>tv σ H1 fun y H2=>tPairs r σ H2 fun ps H3=>Q ((x,y) :: ps) H3
structure M1 (X:Cx) (o:Expr) (m:Str) (apos:Pos) (e:Expr) (cpos:Pos):Prop where
 base:attributeBase o m X.env (eval o X.env)=eval o X.env
 few:((backTo cpos (starEach [e] X.env)).all (fun x=>!x.1) && (backToKw cpos (keywordEach [] X.env)).all (fun x=>x.1.isSome)
  && decide (([e]:List Expr).length+([]:List Keyword).length+(if ([]:List Keyword).isEmpty then 0 else 1) < 30))=true
 line:(apos.endLine == cpos.line)=true
 trees:backTo cpos (starEach [e] X.env)=[(false,eval e X.env)]
structure M2 (X:Cx) (o:Expr) (m:Str) (apos:Pos) (e f:Expr) (cpos:Pos):Prop where
 base:attributeBase o m X.env (eval o X.env)=eval o X.env
 few:((backTo cpos (starEach [e,f] X.env)).all (fun x=>!x.1) && (backToKw cpos (keywordEach [] X.env)).all (fun x=>x.1.isSome)
  && decide (([e,f]:List Expr).length+([]:List Keyword).length+(if ([]:List Keyword).isEmpty then 0 else 1) < 30))=true
 line:(apos.endLine == cpos.line)=true
 trees:backTo cpos (starEach [e,f] X.env)=[(false,eval e X.env),(false,eval f X.env)]
def IsD (H:Hp) (a:Addr):Prop:=(∃kvs,Rd H a (.dK kvs))∨∃kvs,Rd H a (.dT kvs)
section
variable {X:Cx} {pins:List (Addr×Obj)} {σ:St} {H:Hp} {s:Shared} {a:Addr} {y d:V} {u r:Value} {o:Option V} {A:Around} {E:Value->Shared->Prop}
end
def tDGet2 (td ty tx:TE):TE:=fun σ H Q=>td σ H fun x H1=>∃a,x=.ref a∧IsD H1 a∧ty σ H1 fun y H2=>tx σ H2 fun z H3=>∃o,DGet H3 a y o∧Q (o.getD z) H3
section
variable {X:Cx} {o e f:Expr} {apos cpos:Pos} {td ty tx:TE}
end
section
variable {X:Cx} {pins:List (Addr×Obj)} {σ:St} {H:Hp} {s:Shared} {a:Addr} {kvs:List (Key×V)} {A:Around} {E:Value->Shared->Prop}
end
section
variable {X:Cx} {pins:List (Addr×Obj)} {σ:St} {H:Hp} {s:Shared} {a:Addr} {y:V} {u:Value} {A:Around} {E:Value->Shared->Prop}
end
end L2
namespace L2
open PySem PySem.Spec PyProof.Rows
structure Grd (P:Program) (w:World) (fs:List Addr) (H H':Hp) (h B:Heap):Prop where
 keep:∀b o,h.get? b=some o->H b=none->b∉fs->B.get? b=some o
 there:∀b o,h.get? b=some o->b∉fs->∃o',B.get? b=some o'
 free:∀b o,h.get? b=some o->H b=none->H' b=none
 tups:∀b xs,H b=some (.tup xs)->H' b=some (.tup xs)
 frzs:∀b o u,H b=some (.frz o u)->H' b=some (.frz o u)
 tbls:∀b ps,H b=some (.tbl ps)->∃more,H' b=some (.tbl (ps++more))
 hok:HOk P w H' B
def Slt (fs:List Addr) (h h':Heap):Prop:=∀b o,h.get? b=some o->b∈fs->∃sl,h'.get? b=some { o with slots:=sl }
def CXE (P:Program) (w:World):CXT:=fun outer H s E e s'=>∃(a t C:Addr) (H':Hp) (B:Heap),e=.ref a∧s'.os=s.os∧AllBare s'.gens∧Heap.FlyingW B outer a (.ref C) (.ref t) s'.heap∧
 Grd P w (frs outer) H H' s.heap B∧Slt (frs outer) s.heap s'.heap∧E (.ref C) none H'
theorem passF {P:Program} {w:World} {X:Cx}:Passes (CXE P w) X E0:=fun _ _ _ _ _ _ _ h=>by
 obtain⟨_,_,_,_,_,_,_,_,_,_,_,q⟩:=h
 exact q.elim
section
variable {X:Cx} {pins:List (Addr×Obj)} {σ:St} {H H':Hp} {s:Shared}
theorem HOk.hide {P:Program} {w:World} {h:Heap} {fs:List Addr} (x:HOk P w H h) (hf:∀b∈fs,H b=none):HOk P w H (PySem.W.hideAll h fs):=fun a o e=>
 (x a o e).stay (fun b u hb q=>PySem.W.hideAll_get _ q fun z=>by
  have n:=hf b z
  rcases hb with hb | hb
  ·rw [hb,e] at n;cases n
  ·rw [hb] at n;cases n) (fun _ q=>q) fun _ _ q=>q
end
section
variable {P:Program} {w:World} {K:PySem.W.Frag} {mg:Str->Option Value} {base:Heap} {N:List Str} {qual:Str} {scope:Scope} {f:Addr} {cd:Value} {A:Around} {outer:List Env} {s0:Shared} {H0:Hp} {E:XK}
theorem nofr0 {pins:List (Addr×Obj)} {σ:St} {H:Hp} {s:Shared} (I:Inv (cxOf (CXE P w) P w K mg base N qual scope f cd A outer s0 H0 E) pins σ H s) {b:Addr} {o:Obj} (q:s0.heap.get? b=some o) (hb:b∉frs outer):
  b∉frs (envOfC qual scope s0.heap.objs.size f cd :: outer):=fun z=>by
 rcases List.mem_cons.mp (I.stkSub b z) with e | e
 ·exact absurd (Heap.lt_size q) (by rw [e];exact Nat.not_lt.mpr I.ok.above)
 ·exact hb e
theorem throw_here {pins:List (Addr×Obj)} {σ:St} {H:Hp} {s:Shared} {h':Heap} {a C:Addr} {args:List Value} (I:Inv (cxOf (CXE P w) P w K mg base N qual scope f cd A outer s0 H0 E) pins σ H s)
  (hx:Heap.MadeExcOf s.heap h' a (.ref C) args) (q:E (.ref C) none H):(cxOf (CXE P w) P w K mg base N qual scope f cd A outer s0 H0 E).xe (.ref a) { s with heap:=h' }:=by
 have hfs:∀b∈frs (envOfC qual scope s0.heap.objs.size f cd :: outer),H b=none:=I.stkFree
 have hin:∀env∈(envOfC qual scope s0.heap.objs.size f cd :: outer),∀b,env.frame=some b->b∈frs (envOfC qual scope s0.heap.objs.size f cd :: outer):=fun env he b hb=>List.mem_filterMap.mpr ⟨env,he,hb⟩
 have hst:s.heap.FunFrames base (envOfC qual scope s0.heap.objs.size f cd :: outer):=I.stack
 have noE:∀b:Addr,b∉(cxOf (CXE P w) P w K mg base N qual scope f cd A outer s0 H0 E).ex:=fun b z=>absurd (show b∈([]:List Addr) from z) (by simp)
 refine wpAny_leaves_madeW (base:=PySem.W.hideAll s.heap (frs (envOfC qual scope s0.heap.objs.size f cd :: outer))) I.ok.frames rfl (fun b o z=>PySem.W.of_hideAll _ z) (PySem.W.funFrames_hide hst hin) hx fun h2 t fl _ _ up=>?_
 refine⟨a,t,C,H,_,rfl,I.os,I.bare,fl,⟨fun b o e n hb=>?_,fun b o e hb=>?_,fun b o e n=>I.base.free b o e n (noE b),I.base.tups,I.base.frzs,I.base.tbls,I.hok.hide hfs⟩,fun b o e hb=>?_,q⟩
 ·exact PySem.W.hideAll_get _ (I.base.keep b o e n hb (noE b)) (nofr0 I e hb)
 ·obtain⟨o',e'⟩:=I.base.there b o e (noE b)
  exact⟨o',PySem.W.hideAll_get _ e' (nofr0 I e hb)⟩
 ·obtain⟨_,o',ho',hd⟩:=I.ok.funs.mem hb
  rw [show (cxOf (CXE P w) P w K mg base N qual scope f cd A outer s0 H0 E).s₀.heap.get? b=some o from e] at ho';cases ho'
  obtain⟨sl,e1⟩:=I.base.slot b o e (I.ok.frf b hb) hb (noE b)
  obtain⟨sl',e2⟩:=up b _ (hx.keeps _ _ e1) hd
  exact⟨sl',e2⟩
theorem Fun.okE {x:Str} {st:Stmt} {fd:FuncData} {ps:List Str} {k:Nat} {sp:Sp} (F:Fun K x qual st f fd) (S:FnScope N ps (defScope st)) (len:∀vs H Q E,sp vs H Q E->vs.length=ps.length)
  (hbody:∀(cdv:Value) (A:Around) (outer:List Env) (s:Shared) (H:Hp) (vs:List V) (Q:VK) (E:XK),Room k (A.deeper (envOfC qual (defScope st) s.heap.objs.size f cdv))->sp vs H Q E->
   ∃t,PSs (cxOf (CXE P w) P w K mg base N qual (defScope st) f cdv A outer s H E) (defBody st) t∧t { nx:=fun _ H'=>Q .non H',rt:=Q } (start N vs) H):FnOk P w K mg base (CXE P w) (k+1) f fd ps sp:=by
 obtain⟨oc,od,kV,doc,pm,an,cdv,ct,osl,rfl,lk,hcd⟩:=F.ex
 exact fn_of lk hcd S len fun A outer s H vs Q E hr hsp=>hbody cdv A outer s H vs Q E hr hsp
end
theorem PS.nox {X:Cx} {st:Stmt} {t:TS} (h:PS X.nox st t):PS X st t:=fun pins s σ H D I hw=>
 wpAny_mono (h pins s σ H D (I.wish _) hw) (fun _ _ q=>q.unwish) fun _ _ z=>False.elim z
abbrev bmV:List Value:=[.type "ValueError",.type "Exception",.type "BaseException",.type "object"]
theorem exc_obj {K:PySem.W.Frag} {C:Addr} (q:PySem.W.excIn K C bmV "ValueError.__new__" = true):∃bm N nm qn bs hd sn sub ab col dd k0 k1 k2 k3 k5,
  K.lookup C=some (excClassObj nm qn C N bs bm hd sn sub ab col dd k0 k1 k2 k3 k5 "ValueError.__new__")∧PySem.W.tailIn K bmV bm=true∧PySem.W.nsOkIn K N=true∧PySem.W.nsIn K N "__init__" = some none:=by
 unfold PySem.W.excIn at q
 split at q
 ·rename_i dd cd sl ho
  split at q
  ·rename_i C1 bm k0 k1 k2 k3 n k5 hm hs
   rw [Bool.and_eq_true,Bool.and_eq_true,Bool.and_eq_true,Bool.and_eq_true,Bool.and_eq_true] at q
   obtain⟨⟨⟨⟨⟨q1,q2⟩,q3⟩,q4⟩,q5⟩,q6⟩:=q
   have r1:=beq_iff_eq.mp q1
   have r2:=beq_iff_eq.mp q2
   have r6:=beq_iff_eq.mp q6
   subst r1 r2
   obtain⟨nm,bs,mro,ns,qn,hd,sn,sub,ab,col,del⟩:=cd
   simp only at hm q3 q5 r6
   have q3':del=false:=by cases del <;> simp at q3 ⊢
   subst hm q3'
   obtain⟨l⟩:=sl
   simp only at hs
   subst hs
   exact⟨bm,ns,nm,qn,bs,hd,sn,sub,ab,col,dd,k0,k1,k2,k3,k5,ho,q4,q5,r6⟩
  ·cases q
 ·cases q
def Throws (X:Cx) (E:XK):Prop:=∀(pins:List (Addr×Obj)) (σ:St) (H:Hp) (s:Shared) (h':Heap) (a C:Addr) (args:List Value),Inv X pins σ H s->Heap.MadeExcOf s.heap h' a (.ref C) args->E (.ref C) none H->X.xe (.ref a) { s with heap:=h' }
theorem throwE {P:Program} {w:World} {K:PySem.W.Frag} {mg:Str->Option Value} {base:Heap} {N:List Str} {qual:Str} {scope:Scope} {f:Addr} {cd:Value} {A:Around} {outer:List Env} {s0:Shared} {H0:Hp} {E:XK}:
  Throws (cxOf (CXE P w) P w K mg base N qual scope f cd A outer s0 H0 E) E:=fun _ _ _ _ _ _ _ _ I hx q=>throw_here I hx q
def tRaise (C:Addr) (ta:TA) (E:XK):TS:=fun _ σ H=>ta σ H fun vs H1=>vs.length<=sizeLine∧E (.ref C) none H1
theorem a_raise {C:Addr} {ta:TA} {E:XK} {D:Ends} {σ:St} {H:Hp}:tRaise C ta E D σ H=ta σ H fun vs H1=>vs.length<=sizeLine∧E (.ref C) none H1:=rfl
theorem ps_raise {X:Cx} {E:XK} {x:Str} {C:Addr} {e0:Expr} {ta:TA} {np cpos pos:Pos} (hc:X.calm=true) (hr:Throws X E) (hg:Gl X x) (hm:X.mg x=some (.ref C)) (hx:PySem.W.excIn X.K C bmV "ValueError.__new__" = true) (ha:PA X [e0] ta)
  (he:starEach [e0] X.env=[(false,eval e0 X.env)]:=by rfl) (hpl:(backTo cpos (starEach [e0] X.env)).any (·.1)=false:=by rfl) (hd:(x == ("__debug__" : Str))=false:=by decide):
  PS X (.Raise (some (.Call (.Name x np) [e0] [] cpos)) none pos) (tRaise C ta E):=by
 intro pins s σ H D I h
 obtain⟨bm,N,nm,qn,bs,hdc,sn,sub,ab,col,dd,k0,k1,k2,k3,k5,lk,tl,ok,ni⟩:=exc_obj hx
 have T0:OwnTail s.heap bmV bm:=PySem.W.tail_of_in I.kIn tl
 refine wpAny_Raise_call_subT (C:=C) (nm:=nm) (q:=qn) (N:=N) (bs:=bs) (bm:=bm) (hdct:=hdc) (sn:=sn) (sub:=sub) (ab:=ab) (col:=col) (dd:=dd) (k0:=k0) (k1:=k1) (k2:=k2) (k3:=k3) (k5:=k5)
  PySem.F.excBase_ValueError (mN:=s.heap.nsMap N) (T0.hasType PySem.F.excBase_ValueError.hasBase) (I.ok.hd hc) hpl (PySem.W.nsMap_none_of_in I.kIn ok ni) (ld_glob I hg hm ⟨rfl,?_⟩ hd)
 have ns0:s.heap.Ns N (s.heap.nsMap N):=.of_isNs (PySem.W.isNs_of_in I.kIn ok)
 have h2:=ha cpos pins s σ H _ I h
 rw [he] at h2 ⊢
 refine Calls.evalArgs_plain (wpAny_mono h2 (fun vs s2 z=>?_) fun _ _ y=>y)
 obtain⟨xs,H1,I1,r1,q1,q2⟩:=z
 have eN:s.heap.nsMap N=s2.heap.nsMap N:=by
  obtain⟨o,es,ep,ho,hdt,_⟩:=id ns0
  unfold PySem.W.nsOkIn at ok
  split at ok
  ·rename_i z
   unfold Heap.nsMap
   rw [I.kIn _ _ z,I1.kIn _ _ z]
  ·cases ok
 refine⟨rfl,by rw [← r1.length];exact q1,I1.kIn _ _ lk,?_,PySem.W.tail_of_in I1.kIn tl,fun h' a hm'=>hr pins σ H1 s2 h' a C vs I1 hm' q2⟩
 rw [eN];exact .of_isNs (PySem.W.isNs_of_in I1.kIn ok)
end L2
namespace L2
open PySem PySem.Spec PyProof.Rows
def IsExc (a C:Addr):HO:=.ext fun h=>∃oe vs,h.get? a=some oe∧oe.cls=.ref C∧oe.data=.fields vs
section
variable {X:Cx} {pins:List (Addr×Obj)} {σ:St} {H H':Hp} {s:Shared} {a:Addr}
end
structure Catches (K:PySem.W.Frag) (C D:Addr):Prop where
 c:PySem.W.excIn K C bmV "ValueError.__new__" = true
 d:PySem.W.excIn K D bmV "ValueError.__new__" = true
 base:PySem.W.mroIn K D (.type "BaseException")=some true
 sub:PySem.W.mroIn K C (.ref D)=some true
section
variable {X:Cx} {pins:List (Addr×Obj)} {σ:St} {H H':Hp} {s s2:Shared} {a t C:Addr} {B:Heap}
end
section
variable {X:Cx} {k:Nat} {f:Addr} {fd:FuncData} {ps:List Str} {sp:Sp} {x:Str} {p pos:Pos} {e:Expr} {es:List Expr} {t:TA}
end
def tTry (K:PySem.W.Frag) (Dc:Addr) (t:XK->TS) (th:TS):TS:=fun D σ H=>t (fun c _ H1=>∃C,c=.ref C∧Catches K C Dc∧∀a,H1 a=none->th D σ (upd H1 a (IsExc a C))) D σ H
theorem a_try {K:PySem.W.Frag} {Dc:Addr} {t:XK->TS} {th:TS} {D:Ends} {σ:St} {H:Hp}:tTry K Dc t th D σ H=t (fun c _ H1=>∃C,c=.ref C∧Catches K C Dc∧∀a,H1 a=none->th D σ (upd H1 a (IsExc a C))) D σ H:=rfl
section
variable {X:Cx} {st b0:Stmt} {suite:List Stmt} {t:XK->TS} {th:TS} {x n:Str} {Dc:Addr} {np hpos pos:Pos}
end
def Ends.drop (D:Ends) (i:Nat):Ends:={ nx:=fun σ H=>D.nx (σ.set i none) H,rt:=D.rt,bk:=fun σ H=>D.bk (σ.set i none) H,ct:=fun σ H=>D.ct (σ.set i none) H }
def tTryAs (K:PySem.W.Frag) (Dc:Addr) (i:Nat) (t:XK->TS) (th:TS):TS:=fun D σ H=>t (fun c _ H1=>∃C,c=.ref C∧Catches K C Dc∧∀a,H1 a=none->th (D.drop i) (σ.set i (some (.ref a))) (upd H1 a (IsExc a C))) D σ H
theorem a_tryAs {K:PySem.W.Frag} {Dc:Addr} {i:Nat} {t:XK->TS} {th:TS} {D:Ends} {σ:St} {H:Hp}:tTryAs K Dc i t th D σ H=t (fun c _ H1=>∃C,c=.ref C∧Catches K C Dc∧∀a,H1 a=none->th (D.drop i) (σ.set i (some (.ref a))) (upd H1 a (IsExc a C))) D σ H:=rfl
theorem a_drop_nx {D:Ends} {i:Nat} {σ:St} {H:Hp}:(D.drop i).nx σ H=D.nx (σ.set i none) H:=rfl
section
variable {X:Cx} {st b0:Stmt} {suite:List Stmt} {t:XK->TS} {th:TS} {x n:Str} {Dc:Addr} {np hpos pos:Pos} {i:Nat}
end
end L2
namespace L2
open PySem PySem.Spec PySem.W PyProof.Rows Builtin Builtin.ObjectAttr Builtin.Getset_descriptor
section
variable {prog:Program} {w:World} {A:Around} {E:Value->Shared->Prop} {s:Shared} {K:PySem.W.Frag} {x C:Addr}
end
end L2
namespace L2
open PySem PySem.Spec PyProof.Rows
section
variable {X:Cx} {e st:Expr} {te:TE} {lo hi:Option Expr} {tl th ts:TO} {pos p2:Pos}
end
theorem lp_enum {K:PySem.W.Frag} {a:Addr} {xs:List V} {g:TG} {tb:TS} {D:Ends} {σ:St} {H:Hp} (Pv:Nat->St->Hp->Prop) (h0:Pv 0 σ H) (hl:∀i σ H,i<=xs.length->Pv i σ H->SqL K H a xs)
  (hs:∀i v p σ H,xs[i]?=some v->Pv i σ H->H p=none->g (.ref p) σ (upd H p (.tup [.int i,v])) fun σ2 H2=>tb { D with nx:=Pv (i+1),ct:=Pv (i+1),bk:=D.nx } σ2 H2) (hd:∀σ H,Pv xs.length σ H->D.nx σ H):Loop (Ite K a) g tb D σ H:=for_enum Pv h0 hl hs hd
end L2
namespace L2
open PySem PySem.Spec PyProof.Rows
theorem compLoop_if {prog:Program} {w:World} {A:Around} {R:Result->Shared->Prop} {s:Shared} {elt target iter cnd:Expr} {scope:Scope} {pos:Pos} {it acc:Value} {env:Env} (I:Nat->Shared->Prop)
  (turn:∀n s (E:Value->Shared->Prop),I n s->wpAny (model prog w) A (pyNext it) (fun r s₁=>match r with
   | none=>R (.ok .next) s₁
   | some v=>wpAny (model prog w) A (letOwnedTupleGo target it v) (fun _ s₂=>wpAny (model prog w) A (assign target env v) (fun _ s₃=>wpAny (model prog w) A (isTrue cnd env (eval cnd env)) (fun b s₄=>if b=true then wpAny (model prog w) A (eval elt env) (fun x s₅=>
     wpAny (model prog w) A (call (.builtin "list.append") [acc,x]) (fun _ s₆=>∃m,m < n∧I m s₆) E s₅) E s₄ else ∃m,m < n∧I m s₄) E s₃) E s₂) E s₁) E s)
  (n:Nat) (h:I n s):
  codeAny (model prog w) A (.compLoop (.ListComp elt [⟨target,iter,[cnd],0⟩] scope pos) 0 it acc env) R s:=by
 refine codeAny_loop rfl I (fun n s hI=>?_) n h
 show wpAny _ _ ((compTurn (.ListComp elt [⟨target,iter,[cnd],0⟩] scope pos) 0 it acc env).onRaise (fun x=>do noteFrame x env;theTreesLotGoes x)) _ _ s
 refine wpAny_noted ?_
 unfold compTurn
 dsimp only [List.getElem?_cons_zero]
 refine wpAny_bind (wpAny_standAt (wpAny_bind (wpAny_mono (turn n s _ hI) (fun r s₁ h₁=>?_) fun _ _ h'=>h')))
 cases r with
 | none=>exact wpAny_pure h₁
 | some v=>
  refine wpAny_bind (thn h₁ fun _ s₂ h₂=>wpAny_bind (thn h₂ fun _ s₃ h₃=>wpAny_bind ?_))
  rw [List.forIn_cons,if_pos rfl]
  refine wpAny_bind (wpAny_bind (thn h₃ fun b s₄ h₄=>wpAny_pure ?_))
  dsimp only
  rw [List.forIn_nil]
  refine wpAny_pure ?_
  cases b with
  | true=>
   rw [if_pos rfl] at h₄ ⊢
   exact wpAny_bind (wpAny_bind (thn h₄ fun x s₅ h₅=>wpAny_bind (thn h₅ fun _ s₆ h₆=>wpAny_pure (wpAny_pure ⟨rfl,h₆⟩))))
  | false=>
   rw [if_neg (by decide)] at h₄ ⊢
   exact wpAny_pure ⟨rfl,h₄⟩
section
variable {X:Cx} {elt iter cnd:Expr} {x:Str} {px:Pos} {fv:List (Nat×Str)} {scope:Scope} {cl:List (Str×Addr)} {pos:Pos} {te:TE} {tt:TT} {wi:TI}
def CLoopIf (J:It) (fv:List (Nat×Str)) (tt:TT) (te:TE) (Q:VK) (σ:St) (H1:Hp) (D:Addr):Prop:=∃W:Nat->Nat->Hp->Prop,(∃m,W 0 m (upd H1 D (.lst [])))∧∀i m H,W i m H->
 (J.stop i H∧Q (.ref D) H)∨(J.go i H∧∃N:Hp->Prop,(∀H',N H'->∃m',m' < m∧W (i+1) m' H')∧∀v H',J.yld i H v H'->tt (bst fv σ (some v)) H' fun b Hb=>if b=true then te (bst fv σ (some v)) Hb fun y H2=>∃ys,H2 D=some (.lst ys)∧ys.length < sizeLine∧N (upd H2 D (.lst (ys++[y]))) else N Hb)
def tCompIf (fv:List (Nat×Str)) (wi:TI) (tt:TT) (te:TE):TE:=fun σ H Q=>wi σ H fun J H1=>∀D,H1 D=none->CLoopIf J fv tt te Q σ H1 D
theorem blk_runIf {pins:List (Addr×Obj)} {σ:St} {H:Hp} {s2:Shared} {it:Addr} {fp:List Addr} {tn:Nat->Heap->Prop} {J:It} {Q:VK} {E:Value->Shared->Prop} {RR:Value->Addr->Result->Shared->Prop}
  (hc:X.calm=true) (B:BlkOk X x fv scope cl) (hcn:∀C s H fp,PT (blk X x fv scope cl C s H fp) cnd tt) (he:∀C s H fp,PE (blk X x fv scope cl C s H fp) elt te) (I:Inv X pins σ H s2) (T:Turn X.prog X.w X.K (.Name x px) J fp it tn) (st:tn 0 s2.heap) (hf:∀b∈fp,FpOk X pins H b)
  (rd:∀D,H D=none->∃W:Nat->Nat->Hp->Prop,(∃m,W 0 m (upd H D (.lst [])))∧∀i m H,W i m H->
   (J.stop i H∧Q (.ref D) H)∨(J.go i H∧∃N:Hp->Prop,(∀H',N H'->∃m',m' < m∧W (i+1) m' H')∧∀v H',J.yld i H v H'->tt (bst fv σ (some v)) H' fun b Hb=>if b=true then te (bst fv σ (some v)) Hb fun y H2=>∃ys,H2 D=some (.lst ys)∧ys.length < sizeLine∧N (upd H2 D (.lst (ys++[y]))) else N Hb))
  (hRR:∀D C s' H' m',Inv X pins σ H' s'->FpOk X pins H' C->s'.heap.Ns C m'->Q (.ref D) H'->RR (.ref D) C (.ok .next) s'):
  wpAny (model X.prog X.w) X.A (newList []) (fun acc s₃=>wpAny (model X.prog X.w) X.A (newFunctionEnv scope X.env.globals cl [] X.env.qual none .none (some X.env)) (fun cenv s₄=>
   codeAny (model X.prog X.w) X.A (.compStart (.ListComp elt [⟨.Name x px,iter,[cnd],0⟩] scope pos) 0 (.ref it) acc { cenv with scope:=relabel scope X.env }) (RR acc cenv.locals) s₄) E s₃) E s2:=by
 refine wpAny_newObj_type ?_ (by show 0<=sizeLine;exact Nat.zero_le _)
 have hD:H s2.heap.objs.size=none:=I.hok.fresh (Nat.le_refl _)
 have I3:=I.lnew (ys:=[]) (its:=[]) (t':=s2.toks) .nil (Nat.zero_le _)
 generalize hs3:({ s2 with heap:=s2.heap.push { cls:=.type "list",data:=.seq ([]:List Value).toArray },toks:=s2.toks }:Shared)=s3 at I3
 have sz3:s3.heap.objs.size=s2.heap.objs.size+1:=by rw [← hs3];exact Heap.size_push ..
 have up3:∀b o,s2.heap.get? b=some o->s3.heap.get? b=some o:=fun b o e=>by rw [← hs3];exact Heap.get?_push_of_some _ e
 have hf3:∀b∈fp,FpOk X pins (upd H s2.heap.objs.size (.lst [])) b:=fun b hb=>by
  obtain⟨f0,r⟩:=hf b hb
  refine⟨?_,r⟩
  obtain⟨o,e,_⟩:=T.obj 0 _ st b hb
  rw [upd_ne (Nat.ne_of_lt (Heap.lt_size e))];exact f0
 have ltf:∀b∈fp,b < s2.heap.objs.size:=fun b hb=>by
  obtain⟨o,e,_⟩:=T.obj 0 _ st b hb
  exact Heap.lt_size e
 have st3:tn 0 s3.heap:=T.keep 0 _ _ st fun b _ o e=>up3 b o e
 obtain⟨W,⟨m0,w0⟩,turn⟩:=rd _ hD
 refine wpAny_newFunctionEnv B.nocell (by intro y hy;simp at hy) (fun h₁ hns₁ hsb₁=>?_) B.kind
 have hfC:∀b∈fp,b≠s3.heap.objs.size:=fun b hb=>Nat.ne_of_lt (by rw [sz3];exact Nat.lt_succ_of_lt (ltf b hb))
 have up4:∀b o,s3.heap.get? b=some o->h₁.get? b=some o:=fun b o e=>hsb₁.extBut b o (Nat.ne_of_lt (Heap.lt_size e)) (Heap.get?_push_of_some _ e)
 generalize hs4:({ s3 with heap:=h₁,toks:=s3.toks+([]:List (Str×Value)).length }:Shared)=s4
 have h4:s4.heap=h₁:=by rw [← hs4]
 have I4:Inv (blk X x fv scope cl s3.heap.objs.size s3 (upd H s2.heap.objs.size (.lst [])) fp) [] (bst fv σ none) (upd H s2.heap.objs.size (.lst [])) s4:=
  blk_start B I3 hf3 rfl hfC (by rw [← hs4]) (by rw [← hs4]) (fun b o e=>by rw [h4];exact up4 b o e) (by rw [h4];exact hns₁)
 have st4:tn 0 s4.heap:=by rw [h4];exact T.keep 0 _ _ st3 fun b _ o e=>up4 b o e
 have stat:∀{H':Hp},(∀b∈fp,H' b=none)->∀b∈fp,FpOk (blk X x fv scope cl s3.heap.objs.size s3 (upd H s2.heap.objs.size (.lst [])) fp) [] H' b:=fun {H'} hn b hb=>by
  obtain⟨_,f1,f2,f3,f4,f5⟩:=hf b hb
  refine⟨hn b hb,hfC b hb,fun z=>?_,.inl hb,fun y c e=>f4 y c (B.sub y c e),fun p hp=>absurd (show p∈([]:List (Addr×Obj)) from hp) (by simp)⟩
  rcases List.mem_cons.mp (I.stkSub b z) with q | q
  ·exact f1 q
  ·exact f2 q
 have loop:codeAny (model X.prog X.w) X.A (.compLoop (.ListComp elt [⟨.Name x px,iter,[cnd],0⟩] scope pos) 0 (.ref it) (.ref s2.heap.objs.size) (compEnvC scope cl s3.heap.objs.size X.env)) (RR (.ref s2.heap.objs.size) s3.heap.objs.size) s4:=by
  refine compLoop_if (fun n s'=>∃i H' o,Inv (blk X x fv scope cl s3.heap.objs.size s3 (upd H s2.heap.objs.size (.lst [])) fp) [] (bst fv σ o) H' s'∧tn i s'.heap∧(∀b∈fp,H' b=none)∧W i n H') ?_ m0
   ⟨0,_,none,I4,st4,fun b hb=>(hf3 b hb).1,w0⟩
  rintro n s5 E' ⟨i,H5,o5,I5,st5,fr5,w5⟩
  rcases turn i n H5 w5 with ⟨stop,q⟩ | ⟨go,N,hN,step⟩
  ·refine thn (T.done (blk X x fv scope cl s3.heap.objs.size s3 (upd H s2.heap.objs.size (.lst [])) fp) rfl rfl rfl hc i [] s5 _ H5 _ I5 (stat fr5) st5 stop) fun r s6 ⟨hr,I6⟩=>?_
   subst hr
   obtain⟨m6,hn6,_⟩:=I6.loc
   have un:Un (frs X.stack) fp H H5 s2.heap s6.heap:=by
    have u1:Un (frs X.stack) fp H (upd H s2.heap.objs.size (.lst [])) s2.heap s3.heap:=Un.laid up3 (Nat.le_refl _) hD
    exact u1.trans I6.base
   have J6:Inv X pins σ H5 s6:=by
    refine I.call' ?_ un I6.hok I6.bare fun b hb=>?_
    ·have:=I6.os
     rw [show (blk X x fv scope cl s3.heap.objs.size s3 (upd H s2.heap.objs.size (.lst [])) fp).s₀.os=s2.os by rw [← hs3]] at this
     exact this
    ·obtain⟨_,f1,f2,f3,f4,f5⟩:=hf b hb
     exact⟨f3,f1,f4,f5⟩
   refine hRR _ _ s6 H5 m6 J6 ?_ hn6 q
   exact I3.fpOk (Nat.le_refl _) I6.free
  ·refine thn (T.item (blk X x fv scope cl s3.heap.objs.size s3 (upd H s2.heap.objs.size (.lst [])) fp) rfl rfl rfl hc i [] s5 _ H5 _ I5 (stat fr5) st5 go) fun r s6 ⟨u,hr,h6⟩=>?_
   subst hr
   refine thn h6 fun _ s7 ⟨v,H7,I7,r7,y7,st7,fr7⟩=>?_
   have I7':=I7.pinned (stat fr7) (T.obj _ _ st7)
   refine blk_store B I7' r7 fun s8 I8=>?_
   have c8:=hcn _ _ _ _ _ s8 _ H7 _ I8 (step v H7 y7)
   refine wpAny_mono c8 (fun bb sb ⟨Hb,Ib,qb⟩=>?_) fun _ _ z=>False.elim z
   cases bb with
   | false=>
    rw [if_neg (by decide)] at qb
    show (if false=true then _ else _)
    rw [if_neg (by decide)]
    obtain⟨m',hm,w9⟩:=hN _ qb
    refine⟨m',hm,i+1,_,some v,Ib.unpinned,T.keep _ _ _ st7 fun b hb o e=>(Ib.pin (b,o) (List.mem_append_right _ (List.mem_append_right _ (mem_pinsAt hb e)))).1,fun b hb=>?_,w9⟩
    obtain⟨o,e,_⟩:=T.obj _ _ st7 b hb
    exact (Ib.pin (b,o) (List.mem_append_right _ (List.mem_append_right _ (mem_pinsAt hb e)))).2.1
   | true=>
    rw [if_pos rfl] at qb
    show (if true=true then _ else _)
    rw [if_pos rfl]
    have e8:=he _ _ _ _ _ sb _ Hb _ Ib qb
    refine wpAny_mono e8 (fun y s9 ⟨yv,H9,I9,r9,ys,hD9,hz,n9⟩=>?_) fun _ _ z=>False.elim z
    have a9:=mt_append (X:=blk X x fv scope cl s3.heap.objs.size s3 (upd H s2.heap.objs.size (.lst [])) fp) _ s9 _ H9 (.ref s2.heap.objs.size) [yv] (.ref s2.heap.objs.size) [y] (fun _ H10=>H10=upd H9 s2.heap.objs.size (.lst (ys++[yv]))) I9 rfl (.cons r9 .nil)
     ⟨_,ys,yv,rfl,rfl,hD9,hz,rfl⟩
    refine wpAny_mono a9 (fun _ s10 ⟨_,H10,I10,_,e10⟩=>?_) fun _ _ z=>False.elim z
    subst e10
    obtain⟨m',hm,w9⟩:=hN _ n9
    refine⟨m',hm,i+1,_,some v,I10.unpinned,T.keep _ _ _ st7 fun b hb o e=>(I10.pin (b,o) (List.mem_append_right _ (List.mem_append_right _ (mem_pinsAt hb e)))).1,fun b hb=>?_,w9⟩
    obtain⟨o,e,_⟩:=T.obj _ _ st7 b hb
    exact (I10.pin (b,o) (List.mem_append_right _ (List.mem_append_right _ (mem_pinsAt hb e)))).2.1
 exact codeAny_compStart_list loop (T.self _ 0 _ _ _ st4 loop)
end
theorem a_compIf {fv:List (Nat×Str)} {wi:TI} {tt:TT} {te:TE} {σ:St} {H:Hp} {Q:VK}:tCompIf fv wi tt te σ H Q=wi σ H fun J H1=>∀D,H1 D=none->CLoopIf J fv tt te Q σ H1 D:=rfl
end L2
namespace L2
open PySem PySem.Spec PyProof.Rows
theorem ints_are:∀{ns:List Int} {us:List Value},Vals (ns.map V.int) us->IntsAre us ns
 | [],us,h=>by
  cases h;exact .nil
 | n :: ns,us,h=>by
  cases h with
  | cons r rr=>
   obtain⟨t,rfl⟩:=r
   exact .cons n t (ints_are rr)
theorem at_best {zs:Array (Int×Tok)} {ns:List Int} (e:ns=zs.toList.map (·.1)) {j:Nat} (hj:j < zs.size):numAt zs j∈ns:=by
 rw [e,numAt_eq]
 exact PySem.getD_mem (by simpa using hj)
theorem of_best {zs:Array (Int×Tok)} {ns:List Int} (e:ns=zs.toList.map (·.1)) {x:Int} (hx:x∈ns):∃j,j < zs.size∧numAt zs j=x:=by
 rw [e] at hx
 obtain⟨i,hi,h⟩:=mem_getD hx
 exact⟨i,by simpa using hi,by rw [numAt_eq];exact h⟩
theorem call_minL {X:Cx} (hc:X.calm=true):CallR X (.builtin "min") (fun xs H Q=>∃p ns,xs=[.ref p]∧SqL X.K H p (ns.map V.int)∧ns≠[]∧∀M,M∈ns->(∀a,a∈ns->M<=a)->Q (.int M) H):=by
 intro pins s σ H xs us Q I r h
 obtain⟨p,ns,rfl,hq,hne,q⟩:=h
 obtain⟨u,rfl,rx⟩:=vals1 r
 cases rx
 obtain⟨its,r',pl,hz⟩:=I.list hq
 have hi:=ints_are r'
 obtain⟨zs,e⟩:=hi.allInts.items
 have hns:ns=zs.toList.map (·.1):=by rw [← hi.numsOf,← nums_intItems,← e]
 have hsz:0 < zs.size:=by
  have h3:=List.length_pos_iff.mpr hne
  rw [hns,List.length_map,Array.length_toList] at h3;exact h3
 have hl:=pl.isList
 rw [e] at hl
 refine min_intList (I.ok.hd hc) hl hsz fun v h' tk hv hk=>?_
 obtain⟨tv,rfl⟩:=intItems_at hv
 obtain⟨g1,g2⟩:=argBest_lt (numAt zs) (zs.size - 1)
 refine⟨.int _,H,I.kept hk,⟨tv,rfl⟩,q _ (at_best hns (by omega)) fun x hx=>?_⟩
 obtain⟨i,hi,rfl⟩:=of_best hns hx
 exact g2 i (by omega)
theorem call_maxL {X:Cx} (hc:X.calm=true):CallR X (.builtin "max") (fun xs H Q=>∃p ns,xs=[.ref p]∧SqL X.K H p (ns.map V.int)∧ns≠[]∧∀M,M∈ns->(∀a,a∈ns->a<=M)->Q (.int M) H):=by
 intro pins s σ H xs us Q I r h
 obtain⟨p,ns,rfl,hq,hne,q⟩:=h
 obtain⟨u,rfl,rx⟩:=vals1 r
 cases rx
 obtain⟨its,r',pl,hz⟩:=I.list hq
 have hi:=ints_are r'
 obtain⟨zs,e⟩:=hi.allInts.items
 have hns:ns=zs.toList.map (·.1):=by rw [← hi.numsOf,← nums_intItems,← e]
 have hsz:0 < zs.size:=by
  have h3:=List.length_pos_iff.mpr hne
  rw [hns,List.length_map,Array.length_toList] at h3;exact h3
 have hl:=pl.isList
 rw [e] at hl
 refine max_intList (I.ok.hd hc) hl hsz fun v h' tk hv hk=>?_
 obtain⟨tv,rfl⟩:=intItems_at hv
 obtain⟨g1,g2⟩:=argBest_gt (numAt zs) (zs.size - 1)
 refine⟨.int _,H,I.kept hk,⟨tv,rfl⟩,q _ (at_best hns (by omega)) fun x hx=>?_⟩
 obtain⟨i,hi,rfl⟩:=of_best hns hx
 exact g2 i (by omega)
end L2
namespace L2
open PySem PySem.Spec PyProof.Rows
@[reducible] def blk2 (X:Cx) (x z:Str) (fv:List (Nat×Str)) (scope:Scope) (cl:List (Str×Addr)) (C:Addr) (s:Shared) (H:Hp) (fp:List Addr):Cx where
 prog:=X.prog
 w:=X.w
 K:=X.K
 mg:=X.mg
 base:=X.base
 A:=X.A
 N:=x :: z :: fv.map (·.2)
 s₀:=s
 H₀:=H
 env:=compEnvC scope cl C X.env
 outer:=X.stack
 stack:=X.stack
 ex:=fp
 fn:=fun _=>false
 calm:=X.calm
 pn:=[]
 xe:=fun _ _=>False
def bst2 (fv:List (Nat×Str)) (σ:St) (v v2:Option V):St:=v :: v2 :: fv.map fun p=>(σ[p.1]?).getD none
structure BlkOk2 (X:Cx) (x z:Str) (fv:List (Nat×Str)) (scope:Scope) (cl:List (Str×Addr)):Prop where
 clos:closureFor scope X.env=pure cl
 nocell:∀y∈scope.names,y.2≠.cell
 kind:scope.kind=.function
 names:∀y∈scope.names,y.2=.local->scope.names.lookup y.1=some .local
 here:scope.names.lookup x=some .local
 here2:scope.names.lookup z=some .local
 nd:(x :: z :: fv.map (·.2)).Nodup
 sub:∀y c,cl.lookup y=some c->X.env.cells.lookup y=some c
 has:∀y,((relabel scope X.env).names.lookup y=some .cell∨(relabel scope X.env).names.lookup y=some .free)->∃c,cl.lookup y=some c
 fvs:∀p∈fv,X.N[p.1]?=some p.2∧(X.env.scope.names.lookup p.2=some .cell∨X.env.scope.names.lookup p.2=some .free)∧
  ((relabel scope X.env).names.lookup p.2=some .cell∨(relabel scope X.env).names.lookup p.2=some .free)∧∃c,cl.lookup p.2=some c
section
variable {X:Cx} {elt iter:Expr} {x z:Str} {px pz:Pos} {tk:Nat} {tpos:Pos} {fv:List (Nat×Str)} {scope:Scope} {cl:List (Str×Addr)} {pos:Pos} {te:TE} {wi:TI}
theorem blk_ok2 {pins:List (Addr×Obj)} {σ:St} {H:Hp} {s:Shared} {fp:List Addr} {C:Addr} (B:BlkOk2 X x z fv scope cl) (I:Inv X pins σ H s) (hf:∀b∈fp,FpOk X pins H b) (hC:s.heap.objs.size<=C) (hfC:∀b∈fp,b≠C):
  (blk2 X x z fv scope cl C s H fp).Ok where
 mod:=I.ok.mod
 kind:=B.kind
 glob:=I.ok.glob
 blt:=I.ok.blt
 above:=hC
 inj:=fun y y' c h1 h2=>I.ok.inj y y' c (B.sub y c h1) (B.sub y' c h2)
 has:=fun y hy=>B.has y hy
 cab:=fun y c h=>nomatch h
 hd:=I.ok.hd
 frames:=I.ok.frames
 stk:=.inl rfl
 exf:=fun b hb=>⟨hfC b hb,fun y c e=>(hf b hb).2.2.2.2.1 y c (B.sub y c e)⟩
 bs:=I.bs
 bsz:=Nat.le_trans I.ok.bsz I.sz
 noex:=fun b o e hb=>by
  obtain⟨_,_,_,f3,_⟩:=hf b hb
  rcases f3 with z' | z'
  ·exact I.ok.noex b o e z'
  ·exact absurd (Nat.lt_of_lt_of_le (Heap.lt_size e) (Nat.le_trans I.ok.bsz z')) (Nat.lt_irrefl _)
 exfs:=fun b hb hs=>by
  obtain⟨_,f1,f2,_⟩:=hf b hb
  rcases List.mem_cons.mp (I.stkSub b hs) with z | z
  ·exact f1 z
  ·exact f2 z
 funs:=I.stack
 frf:=I.stkFree
theorem bst_get2 {fv:List (Nat×Str)} {σ:St} {o o2:Option V} {j:Nat} {y:Str} {v:V} (h1:(x :: z :: fv.map (·.2))[j+2]?=some y) (h2:(bst2 fv σ o o2)[j+2]?=some (some v)):∃p∈fv,p.2=y∧σ[p.1]?=some (some v):=by
 have e1:(fv.map (·.2))[j]?=some y:=by simpa using h1
 have e2:(fv.map fun p=>(σ[p.1]?).getD none)[j]?=some (some v):=by simpa [bst2] using h2
 rw [List.getElem?_map] at e1 e2
 cases q:fv[j]? with
 | none=>rw [q] at e1;cases e1
 | some p=>
  rw [q] at e1 e2
  refine⟨p,List.mem_of_getElem? q,Option.some.inj e1,?_⟩
  have e3:(σ[p.1]?).getD none=some v:=Option.some.inj e2
  cases r:σ[p.1]? with
  | none=>rw [r] at e3;cases e3
  | some w=>rw [r] at e3;exact congrArg some e3
theorem blk_start2 {pins:List (Addr×Obj)} {σ:St} {H:Hp} {s s4:Shared} {fp:List Addr} {C:Addr} {m:Str->Option Value} (B:BlkOk2 X x z fv scope cl) (I:Inv X pins σ H s) (hf:∀b∈fp,FpOk X pins H b) (hC:C=s.heap.objs.size)
  (hfC:∀b∈fp,b≠C) (os:s4.os=s.os) (gens:s4.gens=s.gens) (keep:∀b o,s.heap.get? b=some o->s4.heap.get? b=some o) (ns:s4.heap.Ns C m):
  Inv (blk2 X x z fv scope cl C s H fp) [] (bst2 fv σ none none) H s4:=by
 subst hC
 refine⟨blk_ok2 B I hf (Nat.le_refl _) hfC,os,by rw [gens];exact I.bare,Un.kept keep,⟨m,ns,fun i y v h1 h2 h3=>?_⟩,fun y c e=>?_,I.hok.fresh (Nat.le_refl _),fun y c e=>I.freeC y c (B.sub y c e),fun p hp=>absurd (show p∈([]:List (Addr×Obj)) from hp) (by simp),I.hok.kept keep,by simp [bst2]⟩
 ·cases i with
  | zero=>simp [bst2] at h2
  | succ j=>
   cases j with
   | zero=>simp [bst2] at h2
   | succ j=>
   obtain⟨p,hp,rfl,hv⟩:=bst_get2 h1 h2
   obtain⟨hN,hk,hk2,c,hc⟩:=B.fvs p hp
   obtain⟨m0,_,hl⟩:=I.loc
   have vis:Vis X.env.scope p.2:=hk.elim (fun z=>.inr (.inl z)) fun z=>.inr (.inr z)
   obtain⟨u,r,l⟩:=hl p.1 p.2 v hN hv vis
   refine⟨u,r,.inr ⟨hk2,c,hc,?_⟩⟩
   rcases l with ⟨z,_⟩ | ⟨_,c',hc',o,ho,hd⟩
   ·have z':X.env.scope.names.lookup p.2=some .local:=z
    rcases hk with k | k <;> (rw [k] at z';cases z')
   ·have:=B.sub p.2 c hc
    rw [hc'] at this;cases this
    exact⟨o,keep _ o ho,hd⟩
 ·obtain⟨v,o,ho,hd⟩:=I.cell y c (B.sub y c e)
  exact⟨v,o,keep c o ho,hd⟩
theorem blk_store2 {s:Shared} {H0:Hp} {fp:List Addr} {C:Addr} (hc:X.calm=true) (B:BlkOk2 X x z fv scope cl):
  PG (blk2 X x z fv scope cl C s H0 fp) (.Tuple [.Name x px,.Name z pz] tk tpos) (gTup X.K 2 (gCons (gName 0) (gCons (gName 1) gNil))):=by
 have h1:(relabel scope X.env).names.lookup x=some .local:=lookup_relabel_local B.here
 have h2:(relabel scope X.env).names.lookup z=some .local:=lookup_relabel_local B.here2
 exact pg_tup (X:=blk2 X x z fv scope cl C s H0 fp) hc (pgs_cons (pg_name (i:=0) B.nd rfl (.inl h1) (.inr h1)) (pgs_cons (pg_name (i:=1) B.nd rfl (.inl h2) (.inr h2)) pgs_nil))
theorem blk_run2 {pins:List (Addr×Obj)} {σ:St} {H:Hp} {s2:Shared} {it:Addr} {fp:List Addr} {tn:Nat->Heap->Prop} {J:It} {Q:VK} {E:Value->Shared->Prop} {RR:Value->Addr->Result->Shared->Prop}
  (hc:X.calm=true) (B:BlkOk2 X x z fv scope cl) (he:∀C s H fp,PE (blk2 X x z fv scope cl C s H fp) elt te) (I:Inv X pins σ H s2) (T:Turn X.prog X.w X.K (.Tuple [.Name x px,.Name z pz] tk tpos) J fp it tn) (st:tn 0 s2.heap) (hf:∀b∈fp,FpOk X pins H b)
  (rd:∀D,H D=none->∃W:Nat->Nat->Hp->Prop,(∃m,W 0 m (upd H D (.lst [])))∧∀i m H,W i m H->
   (J.stop i H∧Q (.ref D) H)∨(J.go i H∧∃N:Hp->Prop,(∀H',N H'->∃m',m' < m∧W (i+1) m' H')∧∀v H',J.yld i H v H'->∃q x1 x2,v=.ref q∧SqT X.K H' q [x1,x2]∧te (bst2 fv σ (some x1) (some x2)) H' fun y H2=>∃ys,H2 D=some (.lst ys)∧ys.length < sizeLine∧N (upd H2 D (.lst (ys++[y])))))
  (hRR:∀D C s' H' m',Inv X pins σ H' s'->FpOk X pins H' C->s'.heap.Ns C m'->Q (.ref D) H'->RR (.ref D) C (.ok .next) s'):
  wpAny (model X.prog X.w) X.A (newList []) (fun acc s₃=>wpAny (model X.prog X.w) X.A (newFunctionEnv scope X.env.globals cl [] X.env.qual none .none (some X.env)) (fun cenv s₄=>
   codeAny (model X.prog X.w) X.A (.compStart (.ListComp elt [⟨(.Tuple [.Name x px,.Name z pz] tk tpos),iter,[],0⟩] scope pos) 0 (.ref it) acc { cenv with scope:=relabel scope X.env }) (RR acc cenv.locals) s₄) E s₃) E s2:=by
 refine wpAny_newObj_type ?_ (by show 0<=sizeLine;exact Nat.zero_le _)
 have hD:H s2.heap.objs.size=none:=I.hok.fresh (Nat.le_refl _)
 have I3:=I.lnew (ys:=[]) (its:=[]) (t':=s2.toks) .nil (Nat.zero_le _)
 generalize hs3:({ s2 with heap:=s2.heap.push { cls:=.type "list",data:=.seq ([]:List Value).toArray },toks:=s2.toks }:Shared)=s3 at I3
 have sz3:s3.heap.objs.size=s2.heap.objs.size+1:=by rw [← hs3];exact Heap.size_push ..
 have up3:∀b o,s2.heap.get? b=some o->s3.heap.get? b=some o:=fun b o e=>by rw [← hs3];exact Heap.get?_push_of_some _ e
 have hf3:∀b∈fp,FpOk X pins (upd H s2.heap.objs.size (.lst [])) b:=fun b hb=>by
  obtain⟨f0,r⟩:=hf b hb
  refine⟨?_,r⟩
  obtain⟨o,e,_⟩:=T.obj 0 _ st b hb
  rw [upd_ne (Nat.ne_of_lt (Heap.lt_size e))];exact f0
 have ltf:∀b∈fp,b < s2.heap.objs.size:=fun b hb=>by
  obtain⟨o,e,_⟩:=T.obj 0 _ st b hb
  exact Heap.lt_size e
 have st3:tn 0 s3.heap:=T.keep 0 _ _ st fun b _ o e=>up3 b o e
 obtain⟨W,⟨m0,w0⟩,turn⟩:=rd _ hD
 refine wpAny_newFunctionEnv B.nocell (by intro y hy;simp at hy) (fun h₁ hns₁ hsb₁=>?_) B.kind
 have hfC:∀b∈fp,b≠s3.heap.objs.size:=fun b hb=>Nat.ne_of_lt (by rw [sz3];exact Nat.lt_succ_of_lt (ltf b hb))
 have up4:∀b o,s3.heap.get? b=some o->h₁.get? b=some o:=fun b o e=>hsb₁.extBut b o (Nat.ne_of_lt (Heap.lt_size e)) (Heap.get?_push_of_some _ e)
 generalize hs4:({ s3 with heap:=h₁,toks:=s3.toks+([]:List (Str×Value)).length }:Shared)=s4
 have h4:s4.heap=h₁:=by rw [← hs4]
 have I4:Inv (blk2 X x z fv scope cl s3.heap.objs.size s3 (upd H s2.heap.objs.size (.lst [])) fp) [] (bst2 fv σ none none) (upd H s2.heap.objs.size (.lst [])) s4:=
  blk_start2 B I3 hf3 rfl hfC (by rw [← hs4]) (by rw [← hs4]) (fun b o e=>by rw [h4];exact up4 b o e) (by rw [h4];exact hns₁)
 have st4:tn 0 s4.heap:=by rw [h4];exact T.keep 0 _ _ st3 fun b _ o e=>up4 b o e
 have stat:∀{H':Hp},(∀b∈fp,H' b=none)->∀b∈fp,FpOk (blk2 X x z fv scope cl s3.heap.objs.size s3 (upd H s2.heap.objs.size (.lst [])) fp) [] H' b:=fun {H'} hn b hb=>by
  obtain⟨_,f1,f2,f3,f4,f5⟩:=hf b hb
  refine⟨hn b hb,hfC b hb,fun z'=>?_,.inl hb,fun y c e=>f4 y c (B.sub y c e),fun p hp=>absurd (show p∈([]:List (Addr×Obj)) from hp) (by simp)⟩
  rcases List.mem_cons.mp (I.stkSub b z') with q | q
  ·exact f1 q
  ·exact f2 q
 have loop:codeAny (model X.prog X.w) X.A (.compLoop (.ListComp elt [⟨(.Tuple [.Name x px,.Name z pz] tk tpos),iter,[],0⟩] scope pos) 0 (.ref it) (.ref s2.heap.objs.size) (compEnvC scope cl s3.heap.objs.size X.env)) (RR (.ref s2.heap.objs.size) s3.heap.objs.size) s4:=by
  refine compLoop_one (fun n s'=>∃i H' o o2,Inv (blk2 X x z fv scope cl s3.heap.objs.size s3 (upd H s2.heap.objs.size (.lst [])) fp) [] (bst2 fv σ o o2) H' s'∧tn i s'.heap∧(∀b∈fp,H' b=none)∧W i n H') ?_ m0
   ⟨0,_,none,none,I4,st4,fun b hb=>(hf3 b hb).1,w0⟩
  rintro n s5 E' ⟨i,H5,o5,o6,I5,st5,fr5,w5⟩
  rcases turn i n H5 w5 with ⟨stop,q⟩ | ⟨go,N,hN,step⟩
  ·refine thn (T.done (blk2 X x z fv scope cl s3.heap.objs.size s3 (upd H s2.heap.objs.size (.lst [])) fp) rfl rfl rfl hc i [] s5 _ H5 _ I5 (stat fr5) st5 stop) fun r s6 ⟨hr,I6⟩=>?_
   subst hr
   obtain⟨m6,hn6,_⟩:=I6.loc
   have un:Un (frs X.stack) fp H H5 s2.heap s6.heap:=by
    have u1:Un (frs X.stack) fp H (upd H s2.heap.objs.size (.lst [])) s2.heap s3.heap:=Un.laid up3 (Nat.le_refl _) hD
    exact u1.trans I6.base
   have J6:Inv X pins σ H5 s6:=by
    refine I.call' ?_ un I6.hok I6.bare fun b hb=>?_
    ·have:=I6.os
     rw [show (blk2 X x z fv scope cl s3.heap.objs.size s3 (upd H s2.heap.objs.size (.lst [])) fp).s₀.os=s2.os by rw [← hs3]] at this
     exact this
    ·obtain⟨_,f1,f2,f3,f4,f5⟩:=hf b hb
     exact⟨f3,f1,f4,f5⟩
   refine hRR _ _ s6 H5 m6 J6 ?_ hn6 q
   exact I3.fpOk (Nat.le_refl _) I6.free
  ·refine thn (T.item (blk2 X x z fv scope cl s3.heap.objs.size s3 (upd H s2.heap.objs.size (.lst [])) fp) rfl rfl rfl hc i [] s5 _ H5 _ I5 (stat fr5) st5 go) fun r s6 ⟨u,hr,h6⟩=>?_
   subst hr
   refine thn h6 fun _ s7 ⟨v,H7,I7,r7,y7,st7,fr7⟩=>?_
   have I7':=I7.pinned (stat fr7) (T.obj _ _ st7)
   obtain⟨q7,x1,x2,ev,sq7,rd7⟩:=step v H7 y7
   refine wpAny_mono (blk_store2 (px:=px) (pz:=pz) (tk:=tk) (tpos:=tpos) hc B _ s7 _ H7 v u (fun σ' H'=>σ'=bst2 fv σ (some x1) (some x2)∧H'=H7) I7' r7 ⟨q7,[x1,x2],ev,sq7,rfl,x1,[x2],rfl,x2,[],rfl,rfl,rfl,rfl⟩) (fun _ s8 ⟨σ8,H8,I8,e8a,e8b⟩=>?_) fun _ _ z=>False.elim z
   subst e8a e8b
   have e8:=he _ _ _ _ _ s8 _ _ _ I8 rd7
   refine wpAny_mono e8 (fun y s9 ⟨yv,H9,I9,r9,ys,hD9,hz,n9⟩=>?_) fun _ _ z=>False.elim z
   have a9:=mt_append (X:=blk2 X x z fv scope cl s3.heap.objs.size s3 (upd H s2.heap.objs.size (.lst [])) fp) _ s9 _ H9 (.ref s2.heap.objs.size) [yv] (.ref s2.heap.objs.size) [y] (fun _ H10=>H10=upd H9 s2.heap.objs.size (.lst (ys++[yv]))) I9 rfl (.cons r9 .nil)
    ⟨_,ys,yv,rfl,rfl,hD9,hz,rfl⟩
   refine wpAny_mono a9 (fun _ s10 ⟨_,H10,I10,_,e10⟩=>?_) fun _ _ z=>False.elim z
   subst e10
   obtain⟨m',hm,w9⟩:=hN _ n9
   refine⟨m',hm,i+1,_,some x1,some x2,I10.unpinned,T.keep _ _ _ st7 fun b hb o e=>(I10.pin (b,o) (List.mem_append_right _ (List.mem_append_right _ (mem_pinsAt hb e)))).1,fun b hb=>?_,w9⟩
   obtain⟨o,e,_⟩:=T.obj _ _ st7 b hb
   exact (I10.pin (b,o) (List.mem_append_right _ (List.mem_append_right _ (mem_pinsAt hb e)))).2.1
 exact codeAny_compStart_list loop (T.self _ 0 _ _ _ st4 loop)
def CLoop2 (K:PySem.W.Frag) (J:It) (fv:List (Nat×Str)) (te:TE) (Q:VK) (σ:St) (H1:Hp) (D:Addr):Prop:=∃W:Nat->Nat->Hp->Prop,(∃m,W 0 m (upd H1 D (.lst [])))∧∀i m H,W i m H->
 (J.stop i H∧Q (.ref D) H)∨(J.go i H∧∃N:Hp->Prop,(∀H',N H'->∃m',m' < m∧W (i+1) m' H')∧∀v H',J.yld i H v H'->∃q x1 x2,v=.ref q∧SqT K H' q [x1,x2]∧te (bst2 fv σ (some x1) (some x2)) H' fun y H2=>∃ys,H2 D=some (.lst ys)∧ys.length < sizeLine∧N (upd H2 D (.lst (ys++[y]))))
def tComp2 (K:PySem.W.Frag) (fv:List (Nat×Str)) (wi:TI) (te:TE):TE:=fun σ H Q=>wi σ H fun J H1=>∀D,H1 D=none->CLoop2 K J fv te Q σ H1 D
theorem a_tComp2 {K:PySem.W.Frag} {σ:St} {H:Hp} {Q:VK}:tComp2 K fv wi te σ H Q=wi σ H fun J H1=>∀D,H1 D=none->CLoop2 K J fv te Q σ H1 D:=rfl
def FvOk2 (X:Cx) (scope:Scope) (cl:List (Str×Addr)) (fv:List (Nat×Str)):Prop:=∀p∈fv,X.N[p.1]?=some p.2∧(X.env.scope.names.lookup p.2=some .cell∨X.env.scope.names.lookup p.2=some .free)∧
  ((relabel scope X.env).names.lookup p.2=some .cell∨(relabel scope X.env).names.lookup p.2=some .free)∧∃c,cl.lookup p.2=some c
theorem fv_nil2 {X:Cx} {scope:Scope} {cl:List (Str×Addr)}:FvOk2 X scope cl []:=fun _ h=>nomatch h
theorem fv_cons2 {X:Cx} {scope:Scope} {cl:List (Str×Addr)} {fv:List (Nat×Str)} (i:Nat) (y:Str) (h2:X.N[i]?=some y) (h3:X.env.scope.names.lookup y=some .cell∨X.env.scope.names.lookup y=some .free)
  (h4:(relabel scope X.env).names.lookup y=some .cell∨(relabel scope X.env).names.lookup y=some .free) (h5:∃c,cl.lookup y=some c) (r:FvOk2 X scope cl fv):FvOk2 X scope cl ((i,y) :: fv):=fun p hp=>by
 rcases List.mem_cons.mp hp with rfl | hp
 ·exact⟨h2,h3,h4,h5⟩
 ·exact r p hp
theorem blkok2 {X:Cx} {x z:Str} {fv:List (Nat×Str)} {scope:Scope} {cl:List (Str×Addr)} (clos:closureFor scope X.env=pure cl) (sub:∀y c,cl.lookup y=some c->X.env.cells.lookup y=some c) (fvs:FvOk2 X scope cl fv)
  (nd:(x :: z :: fv.map (·.2)).Nodup:=by decide) (kind:scope.kind=.function:=by rfl) (here:scope.names.lookup x=some .local:=by rfl) (here2:scope.names.lookup z=some .local:=by rfl) (nocell:∀y∈scope.names,y.2≠.cell:=by decide +kernel)
  (names:∀y∈scope.names,y.2=.local->scope.names.lookup y.1=some .local:=by decide +kernel)
  (has:((relabel scope X.env).names.all fun p=>(p.2 != .cell && p.2 != .free) || (cl.lookup p.1).isSome)=true:=by rfl):BlkOk2 X x z fv scope cl:=
 ⟨clos,nocell,kind,names,here,here2,nd,sub,has_of has,fvs⟩
end
def Itz (K:PySem.W.Frag) (a b:Addr):It:=
 ⟨fun i H=>∃xs ys x y,SqL K H a xs∧SqL K H b ys∧xs[i]?=some x∧ys[i]?=some y,fun i H v H'=>∃p x y,H p=none∧v=.ref p∧H'=upd H p (.tup [x,y])∧(∀xs,SqL K H a xs->xs[i]?=some x)∧∀ys,SqL K H b ys->ys[i]?=some y,
  fun i H=>∃xs ys,SqL K H a xs∧SqL K H b ys∧(xs.length<=i∨ys.length<=i)⟩
theorem turn_zip {P:Program} {w:World} {K:PySem.W.Frag} {elts:List Expr} {tk:Nat} {tpos:Pos} (a b z TI TO i1 i2:Addr) (D:ZipApart z TI TO i1 i2 a b):
  Turn P w K (.Tuple elts tk tpos) (Itz K a b) [z,TI,TO,i1,i2] z (fun i h=>IsZip h z TI TO .none∧IsPair h TI (.ref i1) (.ref i2)∧(∃u v,IsPair h TO u v)∧h.IsListIter i1 a i∧h.IsListIter i2 b i) where
 mem:=by simp
 obj:=fun i h st c hb=>by
  obtain⟨hz,hTI,⟨u,v,hTO⟩,⟨o1,e1,c1,d1⟩,⟨o2,e2,c2,d2⟩⟩:=st
  simp only [List.mem_cons,List.not_mem_nil,or_false] at hb
  rcases hb with rfl | rfl | rfl | rfl | rfl
  ·exact⟨_,hz,fun v z=>by
    have z':Data.fields _=Data.cell v:=z
    cases z'⟩
  ·exact⟨_,hTI,fun v z=>by
    have z':Data.seq _=Data.cell v:=z
    cases z'⟩
  ·exact⟨_,hTO,fun v z=>by
    have z':Data.seq _=Data.cell v:=z
    cases z'⟩
  ·exact⟨o1,e1,fun v z=>by rw [d1] at z;cases z⟩
  ·exact⟨o2,e2,fun v z=>by rw [d2] at z;cases z⟩
 keep:=fun i h h' st k=>by
  obtain⟨hz,hTI,⟨u,v,hTO⟩,h1,h2⟩:=st
  exact⟨k z (by simp) _ hz,k TI (by simp) _ hTI,⟨u,v,k TO (by simp) _ hTO⟩,h1.at fun o q=>k i1 (by simp) o q,h2.at fun o q=>k i2 (by simp) o q⟩
 item:=by
  intro X hP hw hK hc i pins s σ H E I hf st hg
  subst hP hw hK
  obtain⟨xs,ys,x,y,hq1,hq2,hx,hy⟩:=hg
  obtain⟨its1,rv1,pl1,hz1⟩:=I.list hq1
  obtain⟨its2,rv2,pl2,hz2⟩:=I.list hq2
  obtain⟨u1,hu1,ru1⟩:=rv1.get hx
  obtain⟨u2,hu2,ru2⟩:=rv2.get hy
  obtain⟨hz,hTI,⟨_,_,hTO⟩,hit1,hit2⟩:=st
  refine wpAny_pyNext_zip_item D hz hTI hTO hit1 hit2 pl1.isList pl2.isList (x:=u1) (y:=u2) (by simpa using hu1) (by simpa using hu2) fun h1 ho hTO1 hi1 hi2 hT hsz hk=>?_
  refine⟨_,rfl,wpAny_letOwnedTupleGo_zip ho fun h2 he2 hs2=>?_⟩
  have hp:H s.heap.objs.size=none:=I.hok.fresh (Nat.le_refl _)
  have hpz:s.heap.objs.size≠z:=Nat.ne_of_gt (Heap.lt_size hz)
  have k2:∀c o,c∉[z,TI,TO,i1,i2]->s.heap.get? c=some o->h2.get? c=some o:=fun c o hb q=>
   (hs2.2 c fun e=>hb (by simp [e])).trans (hk c o (fun e=>hb (by simp [e])) (fun e=>hb (by simp [e])) (fun e=>hb (by simp [e])) (fun e=>hb (by simp [e])) q)
  have hT2:h2.get? s.heap.objs.size=some { cls:=.type "tuple",data:=.seq #[u1,u2] }:=(hs2.2 _ hpz).trans hT
  have nch:∀c u,H c=some u->c∉[z,TI,TO,i1,i2]:=fun c u q hb=>by
   rw [(hf c hb).1] at q;cases q
  have up:∀c,c < s.heap.objs.size->c≠s.heap.objs.size:=fun c hb=>Nat.ne_of_lt hb
  have I2:Inv X pins σ (upd H s.heap.objs.size (.tup [x,y])) { s with heap:=h2 }:=by
   refine I.step (g':=s.gens) (d':=s.drawn) (t':=s.toks) (ch:=[z,TI,TO,i1,i2]) (fun c hb=>?_) (fun c o _ _ hc q _=>k2 c o hc q) (fun c o _ _ hc q _=>⟨o.slots,k2 c o hc q⟩)
    (fun c o _ q n=>by rw [upd_ne (up c (Heap.lt_size q))];exact n) (fun c o hc q=>⟨o,k2 c o hc q⟩) (fun c ys q=>by rw [upd_ne (ne_of_none q hp)];exact q) (fun c o v q=>by rw [upd_ne (ne_of_none q hp)];exact q)
    (fun c ps q=>⟨#[],by rw [upd_ne (ne_of_none q hp),q];simp⟩) (fun m hm=>?_) (fun c v q=>?_) I.bare
   ·obtain⟨f0,f1,f2,f3,f4,f5⟩:=hf c hb
    exact⟨f3,f1,f4,f5⟩
   ·obtain⟨o,es,ep,q,r⟩:=hm
    refine⟨o,es,ep,k2 _ o (fun e=>?_) q,r⟩
    exact (hf _ e).2.1 rfl
   ·by_cases hb:c=s.heap.objs.size
    ·subst hb
     rw [upd_same] at q;cases q
     exact⟨by show 2<=sizeLine;decide,[u1,u2],.cons ru1 (.cons ru2 .nil),⟨_,hT2,rfl,_,rfl⟩⟩
    ·rw [upd_ne hb] at q
     refine (I.hok c v q).stay (fun c' o hc r=>k2 c' o ?_ r) (fun c' r=>by rw [upd_ne (ne_of_none r hp)];exact r) fun c' ys r=>by rw [upd_ne (ne_of_none r hp)];exact r
     rcases hc with e | e
     ·rw [e];exact nch c v q
     ·exact nch c' _ e
  refine⟨.ref s.heap.objs.size,_,I2,rfl,⟨_,x,y,hp,rfl,rfl,fun zs hz'=>by rw [I.list_inj hz' hq1];exact hx,fun zs hz'=>by rw [I.list_inj hz' hq2];exact hy⟩,
   ⟨he2,(hs2.2 TI D.TIz).trans (hk TI _ D.TIz D.TITO D.TIi1 D.TIi2 hTI),⟨_,_,(hs2.2 TO D.TOz).trans hTO1⟩,hi1.at fun o q=>(hs2.2 i1 D.i1z).trans q,hi2.at fun o q=>(hs2.2 i2 D.i2z).trans q⟩,fun c hb=>?_⟩
  have lb:c < s.heap.objs.size:=by
   simp only [List.mem_cons,List.not_mem_nil,or_false] at hb
   rcases hb with rfl | rfl | rfl | rfl | rfl
   ·exact Heap.lt_size hz
   ·exact Heap.lt_size hTI
   ·exact Heap.lt_size hTO
   ·obtain⟨_,q,_⟩:=hit1;exact Heap.lt_size q
   ·obtain⟨_,q,_⟩:=hit2;exact Heap.lt_size q
  rw [upd_ne (up c lb)]
  exact (hf c hb).1
 done:=by
  intro X hP hw hK hc i pins s σ H E I hf st hg
  subst hP hw hK
  obtain⟨xs,ys,hq1,hq2,hx⟩:=hg
  obtain⟨its1,rv1,pl1,hz1⟩:=I.list hq1
  obtain⟨its2,rv2,pl2,hz2⟩:=I.list hq2
  obtain⟨hz,hTI,⟨_,_,hTO⟩,hit1,hit2⟩:=st
  have hl1:=rv1.length
  have hl2:=rv2.length
  refine wpAny_pyNext_zip_end (I.ok.hd hc) D hz hTI hTO hit1 hit2 pl1.isList pl2.isList (by rcases hx with e | e;exact .inl (by simp;omega);exact .inr (by simp;omega)) fun h' eb=>⟨rfl,?_⟩
  have k2:∀c o,c∉[z,TI,TO,i1,i2]->s.heap.get? c=some o->h'.get? c=some o:=fun c o hb q=>eb c o (fun e=>hb (by simp [e])) (fun e=>hb (by simp [e])) (fun e=>hb (by simp [e])) (fun e=>hb (by simp [e])) q
  refine I.step (g':=s.gens) (d':=s.drawn) (t':=s.toks) (ch:=[z,TI,TO,i1,i2]) (fun c hb=>?_) (fun c o _ _ hc q _=>k2 c o hc q) (fun c o _ _ hc q _=>⟨o.slots,k2 c o hc q⟩)
   (fun c o _ q n=>n) (fun c o hc q=>⟨o,k2 c o hc q⟩) (fun c ys q=>q) (fun c o v q=>q) (fun c ps q=>⟨#[],by rw [q];simp⟩) (fun m hm=>?_) (fun c v q=>?_) I.bare
  ·obtain⟨f0,f1,f2,f3,f4,f5⟩:=hf c hb
   exact⟨f3,f1,f4,f5⟩
  ·obtain⟨o,es,ep,q,r⟩:=hm
   exact⟨o,es,ep,k2 _ o (fun e=>(hf _ e).2.1 rfl) q,r⟩
  ·refine (I.hok c v q).stay (fun c' o hc r=>k2 c' o ?_ r) (fun c' r=>r) fun c' ys r=>r
   have nch:∀c u,H c=some u->c∉[z,TI,TO,i1,i2]:=fun c u q hb=>by
    rw [(hf c hb).1] at q;cases q
   rcases hc with e | e
   ·rw [e];exact nch c v q
   ·exact nch c' _ e
 self:=fun _ _ _ _ _ st h=>wpAny_pyIter_zip st.1 h
section
variable {X:Cx}
def iZip (K:PySem.W.Frag) (ta:TA):TI:=fun σ H R=>ta σ H fun vs H1=>∃a b xs ys,vs=[.ref a,.ref b]∧SqL K H1 a xs∧SqL K H1 b ys∧R (Itz K a b) H1
theorem pi_zip {elts:List Expr} {tk:Nat} {tpos:Pos} {a b:Expr} {ta:TA} {p pos:Pos} (hg:Gl X "zip") (hm:X.mg "zip" = none) (ha:PA X [a,b] ta) (hs:starEach [a,b] X.env=[(false,eval a X.env),(false,eval b X.env)]:=by rfl)
  (hs2:starEach [b] X.env=[(false,eval b X.env)]:=by rfl):
  PI X (.Tuple elts tk tpos) (.Call (.Name "zip" p) [a,b] [] pos) (iZip X.K ta):=by
 intro pins s σ H R I h
 refine Call_ (ld_blt I hg hm boot_zip (PyProof.Rows.callWith_type1 (thn (ha pos pins s σ H _ I h) fun us s1 ⟨vs,H1,I1,r1,q1⟩=>?_) (by rw [hs,hs2]) (by rw [hs2];rfl)))
 obtain⟨a,b,xs,ys,e,hq1,hq2,q⟩:=q1
 subst e
 cases r1 with
 | cons r rr=>
  cases rr with
  | cons r' rr=>
  cases rr
  cases r
  cases r'
  obtain⟨its1,rv1,pl1,hz1⟩:=I1.list hq1
  obtain⟨its2,rv2,pl2,hz2⟩:=I1.list hq2
  have a1:a < s1.heap.objs.size:=by obtain⟨_,e,_⟩:=pl1.isList;exact Heap.lt_size e
  have a2:b < s1.heap.objs.size:=by obtain⟨_,e,_⟩:=pl2.isList;exact Heap.lt_size e
  refine call_zip_2 pl1.isList pl2.isList fun h1 hz hTI hTO hi1 hi2 hsz hk=>?_
  have I2:Inv X pins σ H1 { s1 with heap:=h1 }:=I1.kept (t':=s1.toks) hk
  refine wpAny_pyIter_zip hz ?_
  refine⟨s1.heap.objs.size+4,[s1.heap.objs.size+4,s1.heap.objs.size+2,s1.heap.objs.size+3,s1.heap.objs.size,s1.heap.objs.size+1],_,_,H1,rfl,I2,turn_zip a b _ _ _ _ _ (zipApart_new a1 a2),⟨hz,hTI,⟨_,_,hTO⟩,hi1,hi2⟩,fun c hb=>?_,q⟩
  have hb':s1.heap.objs.size<=c:=by
   simp only [List.mem_cons,List.not_mem_nil,or_false] at hb
   rcases hb with rfl | rfl | rfl | rfl | rfl <;> omega
  exact I1.fpOk hb' (I1.hok.fresh hb')
end
theorem a_izip {K:PySem.W.Frag} {ta:TA} {σ:St} {H:Hp} {R:It->Hp->Prop}:iZip K ta σ H R=ta σ H fun vs H1=>∃a b xs ys,vs=[.ref a,.ref b]∧SqL K H1 a xs∧SqL K H1 b ys∧R (Itz K a b) H1:=rfl
theorem cl_zip {K:PySem.W.Frag} {a b:Addr} {xs ys:List V} {fv:List (Nat×Str)} {te:TE} {Q:VK} {σ:St} {H1:Hp} {D:Addr} (Pv:Nat->Hp->Prop) (h0:Pv 0 (upd H1 D (.lst []))) (hl:∀i H,i<=xs.length->i<=ys.length->Pv i H->SqL K H a xs∧SqL K H b ys)
  (hs:∀i v1 v2 p H,xs[i]?=some v1->ys[i]?=some v2->Pv i H->H p=none->te (bst2 fv σ (some v1) (some v2)) (upd H p (.tup [v1,v2])) fun y H2=>∃zs,H2 D=some (.lst zs)∧zs.length < sizeLine∧Pv (i+1) (upd H2 D (.lst (zs++[y]))))
  (hd:∀H,Pv (min xs.length ys.length) H->Q (.ref D) H):CLoop2 K (Itz K a b) fv te Q σ H1 D:=by
 refine⟨fun i m H=>m=min xs.length ys.length - i∧i<=min xs.length ys.length∧Pv i H,⟨_,rfl,Nat.zero_le _,h0⟩,?_⟩
 rintro i m H ⟨rfl,hi,p⟩
 obtain⟨q1,q2⟩:=hl i H (by omega) (by omega) p
 by_cases hlt:i < min xs.length ys.length
 ·have l1:i < xs.length:=by omega
  have l2:i < ys.length:=by omega
  refine .inr ⟨⟨xs,ys,xs[i],ys[i],q1,q2,List.getElem?_eq_getElem l1,List.getElem?_eq_getElem l2⟩,Pv (i+1),fun H' p'=>⟨min xs.length ys.length - (i+1),by omega,rfl,hlt,p'⟩,fun v H' y=>?_⟩
  obtain⟨pa,x1,x2,hn,e1,e2,y1,y2⟩:=y
  subst e1 e2
  exact⟨pa,x1,x2,rfl,.inl (.inl upd_same),hs i x1 x2 pa H (y1 xs q1) (y2 ys q2) p hn⟩
 ·have e:i=min xs.length ys.length:=by omega
  refine .inl ⟨⟨xs,ys,q1,q2,by omega⟩,?_⟩
  rw [e] at p
  exact hd H p
end L2
namespace L2
open PySem PySem.Spec PyProof.Rows
section
variable {X:Cx}
def ipC (C:Int->Int->Prop) (f:Int->Int->Int):TIp:=fun x y H Q=>∃i j,x=.int i∧y=.int j∧C i j∧Q (.int (f i j)) H
theorem a_ipC {C:Int->Int->Prop} {f:Int->Int->Int} {x y:V} {H:Hp} {Q:VK}:ipC C f x y H Q=∃i j,x=.int i∧y=.int j∧C i j∧Q (.int (f i j)) H:=rfl
theorem call_sumL (hc:X.calm=true):CallR X (.builtin "sum") (fun xs H Q=>∃(p:Addr) (ns:List Int),xs=[.ref p]∧SqL X.K H p (ns.map V.int)∧Q (.int ns.sum) H):=by
 intro pins s σ H xs us Q I r h
 obtain⟨p,ns,rfl,hq,q⟩:=h
 obtain⟨u,rfl,rx⟩:=vals1 r
 cases rx
 obtain⟨its,r',pl,hz⟩:=I.list hq
 have hi:=ints_are r'
 obtain⟨zs,e⟩:=hi.allInts.items
 have hns:ns=zs.toList.map (·.1):=by rw [← hi.numsOf,← nums_intItems,← e]
 have hl:=pl.isList
 rw [e] at hl
 refine sum_intListG (I.ok.hd hc) hl fun h' tk t' hk=>?_
 have es:preSum (numAt zs) zs.size=ns.sum:=by rw [preSum_eq,hns,List.take_of_length_le (by simp)]
 rw [es]
 exact⟨.int _,H,I.kept hk,⟨t',rfl⟩,q⟩
end
section
variable {X:Cx} {elt iter cnd:Expr} {x:Str} {px:Pos} {fv:List (Nat×Str)} {scope:Scope} {cl:List (Str×Addr)} {pos:Pos} {te:TE} {tt:TT} {wi:TI}
theorem ps_setCIf {i:Nat} {y:Str} {py spos:Pos} (hc:X.calm=true) (B:BlkOk X x fv scope cl) (hi:PI X (.Name x px) iter wi) (hcn:∀C s H fp,PT (blk X x fv scope cl C s H fp) cnd tt) (he:∀C s H fp,PE (blk X x fv scope cl C s H fp) elt te)
  (hN:X.N.Nodup) (hiy:X.N[i]?=some y) (hy:X.env.scope.names.lookup y=some .local)
  (hsw:swapsWith (.ListComp elt [⟨.Name x px,iter,[cnd],0⟩] scope pos) (some (.Name y py)) spos.line X.env=pure true:=by rfl)
  (hs:∀v,foldedSetIterable iter X.env v=pure v:=by intro _;rfl):
  PS X (.Assign [.Name y py] (.ListComp elt [⟨.Name x px,iter,[cnd],0⟩] scope pos) spos) (tAsg (tCompIf fv wi tt te) (gName i)):=by
 intro pins s σ H D I h
 rw [exec_Assign_Name_used _ _ _ _ hsw]
 refine wpAny_bind (wpAny_standAt (wpAny_bind ?_))
 show wpAny _ X.A (do let _ ← comprehension (.ListComp elt [⟨.Name x px,iter,[cnd],0⟩] scope pos) scope X.env _ (newList []) false (eval iter X.env) (some (assign (.Name y py) X.env))) _ _ s
 refine wpAny_bind (wpAny_mono (wpAny_comprehension_free (use:=some (assign (.Name y py) X.env)) (Q:=fun _ s'=>SP X pins D .next s') rfl hs B.clos B.kind B.names
  (thn (hi pins s σ H _ I h) fun v s1 h1=>thn h1 fun itv s2 h2=>?_)) (fun _ s' hq=>wpAny_pure (wpAny_pure hq)) fun _ _ e=>e)
 obtain⟨it,fp,tn,J,H2,e,I2,T,st2,f2,rd⟩:=h2
 subst e
 refine blk_runIf (Q:=fun x H1=>gName i x σ H1 D.nx) (RR:=fun acc C=>compPost (model X.prog X.w) X.A X.xe (some (assign (.Name y py) X.env)) (fun _ s'=>SP X pins D .next s') acc C) hc B hcn he I2 T st2 f2 rd ?_
 intro Dl C s' H' m' I' fC hn q
 show wpAny _ X.A (assign (.Name y py) X.env (.ref Dl)) _ _ _
 refine wpAny_assign_Name (store_ok2 I' hN hiy (.inl hy) (v:=.ref Dl) rfl (fun s'' I'' hab=>?_) (.inr hy))
 obtain⟨a,sb,ha⟩:=hab
 have hCa:C≠a:=by
  rcases ha with rfl | e
  ·exact fC.2.1
  ·exact Ne.symm (fC.2.2.2.2.1 _ _ e)
 exact⟨m',hn.sameBut sb hCa,fun h' sb'=>⟨_,H',I''.turned (t':=s''.toks) (fun b o hb e=>(sb'.2 b hb).trans e) fC.1 fC.2.1 fC.2.2.2.1 fC.2.2.2.2.1 fC.2.2.2.2.2,q⟩⟩
end
end L2
namespace L2
open PySem PySem.Spec PyProof.Rows
theorem lp_zip {K:PySem.W.Frag} {a b:Addr} {xs ys:List V} {g:TG} {tb:TS} {D:Ends} {σ:St} {H:Hp} (Pv:Nat->St->Hp->Prop) (h0:Pv 0 σ H) (hl:∀i σ H,i<=xs.length->i<=ys.length->Pv i σ H->SqL K H a xs∧SqL K H b ys)
  (hs:∀i v1 v2 p σ H,xs[i]?=some v1->ys[i]?=some v2->Pv i σ H->H p=none->g (.ref p) σ (upd H p (.tup [v1,v2])) fun σ2 H2=>tb { D with nx:=Pv (i+1),ct:=Pv (i+1),bk:=D.nx } σ2 H2)
  (hd:∀σ H,Pv (min xs.length ys.length) σ H->D.nx σ H):Loop (Itz K a b) g tb D σ H:=by
 refine⟨fun i m σ H=>m=min xs.length ys.length - i∧i<=min xs.length ys.length∧Pv i σ H,⟨_,rfl,Nat.zero_le _,h0⟩,?_⟩
 rintro i m σ H ⟨rfl,hi,p⟩
 obtain⟨q1,q2⟩:=hl i σ H (by omega) (by omega) p
 by_cases hlt:i < min xs.length ys.length
 ·have l1:i < xs.length:=by omega
  have l2:i < ys.length:=by omega
  refine .inr ⟨⟨xs,ys,xs[i],ys[i],q1,q2,List.getElem?_eq_getElem l1,List.getElem?_eq_getElem l2⟩,Pv (i+1),fun σ' H' p'=>⟨min xs.length ys.length - (i+1),by omega,rfl,hlt,p'⟩,fun x H' y=>?_⟩
  obtain⟨pa,x1,x2,hn,e1,e2,y1,y2⟩:=y
  subst e1 e2
  exact hs i x1 x2 pa σ H (y1 xs q1) (y2 ys q2) p hn
 ·have e:i=min xs.length ys.length:=by omega
  rw [e] at p
  exact .inl ⟨⟨xs,ys,q1,q2,by omega⟩,hd σ H p⟩
end L2
namespace L2
open PySem PySem.Spec PyProof.Rows
section
variable {prog:Program} {w:World} {A:Around} {R:Result->Shared->Prop} {I S:Addr} {fp wr:List Addr} {n:Nat} {P:Nat->Value->Prop} {St:Nat->Heap->Prop} {bt:Nat->Nat->Bool} {d:List (Str×Value)}
theorem maxD_name:(toString "max" ++ toString ".loop" : String) = "max.loop" := by decide
theorem maxD_go (W:Walks prog w A.in1 I fp wr n P St) (cm:CmpOf prog w A.in1 .Gt P bt) (nS:S∉fp):∀(m i:Nat) (z:Shared) (u:Value) (cap:Nat),n=i+1+m->St (i+1) z.heap->P (argBest bt i) u->
  z.heap.get? S=some { cls:=.type "list",dict:=none,data:=.seq #[u,u] cap,slots:=#[] }->
  (∀v g tk,P (argBest bt (n - 1)) v->(∀b o,b∉wr->b≠S->z.heap.get? b=some o->g.get? b=some o)->R (.ok (.ret v)) { z with heap:=g,toks:=tk })->codeAny (model prog w) A (.builtin "max.loop" ⟨[.ref I,.none,.ref S],d⟩) R z
 | 0,i,z,u,cap,hn,st,hp,eS,q=>by
  have nw:S∉wr:=fun h=>nS (W.sub _ h)
  refine codeAny_builtin PySem.F.entry_max_loop ?_
  rw [Around.under_plainId PySem.F.plain_max_loop _]
  show wpAny _ A.in1 (seqItems? (.ref S) >>= _) _ _ z
  refine wpAny_bind (wpAny_seqItems eS rfl ?_)
  show wpAny _ A.in1 (tryCatch (pyNext (.ref I)) _ >>= _) _ _ z
  have hin:n=i+1:=hn
  refine wpAny_bind (wpAny_tryCatch (W.done z _ _ (by rw [hin];exact st) fun g tk kp=>?_))
  have eS':=kp S _ nw eS
  show wpAny _ A.in1 (updateSeq S (fun _=>#[]) >>= _) _ _ _
  refine wpAny_bind (wpAny_updateSeq eS' rfl (wpAny_bind (wpAny_letGo (wpAny_pure (q u _ tk (by rw [hin];exact hp) fun b o nb bS e=>?_)))))
  exact (Heap.get?_update_other _ _ (Ne.symm bS)).trans (kp b o nb e)
 | m+1,i,z,u,cap,hn,st,hp,eS,q=>by
  have nw:S∉wr:=fun h=>nS (W.sub _ h)
  refine codeAny_builtin PySem.F.entry_max_loop ?_
  rw [Around.under_plainId PySem.F.plain_max_loop _]
  show wpAny _ A.in1 (seqItems? (.ref S) >>= _) _ _ z
  refine wpAny_bind (wpAny_seqItems eS rfl ?_)
  show wpAny _ A.in1 (tryCatch (pyNext (.ref I)) _ >>= _) _ _ z
  refine wpAny_bind (wpAny_tryCatch (W.item (i+1) z _ _ (by omega) st fun v g tk pv st' kp=>?_))
  have eS':=kp S _ nw eS
  show wpAny _ A.in1 (tryCatch (holding [v,v] (richCompare .Gt v u >>= _)) _ >>= _) _ _ _
  refine wpAny_bind (wpAny_tryCatch (wpAny_holding (wpAny_bind (cm (i+1) (argBest bt i) v u _ _ _ pv hp (wpAny_bind (wpAny_holding (wpAny_truthy_bool (wpAny_bind (wpAny_letGo (wpAny_pure ?_))))))))))
  cases hb:bt (i+1) (argBest bt i) with
  | true=>
   simp only [if_true]
   refine wpAny_bind (wpAny_updateSeq eS' rfl (wpAny_bind (wpAny_letGo ?_)))
   rw [maxD_name]
   refine wpAny_pure ⟨plainId_quiet PySem.F.plain_max_loop _,maxD_go W cm nS m (i+1) _ v _ (by omega) (W.frame _ _ _ st' fun b bf o e=>(Heap.get?_update_other _ _ (fun h:S=b=>nS (h ▸ bf))).trans e) (by simp only [argBest,hb,if_true];exact pv) (Heap.get?_update_self _ eS' rfl) fun v' g' tk' pv' kp'=>?_⟩
   exact q v' g' tk' pv' fun b o nb bS e=>kp' b o nb bS ((Heap.get?_update_other _ _ (Ne.symm bS)).trans (kp b o nb e))
  | false=>
   simp only [Bool.false_eq_true,if_false]
   refine wpAny_bind (wpAny_letGo ?_)
   rw [maxD_name]
   exact wpAny_pure ⟨plainId_quiet PySem.F.plain_max_loop _,maxD_go W cm nS m (i+1) _ u cap (by omega) st' (by simp only [argBest,hb,Bool.false_eq_true,if_false];exact hp) eS' fun v' g' tk' pv' kp'=>q v' g' tk' pv' fun b o nb bS e=>kp' b o nb bS (kp b o nb e)⟩
theorem maxD_first (W:Walks prog w A.in1 I fp wr n P St) (cm:CmpOf prog w A.in1 .Gt P bt) (nS:S∉fp) {z:Shared} {cap:Nat} {x:Value} {k:Str} (st:St 0 z.heap) (eS:z.heap.get? S=some { cls:=.type "list",dict:=none,data:=.seq #[] cap,slots:=#[] })
  (q:∀v g tk,(n=0∧v=x)∨(0 < n∧P (argBest bt (n - 1)) v)->(∀b o,b∉wr->b≠S->z.heap.get? b=some o->g.get? b=some o)->R (.ok (.ret v)) { z with heap:=g,toks:=tk }):codeAny (model prog w) A (.builtin "max.loop" ⟨[.ref I,.none,.ref S],[(k,x)]⟩) R z:=by
 have nw:S∉wr:=fun h=>nS (W.sub _ h)
 refine codeAny_builtin PySem.F.entry_max_loop ?_
 rw [Around.under_plainId PySem.F.plain_max_loop _]
 show wpAny _ A.in1 (seqItems? (.ref S) >>= _) _ _ z
 refine wpAny_bind (wpAny_seqItems eS rfl ?_)
 show wpAny _ A.in1 (tryCatch (pyNext (.ref I)) _ >>= _) _ _ z
 by_cases n0:n=0
 ·refine wpAny_bind (wpAny_tryCatch (W.done z _ _ (by rw [n0];exact st) fun g tk kp=>?_))
  show wpAny _ A.in1 (rule _ >>= _) _ _ _
  refine wpAny_bind (wpAny_rule ?_)
  exact wpAny_pure (q x g tk (.inl ⟨n0,rfl⟩) fun b o nb bS e=>kp b o nb e)
 ·refine wpAny_bind (wpAny_tryCatch (W.item 0 z _ _ (by omega) st fun v g tk pv st' kp=>?_))
  have eS':=kp S _ nw eS
  show wpAny _ A.in1 (updateSeq S (fun _=>#[v,v]) >>= _) _ _ _
  refine wpAny_bind (wpAny_updateSeq eS' rfl ?_)
  rw [maxD_name]
  refine wpAny_pure ⟨plainId_quiet PySem.F.plain_max_loop _,maxD_go W cm nS (n - 1) 0 _ v _ (by omega) (W.frame _ _ _ st' fun b bf o e=>(Heap.get?_update_other _ _ (fun h:S=b=>nS (h ▸ bf))).trans e) pv (Heap.get?_update_self _ eS' rfl) fun v' g' tk' pv' kp'=>?_⟩
  exact q v' g' tk' (.inr ⟨by omega,pv'⟩) fun b o nb bS e=>kp' b o nb bS ((Heap.get?_update_other _ _ (Ne.symm bS)).trans (kp b o nb e))
end
theorem maxD_args (a v:Value):argsOk "max" ⟨[a],[(Str.ofString "default",v)]⟩:=by unfold argsOk;kernel_rfl
theorem maxD_call {prog:Program} {w:World} {A:Around} {E:Value->Shared->Prop} {s:Shared} {l:Addr} {xs:Array (Int×Tok)} {x:Value} {Q:Value->Shared->Prop} (hh:A.handled=none) (hl:s.heap.IsList l (intItems xs))
  (q:∀v h' tk,(xs.size=0∧v=x)∨(0 < xs.size∧(intItems xs)[argBest (fun i j=>decide (numAt xs i > numAt xs j)) (xs.size - 1)]?=some v)->(∀b o,s.heap.get? b=some o->h'.get? b=some o)->Q v { s with heap:=h',toks:=tk }):
  wpAny (model prog w) A (call (.builtin "max") [.ref l] [(Str.ofString "default",x)]) Q E s:=by
 refine PyProof.Rows.kmk_tree PySem.F.kind_max PySem.F.plain_max PySem.F.entry_max (maxD_args _ _) ?_
 show wpAny _ A.in1 (Builtin.Builtins.bindParams "max" ["key","default"] 0 ⟨[],[(Str.ofString "default",x)]⟩ >>= _) _ _ s
 refine wpAny_bind (wpAny_of_eq (show Builtin.Builtins.bindParams "max" ["key","default"] 0 ⟨[],[(Str.ofString "default",x)]⟩=pure [none,some x] from rfl) ?_)
 refine wpAny_bind (wpAny_pure (wpAny_bind (iter_intList hl fun s₂ e st hfp hlI=>?_)))
 subst e
 refine wpAny_bind (wpAny_newObj_type ?_)
 rw [maxD_name]
 have W:=Walks.list (prog:=prog) (w:=w) (A:=A.in1) hh _ l hlI (intItems xs)
 refine wpAny_pure ⟨plainId_quiet PySem.F.plain_max_loop _,maxD_first W (CmpOf.ints_gt (numAt xs) (fun _ _=>intItems_at)) (fun hm=>Nat.lt_irrefl _ (hfp _ hm)) (W.frame _ _ _ st fun b _ o e=>Heap.get?_push_of_some _ e) (Heap.get?_push_size _ rfl) fun v h' tk hv hk=>?_⟩
 refine q v h' tk (by simpa [intItems] using hv) (old_kept (s:=s) (l:=l) fun b o nb e=>?_)
 exact hk b o nb (Nat.ne_of_lt (Heap.lt_size e)) (Heap.get?_push_of_some _ e)
def tMaxD (K:PySem.W.Frag) (t tk:TA):TE:=fun σ H Q=>t σ H fun vs H1=>tk σ H1 fun zs H2=>∃p ns d,vs=[.ref p]∧zs=[.int d]∧SqL K H2 p (ns.map V.int)∧∀M,(ns=[]∧M=d)∨(M∈ns∧∀a∈ns,a<=M)->Q (.int M) H2
theorem pe_maxD {X:Cx} {p pos kpos:Pos} {e k:Expr} {t tk:TA} (hc:X.calm=true) (hg:Gl X "max") (hm:X.mg "max" = none) (ha:PA X [e] t) (hkw:PK X [⟨some "default",k,kpos⟩] tk)
  (he:backTo pos (starEach [e] X.env)=(false,eval e X.env) :: backTo pos (starEach [] X.env):=by rfl) (hpl:(backTo pos (starEach [e] X.env)).any (·.1)=false:=by rfl)
  (hall:(backToKw pos (keywordEach [⟨some "default",k,kpos⟩] X.env)).all (·.1.isSome)=true:=by rfl) (hks:(backToKw pos (keywordEach [⟨some "default",k,kpos⟩] X.env)).filterMap (·.1)=[Str.ofString "default"]:=by rfl)
  (hno:(backToKw pos (keywordEach [⟨some "default",k,kpos⟩] X.env)).any (·.1.isNone)=false:=by rfl):
  PE X (.Call (.Name "max" p) [e] [⟨some "default",k,kpos⟩] pos) (tMaxD X.K t tk):=by
 intro pins s σ H Q I h
 refine wpAny_Call_Name_kw (ld_blt I hg hm bt_max ?_ (by decide) (by decide))
 refine PyProof.Rows.callWith_kw (thn (ha pos pins s σ H _ I h) fun us s1 ⟨vs,H1,I1,r,q⟩=>?_) he hpl hall hno
 refine thn (hkw pos pins s1 σ H1 _ I1 q) fun kws s2 ⟨zs,H2,I2,rz,q2⟩=>?_
 rw [hks]
 obtain⟨a,ns,d,rfl,rfl,hq,q3⟩:=q2
 obtain⟨u,rfl,rx⟩:=vals1 r
 obtain⟨u',rfl,rx'⟩:=vals1 rz
 obtain⟨td,rfl⟩:=rx'
 cases rx
 obtain⟨its,r',pl,hz⟩:=I2.list hq
 have hi:=ints_are r'
 obtain⟨zs,e⟩:=hi.allInts.items
 have hns:ns=zs.toList.map (·.1):=by rw [← hi.numsOf,← nums_intItems,← e]
 have hl:=pl.isList
 rw [e] at hl
 refine maxD_call (x:=.int d td) (I2.ok.hd hc) hl fun v h' tk hv hk=>?_
 rcases hv with ⟨h0,rfl⟩ | ⟨h0,hv⟩
 ·exact⟨.int _,H2,I2.kept hk,⟨td,rfl⟩,q3 d (.inl ⟨by rw [hns,List.map_eq_nil_iff];exact List.eq_nil_of_length_eq_zero (by rw [Array.length_toList];exact h0),rfl⟩)⟩
 ·obtain⟨tv,rfl⟩:=intItems_at hv
  obtain⟨g1,g2⟩:=argBest_gt (numAt zs) (zs.size - 1)
  refine⟨.int _,H2,I2.kept hk,⟨tv,rfl⟩,q3 _ (.inr ⟨at_best hns (by omega),fun x hx=>?_⟩)⟩
  obtain⟨i,hi,rfl⟩:=of_best hns hx
  exact g2 i (by omega)
theorem a_maxD {K:PySem.W.Frag} {t tk:TA} {σ:St} {H:Hp} {Q:VK}:tMaxD K t tk σ H Q=t σ H fun vs H1=>tk σ H1 fun zs H2=>∃p ns d,vs=[.ref p]∧zs=[.int d]∧SqL K H2 p (ns.map V.int)∧∀M,(ns=[]∧M=d)∨(M∈ns∧∀a∈ns,a<=M)->Q (.int M) H2:=rfl
theorem a_inS {K:PySem.W.Frag} {neg:Bool} {x y:V} {H:Hp} {Q:VK}:rIn K neg x y H Q=∃p xs,y=.ref p∧(SqL K H p xs∨SqT K H p xs)∧flatV x=true∧xs.all flatV=true∧Q (.bl (if neg then !inV x xs else inV x xs)) H:=rfl
theorem inV_int (n:Int) (ns:List Int):inV (.int n) (ns.map V.int)=decide (n∈ns):=by
 unfold inV
 induction ns with
 | nil=>rfl
 | cons m ns ih=>
  rw [List.map_cons,List.any_cons,ih]
  have:eqV (.int m) (.int n)=decide (n=m):=by
   rw [Bool.eq_iff_iff]
   simp only [eqV,beq_iff_eq,decide_eq_true_eq]
   exact eq_comm
  rw [this];simp
end L2
namespace L2
open PySem
section
variable {prog:Program} {w:World} {A:Around} {E:Value->Shared->Prop} {s:Shared} {d:Addr} {es:Array DictEntry} {ep:Nat}
end
end L2
namespace L2
open PySem
section
variable {prog:Program} {w:World} {A:Around} {E:Value->Shared->Prop} {s:Shared} {d it:Addr} {es:Array DictEntry} {ep i:Nat} {ok ov:Value}
end
end L2
namespace L2
open PySem
section
variable {prog:Program} {w:World} {A:Around} {E:Value->Shared->Prop} {s:Shared} {d o:Addr} {es:Array DictEntry} {ep epd:Nat}
end
end L2
namespace L2
open PySem
section
variable {prog:Program} {w:World} {K:Type} [DecidableEq K] {kn:KeyKind prog w K} {A:Around} {E:Value->Shared->Prop}
end
section
variable {prog:Program} {w:World} {A:Around} {E:Value->Shared->Prop} {s:Shared}
end
end L2
namespace L2
open PySem
end L2
namespace L2
open PySem
section
variable {prog:Program} {w:World} {K:Type} [DecidableEq K] {kn:KeyKind prog w K} {A:Around} {E:Value->Shared->Prop} {s:Shared}
end
end L2
namespace L2
open PySem
section
variable {prog:Program} {w:World} {K:Type} [DecidableEq K] {knd:HeapKind prog w K} {A:Around} {E:Value->Shared->Prop} {s:Shared}
end
end L2
namespace L2
open PySem
section
variable {K:Type} [DecidableEq K]
end
end L2
namespace L2
open PySem
section
variable {prog:Program} {w:World} {A:Around} {E:Value->Shared->Prop} {s:Shared} {d it:Addr} {es:Array DictEntry} {ep i:Nat}
end
end L2
namespace L2
open PySem
inductive Tr where | lf | nd (l:Tr) (k:Nat) (r:Tr)
def Tr.ins (k:Nat):Tr->Option Tr
 | .lf=>some (.nd .lf k .lf)
 | .nd l m r=>match Nat.blt k m with
  | true=>match Tr.ins k l with | some l'=>some (.nd l' m r) | none=>none
  | false=>match Nat.blt m k with
   | true=>match Tr.ins k r with | some r'=>some (.nd l m r') | none=>none
   | false=>none
def Tr.all:List Nat->Tr->Bool
 | [],_=>true
 | k :: ks,t=>match t.ins k with | some t'=>Tr.all ks t' | none=>false
def Tr.mem (x:Nat):Tr->Prop
 | .lf=>False
 | .nd l k r=>x=k∨l.mem x∨r.mem x
end L2
namespace L2
abbrev P2:=Int×Int
end L2
namespace L2
open PySem PySem.Spec PyProof.Rows
def Thw (X:Cx) (H:Hp) (a:Addr) (o:Obj) (kvs:List (List Key×V)):Prop:=H a=some (.frz o (.dT kvs))∨(H a=some (.dT kvs)∧∀o' u',X.H₀ a≠some (.frz o' u'))
section
variable {X:Cx} {pins:List (Addr×Obj)} {σ:St} {H H':Hp} {s:Shared} {a:Addr} {o:Obj} {kvs:List (List Key×V)}
end
def Itd (a:Addr) (o:Obj) (kvs:List (List Key×V)):It:=
 ⟨fun i H=>H a=some (.frz o (.dT kvs))∧i < kvs.length,fun i H v H'=>∃p b k x,H p=none∧v=.ref p∧kvs[i]?=some (k,x)∧H b=some (.tup (k.map kV))∧H'=upd H p (.tup [.ref b,x]),
  fun i H=>H a=some (.frz o (.dT kvs))∧kvs.length<=i⟩
section
variable {X:Cx}
def iItems (X:Cx) (td:TE):TI:=fun σ H R=>td σ H fun x H1=>∃a kvs,x=.ref a∧Rd H1 a (.dT kvs)∧∀o,Thw X H1 a o kvs->R (Itd a o kvs) (upd H1 a (.frz o (.dT kvs)))
end
end L2
namespace L2
open PySem PySem.Spec PyProof.Rows
section
variable {X:Cx} {elt iter cnd:Expr} {x z:Str} {px pz:Pos} {tk:Nat} {tpos:Pos} {fv:List (Nat×Str)} {scope:Scope} {cl:List (Str×Addr)} {pos:Pos} {te:TE} {tt:TT} {wi:TI}
def CLoop2If (K:PySem.W.Frag) (J:It) (fv:List (Nat×Str)) (tt:TT) (te:TE) (Q:VK) (σ:St) (H1:Hp) (D:Addr):Prop:=∃W:Nat->Nat->Hp->Prop,(∃m,W 0 m (upd H1 D (.lst [])))∧∀i m H,W i m H->
 (J.stop i H∧Q (.ref D) H)∨(J.go i H∧∃N:Hp->Prop,(∀H',N H'->∃m',m' < m∧W (i+1) m' H')∧∀v H',J.yld i H v H'->∃q x1 x2,v=.ref q∧SqT K H' q [x1,x2]∧tt (bst2 fv σ (some x1) (some x2)) H' fun b Hb=>if b=true then te (bst2 fv σ (some x1) (some x2)) Hb fun y H2=>∃ys,H2 D=some (.lst ys)∧ys.length < sizeLine∧N (upd H2 D (.lst (ys++[y]))) else N Hb)
def tComp2If (K:PySem.W.Frag) (fv:List (Nat×Str)) (wi:TI) (tt:TT) (te:TE):TE:=fun σ H Q=>wi σ H fun J H1=>∀D,H1 D=none->CLoop2If K J fv tt te Q σ H1 D
theorem a_tComp2If {K:PySem.W.Frag} {σ:St} {H:Hp} {Q:VK}:tComp2If K fv wi tt te σ H Q=wi σ H fun J H1=>∀D,H1 D=none->CLoop2If K J fv tt te Q σ H1 D:=rfl
end
end L2
namespace L2
open PySem PySem.Spec PyProof.Rows
section
variable {X:Cx}
end
end L2
namespace L2
open PySem PySem.Spec PyProof.Rows
section
variable {X:Cx} {pins:List (Addr×Obj)} {σ:St} {H:Hp} {s:Shared} {A:Around} {E:Value->Shared->Prop}
def putAs (ks:List (List Key×Addr×V)) (kvs:List (List Key×V)):List (List Key×V):=ks.foldl (fun a x=>putK a x.1 x.2.2) kvs
def tDispT (trs:List (TE×TE)):TE:=fun σ H Q=>∀p,H p=none->tPairs trs σ (upd H p (.dT [])) fun ps H2=>H2 p=some (.dT [])∧∃ks:List (List Key×Addr×V),ps=ks.map (fun x=>(V.ref x.2.1,x.2.2))∧(∀x∈ks,H2 x.2.1=some (.tup (x.1.map kV)))∧ks.length<=15∧Q (.ref p) (upd H2 p (.dT (putAs ks [])))
end
section
variable {X:Cx}
end
end L2
namespace L2
open PySem PySem.Spec PyProof.Rows
section
variable {X:Cx} {td ty tv tx to:TE} {σ:St} {H:Hp} {Q:VK} {D:Ends}
theorem a_dget:tDGet td ty σ H Q=td σ H fun x H1=>ty σ H1 fun y H2=>∃a v,x=.ref a∧DGet H2 a y (some v)∧Q v H2:=rfl
theorem a_dnot:tDNotIn ty td σ H Q=ty σ H fun y H1=>td σ H1 fun x H2=>∃a o,x=.ref a∧DGet H2 a y o∧Q (.bl (!o.isSome)) H2:=rfl
theorem a_dput:sDPut td ty tv D σ H=tv σ H fun v H1=>td σ H1 fun x H2=>ty σ H2 fun y H3=>∃a H4,x=.ref a∧DPut H3 a y v H4∧D.nx σ H4:=rfl
theorem a_dget2:tDGet2 td ty tx σ H Q=td σ H fun x H1=>∃a,x=.ref a∧IsD H1 a∧ty σ H1 fun y H2=>tx σ H2 fun z H3=>∃o,DGet H3 a y o∧Q (o.getD z) H3:=rfl
theorem a_dnew:tDNewT σ H Q=∀p,H p=none->Q (.ref p) (upd H p (.dT [])):=rfl
theorem a_disp {trs:List (TE×TE)}:tDispT trs σ H Q=∀p,H p=none->tPairs trs σ (upd H p (.dT [])) fun ps H2=>H2 p=some (.dT [])∧∃ks:List (List Key×Addr×V),ps=ks.map (fun x=>(V.ref x.2.1,x.2.2))∧(∀x∈ks,H2 x.2.1=some (.tup (x.1.map kV)))∧ks.length<=15∧Q (.ref p) (upd H2 p (.dT (putAs ks []))):=rfl
theorem a_pnil {R:List (V×V)->Hp->Prop}:tPairs [] σ H R=R [] H:=rfl
theorem a_pcons {r:List (TE×TE)} {R:List (V×V)->Hp->Prop}:tPairs ((td,tv) :: r) σ H R=td σ H fun x H1=>tv σ H1 fun y H2=>tPairs r σ H2 fun ps H3=>R ((x,y) :: ps) H3:=rfl
theorem a_items {R:It->Hp->Prop}:iItems X td σ H R=td σ H fun x H1=>∃a kvs,x=.ref a∧Rd H1 a (.dT kvs)∧∀o,Thw X H1 a o kvs->R (Itd a o kvs) (upd H1 a (.frz o (.dT kvs))):=rfl
end
end L2
namespace L2
open PySem PySem.Spec PyProof.Rows
section
variable {prog:Program} {w:World} {A:Around} {E:Value->Shared->Prop} {s:Shared} {d:Addr} {es:Array DictEntry} {ep:Nat}
end
def Itk (a:Addr) (o:Obj) (kvs:List (List Key×V)):It:=
 ⟨fun i H=>H a=some (.frz o (.dT kvs))∧i < kvs.length,fun i H v H'=>∃b k x,H'=H∧v=.ref b∧kvs[i]?=some (k,x)∧H b=some (.tup (k.map kV)),fun i H=>H a=some (.frz o (.dT kvs))∧kvs.length<=i⟩
section
variable {X:Cx}
def iKeys (X:Cx) (td:TE):TI:=fun σ H R=>td σ H fun x H1=>∃a kvs,x=.ref a∧Rd H1 a (.dT kvs)∧∀o,Thw X H1 a o kvs->R (Itk a o kvs) (upd H1 a (.frz o (.dT kvs)))
end
theorem a_keys {X:Cx} {td:TE} {σ:St} {H:Hp} {R:It->Hp->Prop}:iKeys X td σ H R=td σ H fun x H1=>∃a kvs,x=.ref a∧Rd H1 a (.dT kvs)∧∀o,Thw X H1 a o kvs->R (Itk a o kvs) (upd H1 a (.frz o (.dT kvs))):=rfl
end L2
namespace L2
open PySem PySem.Spec PyProof.Rows
section
variable {X:Cx} {k:Nat} {f C:Addr} {fd:FuncData} {ps:List Str} {sp:Sp} {m:Str} {pos apos:Pos} {o e:Expr} {es:List Expr} {ta:TE} {t:TA}
end
section
variable {K:PySem.W.Frag} {C:Addr} {m f:Str} {sp:Sp} {dvs:List V} {E:XK} {ta tv:TE} {t:TA} {σ:St} {H:Hp} {Q:VK} {D:Ends}
theorem a_fld:tFld K ta f σ H Q=ta σ H fun x H1=>∃a C dx fs v,x=.ref a∧H1 a=some (.ins C dx fs)∧Cls K C∧NoAttr K C f∧fs.lookup f=some v∧Q v H1:=rfl
theorem a_sfld:sFld K ta tv f D σ H=tv σ H fun y H1=>ta σ H1 fun x H2=>∃a C dx fs,x=.ref a∧H2 a=some (.ins C dx fs)∧Cls K C∧NoAttr K C f∧fs.length < 1000∧D.nx σ (upd H2 a (.ins C dx (putF f y fs))):=rfl
theorem a_meth:tMeth C m sp dvs E ta t σ H Q=ta σ H fun x H1=>∃a dx fs,x=.ref a∧H1 a=some (.ins C dx fs)∧fs.lookup m=none∧t σ H1 fun vs H2=>sp (x :: (vs++dvs)) H2 Q E:=rfl
theorem a_make:tMake C sp dvs E t σ H Q=t σ H fun vs H1=>∀x dx,H1 x=none->H1 dx=none->dx≠x->sp (.ref x :: (vs++dvs)) (upd (upd H1 dx (.own x)) x (.ins C dx [])) (fun v H2=>v=.non∧Q (.ref x) H2) E:=rfl
end
end L2
namespace L2
open PySem PySem.Spec PyProof.Rows
section
variable {prog:Program} {w:World} {A:Around} {E:Value->Shared->Prop} {s:Shared}
end
section
variable {prog:Program} {w:World} {A:Around} {E:Value->Shared->Prop} {s:Shared}
end
section
variable {X:Cx}
end
end L2
namespace L2
open PySem PySem.Spec PyProof.Rows
end L2
namespace L2
open PySem PySem.Spec PyProof.Rows
section
variable {prog:Program} {w:World} {A:Around} {E:Value->Shared->Prop} {s:Shared}
end
section
variable {prog:Program} {w:World} {A:Around} {E:Value->Shared->Prop} {s:Shared}
end
def bst3 (fv:List (Nat×Str)) (σ:St) (v v2 v3:Option V):St:=v :: v2 :: v3 :: fv.map fun p=>(σ[p.1]?).getD none
section
variable {X:Cx} {elt iter:Expr} {x z z3:Str} {px pz p3:Pos} {tk:Nat} {tpos:Pos} {fv:List (Nat×Str)} {scope:Scope} {cl:List (Str×Addr)} {pos:Pos} {te:TE} {wi:TI}
def CLoop3 (K:PySem.W.Frag) (J:It) (fv:List (Nat×Str)) (te:TE) (Q:VK) (σ:St) (H1:Hp) (D:Addr):Prop:=∃W:Nat->Nat->Hp->Prop,(∃m,W 0 m (upd H1 D (.lst [])))∧∀i m H,W i m H->
 (J.stop i H∧Q (.ref D) H)∨(J.go i H∧∃N:Hp->Prop,(∀H',N H'->∃m',m' < m∧W (i+1) m' H')∧∀v H',J.yld i H v H'->∃q x1 x2 x3,v=.ref q∧SqT K H' q [x1,x2,x3]∧te (bst3 fv σ (some x1) (some x2) (some x3)) H' fun y H2=>∃ys,H2 D=some (.lst ys)∧ys.length < sizeLine∧N (upd H2 D (.lst (ys++[y]))))
def tComp3 (K:PySem.W.Frag) (fv:List (Nat×Str)) (wi:TI) (te:TE):TE:=fun σ H Q=>wi σ H fun J H1=>∀D,H1 D=none->CLoop3 K J fv te Q σ H1 D
theorem a_tComp3 {K:PySem.W.Frag} {σ:St} {H:Hp} {Q:VK}:tComp3 K fv wi te σ H Q=wi σ H fun J H1=>∀D,H1 D=none->CLoop3 K J fv te Q σ H1 D:=rfl
end
def Itz3 (K:PySem.W.Frag) (a b c:Addr):It:=
 ⟨fun i H=>∃xs ys zs x y v,SqT K H a xs∧SqT K H b ys∧SqT K H c zs∧xs[i]?=some x∧ys[i]?=some y∧zs[i]?=some v,
  fun i H v H'=>∃p x y u,H p=none∧v=.ref p∧H'=upd H p (.tup [x,y,u])∧(∀xs,SqT K H a xs->xs[i]?=some x)∧(∀ys,SqT K H b ys->ys[i]?=some y)∧∀zs,SqT K H c zs->zs[i]?=some u,
  fun i H=>∃xs,SqT K H a xs∧xs.length<=i⟩
section
variable {X:Cx}
def iZip3 (K:PySem.W.Frag) (ta:TA):TI:=fun σ H R=>ta σ H fun vs H1=>∃a b c xs ys zs,vs=[.ref a,.ref b,.ref c]∧SqT K H1 a xs∧SqT K H1 b ys∧SqT K H1 c zs∧R (Itz3 K a b c) H1
theorem a_izip3 {K:PySem.W.Frag} {ta:TA} {σ:St} {H:Hp} {R:It->Hp->Prop}:iZip3 K ta σ H R=ta σ H fun vs H1=>∃a b c xs ys zs,vs=[.ref a,.ref b,.ref c]∧SqT K H1 a xs∧SqT K H1 b ys∧SqT K H1 c zs∧R (Itz3 K a b c) H1:=rfl
end
section
variable {X:Cx}
def tMake0 (C:Addr):TE:=fun _ H Q=>∀x dx,H x=none->H dx=none->dx≠x->Q (.ref x) (upd (upd H dx (.own x)) x (.ins C dx []))
theorem a_make0 {C:Addr} {σ:St} {H:Hp} {Q:VK}:tMake0 C σ H Q=∀x dx,H x=none->H dx=none->dx≠x->Q (.ref x) (upd (upd H dx (.own x)) x (.ins C dx [])):=rfl
end
theorem a_eqS {x y:Str} {H:Hp} {Q:VK}:rEq (.str x) (.str y) H Q=Q (.bl (decide (x=y))) H:=by
 unfold rEq
 simp [scal]
end L2
namespace L2
open PySem PySem.Spec PyProof.Rows
theorem a_ext {x:V} {vs:List V} {H:Hp} {Q:VK}:rExtend x vs H Q=∃l b xs zs,x=.ref l∧vs=[.ref b]∧H l=some (.lst xs)∧H b=some (.lst zs)∧xs.length+zs.length<=sizeLine∧Q .non (upd H l (.lst (xs++zs))):=rfl
end L2
namespace L2
open PySem PySem.Spec PyProof.Rows
@[reducible] def blkC (X:Cx) (x:Str) (fv:List (Nat×Str)) (scope:Scope) (cl:List (Str×Addr)) (C:Addr) (s:Shared) (H:Hp) (fp:List Addr):Cx:=
 { blk X x fv scope cl C s H fp with env:={ compEnvC scope cl C X.env with cells:=(x,C+1) :: cl },fn:=fun y=>y == x }
structure BlkOkC (X:Cx) (x:Str) (fv:List (Nat×Str)) (scope:Scope) (cl:List (Str×Addr)):Prop where
 clos:closureFor scope X.env=pure cl
 one:∀n,cellsFrom n scope.names cl=(x,n) :: cl
 push:∀h,pushCells h scope.names=h.push { cls:=.type "cell",data:=.cell none }
 kind:scope.kind=.function
 names:∀y∈scope.names,y.2=.local->scope.names.lookup y.1=some .local
 here:(relabel scope X.env).names.lookup x=some .cell
 sub:∀y c,cl.lookup y=some c->X.env.cells.lookup y=some c
 has:∀y,y≠x->((relabel scope X.env).names.lookup y=some .cell∨(relabel scope X.env).names.lookup y=some .free)->∃c,cl.lookup y=some c
 nd:(x :: fv.map (·.2)).Nodup
 fvs:∀p∈fv,p.2≠x∧X.N[p.1]?=some p.2∧(X.env.scope.names.lookup p.2=some .cell∨X.env.scope.names.lookup p.2=some .free)∧
  ((relabel scope X.env).names.lookup p.2=some .cell∨(relabel scope X.env).names.lookup p.2=some .free)∧∃c,cl.lookup p.2=some c
theorem look1 {x y:Str} {n c:Addr} {cl:List (Str×Addr)} (h:((x,n) :: cl).lookup y=some c):(y=x∧c=n)∨(y≠x∧cl.lookup y=some c):=by
 rw [List.lookup_cons] at h
 cases e:y == x with
 | true=>rw [e] at h;cases h;exact .inl ⟨eq_of_beq e,rfl⟩
 | false=>rw [e] at h;exact .inr ⟨fun z=>by rw [z] at e;simp at e,h⟩
theorem look1_ne {x y:Str} {n c:Addr} {cl:List (Str×Addr)} (ne:y≠x) (h:cl.lookup y=some c):((x,n) :: cl).lookup y=some c:=by
 rw [List.lookup_cons,show (y == x)=false by simpa using ne];exact h
theorem look1_self {x:Str} {n:Addr} {cl:List (Str×Addr)}:((x,n) :: cl).lookup x=some n:=by
 rw [List.lookup_cons,show (x == x)=true by simp]
section
variable {X:Cx} {elt iter:Expr} {x:Str} {px:Pos} {fv:List (Nat×Str)} {scope:Scope} {cl:List (Str×Addr)} {pos:Pos} {te:TE} {wi:TI}
theorem blkC_ok {pins:List (Addr×Obj)} {σ:St} {H:Hp} {s:Shared} {fp:List Addr} {C:Addr} (B:BlkOkC X x fv scope cl) (I:Inv X pins σ H s) (hf:∀b∈fp,FpOk X pins H b) (hC:s.heap.objs.size<=C) (hfC:∀b∈fp,b≠C) (hfD:∀b∈fp,b≠C+1):
  (blkC X x fv scope cl C s H fp).Ok where
 mod:=I.ok.mod
 kind:=B.kind
 glob:=I.ok.glob
 blt:=I.ok.blt
 above:=hC
 inj:=fun y z c h1 h2=>by
  have old:∀{y:Str},cl.lookup y=some (C+1)->False:=fun {y} h=>by
   obtain⟨v,o,ho,_⟩:=I.cell y _ (B.sub y _ h)
   exact absurd (Heap.lt_size ho) (Nat.not_lt.mpr (Nat.le_succ_of_le hC))
  rcases look1 h1 with ⟨rfl,rfl⟩ | ⟨n1,h1⟩
  ·rcases look1 h2 with ⟨rfl,_⟩ | ⟨n2,h2⟩
   ·rfl
   ·exact (old h2).elim
  ·rcases look1 h2 with ⟨_,e⟩ | ⟨n2,h2⟩
   ·rw [e] at h1;exact (old h1).elim
   ·exact I.ok.inj y z c (B.sub y c h1) (B.sub z c h2)
 has:=fun y hy=>by
  by_cases e:y=x
  ·exact⟨C+1,by rw [e];exact look1_self⟩
  ·obtain⟨c,hc⟩:=B.has y e hy
   exact⟨c,look1_ne e hc⟩
 cab:=fun y c hy h=>by
  have e:y=x:=eq_of_beq hy
  rcases look1 h with ⟨_,rfl⟩ | ⟨n,_⟩
  ·exact Nat.le_succ_of_le hC
  ·exact absurd e n
 hd:=I.ok.hd
 frames:=I.ok.frames
 stk:=.inl rfl
 exf:=fun b hb=>⟨hfC b hb,fun y c e=>by
  rcases look1 e with ⟨_,rfl⟩ | ⟨_,e⟩
  ·exact Ne.symm (hfD b hb)
  ·exact (hf b hb).2.2.2.2.1 y c (B.sub y c e)⟩
 bs:=I.bs
 bsz:=Nat.le_trans I.ok.bsz I.sz
 noex:=fun b o e hb=>by
  obtain⟨_,_,_,f3,_⟩:=hf b hb
  rcases f3 with z | z
  ·exact I.ok.noex b o e z
  ·exact absurd (Nat.lt_of_lt_of_le (Heap.lt_size e) (Nat.le_trans I.ok.bsz z)) (Nat.lt_irrefl _)
 exfs:=fun b hb hs=>by
  obtain⟨_,f1,f2,_⟩:=hf b hb
  rcases List.mem_cons.mp (I.stkSub b hs) with z | z
  ·exact f1 z
  ·exact f2 z
 funs:=I.stack
 frf:=I.stkFree
theorem blkC_start {pins:List (Addr×Obj)} {σ:St} {H:Hp} {s s4:Shared} {fp:List Addr} {C:Addr} {m:Str->Option Value} (B:BlkOkC X x fv scope cl) (I:Inv X pins σ H s) (hf:∀b∈fp,FpOk X pins H b) (hC:C=s.heap.objs.size)
  (hfC:∀b∈fp,b≠C) (hfD:∀b∈fp,b≠C+1) (os:s4.os=s.os) (gens:s4.gens=s.gens) (keep:∀b o,s.heap.get? b=some o->s4.heap.get? b=some o) (ns:s4.heap.Ns C m) (ce:s4.heap.IsCell (C+1) none):
  Inv (blkC X x fv scope cl C s H fp) [] (bst fv σ none) H s4:=by
 subst hC
 refine⟨blkC_ok B I hf (Nat.le_refl _) hfC hfD,os,by rw [gens];exact I.bare,Un.kept keep,⟨m,ns,fun i y v h1 h2 h3=>?_⟩,fun y c e=>?_,I.hok.fresh (Nat.le_refl _),fun y c e=>?_,fun p hp=>absurd (show p∈([]:List (Addr×Obj)) from hp) (by simp),I.hok.kept keep,by simp [bst]⟩
 ·cases i with
  | zero=>simp [bst] at h2
  | succ j=>
   obtain⟨p,hp,rfl,hv⟩:=bst_get h1 h2
   obtain⟨hne,hN,hk,hk2,c,hc⟩:=B.fvs p hp
   obtain⟨m0,_,hl⟩:=I.loc
   have vis:Vis X.env.scope p.2:=hk.elim (fun z=>.inr (.inl z)) fun z=>.inr (.inr z)
   obtain⟨u,r,l⟩:=hl p.1 p.2 v hN hv vis
   refine⟨u,r,.inr ⟨hk2,c,look1_ne hne hc,?_⟩⟩
   rcases l with ⟨z,_⟩ | ⟨_,c',hc',o,ho,hd⟩
   ·have z':X.env.scope.names.lookup p.2=some .local:=z
    rcases hk with k | k <;> (rw [k] at z';cases z')
   ·have:=B.sub p.2 c hc
    rw [hc'] at this;cases this
    exact⟨o,keep _ o ho,hd⟩
 ·rcases look1 e with ⟨_,rfl⟩ | ⟨_,e⟩
  ·exact⟨none,ce⟩
  ·obtain⟨v,o,ho,hd⟩:=I.cell y c (B.sub y c e)
   exact⟨v,o,keep c o ho,hd⟩
 ·rcases look1 e with ⟨_,rfl⟩ | ⟨_,e⟩
  ·exact I.hok.fresh (Nat.le_succ _)
  ·exact I.freeC y c (B.sub y c e)
theorem newEnvC {s:Shared} {g:Addr} {q:Str} {env:Env} {M:Model} {A:Around} {E:Value->Shared->Prop} {Q:Env->Shared->Prop}
  (one:∀n,cellsFrom n scope.names cl=(x,n) :: cl) (push:∀h,pushCells h scope.names=h.push { cls:=.type "cell",data:=.cell none })
  (h:Q { scope:=scope,locals:=s.heap.objs.size,globals:=g,cells:=(x,s.heap.objs.size+1) :: cl,qual:=q,func:=none,code:=env.code,frame:=env.frame,builtins:=env.builtins }
   { s with heap:=(s.heap.push { cls:=.type "dict",data:=.dict #[] }).push { cls:=.type "cell",data:=.cell none } }):
  wpAny M A (newFunctionEnv scope g cl [] q none .none (some env)) Q E s:=by
 simp only [newFunctionEnv,Option.isSome_some,if_true]
 refine wpAny_bind (wpAny_alloc ?_)
 refine wpAny_bind (wpAny_layCells _ (fun name kind cells=>by cases hkc:kind == NameKind.cell <;> simp [hkc]) _ _ _ _ ?_)
 rw [show ({ s with heap:=s.heap.push { cls:=.type "dict",data:=.dict #[] } }:Shared).heap.objs.size=s.heap.objs.size+1 from Heap.size_push ..]
 dsimp only
 rw [one,push]
 rw [List.forIn_nil]
 exact wpAny_bind (wpAny_pure (wpAny_pure h))
theorem blkC_store {pins':List (Addr×Obj)} {σ:St} {H H0:Hp} {s s5:Shared} {fp:List Addr} {C:Addr} {o:Option V} {v:V} {u:Value} {E:Value->Shared->Prop} {Q:Unit->Shared->Prop} (B:BlkOkC X x fv scope cl)
  (I:Inv (blkC X x fv scope cl C s H0 fp) pins' (bst fv σ o) H s5) (r:RelV v u) (h:∀s6,Inv (blkC X x fv scope cl C s H0 fp) pins' (bst fv σ (some v)) H s6->Q () s6):
  wpAny (model X.prog X.w) X.A (assign (.Name x px) { compEnvC scope cl C X.env with cells:=(x,C+1) :: cl } u) Q E s5:=
 wpAny_assign_Name (store_ok (X:=blkC X x fv scope cl C s H0 fp) (i:=0) I B.nd rfl (.inr B.here) r h (.inl (by show (x == x)=true;simp)))
end
end L2
namespace L2
open PySem PySem.Spec PyProof.Rows
section
variable {X:Cx} {elt iter:Expr} {x:Str} {px:Pos} {fv:List (Nat×Str)} {scope:Scope} {cl:List (Str×Addr)} {pos:Pos} {te:TE} {wi:TI}
theorem blkC_run {pins:List (Addr×Obj)} {σ:St} {H:Hp} {s2:Shared} {it:Addr} {fp:List Addr} {tn:Nat->Heap->Prop} {J:It} {Q:VK} {E:Value->Shared->Prop} {RR:Value->Addr->Result->Shared->Prop}
  (hc:X.calm=true) (B:BlkOkC X x fv scope cl) (he:∀C s H fp,PE (blkC X x fv scope cl C s H fp) elt te) (I:Inv X pins σ H s2) (T:Turn X.prog X.w X.K (.Name x px) J fp it tn) (st:tn 0 s2.heap) (hf:∀b∈fp,FpOk X pins H b)
  (rd:∀D,H D=none->∃W:Nat->Nat->Hp->Prop,(∃m,W 0 m (upd H D (.lst [])))∧∀i m H,W i m H->
   (J.stop i H∧Q (.ref D) H)∨(J.go i H∧∃N:Hp->Prop,(∀H',N H'->∃m',m' < m∧W (i+1) m' H')∧∀v H',J.yld i H v H'->te (bst fv σ (some v)) H' fun y H2=>∃ys,H2 D=some (.lst ys)∧ys.length < sizeLine∧N (upd H2 D (.lst (ys++[y])))))
  (hRR:∀D C s' H' m',Inv X pins σ H' s'->FpOk X pins H' C->s'.heap.Ns C m'->Q (.ref D) H'->RR (.ref D) C (.ok .next) s'):
  wpAny (model X.prog X.w) X.A (newList []) (fun acc s₃=>wpAny (model X.prog X.w) X.A (newFunctionEnv scope X.env.globals cl [] X.env.qual none .none (some X.env)) (fun cenv s₄=>
   codeAny (model X.prog X.w) X.A (.compStart (.ListComp elt [⟨.Name x px,iter,[],0⟩] scope pos) 0 (.ref it) acc { cenv with scope:=relabel scope X.env }) (RR acc cenv.locals) s₄) E s₃) E s2:=by
 refine wpAny_newObj_type ?_ (by show 0<=sizeLine;exact Nat.zero_le _)
 have hD:H s2.heap.objs.size=none:=I.hok.fresh (Nat.le_refl _)
 have I3:=I.lnew (ys:=[]) (its:=[]) (t':=s2.toks) .nil (Nat.zero_le _)
 generalize hs3:({ s2 with heap:=s2.heap.push { cls:=.type "list",data:=.seq ([]:List Value).toArray },toks:=s2.toks }:Shared)=s3 at I3
 have sz3:s3.heap.objs.size=s2.heap.objs.size+1:=by rw [← hs3];exact Heap.size_push ..
 have up3:∀b o,s2.heap.get? b=some o->s3.heap.get? b=some o:=fun b o e=>by rw [← hs3];exact Heap.get?_push_of_some _ e
 have hf3:∀b∈fp,FpOk X pins (upd H s2.heap.objs.size (.lst [])) b:=fun b hb=>by
  obtain⟨f0,r⟩:=hf b hb
  refine⟨?_,r⟩
  obtain⟨o,e,_⟩:=T.obj 0 _ st b hb
  rw [upd_ne (Nat.ne_of_lt (Heap.lt_size e))];exact f0
 have ltf:∀b∈fp,b < s2.heap.objs.size:=fun b hb=>by
  obtain⟨o,e,_⟩:=T.obj 0 _ st b hb
  exact Heap.lt_size e
 have st3:tn 0 s3.heap:=T.keep 0 _ _ st fun b _ o e=>up3 b o e
 obtain⟨W,⟨m0,w0⟩,turn⟩:=rd _ hD
 refine newEnvC B.one B.push ?_
 have hfC:∀b∈fp,b≠s3.heap.objs.size:=fun b hb=>Nat.ne_of_lt (by rw [sz3];exact Nat.lt_succ_of_lt (ltf b hb))
 have hfD:∀b∈fp,b≠s3.heap.objs.size+1:=fun b hb=>Nat.ne_of_lt (by rw [sz3];exact Nat.lt_succ_of_lt (Nat.lt_succ_of_lt (ltf b hb)))
 generalize hh1:(s3.heap.push { cls:=.type "dict",data:=.dict #[] }).push { cls:=.type "cell",data:=.cell none }=h₁
 have up4:∀b o,s3.heap.get? b=some o->h₁.get? b=some o:=fun b o e=>by rw [← hh1];exact Heap.get?_push_of_some _ (Heap.get?_push_of_some _ e)
 have ns4:h₁.Ns s3.heap.objs.size (fun _=>none):=by
  rw [← hh1]
  exact (Heap.Ns.new s3.heap (.type "dict")).keeps fun b o e=>Heap.get?_push_of_some _ e
 have ce4:h₁.IsCell (s3.heap.objs.size+1) none:=by
  rw [← hh1,show s3.heap.objs.size+1=(s3.heap.push { cls:=.type "dict",data:=.dict #[] }).objs.size from (Heap.size_push ..).symm]
  exact⟨{ cls:=.type "cell",data:=.cell none },Heap.get?_push_size _ rfl,rfl⟩
 generalize hs4:({ s3 with heap:=h₁ }:Shared)=s4
 have h4:s4.heap=h₁:=by rw [← hs4]
 have I4:Inv (blkC X x fv scope cl s3.heap.objs.size s3 (upd H s2.heap.objs.size (.lst [])) fp) [] (bst fv σ none) (upd H s2.heap.objs.size (.lst [])) s4:=
  blkC_start B I3 hf3 rfl hfC hfD (by rw [← hs4]) (by rw [← hs4]) (fun b o e=>by rw [h4];exact up4 b o e) (by rw [h4];exact ns4) (by rw [h4];exact ce4)
 have st4:tn 0 s4.heap:=by rw [h4];exact T.keep 0 _ _ st3 fun b _ o e=>up4 b o e
 have stat:∀{H':Hp},(∀b∈fp,H' b=none)->∀b∈fp,FpOk (blkC X x fv scope cl s3.heap.objs.size s3 (upd H s2.heap.objs.size (.lst [])) fp) [] H' b:=fun {H'} hn b hb=>by
  obtain⟨_,f1,f2,f3,f4,f5⟩:=hf b hb
  refine⟨hn b hb,hfC b hb,fun z=>?_,.inl hb,fun y c e=>?_,fun p hp=>absurd (show p∈([]:List (Addr×Obj)) from hp) (by simp)⟩
  ·rcases List.mem_cons.mp (I.stkSub b z) with q | q
   ·exact f1 q
   ·exact f2 q
  ·rcases look1 e with ⟨_,rfl⟩ | ⟨_,e⟩
   ·exact Ne.symm (hfD b hb)
   ·exact f4 y c (B.sub y c e)
 have loop:codeAny (model X.prog X.w) X.A (.compLoop (.ListComp elt [⟨.Name x px,iter,[],0⟩] scope pos) 0 (.ref it) (.ref s2.heap.objs.size) { compEnvC scope cl s3.heap.objs.size X.env with cells:=(x,s3.heap.objs.size+1) :: cl }) (RR (.ref s2.heap.objs.size) s3.heap.objs.size) s4:=by
  refine compLoop_one (fun n s'=>∃i H' o,Inv (blkC X x fv scope cl s3.heap.objs.size s3 (upd H s2.heap.objs.size (.lst [])) fp) [] (bst fv σ o) H' s'∧tn i s'.heap∧(∀b∈fp,H' b=none)∧W i n H') ?_ m0
   ⟨0,_,none,I4,st4,fun b hb=>(hf3 b hb).1,w0⟩
  rintro n s5 E' ⟨i,H5,o5,I5,st5,fr5,w5⟩
  rcases turn i n H5 w5 with ⟨stop,q⟩ | ⟨go,N,hN,step⟩
  ·refine thn (T.done (blkC X x fv scope cl s3.heap.objs.size s3 (upd H s2.heap.objs.size (.lst [])) fp) rfl rfl rfl hc i [] s5 _ H5 _ I5 (stat fr5) st5 stop) fun r s6 ⟨hr,I6⟩=>?_
   subst hr
   obtain⟨m6,hn6,_⟩:=I6.loc
   have un:Un (frs X.stack) fp H H5 s2.heap s6.heap:=by
    have u1:Un (frs X.stack) fp H (upd H s2.heap.objs.size (.lst [])) s2.heap s3.heap:=Un.laid up3 (Nat.le_refl _) hD
    exact u1.trans I6.base
   have J6:Inv X pins σ H5 s6:=by
    refine I.call' ?_ un I6.hok I6.bare fun b hb=>?_
    ·have:=I6.os
     rw [show (blkC X x fv scope cl s3.heap.objs.size s3 (upd H s2.heap.objs.size (.lst [])) fp).s₀.os=s2.os by rw [← hs3]] at this
     exact this
    ·obtain⟨_,f1,f2,f3,f4,f5⟩:=hf b hb
     exact⟨f3,f1,f4,f5⟩
   refine hRR _ _ s6 H5 m6 J6 ?_ hn6 q
   exact I3.fpOk (Nat.le_refl _) I6.free
  ·refine thn (T.item (blkC X x fv scope cl s3.heap.objs.size s3 (upd H s2.heap.objs.size (.lst [])) fp) rfl rfl rfl hc i [] s5 _ H5 _ I5 (stat fr5) st5 go) fun r s6 ⟨u,hr,h6⟩=>?_
   subst hr
   refine thn h6 fun _ s7 ⟨v,H7,I7,r7,y7,st7,fr7⟩=>?_
   have I7':=I7.pinned (stat fr7) (T.obj _ _ st7)
   refine blkC_store B I7' r7 fun s8 I8=>?_
   have e8:=he _ _ _ _ _ s8 _ H7 _ I8 (step v H7 y7)
   refine wpAny_mono e8 (fun y s9 ⟨yv,H9,I9,r9,ys,hD9,hz,n9⟩=>?_) fun _ _ z=>False.elim z
   have a9:=mt_append (X:=blkC X x fv scope cl s3.heap.objs.size s3 (upd H s2.heap.objs.size (.lst [])) fp) _ s9 _ H9 (.ref s2.heap.objs.size) [yv] (.ref s2.heap.objs.size) [y] (fun _ H10=>H10=upd H9 s2.heap.objs.size (.lst (ys++[yv]))) I9 rfl (.cons r9 .nil)
    ⟨_,ys,yv,rfl,rfl,hD9,hz,rfl⟩
   refine wpAny_mono a9 (fun _ s10 ⟨_,H10,I10,_,e10⟩=>?_) fun _ _ z=>False.elim z
   subst e10
   obtain⟨m',hm,w9⟩:=hN _ n9
   refine⟨m',hm,i+1,_,some v,I10.unpinned,T.keep _ _ _ st7 fun b hb o e=>(I10.pin (b,o) (List.mem_append_right _ (List.mem_append_right _ (mem_pinsAt hb e)))).1,fun b hb=>?_,w9⟩
   obtain⟨o,e,_⟩:=T.obj _ _ st7 b hb
   exact (I10.pin (b,o) (List.mem_append_right _ (List.mem_append_right _ (mem_pinsAt hb e)))).2.1
 exact codeAny_compStart_list loop (T.self _ 0 _ _ _ st4 loop)
theorem ps_setCC {i:Nat} {y:Str} {py spos:Pos} (hc:X.calm=true) (B:BlkOkC X x fv scope cl) (hi:PI X (.Name x px) iter wi) (he:∀C s H fp,PE (blkC X x fv scope cl C s H fp) elt te)
  (hN:X.N.Nodup) (hiy:X.N[i]?=some y) (hy:X.env.scope.names.lookup y=some .local)
  (hsw:swapsWith (.ListComp elt [⟨.Name x px,iter,[],0⟩] scope pos) (some (.Name y py)) spos.line X.env=pure true:=by rfl)
  (hs:∀v,foldedSetIterable iter X.env v=pure v:=by intro _;rfl):
  PS X (.Assign [.Name y py] (.ListComp elt [⟨.Name x px,iter,[],0⟩] scope pos) spos) (tAsg (tComp fv wi te) (gName i)):=by
 intro pins s σ H D I h
 rw [exec_Assign_Name_used _ _ _ _ hsw]
 refine wpAny_bind (wpAny_standAt (wpAny_bind ?_))
 show wpAny _ X.A (do let _ ← comprehension (.ListComp elt [⟨.Name x px,iter,[],0⟩] scope pos) scope X.env _ (newList []) false (eval iter X.env) (some (assign (.Name y py) X.env))) _ _ s
 refine wpAny_bind (wpAny_mono (wpAny_comprehension_free (use:=some (assign (.Name y py) X.env)) (Q:=fun _ s'=>SP X pins D .next s') rfl hs B.clos B.kind B.names
  (thn (hi pins s σ H _ I h) fun v s1 h1=>thn h1 fun itv s2 h2=>?_)) (fun _ s' hq=>wpAny_pure (wpAny_pure hq)) fun _ _ e=>e)
 obtain⟨it,fp,tn,J,H2,e,I2,T,st2,f2,rd⟩:=h2
 subst e
 refine blkC_run (Q:=fun x H1=>gName i x σ H1 D.nx) (RR:=fun acc C=>compPost (model X.prog X.w) X.A X.xe (some (assign (.Name y py) X.env)) (fun _ s'=>SP X pins D .next s') acc C) hc B he I2 T st2 f2 rd ?_
 intro Dl C s' H' m' I' fC hn q
 show wpAny _ X.A (assign (.Name y py) X.env (.ref Dl)) _ _ _
 refine wpAny_assign_Name (store_ok2 I' hN hiy (.inl hy) (v:=.ref Dl) rfl (fun s'' I'' hab=>?_) (.inr hy))
 obtain⟨a,sb,ha⟩:=hab
 have hCa:C≠a:=by
  rcases ha with rfl | e
  ·exact fC.2.1
  ·exact Ne.symm (fC.2.2.2.2.1 _ _ e)
 exact⟨m',hn.sameBut sb hCa,fun h' sb'=>⟨_,H',I''.turned (t':=s''.toks) (fun b o hb e=>(sb'.2 b hb).trans e) fC.1 fC.2.1 fC.2.2.2.1 fC.2.2.2.2.1 fC.2.2.2.2.2,q⟩⟩
theorem pe_lcompC (hc:X.calm=true) (B:BlkOkC X x fv scope cl) (hi:PI X (.Name x px) iter wi) (he:∀C s H fp,PE (blkC X x fv scope cl C s H fp) elt te)
  (hs:∀v,foldedSetIterable iter X.env v=pure v:=by intro _;rfl):PE X (.ListComp elt [⟨.Name x px,iter,[],0⟩] scope pos) (tComp fv wi te):=by
 intro pins s σ H Q I h
 rw [eval_ListComp]
 refine wpAny_comprehension_free (use:=none) rfl hs B.clos B.kind B.names (thn (hi pins s σ H _ I h) fun v s1 h1=>thn h1 fun itv s2 h2=>?_)
 obtain⟨it,fp,tn,J,H2,e,I2,T,st2,f2,rd⟩:=h2
 subst e
 refine blkC_run (RR:=fun acc C=>compPost (model X.prog X.w) X.A X.xe none (EP X pins σ Q) acc C) hc B he I2 T st2 f2 rd ?_
 intro D C s' H' m' I' fC hn q
 exact⟨m',hn,fun h' sb=>⟨.ref D,H',I'.turned (t':=s'.toks) (fun b o hb e=>(sb.2 b hb).trans e) fC.1 fC.2.1 fC.2.2.2.1 fC.2.2.2.2.1 fC.2.2.2.2.2,rfl,q⟩⟩
theorem blkokC (clos:closureFor scope X.env=pure cl) (sub:∀y c,cl.lookup y=some c->X.env.cells.lookup y=some c) (fvs:FvOk X x scope cl fv)
  (one:∀n,cellsFrom n scope.names cl=(x,n) :: cl:=by intro _;rfl) (push:∀h,pushCells h scope.names=h.push { cls:=.type "cell",data:=.cell none }:=by intro _;rfl)
  (kind:scope.kind=.function:=by rfl) (here:(relabel scope X.env).names.lookup x=some .cell:=by rfl) (nd:(x :: fv.map (·.2)).Nodup:=by decide +kernel)
  (names:∀y∈scope.names,y.2=.local->scope.names.lookup y.1=some .local:=by decide +kernel)
  (has:((relabel scope X.env).names.all fun p=>(p.2 != .cell && p.2 != .free) || (((x,0) :: cl).lookup p.1).isSome)=true:=by rfl):BlkOkC X x fv scope cl:=
 ⟨clos,one,push,kind,names,here,sub,fun y ne hy=>by
  obtain⟨c,h⟩:=has_of has y hy
  rcases look1 h with ⟨e,_⟩ | ⟨_,h⟩
  ·exact absurd e ne
  ·exact⟨c,h⟩,nd,fvs⟩
end
end L2
namespace L2
open PySem PySem.Spec PyProof.Rows
theorem pe_fldK {X:Cx} {K:PySem.W.Frag} {e:Expr} {ta:TE} {f:Str} {pos:Pos} (hK:X.K=K) (he:PE X e ta) (hb:attributeBase e f X.env (eval e X.env)=eval e X.env):PE X (.Attribute e f pos) (tFld K ta f):=by subst hK;exact pe_fld he hb
end L2
namespace L2
open PySem PySem.Spec PyProof.Rows
section
variable {X:Cx} {k:Nat} {f:Addr} {fd:FuncData} {ps:List Str} {sp:Sp} {x:Str} {p pos:Pos} {e:Expr} {es:List Expr} {t:TA} {CX:CXT} {ds:List Value} {dvs:List V} {E:XK} {i:Nat}
end
end L2
namespace L2
open PySem
section
variable {K:Type} [DecidableEq K] {prog:Program} {w:World} {A:Around} {E:Value->Shared->Prop} {s:Shared} {knd:HeapKind prog w K}
end
section
variable {K:Type} [DecidableEq K]
end
end L2
namespace L2
open PySem PySem.Spec PyProof.Rows
section
variable {X:Cx}
end
end L2
namespace L2
open PySem PySem.Spec PyProof.Rows
section
variable {P:Program} {w:World} {K:PySem.W.Frag} {mg:Str->Option Value} {base:Heap} {N:List Str} {qual:Str} {sc0:Scope} {f:Addr} {cd:Value} {A:Around} {outer:List Env} {s0:Shared} {H0:Hp} {E:XK}
end
end L2
namespace L2
open PySem PySem.Spec PyProof.Rows
section
variable {P:Program} {w:World} {K:PySem.W.Frag} {mg:Str->Option Value} {base:Heap} {N:List Str} {qual:Str} {sc0:Scope} {f:Addr} {cd:Value} {A:Around} {outer:List Env} {s0:Shared} {H0:Hp} {E:XK}
 {elt iter:Expr} {x:Str} {px:Pos} {scope:Scope} {pos:Pos} {te:TE} {wi:TI}
end
end L2
namespace L2
open PySem PySem.Spec PyProof.Rows
section
variable {X:Cx} {k:Nat} {f C:Addr} {fd:FuncData} {ps:List Str} {sp:Sp} {x:Str} {p pos:Pos} {e:Expr} {es:List Expr} {t:TA}
end
end L2
namespace L2
open PySem PySem.Spec PyProof.Rows
end L2
namespace L2
open PySem PySem.Spec PyProof.Rows
theorem ps_setC2 {X:Cx} {elt iter:Expr} {x z:Str} {px pz tpos pos:Pos} {tk:Nat} {fv:List (Nat×Str)} {scope:Scope} {cl:List (Str×Addr)} {te:TE} {wi:TI} {i:Nat} {y:Str} {py spos:Pos} (hc:X.calm=true) (B:BlkOk2 X x z fv scope cl) (hi:PI X (.Tuple [.Name x px,.Name z pz] tk tpos) iter wi) (he:∀C s H fp,PE (blk2 X x z fv scope cl C s H fp) elt te)
  (hN:X.N.Nodup) (hiy:X.N[i]?=some y) (hy:X.env.scope.names.lookup y=some .local)
  (hsw:swapsWith (.ListComp elt [⟨.Tuple [.Name x px,.Name z pz] tk tpos,iter,[],0⟩] scope pos) (some (.Name y py)) spos.line X.env=pure true:=by rfl)
  (hs:∀v,foldedSetIterable iter X.env v=pure v:=by intro _;rfl):
  PS X (.Assign [.Name y py] (.ListComp elt [⟨.Tuple [.Name x px,.Name z pz] tk tpos,iter,[],0⟩] scope pos) spos) (tAsg (tComp2 X.K fv wi te) (gName i)):=by
 intro pins s σ H D I h
 rw [exec_Assign_Name_used _ _ _ _ hsw]
 refine wpAny_bind (wpAny_standAt (wpAny_bind ?_))
 show wpAny _ X.A (do let _ ← comprehension (.ListComp elt [⟨.Tuple [.Name x px,.Name z pz] tk tpos,iter,[],0⟩] scope pos) scope X.env _ (newList []) false (eval iter X.env) (some (assign (.Name y py) X.env))) _ _ s
 refine wpAny_bind (wpAny_mono (wpAny_comprehension_free (use:=some (assign (.Name y py) X.env)) (Q:=fun _ s'=>SP X pins D .next s') rfl hs B.clos B.kind B.names
  (thn (hi pins s σ H _ I h) fun v s1 h1=>thn h1 fun itv s2 h2=>?_)) (fun _ s' hq=>wpAny_pure (wpAny_pure hq)) fun _ _ e=>e)
 obtain⟨it,fp,tn,J,H2,e,I2,T,st2,f2,rd⟩:=h2
 subst e
 refine blk_run2 (Q:=fun x H1=>gName i x σ H1 D.nx) (RR:=fun acc C=>compPost (model X.prog X.w) X.A X.xe (some (assign (.Name y py) X.env)) (fun _ s'=>SP X pins D .next s') acc C) hc B he I2 T st2 f2 rd ?_
 intro Dl C s' H' m' I' fC hn q
 show wpAny _ X.A (assign (.Name y py) X.env (.ref Dl)) _ _ _
 refine wpAny_assign_Name (store_ok2 I' hN hiy (.inl hy) (v:=.ref Dl) rfl (fun s'' I'' hab=>?_) (.inr hy))
 obtain⟨a,sb,ha⟩:=hab
 have hCa:C≠a:=by
  rcases ha with rfl | e
  ·exact fC.2.1
  ·exact Ne.symm (fC.2.2.2.2.1 _ _ e)
 exact⟨m',hn.sameBut sb hCa,fun h' sb'=>⟨_,H',I''.turned (t':=s''.toks) (fun b o hb e=>(sb'.2 b hb).trans e) fC.1 fC.2.1 fC.2.2.2.1 fC.2.2.2.2.1 fC.2.2.2.2.2,q⟩⟩
end L2
namespace L2
open PySem PySem.Spec PyProof.Rows
def rSetDef:V->List V->Hp->VK->Prop:=fun x vs H Q=>∃a kvs k v,x=.ref a∧vs=[kV k,v]∧H a=some (.dK kvs)∧kvs.length<=900∧(∀u,valV kvs k=some u->Q u H)∧(valV kvs k=none->Q v (upd H a (.dK (putK kvs k v))))
theorem a_setDef {x:V} {vs:List V} {H:Hp} {Q:VK}:rSetDef x vs H Q=∃a kvs k v,x=.ref a∧vs=[kV k,v]∧H a=some (.dK kvs)∧kvs.length<=900∧(∀u,valV kvs k=some u->Q u H)∧(valV kvs k=none->Q v (upd H a (.dK (putK kvs k v)))):=rfl
theorem mt_setDef {X:Cx}:MtM X "dict.setdefault" rSetDef:=by
 intro pins s σ H x vs v us Q I rx rv h
 obtain⟨a,kvs,k,y,rfl,rfl,e,l9,q1,q2⟩:=h
 cases rx
 cases rv with
 | cons r1 rr=>
  cases rr with
  | cons r2 rr=>
   cases rr
   rename_i u1 u2
   obtain⟨z,hd,ws,rel,dd⟩:=dk_of I.hok e
   refine call_meetsIn PySem.F.slot_dict_setdefault dd.typeIs PySem.F.entry_dict_setdefault (PySem.F.args_dict_setdefault_3 _ _ _) (kt_meets_setdefault (mixKind X.prog X.w) a (kV_is r1) hd u2)
    ⟨ws,dd,by rw [← rel.length];exact z,fun w' hw=>?_,fun hn h' dd' hs=>?_⟩
   ·have hr:=rel.val k
    rw [hw] at hr
    obtain⟨v',hv,rv'⟩:∃v',valV kvs k=some v'∧RelV v' w':=by
     cases hv:valV kvs k with
     | none=>rw [hv] at hr;exact hr.elim
     | some v'=>rw [hv] at hr;exact⟨v',rfl,hr⟩
    exact⟨v',H,I.tok _,rv',q1 v' hv⟩
   ·have hn2:valV kvs k=none:=by
     have hr:=rel.val k
     rw [hn] at hr
     cases hv:valV kvs k with
     | none=>rfl
     | some v'=>rw [hv] at hr;exact hr.elim
    have hl:(putK kvs k y).length<=sizeLine:=by
     have:=length_putK kvs k y
     exact Nat.le_of_lt (small1000 (by omega))
    have he:∃q,h'.get? a=some q:=let ⟨q,_,_,hq,_⟩:=dd';⟨q,hq⟩
    exact⟨y,_,d_write I (by rw [e];exact True.intro) hs he (dk_new hl hd (rel.put k r2) dd'),r2,q2 hn2⟩
theorem a_dnewK {σ:St} {H:Hp} {Q:VK}:tDNewK σ H Q=∀p,H p=none->Q (.ref p) (upd H p (.dK [])):=rfl
theorem a_sfldAug {K:PySem.W.Frag} {ta tv:TE} {rd:V->V->Hp->VK->Prop} {f:Str} {D:Ends} {σ:St} {H:Hp}:sFldAug K ta tv rd f D σ H=ta σ H fun x H1=>∃a C dx fs v,x=.ref a∧H1 a=some (.ins C dx fs)∧Cls K C∧NoAttr K C f∧fs.lookup f=some v∧
 tv σ H1 fun y H2=>rd v y H2 fun z H3=>∃dx' fs',H3 a=some (.ins C dx' fs')∧fs'.length < 1000∧D.nx σ (upd H3 a (.ins C dx' (putF f z fs'))):=rfl
theorem a_rAdd {x y:V} {H:Hp} {Q:VK}:rAdd x y H Q=∃i j,x=.int i∧y=.int j∧Q (.int (i+j)) H:=rfl
end L2
namespace L2
open PySem PySem.Spec PyProof.Rows
section
variable {prog:Program} {w:World} {A:Around} {E:Value->Shared->Prop} {s:Shared}
theorem two_items {l:Addr} {x y:Value} {Q:List Value->Shared->Prop} (hh:A.handled=none) (hl:s.heap.IsList l #[x,y]) (hQ:∀h',Heap.ExtBut s.heap.objs.size s.heap h'->Q [x,y] { s with heap:=h' }):
  wpAny (model prog w) A (unpackItems (.ref l) 2 none) Q E s:=by
 have hne:l≠s.heap.objs.size:=by obtain⟨o,ho,_⟩:=hl;exact Nat.ne_of_lt (Heap.lt_size ho)
 unfold unpackItems notIterableAtAll
 refine wpAny_bind (wpAny_bind (wpAny_specialOf hl.typeIs slot_list_iter.lookup (wpAny_pure ?_)))
 rw [if_neg (by decide)]
 refine wpAny_bind (wpAny_holding (wpAny_pyIter_list hl ?_))
 have i0:(s.heap.push { cls:=.type "list_iterator",data:=.fields #[.ref l,.int 0 0] }).IsListIter s.heap.objs.size l 0:=⟨_,Heap.get?_push_size _ rfl,rfl,rfl⟩
 have l0:=hl.push { cls:=.type "list_iterator",data:=.fields #[.ref l,.int 0 0] }
 refine wpAny_bind (wpAny_holding ?_)
 unfold draw
 refine wpAny_bind (wpAny_pyNext_list_item i0 l0 (x:=x) rfl fun h1 i1 s1=>?_)
 have l1:=l0.extBut s1.extBut hne
 refine wpAny_bind (wpAny_holding ?_)
 unfold draw
 refine wpAny_bind (wpAny_pyNext_list_item i1 l1 (x:=y) rfl fun h2 i2 s2=>?_)
 have l2:=l1.extBut s2.extBut hne
 refine wpAny_bind (wpAny_holding ?_)
 unfold draw
 refine wpAny_pure (wpAny_pure (wpAny_pure ?_))
 rw [if_neg (show ¬[x,y].length < 2 from Nat.lt_irrefl 2)]
 refine wpAny_bind (wpAny_holding (wpAny_pyNext_list_end hh i2 l2 rfl fun h3 e3=>?_))
 rw [if_neg (by decide)]
 exact wpAny_pure (hQ h3 fun b o hb e=>e3 b o hb (s2.extBut b o hb (s1.extBut b o hb (Heap.get?_push_of_some _ e))))
end
def gLst2 (K:PySem.W.Frag) (t:TGs):TG:=fun v σ H Q=>∃a x y,v=.ref a∧SqL K H a [x,y]∧t [x,y] σ H Q
theorem a_glst2 {K:PySem.W.Frag} {t:TGs} {v:V} {σ:St} {H:Hp} {Q:St->Hp->Prop}:gLst2 K t v σ H Q=∃a x y,v=.ref a∧SqL K H a [x,y]∧t [x,y] σ H Q:=rfl
theorem pg_lst2 {X:Cx} {es:List Expr} {k:Nat} {pos:Pos} {t:TGs} (hc:X.calm=true) (h:PGs X es t) (hn:(assignEach es X.env).length=2:=by rfl) (hst:(assignEach es X.env).findIdx? (·.1)=none:=by rfl):PG X (.Tuple es k pos) (gLst2 X.K t):=by
 intro pins s σ H v u Q I r hw
 obtain⟨a,x,y,e1,hq,hw⟩:=hw
 subst e1
 cases r
 obtain⟨its,rv,ht,hz⟩:=I.list hq
 obtain⟨x1,y1,rfl⟩:∃x1 y1,its=[x1,y1]:=by
  have:=rv.length
  match its,this with
  | [x1,y1],_=>exact⟨x1,y1,rfl⟩
 rw [assign_Tuple]
 refine wpAny_bind (wpAny_standAt ?_)
 unfold unpack
 rw [hn,hst]
 refine wpAny_bind (wpAny_holding (two_items (I.ok.hd hc) ht.isList fun h' hx=>?_))
 have I1:Inv X pins σ H { s with heap:=h' }:=I.kept (t':=s.toks) fun b o e=>hx b o (Nat.ne_of_lt (Heap.lt_size e)) e
 exact h pins _ σ H [x,y] _ Q I1 rv hw
end L2
namespace My
def trim (xs:List Int):List Int:=(xs.reverse.dropWhile (· == 0)).reverse
theorem trim_nil:trim []=[]:=rfl
theorem trim_zero (xs:List Int):trim (xs++[0])=trim xs:=by
 unfold trim;rw [List.reverse_append];rfl
theorem trim_ne (xs:List Int) {a:Int} (h:a≠0):trim (xs++[a])=xs++[a]:=by
 unfold trim
 rw [List.reverse_append]
 have:([a].reverse++xs.reverse).dropWhile (· == 0)=a :: xs.reverse:=by
  show (a :: xs.reverse).dropWhile (· == 0)=_
  rw [List.dropWhile_cons]
  simp [h]
 rw [this];simp
def co (xs:List Int) (k:Nat):Int:=xs.getD k 0
theorem co_nil (k:Nat):co [] k=0:=rfl
theorem co_ge {xs:List Int} {k:Nat} (h:xs.length<=k):co xs k=0:=by
 unfold co;rw [List.getD_eq_getElem?_getD,List.getElem?_eq_none h];rfl
theorem co_lt {xs:List Int} {k:Nat} (h:k < xs.length):co xs k=xs[k]:=by
 unfold co;rw [List.getD_eq_getElem?_getD,List.getElem?_eq_getElem h];rfl
theorem co_snoc (xs:List Int) (a:Int) (k:Nat):co (xs++[a]) k=if k=xs.length then a else co xs k:=by
 by_cases h:k < xs.length
 ·rw [if_neg (by omega)]
  unfold co;rw [List.getD_eq_getElem?_getD,List.getD_eq_getElem?_getD,List.getElem?_append_left h]
 ·by_cases h2:k=xs.length
  ·subst h2;rw [if_pos rfl];unfold co;rw [List.getD_eq_getElem?_getD,List.getElem?_append_right (Nat.le_refl _)];simp
  ·rw [if_neg h2,co_ge (by simp;omega),co_ge (by omega)]
theorem snoc_ind {P:List Int->Prop} (h0:P []) (h1:∀xs a,P xs->P (xs++[a])) (xs:List Int):P xs:=by
 have:∀ys:List Int,P ys.reverse:=fun ys=>by
  induction ys with
  | nil=>exact h0
  | cons a r ih=>rw [List.reverse_cons];exact h1 _ _ ih
 have:=this xs.reverse
 rwa [List.reverse_reverse] at this
theorem trim_co (xs:List Int) (k:Nat):co (trim xs) k=co xs k:=by
 refine snoc_ind (P:=fun xs=>co (trim xs) k=co xs k) rfl (fun xs a ih=>?_) xs
 by_cases h:a=0
 ·subst h;rw [trim_zero,ih,co_snoc]
  by_cases h2:k=xs.length
  ·rw [if_pos h2,co_ge (by omega)]
  ·rw [if_neg h2]
 ·rw [trim_ne _ h]
def Nml (xs:List Int):Prop:=∀a ys,xs=ys++[a]->a≠0
theorem trim_nml (xs:List Int):Nml (trim xs):=by
 refine snoc_ind (P:=fun xs=>Nml (trim xs)) (fun a ys h=>?_) (fun xs a ih=>?_) xs
 ·rw [trim_nil] at h;simp at h
 ·by_cases h:a=0
  ·subst h;rw [trim_zero];exact ih
  ·rw [trim_ne _ h]
   intro b ys e
   have:=List.append_inj' e rfl
   have e2:a=b:=by simpa using this.2
   rw [← e2];exact h
theorem nml_trim {xs:List Int} (h:Nml xs):trim xs=xs:=by
 rcases List.eq_nil_or_concat xs with rfl | ⟨ys,a,rfl⟩
 ·rfl
 ·rw [List.concat_eq_append] at *;exact trim_ne _ (h a ys rfl)
theorem nml_len {xs:List Int} (h:Nml xs) {n:Nat} (hz:∀k,n<=k->co xs k=0):xs.length<=n:=by
 rcases List.eq_nil_or_concat xs with rfl | ⟨ys,a,rfl⟩
 ·exact Nat.zero_le _
 ·rw [List.concat_eq_append] at *
  have ha:=h a ys rfl
  by_cases hn:(ys++[a]).length<=n
  ·exact hn
  ·have:=hz ys.length (by simp at hn;omega)
   rw [co_snoc,if_pos rfl] at this
   exact absurd this ha
theorem co_ext {xs ys:List Int} (hl:xs.length=ys.length) (h:∀k,k < xs.length->co xs k=co ys k):xs=ys:=by
 refine List.ext_getElem hl fun k h1 h2=>?_
 have:=h k h1
 rw [co_lt h1,co_lt h2] at this;exact this
theorem nml_ext {xs ys:List Int} (hx:Nml xs) (hy:Nml ys) (h:∀k,co xs k=co ys k):xs=ys:=by
 have l1:xs.length<=ys.length:=nml_len hx fun k hk=>by rw [h,co_ge hk]
 have l2:ys.length<=xs.length:=nml_len hy fun k hk=>by rw [← h,co_ge hk]
 exact co_ext (by omega) fun k _=>h k
theorem trim_ext {xs ys:List Int} (h:∀k,co xs k=co ys k):trim xs=trim ys:=
 nml_ext (trim_nml _) (trim_nml _) fun k=>by rw [trim_co,trim_co,h]
theorem trim_len (xs:List Int):(trim xs).length<=xs.length:=nml_len (trim_nml _) fun k hk=>by rw [trim_co,co_ge hk]
theorem trim_take {xs:List Int} {n:Nat} (hn:n<=xs.length) (hz:∀k,n<=k->co xs k=0) (he:n=0∨co xs (n - 1)≠0):trim xs=xs.take n:=by
 have c:∀k,co (xs.take n) k=co xs k:=fun k=>by
  by_cases hk:k < n
  ·unfold co;rw [List.getD_eq_getElem?_getD,List.getD_eq_getElem?_getD,List.getElem?_take_of_lt hk]
  ·rw [co_ge (by simp;omega),hz k (by omega)]
 have nm:Nml (xs.take n):=fun a ys e=>by
  have hl:ys.length+1=n:=by
   have:=congrArg List.length e
   rw [List.length_take,List.length_append,List.length_singleton] at this;omega
  rcases he with h0 | h0
  ·omega
  ·have:=c (n - 1)
   rw [e,co_snoc,if_pos (by omega)] at this
   rw [this];exact h0
 exact nml_ext (trim_nml _) nm fun k=>by rw [trim_co,c]
end My
namespace My
def sumN:Nat->(Nat->Int)->Int
 | 0,_=>0
 | n+1,f=>sumN n f+f n
theorem sumN_congr {n:Nat} {f g:Nat->Int} (h:∀j,j < n->f j=g j):sumN n f=sumN n g:=by
 induction n with
 | zero=>rfl
 | succ n ih=>simp only [sumN];rw [ih fun j hj=>h j (by omega),h n (by omega)]
theorem sumN_zero {n:Nat} {f:Nat->Int} (h:∀j,j < n->f j=0):sumN n f=0:=by
 induction n with
 | zero=>rfl
 | succ n ih=>simp only [sumN];rw [ih fun j hj=>h j (by omega),h n (by omega)];rfl
def cz (xs:List Int) (k j:Nat):Int:=if j<=k then co xs (k - j) else 0
def cv (one other:List Int) (l k:Nat):Int:=sumN l fun j=>co one j * cz other k j
def mulL (one other:List Int):List Int:=trim ((List.range (one.length+other.length)).map fun k=>cv one other one.length k)
theorem co_map (n:Nat) (f:Nat->Int) (k:Nat):co ((List.range n).map f) k=if k < n then f k else 0:=by
 by_cases h:k < n
 ·rw [if_pos h,co_lt (by simpa using h)];simp
 ·rw [if_neg h,co_ge (by simp;omega)]
theorem cv_big (one other:List Int) (k:Nat) (h:one.length+other.length<=k+1):cv one other one.length k=0:=
 sumN_zero fun j hj=>by
  unfold cz
  rw [if_pos (by omega),co_ge (xs:=other) (by omega),Int.mul_zero]
theorem mul_eq (one other ans:List Int) (h:∀k,co ans k=if k+1 < one.length+other.length then cv one other one.length k else 0):trim ans=mulL one other:=by
 refine trim_ext fun k=>?_
 rw [h,co_map]
 by_cases h1:k+1 < one.length+other.length
 ·rw [if_pos h1,if_pos (by omega)]
 ·rw [if_neg h1]
  by_cases h2:k < one.length+other.length
  ·rw [if_pos h2,cv_big _ _ _ (by omega)]
  ·rw [if_neg h2]
def addL (one other:List Int):List Int:=trim ((List.range (max one.length other.length)).map fun k=>co one k+co other k)
theorem add_eq (one other ans:List Int) (h:∀k,co ans k=co one k+co other k):trim ans=addL one other:=by
 refine trim_ext fun k=>?_
 rw [h,co_map]
 by_cases h1:k < max one.length other.length
 ·rw [if_pos h1]
 ·rw [if_neg h1,co_ge (by omega),co_ge (by omega)];rfl
theorem co_neg (xs:List Int) (k:Nat):co (xs.map fun x=>-x) k=- co xs k:=by
 by_cases h:k < xs.length
 ·rw [co_lt (by simpa using h),co_lt h];simp
 ·rw [co_ge (by simp;omega),co_ge (by omega)];rfl
theorem co_set (xs:List Int) (i k:Nat) (v:Int) (h:i < xs.length):co (xs.set i v) k=if k=i then v else co xs k:=by
 by_cases hk:k < xs.length
 ·rw [co_lt (by simpa using hk),List.getElem_set,co_lt hk]
  by_cases e:k=i
  ·rw [if_pos e,if_pos e.symm]
  ·rw [if_neg e,if_neg (Ne.symm e)]
 ·rw [co_ge (by simp;omega),if_neg (by omega),co_ge (by omega)]
end My
namespace My
def val (n:Int):List Int->Int
 | []=>0
 | c :: r=>c+n * val n r
def hd (xs:List Int):Int:=xs.headD 0
theorem val_zero:∀(xs:List Int) (M:Int),(∀n,M < n->val n xs=0)->∀x∈xs,x=0
 | [],_,_,_,h=>nomatch h
 | c :: r,M,h,x,hx=>by
  have hc:c=0:=by
   have h1:=h (max M 0+c.natAbs+1) (by omega)
   simp only [val] at h1
   have hd:(max M 0+c.natAbs+1)∣c:=⟨-(val (max M 0+c.natAbs+1) r),by rw [Int.mul_neg];omega⟩
   by_cases hz:c=0
   ·exact hz
   ·have:=Int.natAbs_dvd_natAbs.mpr hd
    have:=Nat.le_of_dvd (by omega) this
    omega
  have hr:∀n,max M 0 < n->val n r=0:=fun n hn=>by
   have h1:=h n (by omega)
   simp only [val,hc,Int.zero_add] at h1
   rcases Int.mul_eq_zero.mp h1 with z | z
   ·omega
   ·exact z
  rcases List.mem_cons.mp hx with rfl | hx
  ·exact hc
  ·exact val_zero r _ hr x hx
theorem val_sub (n:Int):∀(xs ys:List Int),xs.length=ys.length->val n (List.zipWith (· - ·) xs ys)=val n xs - val n ys
 | [],[],_=>rfl
 | x :: xs,y :: ys,h=>by
  have ih:=val_sub n xs ys (by simpa using h)
  simp only [List.zipWith_cons_cons,val,ih,Int.mul_sub];omega
theorem zip_zero:∀(xs ys:List Int),xs.length=ys.length->(∀d∈List.zipWith (· - ·) xs ys,d=0)->xs=ys
 | [],[],_,_=>rfl
 | x :: xs,y :: ys,h,hz=>by
  have h1:=hz (x - y) (by simp)
  have h2:=zip_zero xs ys (by simpa using h) fun d hd=>hz d (by simp [hd])
  rw [h2,show x=y by omega]
theorem val_ext {xs ys:List Int} (hl:xs.length=ys.length) (h:∀n,val n xs=val n ys):xs=ys:=
 zip_zero xs ys hl (val_zero _ 0 fun n _=>by rw [val_sub n xs ys hl,h n];omega)
end My
namespace My
end My
namespace My
theorem nml_last {xs:List Int}:Nml xs↔∀a,xs.getLast?=some a->a≠0:=by
 constructor
 ·intro h a e
  rcases List.eq_nil_or_concat xs with rfl | ⟨ys,b,rfl⟩
  ·simp at e
  ·rw [List.concat_eq_append] at *
   rw [List.getLast?_concat] at e
   rw [← Option.some.inj e];exact h b ys rfl
 ·intro h a ys e
  exact h a (by rw [e,List.getLast?_concat])
end My
namespace My
end My
namespace My
def pm (f g:Nat->Int) (k:Nat):Int:=sumN (k+1) fun j=>f j * g (k - j)
theorem sumN_add (n:Nat) (f g:Nat->Int):sumN n (fun j=>f j+g j)=sumN n f+sumN n g:=by
 induction n with
 | zero=>rfl
 | succ n ih=>simp only [sumN];rw [ih];omega
theorem sumN_mulc (n:Nat) (c:Int) (f:Nat->Int):sumN n (fun j=>c * f j)=c * sumN n f:=by
 induction n with
 | zero=>simp [sumN]
 | succ n ih=>simp only [sumN];rw [ih,Int.mul_add]
theorem sumN_one {n i:Nat} {f:Nat->Int} (hi:i < n) (h:∀j,j < n->j≠i->f j=0):sumN n f=f i:=by
 induction n with
 | zero=>omega
 | succ n ih=>
  simp only [sumN]
  by_cases e:i=n
  ·subst e
   rw [sumN_zero fun j hj=>h j (by omega) (by omega)];omega
  ·rw [ih (by omega) fun j hj hne=>h j (by omega) hne,h n (by omega) (Ne.symm e)];omega
theorem pm_sub (f g h:Nat->Int) (k:Nat):pm f (fun j=>g j - h j) k=pm f g k - pm f h k:=by
 unfold pm
 have:(fun j=>f j * (g (k - j) - h (k - j)))=fun j=>f j * g (k - j)+(-1) * (f j * h (k - j)):=by
  funext j;rw [Int.mul_sub];omega
 rw [this,sumN_add,sumN_mulc];omega
theorem pm_add (f g h:Nat->Int) (k:Nat):pm f (fun j=>g j+h j) k=pm f g k+pm f h k:=by
 unfold pm
 have:(fun j=>f j * (g (k - j)+h (k - j)))=fun j=>f j * g (k - j)+f j * h (k - j):=by
  funext j;rw [Int.mul_add]
 rw [this,sumN_add]
theorem pm_scale (f g:Nat->Int) (c:Int) (k:Nat):pm f (fun j=>c * g j) k=c * pm f g k:=by
 unfold pm
 have:(fun j=>f j * (c * g (k - j)))=fun j=>c * (f j * g (k - j)):=by
  funext j;rw [← Int.mul_assoc,Int.mul_comm (f j) c,Int.mul_assoc]
 rw [this,sumN_mulc]
theorem pm_scaleL (f g:Nat->Int) (c:Int) (k:Nat):pm (fun j=>c * f j) g k=c * pm f g k:=by
 unfold pm
 rw [← sumN_mulc]
 exact sumN_congr fun j _=>by rw [Int.mul_assoc]
theorem pm_zero {f g:Nat->Int} (h:∀j,g j=0) (k:Nat):pm f g k=0:=sumN_zero fun j _=>by rw [h];simp
theorem pm_top {g d:Nat->Int} {m t:Nat} (hg:∀j,m+1<=j->g j=0) (hd:∀j,t+1<=j->d j=0):pm g d (t+m)=g m * d t:=by
 unfold pm
 rw [sumN_one (i:=m) (by omega) fun j hj hne=>?_]
 ·rw [show t+m - m=t by omega]
 ·by_cases h:j < m
  ·rw [hd (t+m - j) (by omega)];simp
  ·rw [hg j (by omega)];simp
theorem pm_deg {g d:Nat->Int} {m:Nat} (hg:∀j,m+1<=j->g j=0) (h0:g m≠0) (t:Nat):∀n,(∀j,t+n<=j->d j=0)->(∀k,t+m<=k->pm g d k=0)->∀j,t<=j->d j=0
 | 0,hd,_,j,hj=>hd j (by omega)
 | n+1,hd,hz,j,hj=>by
  have top:=pm_top (t:=t+n) hg (fun j hj=>hd j (by omega))
  rw [hz _ (by omega)] at top
  have dn:d (t+n)=0:=by
   rcases Int.mul_eq_zero.mp top.symm with z | z
   ·exact absurd z h0
   ·exact z
  exact pm_deg hg h0 t n (fun j hj=>by
   by_cases e:j=t+n
   ·rw [e];exact dn
   ·exact hd j (by omega)) hz j hj
def Div (one other q:List Int):Prop:=∀k,co one k=pm (co other) (co q) k
theorem co_last {xs:List Int} (h:Nml xs) (hne:xs≠[]):co xs (xs.length - 1)≠0:=by
 rcases List.eq_nil_or_concat xs with rfl | ⟨ys,a,rfl⟩
 ·exact absurd rfl hne
 ·rw [List.concat_eq_append] at *
  rw [show (ys++[a]).length - 1=ys.length by simp,co_snoc,if_pos rfl]
  exact h a ys rfl
theorem co_over {xs:List Int} (j:Nat) (h:xs.length - 1+1<=j):co xs j=0:=co_ge (by omega)
theorem div_uniq {one other q r:List Int} (ho:Nml other) (hne:other≠[]) (hq:Nml q) (hr:Nml r) (h1:Div one other q) (h2:Div one other r):q=r:=by
 refine nml_ext hq hr fun k=>?_
 have z:=pm_deg (g:=co other) (d:=fun j=>co q j - co r j) (m:=other.length - 1) (fun j hj=>co_over j hj) (co_last ho hne) 0 (q.length+r.length)
  (fun j hj=>by show co q j - co r j=0;rw [co_ge (by omega),co_ge (by omega)];rfl) (fun k _=>by rw [pm_sub,← h1 k,← h2 k];omega) k (by omega)
 have z':co q k - co r k=0:=z
 omega
theorem div_rest {one other q r l:List Int} (ho:Nml other) (hne:other≠[]) (hl:l.length+1<=other.length) (h1:∀k,co one k=pm (co other) (co q) k+co l k) (h2:Div one other r):
  (∀k,co l k=0)∧∀k,co r k=co q k:=by
 have z:=pm_deg (g:=co other) (d:=fun j=>co r j - co q j) (m:=other.length - 1) (fun j hj=>co_over j hj) (co_last ho hne) 0 (q.length+r.length)
  (fun j hj=>by show co r j - co q j=0;rw [co_ge (by omega),co_ge (by omega)];rfl) (fun k hk=>by
   rw [pm_sub,← h2 k,h1 k,co_ge (xs:=l) (by omega)];omega)
 have e:∀k,co r k=co q k:=fun k=>by
  have z':co r k - co q k=0:=z k (by omega)
  omega
 refine⟨fun k=>?_,e⟩
 have h3:=h1 k
 have h4:=h2 k
 have:pm (co other) (co r) k=pm (co other) (co q) k:=by unfold pm;exact sumN_congr fun j _=>by rw [e]
 omega
theorem div_len {one other q:List Int} (ho:Nml other) (hne:other≠[]) (h1:Nml one) (hq:Nml q) (h:Div one other q) (hone:one≠[]):q≠[]∧one.length+1=q.length+other.length:=by
 have qne:q≠[]:=by
  intro z
  have:=co_last h1 hone
  rw [h,z] at this
  exact this (pm_zero (fun j=>rfl) _)
 have lq:0 < q.length:=List.length_pos_iff.mpr qne
 have lo:0 < other.length:=List.length_pos_iff.mpr hne
 have l1:0 < one.length:=List.length_pos_iff.mpr hone
 refine⟨qne,?_⟩
 have top:=pm_top (g:=co other) (d:=co q) (m:=other.length - 1) (t:=q.length - 1) (fun j hj=>co_over j hj) (fun j hj=>co_over j hj)
 rw [← h] at top
 have tne:co one (q.length - 1+(other.length - 1))≠0:=by
  rw [top]
  intro z
  rcases Int.mul_eq_zero.mp z with z | z
  ·exact co_last ho hne z
  ·exact co_last hq qne z
 have lt:q.length - 1+(other.length - 1) < one.length:=by
  by_cases hlt:q.length - 1+(other.length - 1) < one.length
  ·exact hlt
  ·exact absurd (co_ge (by omega)) tne
 have big:one.length<=q.length - 1+(other.length - 1)+1:=nml_len h1 fun k hk=>by
  rw [h]
  refine sumN_zero fun j hj=>?_
  by_cases hjm:j < other.length
  ·rw [co_ge (xs:=q) (by omega)];simp
  ·rw [co_ge (xs:=other) (by omega)];simp
 omega
structure DivAt (one other ans rest:List Int) (low:Nat):Prop where
 la:ans.length+other.length=one.length+1
 lr:rest.length=one.length
 eq:∀k,co one k=pm (co other) (co ans) k+co rest k
 hi:∀k,low+(other.length - 1)<=k->co rest k=0
 lo:∀j,j < low->co ans j=0
theorem div_start {one other:List Int} {n:Nat} (hne:other≠[]) (hn:n+other.length=one.length+1):DivAt one other (List.replicate n 0) one n where
 la:=by rw [List.length_replicate];exact hn
 lr:=rfl
 eq:=fun k=>by
  rw [pm_zero fun j=>?_]
  ·omega
  ·unfold co
   rw [List.getD_eq_getElem?_getD,List.getElem?_replicate]
   split <;> rfl
 hi:=fun k hk=>co_ge (by have:=List.length_pos_iff.mpr hne;omega)
 lo:=fun j _=>by
  unfold co
  rw [List.getD_eq_getElem?_getD,List.getElem?_replicate]
  split <;> rfl
theorem div_step {one other ans rest q:List Int} {low:Nat} (ho:Nml other) (hne:other≠[]) (D:DivAt one other ans rest (low+1)) (hq:Div one other q):
  co rest (low+(other.length - 1))=co other (other.length - 1) * (co q low - co ans low):=by
 have e:∀k,co rest k=pm (co other) (fun j=>co q j - co ans j) k:=fun k=>by
  have h1:=D.eq k
  rw [pm_sub,← hq k];omega
 have z:=pm_deg (g:=co other) (d:=fun j=>co q j - co ans j) (m:=other.length - 1) (fun j hj=>co_over j hj) (co_last ho hne) (low+1) (q.length+ans.length)
  (fun j hj=>by show co q j - co ans j=0;rw [co_ge (by omega),co_ge (by omega)];rfl) (fun k hk=>by rw [← e];exact D.hi k (by omega))
 rw [e]
 exact pm_top (fun j hj=>co_over j hj) z
theorem div_turn {one other ans rest rest':List Int} {low:Nat} {f:Int} (hne:other≠[]) (D:DivAt one other ans rest (low+1)) (hlow:low < ans.length) (hf:f * co other (other.length - 1)=co rest (low+(other.length - 1)))
  (hr:rest'.length=rest.length) (h:∀k,co rest' k=co rest k - if low<=k then f * co other (k - low) else 0):DivAt one other (ans.set low f) rest' low where
 la:=by rw [List.length_set];exact D.la
 lr:=by rw [hr];exact D.lr
 eq:=fun k=>by
  have e1:pm (co other) (co (ans.set low f)) k=pm (co other) (co ans) k+(if low<=k then f * co other (k - low) else 0):=by
   have e2:(co (ans.set low f))=fun j=>co ans j+if j=low then f else 0:=by
    funext j
    rw [co_set _ _ _ _ hlow]
    by_cases e:j=low
    ·rw [if_pos e,if_pos e,e,D.lo low (by omega)];omega
    ·rw [if_neg e,if_neg e];omega
   rw [e2,pm_add]
   congr 1
   unfold pm
   by_cases hk:low<=k
   ·rw [if_pos hk,sumN_one (i:=k - low) (by omega) fun j hj hne=>by show co other j * (if k - j=low then f else 0)=0;rw [if_neg (by omega)];simp]
    show co other (k - low) * (if k - (k - low)=low then f else 0)=_
    rw [if_pos (by omega),Int.mul_comm]
   ·rw [if_neg hk]
    exact sumN_zero fun j hj=>by show co other j * (if k - j=low then f else 0)=0;rw [if_neg (by omega)];simp
  rw [e1,h,D.eq k];omega
 hi:=fun k hk=>by
  rw [h]
  have lo:=List.length_pos_iff.mpr hne
  by_cases e:k=low+(other.length - 1)
  ·rw [if_pos (by omega),e,← hf,show low+(other.length - 1) - low=other.length - 1 by omega];omega
  ·rw [D.hi k (by omega)]
   by_cases hl:low<=k
   ·rw [if_pos hl,co_ge (xs:=other) (by omega)];simp
   ·rw [if_neg hl];rfl
 lo:=fun j hj=>by
  rw [co_set _ _ _ _ hlow,if_neg (by omega)]
  exact D.lo j (by omega)
end My
namespace My
theorem div_good {one other ans rest:List Int} (D:DivAt one other ans rest 0) (hz:∀k,co rest k=0):Div one other ans:=fun k=>by rw [D.eq k,hz k];omega
theorem div_bad {one other ans rest:List Int} (ho:Nml other) (hne:other≠[]) (D:DivAt one other ans rest 0) (q:List Int) (hq:Div one other q):∀k,co rest k=0:=by
 have hl:(rest.take (other.length - 1)).length+1<=other.length:=by
  have:=List.length_pos_iff.mpr hne
  rw [List.length_take];omega
 have ec:∀k,co (rest.take (other.length - 1)) k=co rest k:=fun k=>by
  by_cases hk:k < other.length - 1
  ·unfold co;rw [List.getD_eq_getElem?_getD,List.getD_eq_getElem?_getD,List.getElem?_take_of_lt hk]
  ·rw [co_ge (by simp;omega),D.hi k (by omega)]
 have z:=(div_rest (q:=ans) ho hne hl (fun k=>by rw [ec];exact D.eq k) hq).1
 exact fun k=>by rw [← ec];exact z k
theorem div_fail {one other ans rest q:List Int} {low:Nat} (ho:Nml other) (hne:other≠[]) (D:DivAt one other ans rest (low+1)) (hq:Div one other q):
  (co rest (low+(other.length - 1))).fdiv (co other (other.length - 1)) * co other (other.length - 1)=co rest (low+(other.length - 1)):=by
 rw [div_step ho hne D hq,Int.mul_fdiv_cancel_left _ (co_last ho hne),Int.mul_comm]
theorem div_nml {one other ans:List Int} (hne:other≠[]) (h1:Nml one) (hone:one≠[]) (la:ans.length+other.length=one.length+1) (h:Div one other ans):Nml ans:=by
 have l1:=List.length_pos_iff.mpr hone
 have l2:=List.length_pos_iff.mpr hne
 intro a ys e
 have la':ans.length=ys.length+1:=by rw [e];simp
 have top:=pm_top (g:=co other) (d:=co ans) (m:=other.length - 1) (t:=ans.length - 1) (fun j hj=>co_over j hj) (fun j hj=>co_over j hj)
 rw [← h,show ans.length - 1+(other.length - 1)=one.length - 1 by omega] at top
 have t0:=co_last h1 hone
 rw [top] at t0
 have ea:co ans (ans.length - 1)=a:=by rw [show ans.length - 1=ys.length by omega,e,co_snoc,if_pos rfl]
 rw [ea] at t0
 intro z
 exact t0 (by rw [z];simp)
theorem nml_nil:Nml []:=fun a ys e=>by simp at e
theorem nml_zero {xs:List Int} (h:Nml xs) (hz:∀k,co xs k=0):xs=[]:=nml_ext h nml_nil fun k=>by rw [hz];rfl
theorem div_nil {other:List Int}:Div [] other []:=fun k=>(pm_zero (f:=co other) (g:=co []) (fun _=>rfl) k).symm
theorem trim_nilI {xs:List Int}:trim xs=[]↔∀k,co xs k=0:=by
 constructor
 ·intro h k;rw [← trim_co,h];rfl
 ·intro h;exact nml_zero (trim_nml _) fun k=>by rw [trim_co];exact h k
end My
namespace My
theorem co_cons (c:Int) (f:List Int) (j:Nat):co (c :: f) j=if j=0 then c else co f (j - 1):=by
 cases j with
 | zero=>rfl
 | succ j=>rw [if_neg (by omega)];rfl
end My
namespace My
def sh (g:Nat->Int) (j:Nat):Int:=if j=0 then 0 else g (j - 1)
theorem sumN_first (n:Nat) (f:Nat->Int):sumN (n+1) f=f 0+sumN n fun j=>f (j+1):=by
 induction n with
 | zero=>simp [sumN]
 | succ n ih=>
  rw [show sumN (n+1+1) f=sumN (n+1) f+f (n+1) from rfl,ih]
  simp only [sumN];omega
theorem pm_sh (f g:Nat->Int) (k:Nat):pm f (sh g) k=sh (pm f g) k:=by
 unfold sh
 by_cases h:k=0
 ·subst h
  rw [if_pos rfl]
  simp [pm,sumN]
 ·rw [if_neg h]
  obtain⟨m,rfl⟩:∃m,k=m+1:=⟨k - 1,by omega⟩
  unfold pm
  rw [show sumN (m+1+1) (fun j=>f j * if m+1 - j=0 then 0 else g (m+1 - j - 1))=sumN (m+1) (fun j=>f j * if m+1 - j=0 then 0 else g (m+1 - j - 1))+f (m+1) * (if m+1 - (m+1)=0 then 0 else g (m+1 - (m+1) - 1)) from rfl]
  rw [if_pos (by omega),Int.mul_zero,Int.add_zero,show m+1 - 1=m by omega]
  exact sumN_congr fun j hj=>by rw [if_neg (by omega),show m+1 - j - 1=m - j by omega]
theorem pm_congr {f g h:Nat->Int} (e:∀j,g j=h j) (k:Nat):pm f g k=pm f h k:=sumN_congr fun j _=>by rw [e]
theorem pm_high {f g:Nat->Int} {t e:Nat} (hf:∀j,t+1<=j->f j=0) (hg:∀j,e<=j->g j=0) (k:Nat) (hk:t+e<=k):pm f g k=0:=
 sumN_zero fun j hj=>by
  by_cases h:t+1<=j
  ·rw [hf j h,Int.zero_mul]
  ·rw [hg (k - j) (by omega),Int.mul_zero]
def ev (p:Int) (f:Nat->Int):Nat->Nat->Int
 | 0,_=>0
 | n+1,s=>f s+p * ev p f n (s+1)
theorem ev_lin (p a b:Int) (f g:Nat->Int):∀n s,ev p (fun j=>a * f j - b * g j) n s=a * ev p f n s - b * ev p g n s
 | 0,_=>by simp [ev]
 | n+1,s=>by
  simp only [ev]
  rw [ev_lin p a b f g n (s+1),Int.mul_sub,Int.mul_add,Int.mul_add,← Int.mul_assoc p a,← Int.mul_assoc p b,Int.mul_comm p a,Int.mul_comm p b,Int.mul_assoc,Int.mul_assoc]
  omega
theorem down (p:Int) {K Z:Nat->Int} {e:Nat} (hK:∀j,e+1<=j->K j=0) (hZ:∀j,e<=j->Z j=0):
  ∃Z':Nat->Int,(∀j,e<=j->Z' j=0)∧∀j,p * Z' j - sh Z' j=ev p K (e+1) 0 * Z j - ev p Z (e+1) 0 * K j:=by
 let k0:=ev p K (e+1) 0
 let z0:=ev p Z (e+1) 0
 let F:Nat->Int:=fun j=>k0 * Z j - z0 * K j
 let v:Nat->Int:=fun j=>ev p F (e+1 - j) j
 have hF:∀j,e+1<=j->F j=0:=fun j hj=>by show k0 * Z j - z0 * K j=0;rw [hZ j (by omega),hK j hj];simp
 have hv:∀j,v j=F j+p * v (j+1):=fun j=>by
  show ev p F (e+1 - j) j=F j+p * ev p F (e+1 - (j+1)) (j+1)
  by_cases h:j<=e
  ·rw [show e+1 - j=(e - j)+1 by omega,show e+1 - (j+1)=e - j by omega];rfl
  ·rw [show e+1 - j=0 by omega,show e+1 - (j+1)=0 by omega,hF j (by omega)];simp [ev]
 have h0:v 0=0:=by
  show ev p (fun j=>k0 * Z j - z0 * K j) (e+1) 0=0
  rw [ev_lin]
  show k0 * z0 - z0 * k0=0
  rw [Int.mul_comm];omega
 refine⟨fun j=>- v (j+1),fun j hj=>?_,fun j=>?_⟩
 ·show - ev p F (e+1 - (j+1)) (j+1)=0
  rw [show e+1 - (j+1)=0 by omega];rfl
 ·show p * (- v (j+1)) - sh (fun j=>- v (j+1)) j=F j
  have a:=hv j
  unfold sh
  by_cases h:j=0
  ·subst h
   rw [if_pos rfl]
   rw [h0] at a
   rw [Int.mul_neg];omega
  ·rw [if_neg h]
   show p * (- v (j+1)) - (- v (j - 1+1))=F j
   rw [show j - 1+1=j by omega,Int.mul_neg];omega
theorem sup_at (f:Nat->Int):∀n,∃j,∀i,i < n->(f i).natAbs<=(f j).natAbs
 | 0=>⟨0,fun i hi=>by omega⟩
 | n+1=>by
  obtain⟨j,hj⟩:=sup_at f n
  by_cases h:(f j).natAbs<=(f n).natAbs
  ·exact⟨n,fun i hi=>by
    by_cases e:i=n
    ·rw [e];exact Nat.le_refl _
    ·exact Nat.le_trans (hj i (by omega)) h⟩
  ·exact⟨j,fun i hi=>by
    by_cases e:i=n
    ·rw [e];omega
    ·exact hj i (by omega)⟩
section
variable {p:Int} {K L:Nat->Int} {e t M:Nat} (he:1<=e) (hK:∀j,e+1<=j->K j=0) (kt:K e≠0) (hL:∀j,t+1<=j->L j=0) (lt:L t≠0) (hM:∀j,(pm L K j).natAbs<=M) (hp:(ev p K (e+1) 0).natAbs+M+1 < p.natAbs)
include he hK kt hL lt hM hp
theorem next_size {Z Z':Nat->Int} {n:Nat} (hZ:∀j,e<=j->Z j=0) (hZ':∀j,e<=j->Z' j=0) (hr:∀j,p * Z' j - sh Z' j=ev p K (e+1) 0 * Z j - ev p Z (e+1) 0 * K j) (hn:∀j,(pm L Z j).natAbs<=n):
  ∃b,(∀j,(pm L Z' j).natAbs<=b)∧(ev p Z (e+1) 0).natAbs<=b∧(p.natAbs - 1 - M) * b<=(ev p K (e+1) 0).natAbs * n:=by
 have r:∀j,p * pm L Z' j - sh (pm L Z') j=ev p K (e+1) 0 * pm L Z j - ev p Z (e+1) 0 * pm L K j:=fun j=>by
  rw [← pm_sh,← pm_scale,← pm_scale,← pm_scale,← pm_sub,← pm_sub]
  exact pm_congr hr j
 obtain⟨j0,hj0⟩:=sup_at (pm L Z') (t+e)
 have hb:∀j,(pm L Z' j).natAbs<=(pm L Z' j0).natAbs:=fun j=>by
  by_cases h:j < t+e
  ·exact hj0 j h
  ·rw [pm_high hL hZ' j (by omega)];exact Nat.zero_le _
 have top:pm L K (e+t)=L t * K e:=pm_top hL hK
 have hz:(ev p Z (e+1) 0).natAbs<=(pm L Z' j0).natAbs:=by
  have a:=r (e+t)
  rw [pm_high hL hZ' (e+t) (by omega),pm_high hL hZ (e+t) (by omega),top] at a
  unfold sh at a
  rw [if_neg (by omega)] at a
  have a':pm L Z' (e+t - 1)=ev p Z (e+1) 0 * (L t * K e):=by
   rw [Int.mul_zero,Int.mul_zero] at a;omega
  have b:=hb (e+t - 1)
  rw [a',Int.natAbs_mul,Int.natAbs_mul] at b
  have c:1<=(L t).natAbs * (K e).natAbs:=Nat.mul_pos (Int.natAbs_pos.mpr lt) (Int.natAbs_pos.mpr kt)
  exact Nat.le_trans (Nat.le_mul_of_pos_right _ c) b
 refine⟨_,hb,hz,?_⟩
 have a:=r j0
 generalize hB:(pm L Z' j0).natAbs=b at hb hz
 have s1:(sh (pm L Z') j0).natAbs<=b:=by
  unfold sh
  by_cases h:j0=0
  ·rw [if_pos h];exact Nat.zero_le _
  ·rw [if_neg h];exact hb _
 have e1:(p * pm L Z' j0).natAbs=p.natAbs * b:=by rw [Int.natAbs_mul,hB]
 have e2:(ev p K (e+1) 0 * pm L Z j0).natAbs<=(ev p K (e+1) 0).natAbs * n:=by rw [Int.natAbs_mul];exact Nat.mul_le_mul_left _ (hn j0)
 have e3:(ev p Z (e+1) 0 * pm L K j0).natAbs<=b * M:=by rw [Int.natAbs_mul];exact Nat.mul_le_mul hz (hM j0)
 have e4:p.natAbs * b<=(ev p K (e+1) 0).natAbs * n+b * M+b:=by omega
 have e5:(p.natAbs - 1 - M) * b=p.natAbs * b - b - b * M:=by rw [Nat.sub_mul,Nat.sub_mul,Nat.one_mul,Nat.mul_comm M b]
 omega
theorem no_small (h0:ev p K (e+1) 0≠0):∀(n:Nat) (Z:Nat->Int),(∀j,e<=j->Z j=0)->(∀j,(pm L Z j).natAbs<=n)->∀j,Z j=0:=by
 intro n
 induction n using Nat.strongRecOn with
 | _ n ih=>
  intro Z hZ hn
  by_cases hn0:n=0
  ·intro j
   have z:=pm_deg (g:=L) (d:=Z) (m:=t) hL lt 0 e (fun j hj=>hZ j (by omega)) (fun k _=>by have:=hn k;omega)
   exact z j (by omega)
  ·obtain⟨Z',hZ',hr⟩:=down p hK hZ
   obtain⟨b,hb,hz,hs⟩:=next_size he hK kt hL lt hM hp hZ hZ' hr hn
   have lt1:b < n:=by
    refine Nat.lt_of_not_le fun hle=>?_
    have m1:((ev p K (e+1) 0).natAbs+1) * n<=(p.natAbs - 1 - M) * b:=Nat.mul_le_mul (by omega) hle
    rw [Nat.succ_mul] at m1
    omega
   have z':=ih b lt1 Z' hZ' hb
   have r':∀j,ev p K (e+1) 0 * Z j=ev p Z (e+1) 0 * K j:=fun j=>by
    have a:=hr j
    rw [z' j] at a
    have s0:sh Z' j=0:=by
     unfold sh
     by_cases h:j=0
     ·rw [if_pos h]
     ·rw [if_neg h];exact z' _
    rw [s0,Int.mul_zero] at a;omega
   have zz:ev p Z (e+1) 0=0:=by
    have a:=r' e
    rw [hZ e (Nat.le_refl _),Int.mul_zero] at a
    exact (Int.mul_eq_zero.mp a.symm).resolve_right kt
   intro j
   have a:=r' j
   rw [zz,Int.zero_mul] at a
   exact (Int.mul_eq_zero.mp a).resolve_left h0
theorem factor_far:False:=by
 have ev1:∀n,ev p (fun j=>if j=0 then (1:Int) else 0) (n+1) 0=1:=fun n=>by
  have z:∀n s,ev p (fun j=>if j=0 then (1:Int) else 0) n (s+1)=0:=fun n=>by
   induction n with
   | zero=>intro s;rfl
   | succ n ih=>intro s;simp only [ev];rw [ih (s+1)];simp
  simp only [ev]
  rw [z n 0];simp
 have hZ:∀j,e<=j->(fun j=>if j=0 then (1:Int) else 0) j=0:=fun j hj=>if_neg (by omega)
 obtain⟨j0,hj0⟩:=sup_at (pm L fun j=>if j=0 then (1:Int) else 0) (t+e)
 have hn:∀j,(pm L (fun j=>if j=0 then (1:Int) else 0) j).natAbs<=(pm L (fun j=>if j=0 then (1:Int) else 0) j0).natAbs:=fun j=>by
  by_cases h:j < t+e
  ·exact hj0 j h
  ·rw [pm_high hL hZ j (by omega)];exact Nat.zero_le _
 by_cases h0:ev p K (e+1) 0=0
 ·obtain⟨Z',hZ',hr⟩:=down p hK hZ
  obtain⟨b,hb,hz,hs⟩:=next_size he hK kt hL lt hM hp hZ hZ' hr hn
  rw [h0] at hs
  rw [ev1] at hz
  have hz1:1<=b:=hz
  have q:0 < (p.natAbs - 1 - M) * b:=Nat.mul_pos (by omega) hz1
  rw [Int.natAbs_zero,Nat.zero_mul] at hs
  omega
 ·have:=no_small he hK kt hL lt hM hp h0 _ _ hZ hn 0
  simp at this
end
end My
namespace My
def Prm (q:Nat):Prop:=1 < q∧∀m,m∣q->m=1∨m=q
theorem prm_ex:∀n:Nat,1 < n->∃q,q∣n∧Prm q:=by
 intro n
 induction n using Nat.strongRecOn with
 | _ n ih=>
  intro h
  by_cases p:∀m,m∣n->m=1∨m=n
  ·exact⟨n,Nat.dvd_refl n,h,p⟩
  ·obtain⟨m,hm⟩:=Classical.not_forall.mp p
   have hd:m∣n:=Classical.byContradiction fun z=>hm fun y=>absurd y z
   have h1:¬(m=1∨m=n):=fun z=>hm fun _=>z
   have h0:m≠0:=fun z=>by rw [z] at hd;have:=Nat.eq_zero_of_zero_dvd hd;omega
   have hle:=Nat.le_of_dvd (by omega) hd
   obtain⟨q,hq,hp⟩:=ih m (by omega) (by omega)
   exact⟨q,Nat.dvd_trans hq hd,hp⟩
theorem two_prm:Prm 2:=⟨by decide,fun m hm=>by
 have h1:=Nat.le_of_dvd (by decide) hm
 have h2:m≠0:=fun z=>by
  rw [z] at hm
  exact absurd (Nat.eq_zero_of_zero_dvd hm) (by decide)
 omega⟩
theorem prm_mul {q:Nat} (hq:Prm q) {x y:Int} (h:(q:Int)∣x * y):(q:Int)∣x∨(q:Int)∣y:=by
 have h':q∣x.natAbs * y.natAbs:=by
  have:=Int.natAbs_dvd_natAbs.mpr h
  rwa [Int.natAbs_natCast,Int.natAbs_mul] at this
 rcases hq.2 (Nat.gcd q x.natAbs) (Nat.gcd_dvd_left _ _) with z | z
 ·refine .inr ?_
  have:q∣y.natAbs:=Nat.Coprime.dvd_of_dvd_mul_left z h'
  exact Int.natAbs_dvd_natAbs.mp (by rw [Int.natAbs_natCast];exact this)
 ·refine .inl ?_
  have:q∣x.natAbs:=by have:=Nat.gcd_dvd_right q x.natAbs;rwa [z] at this
  exact Int.natAbs_dvd_natAbs.mp (by rw [Int.natAbs_natCast];exact this)
theorem first_not {q:Int} {f:Nat->Int} (h:¬∀j,q∣f j):∃i,¬q∣f i∧∀j,j < i->q∣f j:=by
 obtain⟨n,hn⟩:=Classical.not_forall.mp h
 induction n using Nat.strongRecOn with
 | _ n ih=>
  by_cases z:∀j,j < n->q∣f j
  ·exact⟨n,hn,z⟩
  ·obtain⟨j,hj⟩:=Classical.not_forall.mp z
   have h1:j < n:=Classical.byContradiction fun y=>hj fun x=>absurd x y
   exact ih j h1 fun y=>hj fun _=>y
theorem sum_dvd {q:Int} {f:Nat->Int}:∀n,(∀j,j < n->q∣f j)->q∣sumN n f
 | 0,_=>Int.dvd_zero q
 | n+1,h=>Int.dvd_add (sum_dvd n fun j hj=>h j (by omega)) (h n (by omega))
theorem sum_one_dvd {q:Int} {f:Nat->Int} {i:Nat}:∀n,i < n->(∀j,j < n->j≠i->q∣f j)->q∣sumN n f->q∣f i
 | 0,h,_,_=>by omega
 | n+1,hi,h,hs=>by
  have e:sumN (n+1) f=sumN n f+f n:=rfl
  rw [e] at hs
  by_cases z:i=n
  ·subst z
   exact (Int.dvd_add_right (sum_dvd i fun j hj=>h j (by omega) (by omega))).mp hs
  ·have fn:=h n (by omega) (by omega)
   exact sum_one_dvd n (by omega) (fun j hj hne=>h j (by omega) hne) ((Int.dvd_add_left fn).mp hs)
theorem gauss {q:Nat} (hq:Prm q) {f g:Nat->Int} (h:∀k,(q:Int)∣pm f g k):(∀j,(q:Int)∣f j)∨(∀j,(q:Int)∣g j):=by
 by_cases hf:∀j,(q:Int)∣f j
 ·exact .inl hf
 by_cases hg:∀j,(q:Int)∣g j
 ·exact .inr hg
 exfalso
 obtain⟨a,ha,ha'⟩:=first_not hf
 obtain⟨b,hb,hb'⟩:=first_not hg
 have hs:=h (a+b)
 have:=sum_one_dvd (i:=a) (a+b+1) (by omega) (fun j hj hne=>by
  show (q:Int)∣f j * g (a+b - j)
  by_cases z:j < a
  ·exact Int.dvd_trans (ha' j z) (Int.dvd_mul_right _ _)
  ·exact Int.dvd_trans (hb' (a+b - j) (by omega)) (Int.dvd_mul_left _ _)) hs
 rw [show a+b - a=b by omega] at this
 exact (prm_mul hq this).elim ha hb
def Prim (f:Nat->Int):Prop:=∀d:Nat,(∀j,(d:Int)∣f j)->d=1
theorem prim_mul {f g:Nat->Int} (hf:Prim f) (hg:Prim g):Prim (pm f g):=fun d hd=>by
 by_cases h1:d=1
 ·exact h1
 by_cases h0:d=0
 ·-- all numbers nought: then 2 divides them
  have z:∀k,((2:Nat):Int)∣pm f g k:=fun k=>by
   have:=hd k
   rw [h0] at this
   have e:pm f g k=0:=Int.zero_dvd.mp (by simpa using this)
   rw [e];exact Int.dvd_zero _
  rcases gauss (q:=2) two_prm z with y | y
  ·exact absurd (hf 2 y) (by decide)
  ·exact absurd (hg 2 y) (by decide)
 ·obtain⟨q,hq,hp⟩:=prm_ex d (by omega)
  have z:∀k,(q:Int)∣pm f g k:=fun k=>Int.dvd_trans (Int.natCast_dvd_natCast.mpr hq) (hd k)
  rcases gauss hp z with y | y
  ·have:=hf q y;have:=hp.1;omega
  ·have:=hg q y;have:=hp.1;omega
theorem prim_dvd {f:Nat->Int} (hf:Prim f):∀(m:Nat),0 < m->∀k:Nat->Int,(∀j,(m:Int)∣pm f k j)->∀j,(m:Int)∣k j:=by
 intro m
 induction m using Nat.strongRecOn with
 | _ m ih=>
  intro h0 k hk
  by_cases h1:m=1
  ·intro j;rw [h1];exact Int.one_dvd _
  obtain⟨q,⟨r,hr⟩,hp⟩:=prm_ex m (by omega)
  have q1:=hp.1
  have r0:0 < r:=Nat.pos_of_ne_zero fun z=>by rw [z] at hr;omega
  have rm:r < m:=by
   rw [hr]
   calc r=1 * r:=(Nat.one_mul r).symm
    _ < q * r:=Nat.mul_lt_mul_of_pos_right q1 r0
  have mq:(m:Int)=(q:Int) * (r:Int):=by rw [hr];exact Int.natCast_mul q r
  have d1:∀j,(q:Int)∣k j:=by
   rcases gauss hp (f:=f) (g:=k) fun j=>Int.dvd_trans (by rw [mq];exact Int.dvd_mul_right _ _) (hk j) with y | y
   ·have:=hf q y;omega
   ·exact y
  have e:∀j,k j=q * (k j / q):=fun j=>(Int.mul_ediv_cancel' (d1 j)).symm
  have d2:=ih r rm r0 (fun j=>k j / q) fun j=>by
   have a:=hk j
   have b:pm f k j=q * pm f (fun j=>k j / q) j:=by
    rw [← pm_scale]
    refine sumN_congr fun i _=>?_
    show f i * k (j - i)=f i * (q * (k (j - i) / q))
    rw [← e]
   rw [b,mq] at a
   exact Int.dvd_of_mul_dvd_mul_left (by omega) a
  intro j
  rw [e j,mq]
  exact Int.mul_dvd_mul_left _ (d2 j)
end My
namespace My
def addP:List Int->List Int->List Int
 | [],ys=>ys
 | xs,[]=>xs
 | x :: xs,y :: ys=>(x+y) :: addP xs ys
theorem val_addP (n:Int):∀xs ys,val n (addP xs ys)=val n xs+val n ys
 | [],ys=>by simp [addP,val]
 | x :: xs,[]=>by simp [addP,val]
 | x :: xs,y :: ys=>by
  simp only [addP,val]
  rw [val_addP n xs ys,Int.mul_add];omega
theorem val_map (n c:Int):∀xs:List Int,val n (xs.map fun x=>c * x)=c * val n xs
 | []=>by simp [val]
 | x :: xs=>by
  simp only [List.map_cons,val]
  rw [val_map n c xs,Int.mul_add,← Int.mul_assoc n c,Int.mul_comm n c,Int.mul_assoc]
def mulP:List Int->List Int->List Int
 | [],_=>[]
 | c :: f,g=>addP (g.map fun x=>c * x) (0 :: mulP f g)
theorem val_mulP (n:Int):∀f g,val n (mulP f g)=val n f * val n g
 | [],g=>by simp [mulP,val]
 | c :: f,g=>by
  simp only [mulP]
  rw [val_addP,val_map]
  simp only [val]
  rw [val_mulP n f g,Int.add_mul,Int.mul_assoc];omega
theorem co_addP:∀(xs ys:List Int) (k:Nat),co (addP xs ys) k=co xs k+co ys k
 | [],ys,k=>by simp [addP,co_nil]
 | x :: xs,[],k=>by simp [addP,co_nil]
 | x :: xs,y :: ys,k=>by
  simp only [addP]
  rw [co_cons,co_cons,co_cons]
  by_cases h:k=0
  ·simp [h]
  ·rw [if_neg h,if_neg h,if_neg h,co_addP xs ys]
theorem co_mulP:∀(f g:List Int) (k:Nat),co (mulP f g) k=pm (co f) (co g) k
 | [],g,k=>by
  rw [show mulP [] g=[] from rfl,co_nil]
  exact (sumN_zero fun j _=>by rw [co_nil,Int.zero_mul]).symm
 | c :: f,g,k=>by
  simp only [mulP]
  rw [co_addP,co_cons]
  have e1:co (g.map fun x=>c * x) k=c * co g k:=by
   by_cases h:k < g.length
   ·rw [co_lt (by simpa using h),co_lt h,List.getElem_map]
   ·rw [co_ge (by simp;omega),co_ge (by omega),Int.mul_zero]
  rw [e1]
  unfold pm
  rw [sumN_first]
  have e2:co (c :: f) 0=c:=rfl
  rw [e2,Nat.sub_zero]
  by_cases h:k=0
  ·subst h
   rw [if_pos rfl];simp [sumN]
  ·rw [if_neg h,co_mulP f g (k - 1)]
   obtain⟨m,rfl⟩:∃m,k=m+1:=⟨k - 1,by omega⟩
   unfold pm
   rw [show m+1 - 1=m by omega]
   congr 1
   refine sumN_congr fun j hj=>?_
   rw [co_cons,if_neg (by omega),show j+1 - 1=j by omega,show m+1 - (j+1)=m - j by omega]
theorem val_pad (n:Int) (xs:List Int):∀k,val n (xs++List.replicate k 0)=val n xs:=by
 intro k
 induction xs with
 | nil=>
  induction k with
  | zero=>rfl
  | succ k ih=>rw [List.nil_append] at *;rw [List.replicate_succ];simp only [val];rw [ih];simp [val]
 | cons x xs ih=>simp only [List.cons_append,val];rw [ih]
theorem co_pad (xs:List Int) (k j:Nat):co (xs++List.replicate k 0) j=co xs j:=by
 by_cases h:j < xs.length
 ·unfold co;rw [List.getD_eq_getElem?_getD,List.getD_eq_getElem?_getD,List.getElem?_append_left h]
 ·rw [co_ge (xs:=xs) (by omega)]
  unfold co
  rw [List.getD_eq_getElem?_getD,List.getElem?_append_right (by omega),List.getElem?_replicate]
  split <;> rfl
theorem co_of_val {xs ys:List Int} (h:∀n,val n xs=val n ys) (k:Nat):co xs k=co ys k:=by
 have e:xs++List.replicate ys.length 0=ys++List.replicate xs.length 0:=val_ext (by simp;omega) fun n=>by rw [val_pad,val_pad,h]
 rw [← co_pad xs ys.length k,e,co_pad]
theorem val_of_co {xs ys:List Int} (h:∀k,co xs k=co ys k) (n:Int):val n xs=val n ys:=by
 have e:xs++List.replicate ys.length 0=ys++List.replicate xs.length 0:=co_ext (by simp;omega) fun k _=>by rw [co_pad,co_pad,h]
 rw [← val_pad n xs ys.length,e,val_pad]
theorem div_val {one other q:List Int}:Div one other q↔∀n,val n one=val n other * val n q:=by
 constructor
 ·intro h n
  rw [← val_mulP]
  exact val_of_co (fun k=>by rw [h k,co_mulP]) n
 ·intro h k
  rw [← co_mulP]
  exact co_of_val (fun n=>by rw [h n,val_mulP]) k
theorem ev_val (p:Int) (xs:List Int):∀n s,ev p (co xs) n s=val p ((xs.drop s).take n)
 | 0,s=>by simp [ev,val]
 | n+1,s=>by
  simp only [ev]
  rw [ev_val p xs n (s+1)]
  by_cases h:s < xs.length
  ·rw [List.drop_eq_getElem_cons h,List.take_succ_cons]
   simp only [val]
   rw [co_lt h]
  ·rw [co_ge (by omega),List.drop_eq_nil_of_le (by omega),List.drop_eq_nil_of_le (by omega)];simp [val]
theorem common_found {p:Int} {M:Nat} {f a b g x y qa qb U V:List Int} {c h m:Int} (hp:2 * (M:Int)+29<=p)
  (fp:Prim (co f)) (fn:Nml f) (f0:f≠[]) (c1:1<=c) (fs:∀z∈f,2 * (c * z).natAbs<=p.natAbs) (gp:Prim (co g)) (gn:Nml g)
  (ha:Div a g x) (hb:Div b g y) (hM:(a≠[]∧Nml a∧∀z∈a,z.natAbs<=M)∨(b≠[]∧Nml b∧∀z∈b,z.natAbs<=M))
  (fa:Div a f qa) (fb:Div b f qb) (m0:m≠0) (bz:∀n,val n U * val n a+val n V * val n b=m * val n g) (h1:1<=h) (fv:0 < val p f) (hv:c * val p f=h * (val p g).natAbs):
  f=g∨f=g.map fun z=>-1 * z:=by
 have va:=div_val.mp ha
 have vb:=div_val.mp hb
 have wa:=div_val.mp fa
 have wb:=div_val.mp fb
 let W:=addP (mulP U qa) (mulP V qb)
 have vW:∀n,val n f * val n W=m * val n g:=fun n=>by
  show val n f * val n (addP (mulP U qa) (mulP V qb))=_
  rw [val_addP,val_mulP,val_mulP,← bz n,wa n,wb n,Int.mul_add,Int.mul_left_comm,Int.mul_left_comm (val n V)]
 have dW:∀j,((m.natAbs:Nat):Int)∣pm (co f) (co W) j:=fun j=>by
  rw [← co_mulP,co_of_val (ys:=g.map fun z=>m * z) (fun n=>by rw [val_mulP,vW,val_map]) j]
  have e1:co (g.map fun z=>m * z) j=m * co g j:=by
   by_cases h:j < g.length
   ·rw [co_lt (by simpa using h),co_lt h,List.getElem_map]
   ·rw [co_ge (by simp;omega),co_ge (by omega),Int.mul_zero]
  rw [e1]
  exact Int.dvd_trans (Int.natAbs_dvd.mpr (Int.dvd_refl m)) (Int.dvd_mul_right _ _)
 have dk:=prim_dvd fp m.natAbs (Int.natAbs_pos.mpr m0) (co W) dW
 let k:=trim (W.map fun z=>z / m)
 have vk:∀n,val n g=val n f * val n k:=fun n=>by
  have e:val n W=m * val n k:=by
   show _=m * val n (trim (W.map fun z=>z / m))
   rw [val_of_co (trim_co _) n,← val_map]
   refine val_of_co (fun j=>?_) n
   rw [List.map_map]
   by_cases h:j < W.length
   ·rw [co_lt (xs:=W) h,co_lt (xs:=W.map _) (by simpa using h),List.getElem_map]
    have z:=dk j
    rw [co_lt h] at z
    exact (Int.mul_ediv_cancel' (Int.natAbs_dvd.mp z)).symm
   ·rw [co_ge (xs:=W) (by omega),co_ge (xs:=W.map _) (by simp;omega)]
  have z:=vW n
  rw [e,Int.mul_left_comm] at z
  exact (Int.eq_of_mul_eq_mul_left m0 z).symm
 have kn:Nml k:=trim_nml _
 have c2:c=h * (val p k).natAbs:=by
  have z:=hv
  rw [vk p,Int.natAbs_mul,Int.natCast_mul,Int.natAbs_of_nonneg (Int.le_of_lt fv),Int.mul_comm,Int.mul_left_comm] at z
  exact Int.eq_of_mul_eq_mul_left (by omega) z
 have cp:2 * c<=p:=by
  have l0:=co_last fn f0
  have hl:f.length - 1 < f.length:=by have:=List.length_pos_iff.mpr f0;omega
  rw [co_lt hl] at l0
  have z:=fs _ (List.getElem_mem hl)
  rw [Int.natAbs_mul] at z
  have z2:c.natAbs<=c.natAbs * f[f.length - 1].natAbs:=Nat.le_mul_of_pos_right _ (Int.natAbs_pos.mpr l0)
  omega
 have kc:((val p k).natAbs:Int)<=c:=by
  rw [c2]
  have:(0:Int)<=((val p k).natAbs:Int):=Int.natCast_nonneg _
  have z:=Int.mul_le_mul_of_nonneg_right h1 this
  rw [Int.one_mul] at z;exact z
 have kl:∀(d w:List Int),d≠[]->Nml d->(∀z∈d,z.natAbs<=M)->(∀n,val n d=val n g * val n w)->k.length<=1:=fun d w d0 dn dM vd=>by
  refine Nat.le_of_not_lt fun h2=>?_
  let l:=trim (mulP f w)
  have vl:∀n,val n d=val n l * val n k:=fun n=>by
   show _=val n (trim (mulP f w)) * _
   rw [val_of_co (trim_co _) n,val_mulP,vd,vk,Int.mul_assoc,Int.mul_comm (val n k),Int.mul_assoc]
  have l0:l≠[]:=fun z=>by
   have e:d=[]:=nml_zero dn fun j=>by
    have:=co_of_val (xs:=d) (ys:=[]) (fun n=>by rw [vl n,z];simp [val]) j
    rw [this];rfl
   exact d0 e
  have ll:=List.length_pos_iff.mpr l0
  have k0:k≠[]:=List.length_pos_iff.mp (by omega)
  have dd:Div d l k:=div_val.mpr vl
  refine factor_far (p:=p) (K:=co k) (L:=co l) (e:=k.length - 1) (t:=l.length - 1) (M:=M) (by omega) (fun j hj=>co_ge (by omega)) (co_last kn k0) (fun j hj=>co_ge (by omega)) (co_last (trim_nml _) l0) (fun j=>?_) ?_
  ·rw [← dd j]
   by_cases hj:j < d.length
   ·rw [co_lt hj];exact dM _ (List.getElem_mem hj)
   ·rw [co_ge (by omega)];exact Nat.zero_le _
  ·rw [ev_val,List.drop_zero,List.take_of_length_le (by omega)]
   omega
 have k1:k.length<=1:=by
  rcases hM with ⟨d0,dn,dM⟩ | ⟨d0,dn,dM⟩
  ·exact kl a x d0 dn dM va
  ·exact kl b y d0 dn dM vb
 have cg:∀k0:Int,(∀n,val n g=val n f * k0)->∀j,co g j=k0 * co f j:=fun k0 hk j=>by
  have e1:co (f.map fun z=>k0 * z) j=k0 * co f j:=by
   by_cases h:j < f.length
   ·rw [co_lt (xs:=f.map _) (by simpa using h),co_lt h,List.getElem_map]
   ·rw [co_ge (xs:=f.map _) (by simp;omega),co_ge (by omega),Int.mul_zero]
  rw [← e1]
  exact co_of_val (fun n=>by rw [hk n,val_map,Int.mul_comm]) j
 have two:∀d:Int,(∀j,co g j=d * co f j)->d.natAbs=1:=fun d hd=>gp d.natAbs fun j=>by
  rw [hd j]
  exact Int.dvd_trans (Int.natAbs_dvd.mpr (Int.dvd_refl d)) (Int.dvd_mul_right _ _)
 obtain⟨k0,hk⟩:∃k0:Int,∀n,val n g=val n f * k0:=by
  generalize k=kk at k1 vk
  match kk,k1 with
  | [],_=>exact⟨0,fun n=>by rw [vk n];simp [val]⟩
  | [z],_=>exact⟨z,fun n=>by rw [vk n];simp [val]⟩
  | _ :: _ :: _,h=>simp at h
 have cj:=cg k0 hk
 have k01:=two k0 cj
 have kk:k0=1∨k0=-1:=by omega
 rcases kk with rfl | rfl
 ·exact .inl (nml_ext fn gn fun j=>by rw [cj j];omega)
 ·refine .inr (nml_ext fn (fun z ys e=>?_) fun j=>?_)
  ·have e':=congrArg (List.map fun z=>-1 * z) e
   rw [List.map_map,List.map_append,List.map_singleton] at e'
   have e2:(fun z:Int=>-1 * z) ∘ (fun z:Int=>-1 * z)=id:=funext fun z=>by simp
   rw [e2,List.map_id] at e'
   have:=gn _ _ e'
   omega
  ·have e1:co (g.map fun z=>-1 * z) j=-1 * co g j:=by
    by_cases h:j < g.length
    ·rw [co_lt (xs:=g.map _) (by simpa using h),co_lt h,List.getElem_map]
    ·rw [co_ge (xs:=g.map _) (by simp;omega),co_ge (by omega),Int.mul_zero]
   rw [e1,cj j];omega
end My
namespace My
theorem digits_uniq {p:Int} (hp:0 < p):∀(f g:List Int),(∀x∈f,2 * x.natAbs<=p.natAbs)->(∀x∈g,2 * x.natAbs < p.natAbs)->val p f=val p g->∀k,co f k=co g k:=by
 have key:∀(x y s t:Int),2 * x.natAbs<=p.natAbs->2 * y.natAbs < p.natAbs->x+p * s=y+p * t->x=y∧s=t:=fun x y s t hx hy h=>by
  have e:p * (s - t)=y - x:=by rw [Int.mul_sub];omega
  have z:s - t=0:=by
   rcases Int.lt_trichotomy (s - t) 0 with u | u | u
   ·have:=Int.mul_le_mul_of_nonneg_left (show s - t<=-1 by omega) (Int.le_of_lt hp)
    rw [e,Int.mul_neg,Int.mul_one] at this;omega
   ·exact u
   ·have:=Int.mul_le_mul_of_nonneg_left (show 1<=s - t by omega) (Int.le_of_lt hp)
    rw [e,Int.mul_one] at this;omega
  rw [z,Int.mul_zero] at e
  exact⟨by omega,by omega⟩
 have nil:∀g:List Int,(∀x∈g,2 * x.natAbs<=p.natAbs)->val p g=0->∀k,co g k=0:=by
  intro g
  induction g with
  | nil=>intro _ _ k;rfl
  | cons y g ih=>
   intro hg h k
   have h':y+p * val p g=0+p * 0:=by
    have:val p (y :: g)=y+p * val p g:=rfl
    rw [this] at h;rw [Int.mul_zero];omega
   obtain⟨e1,e2⟩:=key y 0 (val p g) 0 (hg y (by simp)) (by simp;omega) h'
   rw [co_cons]
   by_cases z:k=0
   ·rw [if_pos z];exact e1
   ·rw [if_neg z];exact ih (fun x hx=>hg x (by simp [hx])) e2 (k - 1)
 intro f
 induction f with
 | nil=>
  intro g _ hg h k
  rw [nil g (fun x hx=>Nat.le_of_lt (hg x hx)) h.symm k];rfl
 | cons x f ih=>
  intro g hf hg h k
  cases g with
  | nil=>rw [nil (x :: f) hf h k];rfl
  | cons y g=>
   obtain⟨e1,e2⟩:=key x y (val p f) (val p g) (hf x (by simp)) (hg y (by simp)) h
   rw [co_cons,co_cons]
   by_cases z:k=0
   ·rw [if_pos z,if_pos z];exact e1
   ·rw [if_neg z,if_neg z]
    exact ih g (fun w hw=>hf w (by simp [hw])) (fun w hw=>hg w (by simp [hw])) e2 (k - 1)
theorem digits_top {p:Int} (hp:1<=p):∀(f:List Int),f≠[]->(∀x∈f,2 * x.natAbs<=p.natAbs)->0 < co f (f.length - 1)->p ^ (f.length - 1)<=2 ^ (f.length - 1) * val p f∧0 < val p f:=by
 intro f
 induction f with
 | nil=>intro h;exact absurd rfl h
 | cons x f ih=>
  intro _ hf ht
  by_cases z:f=[]
  ·subst z
   have e:val p [x]=x:=by simp [val]
   have ht':0 < x:=ht
   rw [e]
   exact⟨by simp;omega,ht'⟩
  ·have hl:=List.length_pos_iff.mpr z
   have ht':0 < co f (f.length - 1):=by
    have:(x :: f).length - 1=f.length:=by simp
    rw [this,co_cons,if_neg (by omega)] at ht
    exact ht
   obtain⟨i1,i2⟩:=ih z (fun w hw=>hf w (by simp [hw])) ht'
   have hx:=hf x (by simp)
   have e:val p (x :: f)=x+p * val p f:=rfl
   have m1:p * 1<=p * val p f:=Int.mul_le_mul_of_nonneg_left (by omega) (by omega)
   have hv:p * val p f<=2 * val p (x :: f):=by rw [e];omega
   refine⟨?_,by omega⟩
   have l1:(x :: f).length - 1=f.length - 1+1:=by simp;omega
   rw [l1,Int.pow_succ,Int.pow_succ]
   have two:(0:Int)<=2 ^ (f.length - 1):=Int.pow_nonneg (by decide)
   calc p ^ (f.length - 1) * p<=2 ^ (f.length - 1) * val p f * p:=Int.mul_le_mul_of_nonneg_right i1 (by omega)
    _=2 ^ (f.length - 1) * (p * val p f):=by rw [Int.mul_assoc,Int.mul_comm (val p f) p]
    _<=2 ^ (f.length - 1) * (2 * val p (x :: f)):=Int.mul_le_mul_of_nonneg_left hv two
    _=2 ^ (f.length - 1) * 2 * val p (x :: f):=by rw [Int.mul_assoc]
end My
namespace My
def hx (x:Int) (g:Nat->Int):Nat->Int
 | 0=>g 0
 | d+1=>x * hx x g d+g (d+1)
def hs:List Int->Nat->Int
 | []=>fun d=>if d=0 then 1 else 0
 | x :: xs=>hx x (hs xs)
theorem hs_zero:∀xs:List Int,hs xs 0=1
 | []=>rfl
 | x :: xs=>hs_zero xs
theorem hx_gap (x y:Int) (g:Nat->Int):∀d,(x - y) * hx x (hx y g) d=x * hx x g d - y * hx y g d
 | 0=>by simp only [hx];rw [Int.sub_mul]
 | d+1=>by
  have ih:=hx_gap x y g d
  simp only [hx]
  generalize hx x (hx y g) d=A at ih ⊢
  generalize hx x g d=a at ih ⊢
  generalize hx y g d=b at ih ⊢
  generalize g (d+1)=c
  have e:(x - y) * (x * A+(y * b+c))=x * ((x - y) * A)+(x - y) * (y * b+c):=by grind
  rw [e,ih]
  grind
theorem hx_comm (x y:Int) (g:Nat->Int):∀d,hx x (hx y g) d=hx y (hx x g) d
 | 0=>rfl
 | d+1=>by
  have ih:=hx_comm x y g d
  have l:=hx_gap x y g d
  show x * hx x (hx y g) d+(y * hx y g d+g (d+1))=y * hx y (hx x g) d+(x * hx x g d+g (d+1))
  rw [← ih]
  generalize hx x (hx y g) d=A at l ⊢
  grind
theorem hx_congr {x:Int} {g h:Nat->Int} (e:∀d,g d=h d):∀d,hx x g d=hx x h d
 | 0=>e 0
 | d+1=>by simp only [hx];rw [hx_congr e d,e]
theorem hs_snoc (y:Int):∀(xs:List Int) (d:Nat),hs (xs++[y]) d=hx y (hs xs) d
 | [],d=>rfl
 | x :: xs,d=>by
  show hx x (hs (xs++[y])) d=hx y (hx x (hs xs)) d
  rw [hx_congr (hs_snoc y xs) d,hx_comm]
theorem hs_turn (x:Int) (xs:List Int) (d:Nat):hs (x :: xs) d=hs (xs++[x]) d:=(hs_snoc x xs d).symm
theorem hs_both (x y:Int) (xs:List Int) (d:Nat):(y - x) * hs (x :: (xs++[y])) d=hs (xs++[y]) (d+1) - hs (x :: xs) (d+1):=by
 have e1:hs (x :: (xs++[y])) d=hx x (hx y (hs xs)) d:=hx_congr (hs_snoc y xs) d
 have e2:hs (xs++[y]) (d+1)=y * hx y (hs xs) d+hs xs (d+1):=hs_snoc y xs (d+1)
 have e3:hs (x :: xs) (d+1)=x * hx x (hs xs) d+hs xs (d+1):=rfl
 have l:=hx_gap x y (hs xs) d
 rw [e1,e2,e3]
 generalize hx x (hx y (hs xs)) d=A at l ⊢
 grind
def dd (f xs:List Int):Int:=sumN f.length fun j=>co f (j+(xs.length - 1)) * hs xs j
theorem sumN_last (n:Nat) (f:Nat->Int):sumN (n+1) f=sumN n f+f n:=by
 induction n generalizing f with
 | zero=>simp [sumN]
 | succ n ih=>
  rw [sumN_first (n+1),ih fun j=>f (j+1),sumN_first n]
  omega
theorem dd_gap (f xs:List Int) (x y:Int):(y - x) * dd f (x :: (xs++[y]))=dd f (xs++[y]) - dd f (x :: xs):=by
 unfold dd
 have l1:(x :: (xs++[y])).length - 1=xs.length+1:=by simp
 have l2:(xs++[y]).length - 1=xs.length:=by simp
 have l3:(x :: xs).length - 1=xs.length:=by simp
 rw [l1,l2,l3,← sumN_mulc]
 cases hn:f.length with
 | zero=>simp [sumN]
 | succ n=>
  have e:∀j,(y - x) * (co f (j+(xs.length+1)) * hs (x :: (xs++[y])) j)=co f (j+1+xs.length) * hs (xs++[y]) (j+1)+(-1) * (co f (j+1+xs.length) * hs (x :: xs) (j+1)):=fun j=>by
   have h:=hs_both x y xs j
   rw [show j+(xs.length+1)=j+1+xs.length by omega]
   generalize hs (x :: (xs++[y])) j=A at h ⊢
   generalize co f (j+1+xs.length)=c
   have:(y - x) * (c * A)=c * ((y - x) * A):=by grind
   rw [this,h];grind
  have top:co f (n+(xs.length+1))=0:=co_ge (by omega)
  rw [sumN_last,top,Int.zero_mul,Int.mul_zero,Int.add_zero,sumN_congr fun j _=>e j,sumN_add,sumN_mulc,sumN_first n fun j=>co f (j+xs.length) * hs (xs++[y]) j,sumN_first n fun j=>co f (j+xs.length) * hs (x :: xs) j,hs_zero,hs_zero]
  omega
theorem dd_turn (f xs:List Int) (x:Int):dd f (x :: xs)=dd f (xs++[x]):=by
 unfold dd
 rw [show (x :: xs).length=(xs++[x]).length by simp]
 exact sumN_congr fun j _=>by rw [hs_turn]
theorem dd_far {f xs:List Int} (h:f.length < xs.length):dd f xs=0:=by
 unfold dd
 exact sumN_zero fun j _=>by rw [co_ge (by omega),Int.zero_mul]
theorem hs_one (x:Int):∀d,hs [x] d=x ^ d
 | 0=>by rw [Int.pow_zero];rfl
 | d+1=>by
  show x * hs [x] d+(if d+1=0 then 1 else 0)=x ^ (d+1)
  rw [hs_one x d,if_neg (by omega),Int.pow_succ,Int.add_zero,Int.mul_comm]
theorem val_sum (n:Int):∀f:List Int,val n f=sumN f.length fun j=>co f j * n ^ j
 | []=>rfl
 | a :: f=>by
  show val n (a :: f)=sumN (f.length+1) fun j=>co (a :: f) j * n ^ j
  rw [sumN_first]
  have e:∀j,co (a :: f) (j+1) * n ^ (j+1)=n * (co f j * n ^ j):=fun j=>by
   rw [show co (a :: f) (j+1)=co f j from rfl,Int.pow_succ];grind
  rw [sumN_congr fun j _=>e j,sumN_mulc,← val_sum n f]
  show _=a * n ^ 0+n * val n f
  simp [val]
theorem dd_one (f:List Int) (x:Int):dd f [x]=val x f:=by
 rw [val_sum]
 unfold dd
 exact sumN_congr fun j _=>by rw [hs_one];rfl
theorem dd_move (f xs:List Int) (x n:Int):dd f (x :: (xs++[n]))=dd f ((xs++[x])++[n]):=by
 unfold dd
 rw [show (x :: (xs++[n])).length=((xs++[x])++[n]).length by simp]
 refine sumN_congr fun j _=>?_
 congr 1
 show hx x (hs (xs++[n])) j=_
 rw [hs_snoc n (xs++[x]),hx_congr (hs_snoc n xs),hx_comm,hx_congr (hs_snoc x xs)]
theorem dd_step (f xs:List Int) (x n:Int):dd f (xs++[n])=dd f (xs++[x])+(n - x) * dd f ((xs++[x])++[n]):=by
 have h:=dd_gap f xs x n
 rw [dd_turn f xs x,dd_move] at h
 omega
theorem dd_round {f xs:List Int} {x y:Int} (h:y≠x):(dd f (xs++[y]) - dd f (x :: xs)).fdiv (y - x)=dd f (x :: (xs++[y])):=by
 rw [← dd_gap]
 exact Int.mul_fdiv_cancel_left _ (by omega)
def run (ps:List Int) (a n:Nat):List Int:=(ps.drop a).take n
theorem run_cons {ps:List Int} {a:Nat} (h:a < ps.length) (n:Nat):run ps a (n+1)=ps[a] :: run ps (a+1) n:=by
 unfold run;rw [List.drop_eq_getElem_cons h,List.take_succ_cons]
theorem run_snoc {ps:List Int} {a n:Nat} (h:a+n < ps.length):run ps a (n+1)=run ps a n++[ps[a+n]]:=by
 unfold run;rw [List.take_succ,List.getElem?_drop,List.getElem?_eq_getElem h];rfl
theorem run_two {ps:List Int} {a g:Nat} (h:a+g+1 < ps.length):run ps a (g+2)=ps[a] :: (run ps (a+1) g++[ps[a+g+1]])∧run ps (a+1) (g+1)=run ps (a+1) g++[ps[a+g+1]]∧run ps a (g+1)=ps[a] :: run ps (a+1) g:=by
 have e:run ps (a+1) (g+1)=run ps (a+1) g++[ps[a+g+1]]:=by
  rw [run_snoc (by omega)]
  simp only [show a+1+g=a+g+1 by omega]
 exact⟨by rw [run_cons (by omega),e],e,run_cons (by omega) g⟩
theorem dd_run (f:List Int) {ps:List Int} {a g:Nat} (h:a+g+1 < ps.length) (hne:ps[a+g+1]≠ps[a]):(dd f (run ps (a+1) (g+1)) - dd f (run ps a (g+1))).fdiv (ps[a+g+1] - ps[a])=dd f (run ps a (g+2)):=by
 obtain⟨e1,e2,e3⟩:=run_two h
 rw [e1,e2,e3]
 exact dd_round hne
theorem dd_le (f:List Int) {ps:List Int} (hd:∀i j (hi:i < ps.length) (hj:j < ps.length),i≠j->ps[i]≠ps[j]) {B:Nat} (hb:∀i (h:i < ps.length),(val ps[i] f).natAbs<=B):∀(n a:Nat),a+n < ps.length->(dd f (run ps a (n+1))).natAbs<=2 ^ n * B
 | 0,a,h=>by
  rw [run_snoc h]
  show (dd f ([]++[ps[a+0]])).natAbs<=_
  rw [List.nil_append,dd_one]
  simpa using hb a (by omega)
 | n+1,a,h=>by
  have i1:=dd_le f hd hb n a (by omega)
  have i2:=dd_le f hd hb n (a+1) (by omega)
  obtain⟨e1,e2,e3⟩:=run_two (ps:=ps) (a:=a) (g:=n) (by omega)
  have g:=dd_gap f (run ps (a+1) n) ps[a] ps[a+n+1]
  rw [← e1,← e2,← e3] at g
  have ne:=hd (a+n+1) a (by omega) (by omega) (by omega)
  have hm:(dd f (run ps a (n+2))).natAbs<=((ps[a+n+1] - ps[a]) * dd f (run ps a (n+2))).natAbs:=by
   rw [Int.natAbs_mul]
   exact Nat.le_mul_of_pos_left _ (by omega)
  rw [g] at hm
  have:2 ^ (n+1) * B=2 ^ n * B+2 ^ n * B:=by rw [Nat.pow_succ];grind
  show (dd f (run ps a (n+2))).natAbs<=_
  omega
def rnd (f ps:List Int) (g i:Nat):Int:=if i < g then dd f (run ps 0 (i+1)) else dd f (run ps (i - g) (g+1))
def mxR (f ps:List Int) (g c i:Nat):Int:=if c<=i then rnd f ps (g+1) i else rnd f ps g i
theorem rnd_low {f ps:List Int} {g i:Nat} (h:i<=g):rnd f ps (g+1) i=rnd f ps g i:=by
 unfold rnd
 rw [if_pos (by omega)]
 by_cases z:i < g
 ·rw [if_pos z]
 ·rw [if_neg z,show i - g=0 by omega,show i=g by omega]
theorem rnd_zero {f ps:List Int} {i:Nat} (h:i < ps.length):rnd f ps 0 i=val ps[i] f:=by
 unfold rnd
 rw [if_neg (by omega),Nat.sub_zero,run_snoc (show i+0 < ps.length from h)]
 show dd f ([]++[ps[i]])=_
 rw [List.nil_append,dd_one]
theorem rnd_top {f ps:List Int} {g i:Nat} (h:i<=g):rnd f ps g i=dd f (run ps 0 (i+1)):=by
 unfold rnd
 by_cases z:i < g
 ·rw [if_pos z]
 ·rw [if_neg z,show i - g=0 by omega,show i=g by omega]
theorem rnd_step {f ps:List Int} {g i:Nat} (hg:g+1<=i) (hi:i < ps.length) (hne:ps[i]≠ps[i - (g+1)]):(rnd f ps g i - rnd f ps g (i - 1)).fdiv (ps[i] - ps[i - (g+1)])=rnd f ps (g+1) i:=by
 obtain⟨a,rfl⟩:∃a,i=a+g+1:=⟨i - (g+1),by omega⟩
 have e0:a+g+1 - (g+1)=a:=by omega
 have e1:a+g+1 - g=a+1:=by omega
 have e2:a+g+1 - 1 - g=a:=by omega
 unfold rnd
 rw [if_neg (by omega),if_neg (by omega),if_neg (by omega),e1,e2]
 simp only [e0] at hne ⊢
 exact dd_run f hi hne
end My
namespace My
open PySem PySem.Spec PyProof.Rows L2
seal L2.PE L2.PS L2.PSs L2.PA
local macro_rules | `(tactic| k_units)=>`(tactic| ((try dsimp only [a_glst2,a_setDef,a_dnewK,a_sfldAug,a_rAdd,a_fld,a_sfld,a_meth,a_make,a_dget2,a_dget,a_dnot,a_dput,a_dnew,a_disp,a_pnil,a_pcons,a_items,a_keys,a_tComp2If,a_maxD,a_inS,a_ipC,a_izip,a_tComp2,a_izip3,a_tComp3,a_make0,a_eqS,a_ext,a_tryAs,a_drop_nx,a_raise,a_try,a_compIf,a_seq,a_next,a_brk,a_cnt,a_drop,a_ret,a_retN,a_if,a_asg,a_gname,a_gsub,a_gtup,a_gnil,a_gcons,a_aug,a_augS,a_ipI,a_var,a_c,a_op,a_un,a_rI,a_rI0,a_rU,a_eqI,a_neI,a_eqB,a_neB,a_tB,a_test,a_and,a_or,a_not,a_andV,a_orV,a_notV,a_ifE,a_chain,a_nil,a_cons,a_lst,a_tup,a_call,a_cb,a_bm0,a_bm,a_sl,a_nopart,a_part,a_tyI,a_for,a_comp,a_ilist,a_itup,a_irng1,a_irng2,a_irng3,a_cxK,a_irev,a_ienum,a_cat,a_rep,a_pop,a_clear,a_rslL,a_ixL,a_ixT,a_setL,a_app]);(try simp only [a_glst2,a_setDef,a_dnewK,a_sfldAug,a_rAdd,a_fld,a_sfld,a_meth,a_make,a_dget2,a_dget,a_dnot,a_dput,a_dnew,a_disp,a_pnil,a_pcons,a_items,a_keys,a_tComp2If,a_maxD,a_inS,a_ipC,a_izip,a_tComp2,a_izip3,a_tComp3,a_make0,a_eqS,V.str.injEq,a_ext,a_tryAs,a_drop_nx,a_raise,a_try,a_compIf,a_seq,a_next,a_brk,a_cnt,a_drop,a_ret,a_retN,a_if,a_asg,a_gname,a_gsub,a_gtup,a_gnil,a_gcons,a_aug,a_augS,a_ipI,a_var,a_c,a_op,a_un,a_rI,a_rI0,a_rU,a_eqI,a_neI,a_eqB,a_neB,a_tB,a_test,a_and,a_or,a_not,a_andV,a_orV,a_notV,a_ifE,a_chain,a_nil,a_cons,a_lst,a_tup,a_call,a_cb,a_bm0,a_bm,a_sl,a_nopart,a_part,a_tyI,a_for,a_comp,a_ilist,a_itup,a_irng1,a_irng2,a_irng3,a_cxK,and_assoc,a_irev,a_ienum,a_cat,a_rep,a_pop,a_clear,a_rslL,a_ixL,a_ixT,a_setL,a_app,List.getElem?_cons_zero,List.getElem?_cons_succ,List.set_cons_zero,List.set_cons_succ,Option.some.injEq,V.int.injEq,V.bl.injEq,V.ref.injEq,V.ty.injEq,exists_eq_left',exists_eq_left,exists_and_left,decide_eq_true_eq,List.cons_append,List.nil_append,List.append_nil,List.cons.injEq,and_true,true_and,Bool.not_eq_true',decide_eq_false_iff_not,ite_true,ite_false,Bool.false_eq_true,if_true,if_false,List.length_cons,List.length_nil,L2.start,List.map_cons,List.map_nil,List.replicate_succ,List.replicate_zero])))
local macro_rules | `(tactic| k_typeOf)=>`(tactic| ((try dsimp only [a_glst2,a_setDef,a_dnewK,a_sfldAug,a_rAdd,a_fld,a_sfld,a_meth,a_make,a_dget2,a_dget,a_dnot,a_dput,a_dnew,a_disp,a_pnil,a_pcons,a_items,a_keys,a_tComp2If,a_maxD,a_inS,a_ipC,a_izip,a_tComp2,a_izip3,a_tComp3,a_make0,a_eqS,a_ext,a_tryAs,a_drop_nx,a_raise,a_try,a_compIf,a_next,a_brk,a_cnt,a_drop,a_ret,a_retN,a_if,a_asg,a_gname,a_gsub,a_gtup,a_gnil,a_gcons,a_aug,a_augS,a_ipI,a_var,a_c,a_op,a_un,a_rI,a_rI0,a_rU,a_eqI,a_neI,a_eqB,a_neB,a_tB,a_test,a_and,a_or,a_not,a_andV,a_orV,a_notV,a_ifE,a_chain,a_nil,a_cons,a_lst,a_tup,a_call,a_cb,a_bm0,a_bm,a_sl,a_nopart,a_part,a_tyI,a_for,a_comp,a_ilist,a_itup,a_irng1,a_irng2,a_irng3,a_cxK,a_irev,a_ienum,a_cat,a_rep,a_pop,a_clear,a_rslL,a_ixL,a_ixT,a_setL,a_app]);(try simp only [a_glst2,a_setDef,a_dnewK,a_sfldAug,a_rAdd,a_fld,a_sfld,a_meth,a_make,a_dget2,a_dget,a_dnot,a_dput,a_dnew,a_disp,a_pnil,a_pcons,a_items,a_keys,a_tComp2If,a_maxD,a_inS,a_ipC,a_izip,a_tComp2,a_izip3,a_tComp3,a_make0,a_eqS,V.str.injEq,a_ext,a_tryAs,a_drop_nx,a_raise,a_try,a_compIf,a_next,a_brk,a_cnt,a_drop,a_ret,a_retN,a_if,a_asg,a_gname,a_gsub,a_gtup,a_gnil,a_gcons,a_aug,a_augS,a_ipI,a_var,a_c,a_op,a_un,a_rI,a_rI0,a_rU,a_eqI,a_neI,a_eqB,a_neB,a_tB,a_test,a_and,a_or,a_not,a_andV,a_orV,a_notV,a_ifE,a_chain,a_nil,a_cons,a_lst,a_tup,a_call,a_cb,a_bm0,a_bm,a_sl,a_nopart,a_part,a_tyI,a_for,a_comp,a_ilist,a_itup,a_irng1,a_irng2,a_irng3,a_cxK,and_assoc,a_irev,a_ienum,a_cat,a_rep,a_pop,a_clear,a_rslL,a_ixL,a_ixT,a_setL,a_app,List.getElem?_cons_zero,List.getElem?_cons_succ,List.set_cons_zero,List.set_cons_succ,Option.some.injEq,V.int.injEq,V.bl.injEq,V.ref.injEq,V.ty.injEq,exists_eq_left',exists_eq_left,exists_and_left,decide_eq_true_eq,List.cons_append,List.nil_append,List.append_nil,List.cons.injEq,and_true,true_and,Bool.not_eq_true',decide_eq_false_iff_not,ite_true,ite_false,Bool.false_eq_true,if_true,if_false,List.length_cons,List.length_nil,L2.start,List.map_cons,List.map_nil,List.replicate_succ,List.replicate_zero])))
local macro_rules | `(tactic| w_on)=>`(tactic| exact⟨rfl,rfl,rfl,by decide +kernel,rfl,by decide +kernel,by decide +kernel⟩)
theorem sc_trimmed:FnScope ["numbers","size"] ["numbers"] (defScope s_trimmed):=by w_on
theorem sc_poly_plus:FnScope ["one","other","answer","place","number"] ["one","other"] (defScope s_poly_plus):=by w_on
theorem sc_poly_times:FnScope ["one","other","answer","low","number","place","factor"] ["one","other"] (defScope s_poly_times):=by w_on
theorem sc_poly_value:FnScope ["poly","n","answer","number"] ["poly","n"] (defScope s_poly_value):=by w_on
theorem sc_quotient:FnScope ["one","other","rest","steps","answer","low","top","factor","place","number"] ["one","other"] (defScope s_quotient):=by w_on
theorem sc_divisor:FnScope ["one","other","big","small","pair","rest"] ["one","other"] (defScope s_divisor):=by w_on
theorem sc_content:FnScope ["poly","answer","number"] ["poly"] (defScope s_content):=by w_on
theorem sc_over:FnScope ["poly","number"] ["poly","number"] (defScope s_over):=by w_on
theorem sc_upright:FnScope ["poly"] ["poly"] (defScope s_upright):=by w_on
theorem sc_spread:FnScope ["number","base","answer","low"] ["number","base"] (defScope s_spread):=by w_on
theorem sc_greatest_size:FnScope ["poly"] ["poly"] (defScope s_greatest_size):=by w_on
theorem sc_bare_common:FnScope ["one","other","place","found"] ["one","other"] (defScope s_bare_common):=by w_on
theorem sc_common:FnScope ["one","other","first","second","shared"] ["one","other"] (defScope s_common):=by w_on
theorem sc_common_of:FnScope ["polys","answer","poly"] ["polys"] (defScope s_common_of):=by w_on
theorem sc_lowered:FnScope ["row","table","columns","before","base","column","pivot","factor"] ["row","table","columns"] (defScope s_lowered):=by w_on
theorem sc_through:FnScope ["places","values","steps","gap","place","answer"] ["places","values"] (defScope s_through):=by w_on
theorem sc_greatest_degree:FnScope ["polys"] ["polys"] (defScope s_greatest_degree):=by w_on
theorem sc_degree_bound:FnScope ["vectors","columns","by_vector","by_column"] ["vectors","columns"] (defScope s_degree_bound):=by w_on
theorem sc_cleared:FnScope ["polys","shared"] ["polys"] (defScope s_cleared):=by w_on
theorem sc_relation:FnScope ["vectors","span","vector","found"] ["vectors"] (defScope s_relation):=by w_on
theorem sc__law_cell_at:FnScope ["_law_script","_law_k"] ["_law_script","_law_k"] (defScope s__law_cell_at):=by w_on
theorem sc__law_cut:FnScope ["_law_numbers","_law_found"] ["_law_numbers"] (defScope s__law_cut):=by w_on
theorem sc__law_product:FnScope ["_law_one","_law_other","_law_found","_law_i","_law_j"] ["_law_one","_law_other"] (defScope s__law_product):=by w_on
theorem sc__law_sum:FnScope ["_law_one","_law_other","_law_found","_law_k"] ["_law_one","_law_other"] (defScope s__law_sum):=by w_on
theorem sc__law_divisor:FnScope ["_law_one","_law_other","_law_rest"] ["_law_one","_law_other"] (defScope s__law_divisor):=by w_on
theorem sc__law_pair:FnScope ["_law_script","_law_one","_law_other","_law_k","_law_cell","_law_step","_law_more","_law_scales"] ["_law_script"] (defScope s__law_pair):=by w_on
theorem sc__law_shared:FnScope ["_law_script","_law_found","_law_mixed","_law_k"] ["_law_script"] (defScope s__law_shared):=by w_on
theorem sc__law_line:FnScope ["_law_script","_law_found","_law_k","_law_cell","_law_poly"] ["_law_script"] (defScope s__law_line):=by w_on
theorem sc__law_due:FnScope ["_law_x","_law_y","_law_every","_law_number"] ["_law_x","_law_y"] (defScope s__law_due):=by w_on
theorem sc__law_is:FnScope ["_law_found","_law_due_here","_law_poly","_law_right","_law_k"] ["_law_found","_law_due_here"] (defScope s__law_is):=by w_on
theorem sc_law:FnScope ["_law_script","_law_x","_law_y","_law_shared_here","_law_line_here","_law_one","_law_other","_law_handed"] ["_law_script"] (defScope s_law):=by w_on
theorem sc_Span___init__:FnScope ["self","width"] ["self","width"] (defScope s_Span___init__):=by w_on
theorem sc_Span_row_at:FnScope ["self","vector","number","place","mark"] ["self","vector","number","place"] (defScope s_Span_row_at):=by w_on
theorem sc_Span_table_at:FnScope ["self","place","table","number","row"] ["self","place"] (defScope s_Span_table_at):=by w_on
theorem sc_Span_lowered_at:FnScope ["self","vector","place","table"] ["self","vector","place"] (defScope s_Span_lowered_at):=by w_on
theorem sc_Span_only_choice:FnScope ["self","vector","many","places","marks","place","row"] ["self","vector"] (defScope s_Span_only_choice):=by w_on
theorem sc_Span_failing_column:FnScope ["self","vector","weights","column","answer","other","weight"] ["self","vector","weights"] (defScope s_Span_failing_column):=by w_on
theorem sc_Span_keep:FnScope ["self","vector","column"] ["self","vector","column"] (defScope s_Span_keep):=by w_on
theorem sc_Span_by_few:FnScope ["self","vector","few","span","number","found","weights","weight"] ["self","vector","few"] (defScope s_Span_by_few):=by w_on
theorem sc_Span_take:FnScope ["self","vector","own","row","column","few","weights"] ["self","vector"] (defScope s_Span_take):=by w_on
set_option genInjectivity false in
set_option genSizeOf false in
structure Tx (K:PySem.W.Frag) (mg:Str->Option Value) where
 a_trimmed:Addr
 fd_trimmed:FuncData
 F_trimmed:Fun K "trimmed" "trimmed" s_trimmed a_trimmed fd_trimmed
 m_trimmed:mg "trimmed" = some (.ref a_trimmed)
 b_trimmed:Binds K fd_trimmed ["numbers"] []
 a_poly_plus:Addr
 fd_poly_plus:FuncData
 F_poly_plus:Fun K "poly_plus" "poly_plus" s_poly_plus a_poly_plus fd_poly_plus
 m_poly_plus:mg "poly_plus" = some (.ref a_poly_plus)
 b_poly_plus:Binds K fd_poly_plus ["one","other"] []
 a_poly_times:Addr
 fd_poly_times:FuncData
 F_poly_times:Fun K "poly_times" "poly_times" s_poly_times a_poly_times fd_poly_times
 m_poly_times:mg "poly_times" = some (.ref a_poly_times)
 b_poly_times:Binds K fd_poly_times ["one","other"] []
 a_poly_value:Addr
 fd_poly_value:FuncData
 F_poly_value:Fun K "poly_value" "poly_value" s_poly_value a_poly_value fd_poly_value
 m_poly_value:mg "poly_value" = some (.ref a_poly_value)
 b_poly_value:Binds K fd_poly_value ["poly","n"] []
 a_quotient:Addr
 fd_quotient:FuncData
 F_quotient:Fun K "quotient" "quotient" s_quotient a_quotient fd_quotient
 m_quotient:mg "quotient" = some (.ref a_quotient)
 b_quotient:Binds K fd_quotient ["one","other"] []
 a_divisor:Addr
 fd_divisor:FuncData
 F_divisor:Fun K "divisor" "divisor" s_divisor a_divisor fd_divisor
 m_divisor:mg "divisor" = some (.ref a_divisor)
 b_divisor:Binds K fd_divisor ["one","other"] []
 a_content:Addr
 fd_content:FuncData
 F_content:Fun K "content" "content" s_content a_content fd_content
 m_content:mg "content" = some (.ref a_content)
 b_content:Binds K fd_content ["poly"] []
 a_over:Addr
 fd_over:FuncData
 F_over:Fun K "over" "over" s_over a_over fd_over
 m_over:mg "over" = some (.ref a_over)
 b_over:Binds K fd_over ["poly","number"] []
 a_upright:Addr
 fd_upright:FuncData
 F_upright:Fun K "upright" "upright" s_upright a_upright fd_upright
 m_upright:mg "upright" = some (.ref a_upright)
 b_upright:Binds K fd_upright ["poly"] []
 a_spread:Addr
 fd_spread:FuncData
 F_spread:Fun K "spread" "spread" s_spread a_spread fd_spread
 m_spread:mg "spread" = some (.ref a_spread)
 b_spread:Binds K fd_spread ["number","base"] []
 a_greatest_size:Addr
 fd_greatest_size:FuncData
 F_greatest_size:Fun K "greatest_size" "greatest_size" s_greatest_size a_greatest_size fd_greatest_size
 m_greatest_size:mg "greatest_size" = some (.ref a_greatest_size)
 b_greatest_size:Binds K fd_greatest_size ["poly"] []
 a_bare_common:Addr
 fd_bare_common:FuncData
 F_bare_common:Fun K "bare_common" "bare_common" s_bare_common a_bare_common fd_bare_common
 m_bare_common:mg "bare_common" = some (.ref a_bare_common)
 b_bare_common:Binds K fd_bare_common ["one","other"] []
 a_common:Addr
 fd_common:FuncData
 F_common:Fun K "common" "common" s_common a_common fd_common
 m_common:mg "common" = some (.ref a_common)
 b_common:Binds K fd_common ["one","other"] []
 a_common_of:Addr
 fd_common_of:FuncData
 F_common_of:Fun K "common_of" "common_of" s_common_of a_common_of fd_common_of
 m_common_of:mg "common_of" = some (.ref a_common_of)
 b_common_of:Binds K fd_common_of ["polys"] []
 a_lowered:Addr
 fd_lowered:FuncData
 F_lowered:Fun K "lowered" "lowered" s_lowered a_lowered fd_lowered
 m_lowered:mg "lowered" = some (.ref a_lowered)
 b_lowered:Binds K fd_lowered ["row","table","columns"] []
 a_through:Addr
 fd_through:FuncData
 F_through:Fun K "through" "through" s_through a_through fd_through
 m_through:mg "through" = some (.ref a_through)
 b_through:Binds K fd_through ["places","values"] []
 a_greatest_degree:Addr
 fd_greatest_degree:FuncData
 F_greatest_degree:Fun K "greatest_degree" "greatest_degree" s_greatest_degree a_greatest_degree fd_greatest_degree
 m_greatest_degree:mg "greatest_degree" = some (.ref a_greatest_degree)
 b_greatest_degree:Binds K fd_greatest_degree ["polys"] []
 a_degree_bound:Addr
 fd_degree_bound:FuncData
 F_degree_bound:Fun K "degree_bound" "degree_bound" s_degree_bound a_degree_bound fd_degree_bound
 m_degree_bound:mg "degree_bound" = some (.ref a_degree_bound)
 b_degree_bound:Binds K fd_degree_bound ["vectors","columns"] []
 a_cleared:Addr
 fd_cleared:FuncData
 F_cleared:Fun K "cleared" "cleared" s_cleared a_cleared fd_cleared
 m_cleared:mg "cleared" = some (.ref a_cleared)
 b_cleared:Binds K fd_cleared ["polys"] []
 a_relation:Addr
 fd_relation:FuncData
 F_relation:Fun K "relation" "relation" s_relation a_relation fd_relation
 m_relation:mg "relation" = some (.ref a_relation)
 b_relation:Binds K fd_relation ["vectors"] []
 a__law_cell_at:Addr
 fd__law_cell_at:FuncData
 F__law_cell_at:Fun K "_law_cell_at" "_law_cell_at" s__law_cell_at a__law_cell_at fd__law_cell_at
 m__law_cell_at:mg "_law_cell_at" = some (.ref a__law_cell_at)
 b__law_cell_at:Binds K fd__law_cell_at ["_law_script","_law_k"] []
 a__law_cut:Addr
 fd__law_cut:FuncData
 F__law_cut:Fun K "_law_cut" "_law_cut" s__law_cut a__law_cut fd__law_cut
 m__law_cut:mg "_law_cut" = some (.ref a__law_cut)
 b__law_cut:Binds K fd__law_cut ["_law_numbers"] []
 a__law_product:Addr
 fd__law_product:FuncData
 F__law_product:Fun K "_law_product" "_law_product" s__law_product a__law_product fd__law_product
 m__law_product:mg "_law_product" = some (.ref a__law_product)
 b__law_product:Binds K fd__law_product ["_law_one","_law_other"] []
 a__law_sum:Addr
 fd__law_sum:FuncData
 F__law_sum:Fun K "_law_sum" "_law_sum" s__law_sum a__law_sum fd__law_sum
 m__law_sum:mg "_law_sum" = some (.ref a__law_sum)
 b__law_sum:Binds K fd__law_sum ["_law_one","_law_other"] []
 a__law_divisor:Addr
 fd__law_divisor:FuncData
 F__law_divisor:Fun K "_law_divisor" "_law_divisor" s__law_divisor a__law_divisor fd__law_divisor
 m__law_divisor:mg "_law_divisor" = some (.ref a__law_divisor)
 b__law_divisor:Binds K fd__law_divisor ["_law_one","_law_other"] []
 a__law_pair:Addr
 fd__law_pair:FuncData
 F__law_pair:Fun K "_law_pair" "_law_pair" s__law_pair a__law_pair fd__law_pair
 m__law_pair:mg "_law_pair" = some (.ref a__law_pair)
 b__law_pair:Binds K fd__law_pair ["_law_script"] []
 a__law_shared:Addr
 fd__law_shared:FuncData
 F__law_shared:Fun K "_law_shared" "_law_shared" s__law_shared a__law_shared fd__law_shared
 m__law_shared:mg "_law_shared" = some (.ref a__law_shared)
 b__law_shared:Binds K fd__law_shared ["_law_script"] []
 a__law_line:Addr
 fd__law_line:FuncData
 F__law_line:Fun K "_law_line" "_law_line" s__law_line a__law_line fd__law_line
 m__law_line:mg "_law_line" = some (.ref a__law_line)
 b__law_line:Binds K fd__law_line ["_law_script"] []
 a__law_due:Addr
 fd__law_due:FuncData
 F__law_due:Fun K "_law_due" "_law_due" s__law_due a__law_due fd__law_due
 m__law_due:mg "_law_due" = some (.ref a__law_due)
 b__law_due:Binds K fd__law_due ["_law_x","_law_y"] []
 a__law_is:Addr
 fd__law_is:FuncData
 F__law_is:Fun K "_law_is" "_law_is" s__law_is a__law_is fd__law_is
 m__law_is:mg "_law_is" = some (.ref a__law_is)
 b__law_is:Binds K fd__law_is ["_law_found","_law_due_here"] []
 a_law:Addr
 fd_law:FuncData
 F_law:Fun K "law" "law" s_law a_law fd_law
 m_law:mg "law" = some (.ref a_law)
 b_law:Binds K fd_law ["_law_script"] []
 a_Span___init__:Addr
 fd_Span___init__:FuncData
 F_Span___init__:Fun K "__init__" "Span.__init__" s_Span___init__ a_Span___init__ fd_Span___init__
 b_Span___init__:Binds K fd_Span___init__ ["self","width"] []
 a_Span_row_at:Addr
 fd_Span_row_at:FuncData
 F_Span_row_at:Fun K "row_at" "Span.row_at" s_Span_row_at a_Span_row_at fd_Span_row_at
 b_Span_row_at:Binds K fd_Span_row_at ["self","vector","number","place"] []
 a_Span_table_at:Addr
 fd_Span_table_at:FuncData
 F_Span_table_at:Fun K "table_at" "Span.table_at" s_Span_table_at a_Span_table_at fd_Span_table_at
 b_Span_table_at:Binds K fd_Span_table_at ["self","place"] []
 a_Span_lowered_at:Addr
 fd_Span_lowered_at:FuncData
 F_Span_lowered_at:Fun K "lowered_at" "Span.lowered_at" s_Span_lowered_at a_Span_lowered_at fd_Span_lowered_at
 b_Span_lowered_at:Binds K fd_Span_lowered_at ["self","vector","place"] []
 a_Span_only_choice:Addr
 fd_Span_only_choice:FuncData
 F_Span_only_choice:Fun K "only_choice" "Span.only_choice" s_Span_only_choice a_Span_only_choice fd_Span_only_choice
 b_Span_only_choice:Binds K fd_Span_only_choice ["self","vector"] []
 a_Span_failing_column:Addr
 fd_Span_failing_column:FuncData
 F_Span_failing_column:Fun K "failing_column" "Span.failing_column" s_Span_failing_column a_Span_failing_column fd_Span_failing_column
 b_Span_failing_column:Binds K fd_Span_failing_column ["self","vector","weights"] []
 a_Span_keep:Addr
 fd_Span_keep:FuncData
 F_Span_keep:Fun K "keep" "Span.keep" s_Span_keep a_Span_keep fd_Span_keep
 b_Span_keep:Binds K fd_Span_keep ["self","vector","column"] []
 a_Span_by_few:Addr
 fd_Span_by_few:FuncData
 F_Span_by_few:Fun K "by_few" "Span.by_few" s_Span_by_few a_Span_by_few fd_Span_by_few
 b_Span_by_few:Binds K fd_Span_by_few ["self","vector","few"] []
 a_Span_take:Addr
 fd_Span_take:FuncData
 F_Span_take:Fun K "take" "Span.take" s_Span_take a_Span_take fd_Span_take
 b_Span_take:Binds K fd_Span_take ["self","vector"] []
 c_NoNumber:Addr
 mc_NoNumber:mg "NoNumber" = some (.ref c_NoNumber)
 xc_NoNumber:PySem.W.excIn K c_NoNumber bmV "ValueError.__new__" = true
 c_Span:Addr
 mc_Span:mg "Span" = some (.ref c_Span)
 cl_Span:Cls K c_Span
 mk_Span:Mk K c_Span a_Span___init__
 me_Span_row_at:Meth K c_Span "row_at" a_Span_row_at
 me_Span_table_at:Meth K c_Span "table_at" a_Span_table_at
 me_Span_lowered_at:Meth K c_Span "lowered_at" a_Span_lowered_at
 me_Span_only_choice:Meth K c_Span "only_choice" a_Span_only_choice
 me_Span_failing_column:Meth K c_Span "failing_column" a_Span_failing_column
 me_Span_keep:Meth K c_Span "keep" a_Span_keep
 me_Span_by_few:Meth K c_Span "by_few" a_Span_by_few
 me_Span_take:Meth K c_Span "take" a_Span_take
 na_Span_columns:NoAttr K c_Span "columns"
 na_Span_kept:NoAttr K c_Span "kept"
 na_Span_place:NoAttr K c_Span "place"
 na_Span_tables:NoAttr K c_Span "tables"
 na_Span_width:NoAttr K c_Span "width"
 z_len:mg "len" = none
 z_list:mg "list" = none
 z_enumerate:mg "enumerate" = none
 z_reversed:mg "reversed" = none
 z_max:mg "max" = none
 z_range:mg "range" = none
 z_abs:mg "abs" = none
 z_min:mg "min" = none
 z_zip:mg "zip" = none
 z_sum:mg "sum" = none
 z_isinstance:mg "isinstance" = none
 z_bool:mg "bool" = none
 z_int:mg "int" = none
 g_LONG:{ t:Tok // mg "LONG" = some (.int 4000 t) }
 g_START:{ t:Tok // mg "START" = some (.int 97 t) }
def spTrim (K:PySem.W.Frag):Sp:=fun vs H Q _=>∃(a:Addr) (xs:List Int),vs=[.ref a]∧SqL K H a (xs.map V.int)∧xs.length<=1000∧newL H Q ((trim xs).map V.int)
theorem ok_trimmed {P:Program} {w:World} {K:PySem.W.Frag} {mg:Str->Option Value} {base:Heap} (T:Tx K mg):FnOk P w K mg base CX0 1 T.a_trimmed T.fd_trimmed ["numbers"] (spTrim K):=by
 refine T.F_trimmed.ok sc_trimmed (fun vs H Q E h=>?_) (fun cdv A outer s H vs Q E hr h=>?_)
 ·obtain⟨a,xs,rfl,_⟩:=h
  rfl
 obtain⟨a,xs,rfl,hS,hl,q⟩:=h
 refine⟨_,((pss_cons (ps_set (i:=1) sc_trimmed.nd rfl (Or.inl rfl) (pe_callB call_len_seq rfl T.z_len bt_len (pa_cons (pv 0) pa_nil)))
  (pss_cons (ps_while PassesOwn.never (PW.pt (pw_and (pt_cmpR op_gt (pv 1) pe_int (nomark _)) (pw_and1 (pt_cmpR op_eq (pe_ix ix_list (pv 0) (pe_op op_sub (pv 1) pe_int) (fun _ _=>rfl)) pe_int (nomark _))))) (pss_one (ps_aug (i:=1) sc_trimmed.nd rfl (Or.inl rfl) pe_int ip_sub)))
  (pss_one (ps_ret (pe_callTy call_list_of rfl T.z_list bt_list (pa_cons (pe_slice sl_list (pv 0) po_none (po_some (pv 1))) pa_nil))))))),?_⟩
 k_units
 refine⟨_,.inl hS,?_⟩
 rw [List.length_map]
 refine while_of (fun m σ H'=>m<=xs.length∧σ=[some (.ref a),some (.int (m:Int))]∧H'=H∧∀k,m<=k->co xs k=0) xs.length ⟨Nat.le_refl _,rfl,rfl,fun k hk=>co_ge hk⟩ ?_
 have fin:∀n:Nat,n<=xs.length->trim xs=xs.take n->∃x,SqL K H a x∧∀p,H p=none->∃x1,(SqL K (upd H p (.lst (cutV x none (some (n:Int))))) p x1∨SqT K (upd H p (.lst (cutV x none (some (n:Int))))) p x1)∧
   ∀l,upd H p (.lst (cutV x none (some (n:Int)))) l=none->Q (.ref l) (upd (upd H p (.lst (cutV x none (some (n:Int))))) l (.lst x1)):=by
  intro n hn e
  refine⟨_,hS,fun p hp=>⟨_,.inl (SqL.of upd_same),fun r hr'=>?_⟩⟩
  rw [cutV_map] at hr' ⊢
  have e2:((xs.drop (HT.sIx xs.length 0 none)).take (HT.sIx xs.length xs.length (some ((n:Nat):Int)) - HT.sIx xs.length 0 none))=trim xs:=by
   rw [HT.sIx_nat,HT.sIx_none,List.drop_zero,e,Nat.min_eq_left hn];rfl
  rw [e2] at hr' ⊢
  exact q r _ ((same_upd hp _).trans (same_upd hr' _)) ((same_upd hp _).free hr') upd_same
 rintro m σ H' ⟨hm,rfl,rfl,hz⟩
 cases m with
 | zero=>
  k_units
  rw [if_neg (by simp)]
  exact fin 0 (Nat.zero_le _) (trim_take (Nat.zero_le _) hz (.inl rfl))
 | succ m=>
  have e1:((m+1:Nat):Int) - 1=(m:Int):=by omega
  (iterate 3 (k_units;(try simp only [e1]));k_units)
  rw [if_pos (by omega)]
  refine⟨_,hS,_,at_int (by omega),?_⟩
  k_units
  refine ite2 (fun h=>?_) (fun h=>?_)
  ·refine⟨fun σ' H1=>σ'=[some (V.ref a),some (V.int (m:Int))]∧H1=H',?_,rfl,rfl⟩
   rintro σ' H1 ⟨rfl,rfl⟩
   refine⟨m,Nat.lt_succ_self _,by omega,rfl,rfl,fun k hk=>?_⟩
   by_cases e:k=m
   ·rw [e,co_lt (by omega)];exact h
   ·exact hz k (by omega)
  ·exact fin (m+1) hm (trim_take hm hz (.inr (by show co xs m≠0;rw [co_lt (by omega)];exact h)))
def spPoly (K:PySem.W.Frag) (f:List Int->List Int->List Int):Sp:=fun vs H Q _=>∃(a b:Addr) (xs ys:List Int),vs=[.ref a,.ref b]∧SqL K H a (xs.map V.int)∧SqL K H b (ys.map V.int)∧xs.length<=100∧ys.length<=100∧
 (∀x∈xs,Bd 60000 x)∧(∀y∈ys,Bd 60000 y)∧newL H Q ((f xs ys).map V.int)
theorem rep_zero (k:Nat):(List.replicate k [V.int 0]).flatten=(List.replicate k (0:Int)).map V.int:=by
 induction k with
 | zero=>rfl
 | succ k ih=>rw [List.replicate_succ,List.flatten_cons,ih,List.replicate_succ];rfl
theorem co_rep (k j:Nat):co (List.replicate k 0) j=0:=by
 unfold co
 rw [List.getD_eq_getElem?_getD,List.getElem?_replicate]
 split <;> rfl
theorem co_app (xs:List Int) (k j:Nat):co (xs++List.replicate k 0) j=co xs j:=by
 by_cases h:j < xs.length
 ·unfold co;rw [List.getD_eq_getElem?_getD,List.getD_eq_getElem?_getD,List.getElem?_append_left h]
 ·rw [co_ge (xs:=xs) (by omega)]
  unfold co
  rw [List.getD_eq_getElem?_getD,List.getElem?_append_right (by omega),List.getElem?_replicate]
  split <;> rfl
theorem ok_poly_plus {P:Program} {w:World} {K:PySem.W.Frag} {mg:Str->Option Value} {base:Heap} (T:Tx K mg):FnOk P w K mg base CX0 2 T.a_poly_plus T.fd_poly_plus ["one","other"] (spPoly K addL):=by
 refine T.F_poly_plus.ok sc_poly_plus (fun vs H Q E h=>?_) (fun cdv A outer s H vs Q E hr h=>?_)
 ·obtain⟨a,b,xs,ys,rfl,_⟩:=h
  rfl
 obtain⟨a,b,xs,ys,rfl,hA,hB,la,lb,_,_,q⟩:=h
 refine⟨_,((pss_cons (ps_set (i:=2) sc_poly_plus.nd rfl (Or.inl rfl) (pe_op op_cat (pe_callTy call_list_of rfl T.z_list bt_list (pa_cons (pv 0) pa_nil)) (pe_op op_rep (pe_lst (pa_cons pe_int pa_nil)) (pe_op op_sub (pe_callB call_len_seq rfl T.z_len bt_len (pa_cons (pv 1) pa_nil)) (pe_callB call_len_seq rfl T.z_len bt_len (pa_cons (pv 0) pa_nil))))))
  (pss_cons (ps_for PassesOwn.never rfl (pi_enum rfl T.z_enumerate (pa_cons (pv 1) pa_nil)) (pg_tup rfl (pgs_cons (pg_name (i:=3) sc_poly_plus.nd rfl (Or.inl rfl)) (pgs_cons (pg_name (i:=4) sc_poly_plus.nd rfl (Or.inl rfl)) pgs_nil))) (pss_one (ps_augS (pv 2) (pv 3) get_list (pv 4) ip_add set_list)))
  (pss_one (ps_ret (pe_call (FnOk.mono (ok_trimmed T) (by decide)) hr rfl T.m_trimmed T.F_trimmed.kp T.b_trimmed .nil pass0 (pa_cons (pv 2) pa_nil))))))),?_⟩
 k_units
 refine⟨_,.inl hA,fun l hl=>⟨by decide,fun p hp=>?_⟩⟩
 have s1:=same_upd hl (.lst (xs.map V.int))
 have s2:=same_upd hp (.lst [V.int 0])
 refine⟨_,.inl ((s1.trans s2).seq hB),_,.inl ((s1.trans s2).seq hA),_,upd_same,?_⟩
 rw [List.length_map,List.length_map,rep_zero]
 obtain⟨k,hk⟩:∃k:Nat,((ys.length:Int) - (xs.length:Int)).toNat=k:=⟨_,rfl⟩
 rw [hk]
 have k100:k<=100:=by omega
 refine⟨by omega,by omega,Nat.le_of_lt (small1000 (by simp;omega)),fun p1 hp1=>?_⟩
 have s3:=same_upd hp1 (.lst ((List.replicate k (0:Int)).map V.int))
 refine⟨_,s3 _ _ (s2 _ _ upd_same),_,upd_same,Nat.le_of_lt (small1000 (by simp;omega)),fun A0 hA0=>?_⟩
 rw [← List.map_append]
 have s4:=(s1.trans (s2.trans s3)).trans (same_upd hA0 (.lst ((xs++List.replicate k 0).map V.int)))
 have hn0:=(s1.trans (s2.trans s3)).free hA0
 have h4:upd (upd (upd (upd H l (.lst (xs.map V.int))) p (.lst [V.int 0])) p1 (.lst ((List.replicate k (0:Int)).map V.int))) A0 (.lst ((xs++List.replicate k 0).map V.int)) A0=_:=upd_same
 generalize upd (upd (upd (upd H l (.lst (xs.map V.int))) p (.lst [V.int 0])) p1 (.lst ((List.replicate k (0:Int)).map V.int))) A0 (.lst ((xs++List.replicate k 0).map V.int))=H4 at s4 h4 ⊢
 refine⟨_,s4.seq hB,?_⟩
 obtain⟨Pv,hPv⟩:∃Pv:Nat->L2.St->Hp->Prop,∀i σ H',Pv i σ H'↔∃(zs:List Int) (r1 r2:Option V),σ=[some (V.ref a),some (V.ref b),some (V.ref A0),r1,r2]∧H' A0=some (.lst (zs.map V.int))∧zs.length=xs.length+k∧
  (∀j,co zs j=co xs j+if j < i then co ys j else 0)∧Same H H':=⟨_,fun _ _ _=>Iff.rfl⟩
 refine lp_enum Pv ((hPv _ _ _).mpr ⟨_,none,none,rfl,h4,by simp,fun j=>by rw [co_app,if_neg (by omega)];omega,s4⟩) (fun i σ H' _ z=>by obtain⟨_,_,_,_,_,_,_,z5⟩:=(hPv i σ H').mp z;exact z5.seq hB) ?_ ?_
 ·intro i v pt σ H' hv hp' hpt
  obtain⟨zs,r1,r2,rfl,hz,lz,cz',sz⟩:=(hPv _ _ _).mp hp'
  have hi:i < ys.length:=by have:=(List.getElem?_eq_some_iff.mp hv).1;rw [List.length_map] at this;exact this
  rw [List.getElem?_map,List.getElem?_eq_getElem hi] at hv
  obtain rfl:V.int ys[i]=v:=Option.some.inj hv
  have s5:=same_upd hpt (.tup [V.int i,V.int ys[i]])
  k_units
  refine⟨_,SqT.of upd_same,rfl,?_⟩
  k_units
  have hiz:i < zs.length:=by omega
  have hz5:=s5 _ _ hz
  refine⟨_,SqL.of hz5,_,at_int hiz,_,rfl,_,hz5,i,ixN_nat (by rw [List.length_map];exact hiz),(hPv _ _ _).mpr ⟨zs.set i (zs[i]+ys[i]),_,_,rfl,by rw [upd_same,map_set],by rw [List.length_set];exact lz,fun j=>?_,(sz.trans s5).more hn0⟩⟩
  rw [co_set _ _ _ _ hiz]
  by_cases e:j=i
  ·subst e
   have:=cz' j
   rw [if_neg (by omega),co_lt hiz] at this
   rw [if_pos rfl,if_pos (by omega),co_lt hi];omega
  ·rw [if_neg e,cz' j]
   by_cases hj:j < i
   ·rw [if_pos hj,if_pos (by omega)]
   ·rw [if_neg hj,if_neg (by omega)]
 ·intro σ H' hp'
  obtain⟨zs,r1,r2,rfl,hz,lz,cz',sz⟩:=(hPv _ _ _).mp hp'
  rw [List.length_map] at cz'
  k_units
  refine⟨A0,zs,rfl,SqL.of hz,by omega,fun r H'' s'' hr'' h''=>?_⟩
  refine q r H'' (sz.trans s'') (sz.free hr'') ?_
  rw [h'',add_eq xs ys zs fun j=>by rw [cz' j];by_cases hj:j < ys.length;rw [if_pos hj];rw [if_neg hj,co_ge (xs:=ys) (by omega)]]
theorem mul_nilL (ys:List Int):mulL [] ys=[]:=trim_nilI.mpr fun k=>by
 rw [co_map];split <;> rfl
theorem mul_nilR (xs:List Int):mulL xs []=[]:=trim_nilI.mpr fun k=>by
 rw [co_map]
 split
 ·exact sumN_zero fun j _=>by unfold cz;split <;> simp [co_nil]
 ·rfl
theorem ok_poly_times {P:Program} {w:World} {K:PySem.W.Frag} {mg:Str->Option Value} {base:Heap} (T:Tx K mg):FnOk P w K mg base CX0 2 T.a_poly_times T.fd_poly_times ["one","other"] (spPoly K mulL):=by
 refine T.F_poly_times.ok sc_poly_times (fun vs H Q E h=>?_) (fun cdv A outer s H vs Q E hr h=>?_)
 ·obtain⟨a,b,xs,ys,rfl,_⟩:=h
  rfl
 obtain⟨a,b,xs,ys,rfl,hA,hB,la,lb,ba,bb,q⟩:=h
 refine⟨_,((pss_cons (ps_if (PW.pt (pw_or (pt_cmpR op_eq (pe_callB call_len_seq rfl T.z_len bt_len (pa_cons (pv 0) pa_nil)) pe_int (nomark _)) (pw_or1 (pt_cmpR op_eq (pe_callB call_len_seq rfl T.z_len bt_len (pa_cons (pv 1) pa_nil)) pe_int (nomark _))))) (pss_one (ps_ret (pe_lst pa_nil))) pss_nil)
  (pss_cons (ps_set (i:=2) sc_poly_times.nd rfl (Or.inl rfl) (pe_op op_rep (pe_lst (pa_cons pe_int pa_nil)) (pe_op op_sub (pe_op op_add (pe_callB call_len_seq rfl T.z_len bt_len (pa_cons (pv 0) pa_nil)) (pe_callB call_len_seq rfl T.z_len bt_len (pa_cons (pv 1) pa_nil))) pe_int)))
  (pss_cons (ps_for PassesOwn.never rfl (pi_enum rfl T.z_enumerate (pa_cons (pv 0) pa_nil)) (pg_tup rfl (pgs_cons (pg_name (i:=3) sc_poly_times.nd rfl (Or.inl rfl)) (pgs_cons (pg_name (i:=4) sc_poly_times.nd rfl (Or.inl rfl)) pgs_nil))) (pss_one (ps_for PassesOwn.never rfl (pi_enum rfl T.z_enumerate (pa_cons (pv 1) pa_nil)) (pg_tup rfl (pgs_cons (pg_name (i:=5) sc_poly_times.nd rfl (Or.inl rfl)) (pgs_cons (pg_name (i:=6) sc_poly_times.nd rfl (Or.inl rfl)) pgs_nil))) (pss_one (ps_augS (pv 2) (pe_op op_add (pv 3) (pv 5)) get_list (pe_op op_mulZ (pv 4) (pv 6)) ip_add set_list)))))
  (pss_one (ps_ret (pe_call (FnOk.mono (ok_trimmed T) (by decide)) hr rfl T.m_trimmed T.F_trimmed.kp T.b_trimmed .nil pass0 (pa_cons (pv 2) pa_nil)))))))),?_⟩
 k_units
 refine⟨_,.inl hA,?_⟩
 rw [List.length_map]
 have nil:mulL xs ys=[]->0<=sizeLine∧∀(p:Addr),H p=none->Q (V.ref p) (upd H p (HO.lst [])):=fun e=>⟨Nat.zero_le _,fun p hp=>q p _ (same_upd hp _) hp (by rw [upd_same,e];rfl)⟩
 refine ite2 (fun h=>nil ?_) (fun h=>⟨_,.inl hB,?_⟩)
 ·rw [List.eq_nil_of_length_eq_zero (show xs.length=0 by omega)];exact mul_nilL ys
 rw [List.length_map]
 refine ite2 (fun h2=>nil ?_) (fun h2=>?_)
 ·rw [List.eq_nil_of_length_eq_zero (show ys.length=0 by omega)];exact mul_nilR xs
 refine⟨by decide,fun p hp=>?_⟩
 have s1:=same_upd hp (.lst [V.int 0])
 refine⟨_,.inl (s1.seq hA),_,.inl (s1.seq hB),_,upd_same,?_⟩
 rw [List.length_map,List.length_map,rep_zero]
 obtain⟨k,hk⟩:∃k:Nat,((xs.length:Int)+(ys.length:Int) - 1).toNat=k:=⟨_,rfl⟩
 rw [hk]
 refine⟨by omega,by omega,Nat.le_of_lt (small1000 (by simp;omega)),fun A0 hA0=>?_⟩
 have s4:=s1.trans (same_upd hA0 (.lst ((List.replicate k (0:Int)).map V.int)))
 have hn0:=s1.free hA0
 have h4:upd (upd H p (.lst [V.int 0])) A0 (.lst ((List.replicate k (0:Int)).map V.int)) A0=_:=upd_same
 generalize upd (upd H p (.lst [V.int 0])) A0 (.lst ((List.replicate k (0:Int)).map V.int))=H4 at s4 h4 ⊢
 refine⟨_,s4.seq hA,?_⟩
 obtain⟨Pv,hPv⟩:∃Pv:Nat->L2.St->Hp->Prop,∀l σ H',Pv l σ H'↔∃(zs:List Int) (r1 r2 r3 r4:Option V),σ=[some (V.ref a),some (V.ref b),some (V.ref A0),r1,r2,r3,r4]∧H' A0=some (.lst (zs.map V.int))∧zs.length=k∧
  (∀j,co zs j=if j+1 < xs.length+ys.length then cv xs ys l j else 0)∧Same H H':=⟨_,fun _ _ _=>Iff.rfl⟩
 refine lp_enum Pv ((hPv _ _ _).mpr ⟨_,none,none,none,none,rfl,h4,by simp,fun j=>by rw [co_rep];split <;> rfl,s4⟩) (fun i σ H' _ z=>by obtain⟨_,_,_,_,_,_,_,_,_,z5⟩:=(hPv i σ H').mp z;exact z5.seq hA) ?_ ?_
 ·intro l v pt σ H' hv hp' hpt
  obtain⟨zs,r1,r2,r3,r4,rfl,hz,lz,cz',sz⟩:=(hPv _ _ _).mp hp'
  have hi:l < xs.length:=by have:=(List.getElem?_eq_some_iff.mp hv).1;rw [List.length_map] at this;exact this
  rw [List.getElem?_map,List.getElem?_eq_getElem hi] at hv
  obtain rfl:V.int xs[l]=v:=Option.some.inj hv
  have s5:=same_upd hpt (.tup [V.int l,V.int xs[l]])
  k_units
  refine⟨_,SqT.of upd_same,rfl,?_⟩
  k_units
  have s6:=sz.trans s5
  have hz5:=s5 _ _ hz
  generalize upd H' pt (.tup [V.int l,V.int xs[l]])=H5 at s6 hz5 ⊢
  refine⟨_,s6.seq hB,?_⟩
  obtain⟨Pw,hPw⟩:∃Pw:Nat->L2.St->Hp->Prop,∀j σ H',Pw j σ H'↔∃(zs:List Int) (r3 r4:Option V),σ=[some (V.ref a),some (V.ref b),some (V.ref A0),some (V.int l),some (V.int xs[l]),r3,r4]∧H' A0=some (.lst (zs.map V.int))∧zs.length=k∧
   (∀t,co zs t=(if t+1 < xs.length+ys.length then cv xs ys l t else 0)+if l<=t∧t < l+j then xs[l] * co ys (t - l) else 0)∧Same H H':=⟨_,fun _ _ _=>Iff.rfl⟩
  refine lp_enum Pw ((hPw _ _ _).mpr ⟨zs,_,_,rfl,hz5,lz,fun t=>by rw [cz' t,if_neg (show ¬(l<=t∧t < l+0) by omega)];omega,s6⟩) (fun i σ H' _ z=>by obtain⟨_,_,_,_,_,_,_,z5⟩:=(hPw i σ H').mp z;exact z5.seq hB) ?_ ?_
  ·intro j v pt σ H' hv hp' hpt
   obtain⟨zs,r3,r4,rfl,hz,lz,cz',sz⟩:=(hPw _ _ _).mp hp'
   have hj:j < ys.length:=by have:=(List.getElem?_eq_some_iff.mp hv).1;rw [List.length_map] at this;exact this
   rw [List.getElem?_map,List.getElem?_eq_getElem hj] at hv
   obtain rfl:V.int ys[j]=v:=Option.some.inj hv
   have s5:=same_upd hpt (.tup [V.int j,V.int ys[j]])
   k_units
   refine⟨_,SqT.of upd_same,rfl,?_⟩
   have eij:(l:Int)+(j:Int)=((l+j:Nat):Int):=rfl
   (iterate 3 (k_units;(try simp only [eij]));k_units)
   have hiz:l+j < zs.length:=by omega
   have hz5:=s5 _ _ hz
   refine⟨_,SqL.of hz5,_,at_int hiz,(ba _ (List.getElem_mem hi)).fits (bb _ (List.getElem_mem hj)) (by decide),_,rfl,_,hz5,l+j,ixN_nat (by rw [List.length_map];exact hiz),(hPw _ _ _).mpr ⟨zs.set (l+j) (zs[l+j]+xs[l] * ys[j]),_,_,rfl,by rw [upd_same,map_set],by rw [List.length_set];exact lz,fun t=>?_,(sz.trans s5).more hn0⟩⟩
   rw [co_set _ _ _ _ hiz]
   by_cases e:t=l+j
   ·subst e
    have:=cz' (l+j)
    rw [if_neg (show ¬(l<=l+j∧l+j < l+j) by omega),co_lt hiz] at this
    rw [if_pos (show l+j=l+j from rfl),if_pos (show l<=l+j∧l+j < l+(j+1) by omega),show l+j - l=j by omega,co_lt hj];omega
   ·rw [if_neg e,cz' t]
    by_cases h3:l<=t∧t < l+j
    ·rw [if_pos h3,if_pos (show l<=t∧t < l+(j+1) by omega)]
    ·rw [if_neg h3,if_neg (show ¬(l<=t∧t < l+(j+1)) by omega)]
  ·intro σ H' hp'
   obtain⟨zs,r3,r4,rfl,hz,lz,cz',sz⟩:=(hPw _ _ _).mp hp'
   rw [List.length_map] at cz'
   refine (hPv _ _ _).mpr ⟨zs,_,_,_,_,rfl,hz,lz,fun t=>?_,sz⟩
   rw [cz' t]
   have e:cv xs ys (l+1) t=cv xs ys l t+co xs l * cz ys t l:=rfl
   rw [e,co_lt hi]
   unfold cz
   by_cases h1:t+1 < xs.length+ys.length
   ·rw [if_pos h1,if_pos h1]
    by_cases h2:l<=t
    ·rw [if_pos h2]
     by_cases h3:t < l+ys.length
     ·rw [if_pos ⟨h2,h3⟩]
     ·rw [if_neg (by omega),co_ge (xs:=ys) (by omega),Int.mul_zero]
    ·rw [if_neg (by omega),if_neg h2,Int.mul_zero]
   ·rw [if_neg h1,if_neg h1,if_neg (by omega)];rfl
 ·intro σ H' hp'
  obtain⟨zs,r1,r2,r3,r4,rfl,hz,lz,cz',sz⟩:=(hPv _ _ _).mp hp'
  rw [List.length_map] at cz'
  k_units
  refine⟨A0,zs,rfl,SqL.of hz,by omega,fun r H'' s'' hr'' h''=>q r H'' (sz.trans s'') (sz.free hr'') ?_⟩
  rw [h'',mul_eq xs ys zs cz']
theorem co_in {xs:List Int} {P:Int->Prop} (h:∀x∈xs,P x) (h0:P 0) (j:Nat):P (co xs j):=by
 by_cases z:j < xs.length
 ·rw [co_lt z];exact h _ (List.getElem_mem z)
 ·rw [co_ge (by omega)];exact h0
theorem in_co {xs:List Int} {P:Int->Prop} (h:∀j,P (co xs j)):∀x∈xs,P x:=fun x hx=>by
 obtain⟨k,hk,rfl⟩:=List.mem_iff_getElem.mp hx
 rw [← co_lt hk];exact h k
theorem nml_of_last {xs:List Int} (h:xs=[]∨co xs (xs.length - 1)≠0):Nml xs:=by
 refine nml_last.mpr fun x hx=>?_
 rcases h with rfl | h
 ·simp at hx
 ·have hl:xs.length≠0:=by intro z;rw [List.eq_nil_of_length_eq_zero z] at hx;simp at hx
  rw [co_lt (by omega)] at h
  rw [List.getLast?_eq_getElem?,List.getElem?_eq_getElem (by omega)] at hx
  rw [← Option.some.inj hx];exact h
theorem nml_one1 (xs:List Int):Nml (xs++[1]):=nml_last.mpr fun x hx=>by rw [List.getLast?_concat] at hx;rw [← Option.some.inj hx];decide
theorem nml_c {c:Int} (h:c≠0):Nml [c]:=nml_last.mpr fun x hx=>by simp at hx;omega
theorem mulP_le {M N:Nat} {ys:List Int} (hy:∀y∈ys,y.natAbs<=N):∀xs:List Int,(∀x∈xs,x.natAbs<=M)->∀j,(co (mulP xs ys) j).natAbs<=xs.length * (M * N)
 | [],_,j=>by simp [mulP,co_nil]
 | x :: xs,h,j=>by
  have cm:co (ys.map fun z=>x * z) j=x * co ys j:=by
   by_cases h:j < ys.length
   ·rw [co_lt (by rw [List.length_map];exact h),co_lt h,List.getElem_map]
   ·rw [co_ge (by rw [List.length_map];omega),co_ge (xs:=ys) (by omega)];simp
  have h1:(x * co ys j).natAbs<=M * N:=by
   rw [Int.natAbs_mul]
   refine Nat.mul_le_mul (h x (by simp)) ?_
   by_cases z:j < ys.length
   ·rw [co_lt z];exact hy _ (List.getElem_mem z)
   ·rw [co_ge (by omega)];exact Nat.zero_le _
  have h2:(co (0 :: mulP xs ys) j).natAbs<=xs.length * (M * N):=by
   rw [co_cons]
   split
   ·exact Nat.zero_le _
   ·exact mulP_le hy xs (fun y hy=>h y (by simp [hy])) _
  have e:co (mulP (x :: xs) ys) j=x * co ys j+co (0 :: mulP xs ys) j:=by rw [mulP,co_addP,cm]
  rw [e,List.length_cons,Nat.add_mul,Nat.one_mul]
  have:=Int.natAbs_add_le (x * co ys j) (co (0 :: mulP xs ys) j)
  omega
theorem pm_bd {xs ys:List Int} {k l c:Nat} (hx:∀x∈xs,Bd k x) (hy:∀y∈ys,Bd l y) (hl:xs.length<=2 ^ c) (j:Nat):Bd (k+l+c) (pm (co xs) (co ys) j):=by
 rw [← co_mulP]
 have h1:=mulP_le (M:=2 ^ k - 1) (N:=2 ^ l - 1) (ys:=ys) (fun y h=>by have:y.natAbs < 2 ^ l:=hy y h;omega) xs (fun x h=>by have:x.natAbs < 2 ^ k:=hx x h;omega) j
 have p1:=Nat.two_pow_pos k
 have p2:=Nat.two_pow_pos l
 have p3:=Nat.two_pow_pos c
 have h2:(2 ^ k - 1) * (2 ^ l - 1) < 2 ^ k * 2 ^ l:=by
  refine Nat.lt_of_le_of_lt (Nat.mul_le_mul_left _ (Nat.sub_le _ 1)) ?_
  exact Nat.mul_lt_mul_of_pos_right (by omega) p2
 show (co (mulP xs ys) j).natAbs < 2 ^ (k+l+c)
 rw [Nat.pow_add,Nat.pow_add]
 refine Nat.lt_of_le_of_lt h1 ?_
 refine Nat.lt_of_le_of_lt (Nat.mul_le_mul_right _ hl) ?_
 rw [Nat.mul_comm (2 ^ k * 2 ^ l)]
 exact Nat.mul_lt_mul_of_pos_left h2 p3
theorem prod_len {xs ys ws:List Int} (nx:Nml xs) (ny:Nml ys) (nw:Nml ws) (h:∀j,co ws j=pm (co xs) (co ys) j):ws.length<=xs.length+ys.length - 1:=by
 by_cases x0:xs=[]
 ·rw [nml_zero nw fun k=>by rw [h k,x0];exact sumN_zero fun j _=>by rw [co_nil];simp];exact Nat.zero_le _
 by_cases w0:ws=[]
 ·rw [w0];exact Nat.zero_le _
 have:=(div_len nx x0 nw ny (one:=ws) (q:=ys) h w0).2
 omega
theorem sumN_ext {n m:Nat} {f:Nat->Int} (h:n<=m) (hz:∀j,n<=j->j < m->f j=0):sumN m f=sumN n f:=by
 induction m with
 | zero=>rw [show n=0 by omega]
 | succ m ih=>
  by_cases e:n=m+1
  ·rw [e]
  ·simp only [sumN]
   rw [ih (by omega) fun j h1 h2=>hz j h1 (by omega),hz m (by omega) (by omega)];omega
theorem pm_cv (xs ys:List Int) (k:Nat):pm (co xs) (co ys) k=cv xs ys xs.length k:=by
 have e1:pm (co xs) (co ys) k=sumN (k+1) fun j=>co xs j * cz ys k j:=by
  unfold pm
  exact sumN_congr fun j hj=>by unfold cz;rw [if_pos (by omega)]
 have e2:sumN (k+1+xs.length) (fun j=>co xs j * cz ys k j)=sumN (k+1) fun j=>co xs j * cz ys k j:=
  sumN_ext (by omega) fun j h1 _=>by unfold cz;rw [if_neg (by omega)];simp
 have e3:sumN (k+1+xs.length) (fun j=>co xs j * cz ys k j)=sumN xs.length fun j=>co xs j * cz ys k j:=
  sumN_ext (by omega) fun j h1 _=>by rw [co_ge h1];simp
 rw [e1,← e2,e3];rfl
theorem nml_val {xs ys:List Int} (hx:Nml xs) (hy:Nml ys) (h:∀n,val n xs=val n ys):xs=ys:=nml_ext hx hy fun k=>co_of_val h k
theorem co_mulL (xs ys:List Int) (k:Nat):co (mulL xs ys) k=pm (co xs) (co ys) k:=by
 unfold mulL
 rw [trim_co,co_map,pm_cv]
 split
 ·rfl
 ·rw [cv_big _ _ _ (by omega)]
theorem co_addL (xs ys:List Int) (k:Nat):co (addL xs ys) k=co xs k+co ys k:=by
 unfold addL
 rw [trim_co,co_map]
 split
 ·rfl
 ·rw [co_ge (xs:=xs) (by omega),co_ge (xs:=ys) (by omega)];rfl
theorem val_mulL (n:Int) (xs ys:List Int):val n (mulL xs ys)=val n xs * val n ys:=by
 rw [← val_mulP]
 exact val_of_co (fun k=>by rw [co_mulL,co_mulP]) n
theorem val_addL (n:Int) (xs ys:List Int):val n (addL xs ys)=val n xs+val n ys:=by
 rw [← val_addP]
 exact val_of_co (fun k=>by rw [co_addL,co_addP]) n
theorem nml_addL (xs ys:List Int):Nml (addL xs ys):=trim_nml _
theorem addL_len (xs ys:List Int):(addL xs ys).length<=max xs.length ys.length:=Nat.le_trans (trim_len _) (by simp)
theorem mulL_len (xs ys:List Int) (hy:ys≠[]):(mulL xs ys).length<=xs.length+ys.length - 1:=by
 have h:=List.length_pos_iff.mpr hy
 refine nml_len (trim_nml _) fun k hk=>?_
 show co (mulL xs ys) k=0
 rw [co_mulL,pm_cv,cv_big _ _ _ (by omega)]
def thrPs (ps f:List Int):Prop:=f.length<=ps.length∧Nml f∧ps.length<=60∧(∀i j (hi:i < ps.length) (hj:j < ps.length),i≠j->ps[i]≠ps[j])∧(∀p∈ps,Bd 40 p)∧∀p∈ps,Bd 10000 (val p f)
theorem set_range {m i:Nat} {g h:Nat->Int} (hi:i < m) (e:∀j,j < m->j≠i->h j=g j):((List.range m).map g).set i (h i)=(List.range m).map h:=by
 refine List.ext_getElem (by simp) fun j h1 h2=>?_
 have hj:j < m:=by simpa using h2
 rw [List.getElem_set,List.getElem_map,List.getElem_map,List.getElem_range]
 split
 ·rename_i z;rw [z]
 ·rename_i z;exact (e j hj (Ne.symm z)).symm
theorem get_range {m i:Nat} {g:Nat->Int} (hi:i < m):((List.range m).map g)[i]?=some (g i):=by
 rw [List.getElem?_map,List.getElem?_range hi];rfl
theorem map_range {m:Nat} {g h:Nat->Int} (e:∀j,j < m->g j=h j):(List.range m).map g=(List.range m).map h:=List.map_congr_left fun j hj=>e j (List.mem_range.mp hj)
def spThr (K:PySem.W.Frag):Sp:=fun vs H Q _=>∃(A B:Addr) (ps f:List Int),vs=[.ref A,.ref B]∧SqL K H A (ps.map V.int)∧SqL K H B ((ps.map fun p=>val p f).map V.int)∧thrPs ps f∧newL H Q (f.map V.int)
theorem ok_through {P:Program} {w:World} {K:PySem.W.Frag} {mg:Str->Option Value} {base:Heap} (T:Tx K mg):FnOk P w K mg base CX0 3 T.a_through T.fd_through ["places","values"] (spThr K):=by
 refine T.F_through.ok sc_through (fun vs H Q E h=>?_) (fun cdv A outer s H vs Q E hr h=>?_)
 ·obtain⟨A,B,ps,f,rfl,_⟩:=h
  rfl
 obtain⟨A,B,ps,f,rfl,hA,hB,⟨lf,nf,l60,dis,bp,bv⟩,q⟩:=h
 refine⟨_,((pss_cons (ps_set (i:=2) sc_through.nd rfl (Or.inl rfl) (pe_callTy call_list_of rfl T.z_list bt_list (pa_cons (pv 1) pa_nil)))
  (pss_cons (ps_for PassesOwn.never rfl (pi_range2 rfl T.z_range (pa_cons pe_int (pa_cons (pe_callB call_len_seq rfl T.z_len bt_len (pa_cons (pv 2) pa_nil)) pa_nil))) (pg_name (i:=3) sc_through.nd rfl (Or.inl rfl)) (pss_one (ps_for PassesOwn.never rfl (pi_range3 rfl T.z_range (pa_cons (pe_op op_sub (pe_callB call_len_seq rfl T.z_len bt_len (pa_cons (pv 2) pa_nil)) pe_int) (pa_cons (pe_op op_sub (pv 3) pe_int) (pa_cons (pe_un un_neg pe_int) pa_nil)))) (pg_name (i:=4) sc_through.nd rfl (Or.inl rfl)) (pss_one (ps_asg (pe_op op_fdivB (pe_op op_sub (pe_ix ix_list (pv 2) (pv 4) (fun _ _=>rfl)) (pe_ix ix_list (pv 2) (pe_op op_sub (pv 4) pe_int) (fun _ _=>rfl))) (pe_op op_sub (pe_ix ix_list (pv 0) (pv 4) (fun _ _=>rfl)) (pe_ix ix_list (pv 0) (pe_op op_sub (pv 4) (pv 3)) (fun _ _=>rfl)))) (pg_sub (pv 2) (pv 4) set_list))))))
  (pss_cons (ps_set (i:=5) sc_through.nd rfl (Or.inl rfl) (pe_lst pa_nil))
  (pss_cons (ps_for PassesOwn.never rfl (pi_range3 rfl T.z_range (pa_cons (pe_op op_sub (pe_callB call_len_seq rfl T.z_len bt_len (pa_cons (pv 2) pa_nil)) pe_int) (pa_cons (pe_un un_neg pe_int) (pa_cons (pe_un un_neg pe_int) pa_nil)))) (pg_name (i:=4) sc_through.nd rfl (Or.inl rfl)) (pss_one (ps_set (i:=5) sc_through.nd rfl (Or.inl rfl) (pe_call (FnOk.mono (ok_poly_plus T) (by decide)) hr rfl T.m_poly_plus T.F_poly_plus.kp T.b_poly_plus .nil pass0 (pa_cons (pe_call (FnOk.mono (ok_poly_times T) (by decide)) hr rfl T.m_poly_times T.F_poly_times.kp T.b_poly_times .nil pass0 (pa_cons (pv 5) (pa_cons (pe_lst (pa_cons (pe_un un_neg (pe_ix ix_list (pv 0) (pv 4) (fun _ _=>rfl))) (pa_cons pe_int pa_nil))) pa_nil))) (pa_cons (pe_lst (pa_cons (pe_ix ix_list (pv 2) (pv 4) (fun _ _=>rfl)) pa_nil)) pa_nil))))))
  (pss_one (ps_ret (pv 5)))))))),?_⟩
 dsimp only [a_seq]
 k_typeOf
 refine⟨_,.inl hB,fun S nS=>?_⟩
 have u0:=same_upd nS (.lst ((ps.map fun p=>val p f).map V.int))
 have e0:(ps.map fun p=>val p f)=(List.range ps.length).map (rnd f ps 0):=by
  refine List.ext_getElem (by simp) fun i h1 h2=>?_
  rw [List.getElem_map,List.getElem_map,List.getElem_range,rnd_zero (by simpa using h1)]
 rw [e0] at u0 ⊢
 have eS:=upd_same (H:=H) (a:=S) (o:=.lst (((List.range ps.length).map (rnd f ps 0)).map V.int))
 generalize L2.upd H S (.lst (((List.range ps.length).map (rnd f ps 0)).map V.int))=H1 at u0 eS ⊢
 have lR:∀g:Nat->Int,(((List.range ps.length).map g).map V.int).length=ps.length:=fun g=>by simp
 obtain⟨m,hm⟩:∃m,ps.length=m:=⟨_,rfl⟩
 dsimp only [a_seq]
 k_typeOf
 refine⟨_,.inl (SqL.of eS),by decide,by decide,by rw [lR];omega,by rw [lR];omega,?_⟩
 rw [lR]
 obtain⟨Pv,hPv⟩:∃Pv:Nat->L2.St->Hp->Prop,∀i σ H',Pv i σ H'↔∃r3 r4:Option V,σ=[some (V.ref A),some (V.ref B),some (V.ref S),r3,r4,none]∧H' S=some (.lst (((List.range ps.length).map (rnd f ps i)).map V.int))∧Same H H':=⟨_,fun _ _ _=>Iff.rfl⟩
 refine lp_range Pv ((hPv _ _ _).mpr ⟨none,none,rfl,eS,u0⟩) ?_ ?_
 ·intro i σ H2 hi hp
  obtain⟨r3,r4,rfl,eS2,s2⟩:=(hPv _ _ _).mp hp
  have e1:(1:Int)+(i:Int) - 1=(i:Int):=by omega
  (iterate 3 (k_units;(try simp only [e1]));k_units)
  refine⟨_,.inl (SqL.of eS2),by decide,by decide,?_⟩
  rw [lR]
  refine⟨small_down (by omega) (by omega) (by omega) (by omega),ps.length - 1 - i,size_down (by omega),?_⟩
  obtain⟨Pw,hPw⟩:∃Pw:Nat->L2.St->Hp->Prop,∀t σ H',Pw t σ H'↔∃r:Option V,σ=[some (V.ref A),some (V.ref B),some (V.ref S),some (V.int (1+(i:Int))),r,none]∧H' S=some (.lst (((List.range ps.length).map (mxR f ps i (ps.length - t))).map V.int))∧Same H H':=⟨_,fun _ _ _=>Iff.rfl⟩
  refine lp_ranges Pw ((hPw _ _ _).mpr ⟨r4,rfl,?_,s2⟩) ?_ ?_
  ·rw [eS2,map_range (h:=mxR f ps i (ps.length - 0)) fun j hj=>by unfold mxR;rw [if_neg (by omega)]]
  ·intro t σ H3 ht hp
   obtain⟨r,rfl,eS3,s3⟩:=(hPw _ _ _).mp hp
   obtain⟨pl,hpl⟩:∃pl,ps.length - t=pl+1:=⟨ps.length - t - 1,by omega⟩
   rw [hpl] at eS3
   have ep:(ps.length:Int) - 1+(t:Int) * -1=(pl:Int):=by omega
   have ep1:(pl:Int) - 1=((pl - 1:Nat):Int):=by omega
   have ep2:(pl:Int) - (1+(i:Int))=((pl - (i+1):Nat):Int):=by omega
   have hl:pl < ps.length:=by omega
   have ne:=dis pl (pl - (i+1)) hl (by omega) (by omega)
   have g1:mxR f ps i (pl+1) pl=rnd f ps i pl:=by unfold mxR;rw [if_neg (by omega)]
   have g2:mxR f ps i (pl+1) (pl - 1)=rnd f ps i (pl - 1):=by unfold mxR;rw [if_neg (by omega)]
   have b1:=bp _ (List.getElem_mem hl)
   have b2:=bp _ (List.getElem_mem (show pl - (i+1) < ps.length by omega))
   (iterate 3 (k_units;(try simp only [ep,ep1,ep2]));k_units)
   refine⟨_,SqL.of eS3,_,at_some (get_range hl),_,SqL.of eS3,_,at_some (get_range (show pl - 1 < ps.length by omega)),_,rfl,_,rfl,_,s3.seq hA,_,at_int hl,_,s3.seq hA,_,at_int (show pl - (i+1) < ps.length by omega),_,rfl,_,rfl,by omega,Nat.lt_of_lt_of_le (b1.sub b2) (Nat.pow_le_pow_right (by decide) (by decide)),_,eS3,pl,ixN_nat (by rw [lR];exact hl),(hPw _ _ _).mpr ⟨_,rfl,?_,s3.more nS⟩⟩
   rw [upd_same,g1,g2,rnd_step (by omega) hl ne,map_set,show ps.length - (t+1)=pl by omega]
   have hs:=set_range (m:=ps.length) (i:=pl) (g:=mxR f ps i (pl+1)) (h:=mxR f ps i pl) hl fun j _ hj=>by
    unfold mxR
    by_cases z:pl<=j
    ·rw [if_pos z,if_pos (by omega)]
    ·rw [if_neg z,if_neg (by omega)]
   rw [← hs]
   congr 3
   unfold mxR;rw [if_pos (Nat.le_refl _)]
  ·intro σ H3 hp
   obtain⟨r,rfl,eS3,s3⟩:=(hPw _ _ _).mp hp
   refine (hPv _ _ _).mpr ⟨_,_,rfl,?_,s3⟩
   rw [eS3,map_range fun j hj=>?_]
   unfold mxR
   by_cases z:ps.length - (ps.length - 1 - i)<=j
   ·rw [if_pos z]
   ·rw [if_neg z,rnd_low (by omega)]
 intro σ H2 hp
 obtain⟨r3,r4,rfl,eS2,s2⟩:=(hPv _ _ _).mp hp
 clear hp hPv Pv eS u0
 dsimp only [a_seq]
 k_typeOf
 refine⟨Nat.zero_le _,fun R0 n0=>?_⟩
 have v0:=same_upd n0 (.lst [])
 have e0':=upd_same (H:=H2) (a:=R0) (o:=.lst [])
 generalize L2.upd H2 R0 (.lst [])=H3 at v0 e0' ⊢
 have lt:∀i (h:i < ps.length),(val ps[i] f).natAbs<=2 ^ 10000:=fun i h=>Nat.le_of_lt (bv _ (List.getElem_mem h))
 dsimp only [a_seq]
 k_typeOf
 refine⟨_,.inl (SqL.of (v0 _ _ eS2)),by decide,by decide,?_⟩
 rw [lR]
 refine⟨small_down (by omega) (by omega) (by decide) (by decide),ps.length,size_down (by omega),?_⟩
 obtain⟨Pv,hPv⟩:∃Pv:Nat->L2.St->Hp->Prop,∀t σ H',Pv t σ H'↔∃(r4:Option V) (R:Addr) (a:List Int),σ=[some (V.ref A),some (V.ref B),some (V.ref S),r3,r4,some (V.ref R)]∧H' R=some (.lst (a.map V.int))∧H R=none∧Nml a∧a.length<=t∧(∀x∈a,Bd (10100+60 * t) x)∧(∀n,val n a=dd f (ps.take (ps.length - t)++[n]))∧Same H2 H':=⟨_,fun _ _ _=>Iff.rfl⟩
 refine lp_ranges Pv ((hPv _ _ _).mpr ⟨r4,R0,[],rfl,e0',s2.free n0,nml_nil,Nat.le_refl _,fun x hx=>by simp at hx,fun n=>?_,v0⟩) ?_ ?_
 ·rw [dd_far (by rw [List.length_append,List.length_take];simp;omega)];rfl
 ·intro t σ H4 ht hp
  obtain⟨r4,R,a,rfl,eR,nR,na,la,ba,va,s4⟩:=(hPv _ _ _).mp hp
  obtain⟨pl,hpl⟩:∃pl,ps.length - t=pl+1:=⟨ps.length - t - 1,by omega⟩
  have hl:pl < ps.length:=by omega
  have ep:(ps.length:Int) - 1+(t:Int) * -1=(pl:Int):=by omega
  have hA4:=(s2.trans s4).seq hA
  have eS4:=s4 _ _ eS2
  have g1:rnd f ps ((ps.length:Int) - 1).toNat pl=dd f (run ps 0 (pl+1)):=rnd_top (by omega)
  have b1:=bp _ (List.getElem_mem hl)
  have bc:Bd 10061 (dd f (run ps 0 (pl+1))):=by
   have h:=dd_le f dis lt pl 0 (by omega)
   refine Nat.lt_of_le_of_lt h ?_
   rw [← Nat.pow_add]
   exact Nat.pow_lt_pow_right (by decide) (by omega)
  have st:∀n,dd f (ps.take pl++[n])=dd f (run ps 0 (pl+1))+(n - ps[pl]) * dd f (ps.take (pl+1)++[n]):=fun n=>by
   have e1:ps.take (pl+1)=ps.take pl++[ps[pl]]:=by rw [List.take_succ,List.getElem?_eq_getElem hl];rfl
   have e2:run ps 0 (pl+1)=ps.take (pl+1):=by unfold run;rw [List.drop_zero]
   rw [e2,e1]
   exact dd_step f (ps.take pl) ps[pl] n
  generalize dd f (run ps 0 (pl+1))=c at g1 bc st
  rw [hpl] at va
  have by2:∀y∈[-ps[pl],1],Bd 41 y:=fun y hy=>by
   simp only [List.mem_cons,List.not_mem_nil,or_false] at hy
   rcases hy with rfl | rfl
   ·exact b1.neg.mono (by decide)
   ·exact Bd.one (by decide)
  have bm:∀k,Bd (10147+60 * t) (co (mulL a [-ps[pl],1]) k):=fun k=>by
   rw [co_mulL]
   exact (pm_bd (c:=6) ba by2 (Nat.le_trans la (by omega)) k).mono (by omega)
  have bn:∀k,Bd (10100+60 * (t+1)) (co (addL (mulL a [-ps[pl],1]) [c]) k):=fun k=>by
   rw [co_addL]
   refine ((bm k).add (co_in (P:=fun v=>Bd (10147+60 * t) v) (fun v hv=>?_) (Bd.zero _) k)).mono (by omega)
   rw [List.mem_singleton.mp hv];exact bc.mono (by omega)
  have lm:=mulL_len a [-ps[pl],1] (by simp)
  have lmm:(mulL a [-ps[pl],1]).length<=t+1:=by simp at lm;omega
  (iterate 3 (k_units;(try simp only [ep]));k_units)
  refine⟨_,hA4,_,at_int hl,_,rfl,by decide,fun q1 m1=>?_⟩
  have w1:=same_upd m1 (.lst [V.int (-ps[pl]),V.int 1])
  refine⟨R,q1,a,[-ps[pl],1],rfl,SqL.of (w1 _ _ eR),SqL.of upd_same,by omega,by simp,fun x hx=>(ba x hx).mono (by omega),fun y hy=>(by2 y hy).mono (by decide),fun R1 H5 s5 nR1 eR1=>?_⟩
  have s45:=w1.trans s5
  refine⟨_,SqL.of (s45 _ _ eS4),_,at_some (get_range hl),by decide,fun q2 m2=>?_⟩
  rw [g1]
  have w2:=same_upd m2 (.lst [V.int c])
  refine⟨R1,q2,mulL a [-ps[pl],1],[c],rfl,SqL.of (w2 _ _ eR1),SqL.of upd_same,by omega,by simp,in_co fun k=>(bm k).mono (by omega),fun y hy=>by rw [List.mem_singleton.mp hy];exact bc.mono (by decide),fun R2 H6 s6 nR2 eR2=>?_⟩
  have s46:=s45.trans (w2.trans s6)
  refine (hPv _ _ _).mpr ⟨_,R2,_,rfl,eR2,s2.free (s4.free (s45.free (w2.free nR2))),nml_addL _ _,?_,in_co bn,fun n=>?_,s4.trans s46⟩
  ·have:=addL_len (mulL a [-ps[pl],1]) [c]
   simp at this;omega
  ·rw [val_addL,val_mulL,va,show ps.length - (t+1)=pl by omega,st n]
   have e1:val n [-ps[pl],1]=n - ps[pl]:=by simp [val];omega
   have e2:val n [c]=c:=by simp [val]
   rw [e1,e2]
   generalize dd f (ps.take (pl+1)++[n])=d
   grind
 intro σ H4 hp
 obtain⟨r4,R,a,rfl,eR,nR,na,la,ba,va,s4⟩:=(hPv _ _ _).mp hp
 have e:a=f:=nml_val na nf fun n=>by
  rw [va,Nat.sub_self,List.take_zero,List.nil_append,dd_one]
 rw [e] at eR
 k_units
 exact q R H4 (s2.trans s4) nR eR
theorem call_list_ofK {X:Cx} {K:PySem.W.Frag} (hK:X.K=K):CallR X (.type "list") (fun xs H Q=>∃p ys,xs=[.ref p]∧(SqL K H p ys∨SqT K H p ys)∧∀l,H l=none->Q (.ref l) (upd H l (.lst ys))):=by subst hK;exact call_list_of
theorem call_len_seqK {X:Cx} {K:PySem.W.Frag} (hK:X.K=K):CallR X (.builtin "len") (fun xs H Q=>∃p ys,xs=[.ref p]∧(SqL K H p ys∨SqT K H p ys)∧Q (.int (ys.length:Nat)) H):=by subst hK;exact call_len_seq
theorem ix_listK {X:Cx} {K:PySem.W.Frag} (hK:X.K=K):IxR X (rIxL K):=by subst hK;exact ix_list
structure LL (K:PySem.W.Frag) (H:Hp) (as:List Addr) (ps:List (List Int)):Prop where
 len:as.length=ps.length
 get:∀(i:Nat) (a:Addr) (p:List Int),as[i]?=some a->ps[i]?=some p->SqL K H a (p.map V.int)
theorem LL.same {K:PySem.W.Frag} {H H':Hp} {as:List Addr} {ps:List (List Int)} (h:LL K H as ps) (s:Same H H'):LL K H' as ps:=⟨h.len,fun i a p h1 h2=>s.seq (h.get i a p h1 h2)⟩
theorem LL.nth {K:PySem.W.Frag} {H:Hp} {as:List Addr} {ps:List (List Int)} (h:LL K H as ps) {i:Nat} {v:V} (hv:(as.map V.ref)[i]?=some v):∃a p,v=.ref a∧as[i]?=some a∧ps[i]?=some p∧SqL K H a (p.map V.int):=by
 rw [List.getElem?_map] at hv
 obtain⟨a,ha,rfl⟩:=Option.map_eq_some_iff.mp hv
 have hi:=(List.getElem?_eq_some_iff.mp ha).1
 have hp:i < ps.length:=by rw [← h.len];exact hi
 exact⟨a,ps[i],rfl,ha,List.getElem?_eq_getElem hp,h.get i a _ ha (List.getElem?_eq_getElem hp)⟩
def dL (p:List Int):PyData:=.list (p.map PyData.int)
theorem dvs_ll {K:PySem.W.Frag} {H:Hp}:∀(as:List Addr) (ps:List (List Int)),LL K H as ps->DVs K H (as.map V.ref) (ps.map dL)
 | [],[],_=>.nil
 | a :: as,p :: ps,h=>.cons (DV.ints (h.get 0 a p rfl rfl)) (dvs_ll as ps ⟨by have:=h.len;simpa using this,fun i b r h1 h2=>h.get (i+1) b r (by simpa using h1) (by simpa using h2)⟩)
 | [],_ :: _,h=>by have:=h.len;simp at this
 | _ :: _,[],h=>by have:=h.len;simp at this
theorem dv_ll {K:PySem.W.Frag} {H:Hp} {R:Addr} {as:List Addr} {ps:List (List Int)} (hR:SqL K H R (as.map V.ref)) (h:LL K H as ps):DV K H (.ref R) (.list (ps.map dL)):=.lst hR (dvs_ll as ps h)
theorem dep_ll (ps:List (List Int)):PyData.depth (.list (ps.map dL))<=64:=by
 have h:∀ps:List (List Int),PyData.depthAll (ps.map dL)<=1:=fun ps=>by
  induction ps with
  | nil=>exact Nat.zero_le _
  | cons p ps ih=>simp [PyData.depthAll,PyData.depth,depth_ints,dL];omega
 have:=h ps
 simp [PyData.depth];omega
theorem eqvAll_ll (ps:List (List Int)):PyData.eqvAll (ps.map dL) (ps.map dL)=true:=by
 induction ps with
 | nil=>rfl
 | cons p ps ih=>simp [PyData.eqvAll,PyData.eqv,eqvAll_ints,dL,ih]
theorem layAll_ll (ps:List (List Int)):PyData.canLayAll0 (ps.map dL)=true:=by
 induction ps with
 | nil=>rfl
 | cons p ps ih=>simp [PyData.canLayAll0,PyData.canLay0,lay_ints,dL,ih]
theorem depAll_ll (ps:List (List Int)):PyData.depthAll (ps.map dL)<=1:=by
 induction ps with
 | nil=>exact Nat.zero_le _
 | cons p ps ih=>simp [PyData.depthAll,PyData.depth,depth_ints,dL];omega
def lowN (row:List Int) (tb:List (List Int)) (cs:List Nat):Nat->Int×List Int
 | 0=>(1,row)
 | i+1=>(co (tb.getD i []) (cs.getD i 0),List.zipWith (fun x y=>(co (tb.getD i []) (cs.getD i 0) * x - co (lowN row tb cs i).2 (cs.getD i 0) * y).fdiv (lowN row tb cs i).1) (lowN row tb cs i).2 (tb.getD i []))
structure LowOk (row:List Int) (tb:List (List Int)) (cs:List Nat):Prop where
 len:tb.length<=cs.length
 few:row.length<=60
 wid:∀b∈tb,b.length=row.length
 col:∀c∈cs,c < row.length
 bb:∀b∈tb,∀y∈b,Bd 4000 y
 ne:∀i,i < tb.length->(lowN row tb cs i).1≠0∧Bd 4000 (lowN row tb cs i).1
 br:∀i,i < tb.length->∀x∈(lowN row tb cs i).2,Bd 4000 x
theorem low_len {row:List Int} {tb:List (List Int)} {cs:List Nat} (h:LowOk row tb cs):∀i,i<=tb.length->(lowN row tb cs i).2.length=row.length
 | 0,_=>rfl
 | i+1,hi=>by
  have ih:=low_len h i (by omega)
  have hb:(tb.getD i []).length=row.length:=by
   rw [List.getD_eq_getElem?_getD,List.getElem?_eq_getElem (by omega)];exact h.wid _ (List.getElem_mem _)
  show (List.zipWith _ _ _).length=_
  rw [List.length_zipWith,ih,hb,Nat.min_self]
theorem co_at {xs:List Int} {i:Nat} (h:i < xs.length):atI (xs.map V.int) (i:Int)=some (V.int (co xs i)):=by rw [at_int h,co_lt h]
def spLow (K:PySem.W.Frag):Sp:=fun vs H Q _=>∃(R Tb Cl:Addr) (row:List Int) (ts:List Addr) (tb:List (List Int)) (cs:List Nat),vs=[.ref R,.ref Tb,.ref Cl]∧SqL K H R (row.map V.int)∧SqL K H Tb (ts.map V.ref)∧LL K H ts tb∧SqL K H Cl ((cs.map fun c:Nat=>(c:Int)).map V.int)∧LowOk row tb cs∧
 ∀(R':Addr) (H':Hp),Same H H'->(R'=R∧tb=[]∨H R'=none∧H' R'=some (.lst ((lowN row tb cs tb.length).2.map V.int)))->SqL K H' R' ((lowN row tb cs tb.length).2.map V.int)->Q (.ref R') H'
theorem ok_lowered {P:Program} {w:World} {K:PySem.W.Frag} {mg:Str->Option Value} {base:Heap} (T:Tx K mg):FnOk P w K mg base CX0 1 T.a_lowered T.fd_lowered ["row","table","columns"] (spLow K):=by
 refine T.F_lowered.ok sc_lowered (fun vs H Q E h=>?_) (fun cdv A outer s H vs Q E hr h=>?_)
 ·obtain⟨R,Tb,Cl,row,ts,tb,cs,rfl,_⟩:=h
  rfl
 obtain⟨R,Tb,Cl,row,ts,tb,cs,rfl,hR,hT,hL,hC,ok,q⟩:=h
 refine⟨_,((pss_cons (ps_set (i:=3) sc_lowered.nd rfl (Or.inr rfl) pe_int)
  (pss_cons (ps_for PassesOwn.never rfl (pi_zip rfl T.z_zip (pa_cons (pv 1) (pa_cons (pv 2) pa_nil))) (pg_tup rfl (pgs_cons (pg_name (i:=4) sc_lowered.nd rfl (Or.inl rfl)) (pgs_cons (pg_name (i:=5) sc_lowered.nd rfl (Or.inl rfl)) pgs_nil))) (pss_cons (ps_set (i:=6) sc_lowered.nd rfl (Or.inr rfl) (pe_ix ix_list (pv 4) (pv 5) (fun _ _=>rfl)))
  (pss_cons (ps_set (i:=7) sc_lowered.nd rfl (Or.inr rfl) (pe_ix ix_list (pv 0) (pv 5) (fun _ _=>rfl)))
  (pss_cons (ps_setC2 (i:=0) rfl (blkok2 rfl (sub_cons rfl (sub_cons rfl (sub_cons rfl sub_nil))) (fv_cons2 6 "pivot" rfl (Or.inl rfl) (Or.inl rfl) ⟨_,rfl⟩ (fv_cons2 7 "factor" rfl (Or.inl rfl) (Or.inl rfl) ⟨_,rfl⟩ (fv_cons2 3 "before" rfl (Or.inl rfl) (Or.inl rfl) ⟨_,rfl⟩ fv_nil2)))) (pi_zip rfl T.z_zip (pa_cons (pv 0) (pa_cons (pv 4) pa_nil))) (fun _ _ _ _=>(pe_op op_fdivB (pe_op op_sub (pe_op op_mulZ (pv 2) (pv 0)) (pe_op op_mulZ (pv 3) (pv 1))) (pv 4))) sc_lowered.nd rfl rfl)
  (pss_one (ps_set (i:=3) sc_lowered.nd rfl (Or.inr rfl) (pv 6)))))))
  (pss_one (ps_ret (pv 0)))))),?_⟩
 have lts:=hL.len
 k_units
 obtain⟨Pv,hPv⟩:∃Pv:Nat->L2.St->Hp->Prop,∀i σ H',Pv i σ H'↔∃(R':Addr) (r4 r5 r6 r7:Option V),σ=[some (V.ref R'),some (V.ref Tb),some (V.ref Cl),some (V.int (lowN row tb cs i).1),r4,r5,r6,r7]∧(R'=R∧i=0∨H R'=none∧H' R'=some (.lst ((lowN row tb cs i).2.map V.int)))∧SqL K H' R' ((lowN row tb cs i).2.map V.int)∧Same H H':=⟨_,fun _ _ _=>Iff.rfl⟩
 refine⟨_,hT,_,hC,lp_zip (xs:=ts.map V.ref) (ys:=(cs.map fun c:Nat=>(c:Int)).map V.int) Pv ((hPv _ _ _).mpr ⟨R,none,none,none,none,rfl,.inl ⟨rfl,rfl⟩,hR,Same.refl _⟩) (fun i σ H' _ _ z=>by obtain⟨_,_,_,_,_,_,_,_,z⟩:=(hPv i σ H').mp z;exact⟨z.seq hT,z.seq hC⟩) ?_ ?_⟩
 ·intro i v1 v2 p σ H1 e1 e2 hp np
  obtain⟨R',r4,r5,r6,r7,rfl,dR,hR',s1⟩:=(hPv _ _ _).mp hp
  rw [List.getElem?_map] at e1
  obtain⟨t,ht,rfl⟩:=Option.map_eq_some_iff.mp e1
  have hi:i < tb.length:=by have:=(List.getElem?_eq_some_iff.mp ht).1;omega
  have hic:i < cs.length:=by have:=ok.len;omega
  rw [List.getElem?_map,List.getElem?_map,List.getElem?_eq_getElem hic] at e2
  obtain rfl:V.int (cs[i]:Int)=v2:=Option.some.inj e2
  have hb:=hL.get i t _ ht (List.getElem?_eq_getElem hi)
  have ll:=low_len ok i (by omega)
  have lb:=ok.wid _ (List.getElem_mem hi)
  have lc:=ok.col _ (List.getElem_mem hic)
  have eb:tb.getD i []=tb[i]:=by rw [List.getD_eq_getElem?_getD,List.getElem?_eq_getElem hi];rfl
  have ec:cs.getD i 0=cs[i]:=by rw [List.getD_eq_getElem?_getD,List.getElem?_eq_getElem hic];rfl
  have st:lowN row tb cs (i+1)=(co tb[i] cs[i],List.zipWith (fun x y=>(co tb[i] cs[i] * x - co (lowN row tb cs i).2 cs[i] * y).fdiv (lowN row tb cs i).1) (lowN row tb cs i).2 tb[i]):=by rw [lowN,eb,ec]
  obtain⟨n0,nb⟩:=ok.ne i hi
  have br:=ok.br i hi
  have bb:=ok.bb _ (List.getElem_mem hi)
  have u1:=same_upd np (.tup [V.ref t,V.int (cs[i]:Int)])
  generalize lowN row tb cs i=L at hR' ll st n0 nb br ⊢
  obtain⟨bf,rw'⟩:=L
  dsimp only at hR' ll st n0 nb br ⊢
  generalize tb[i]=b at hb lb st bb
  generalize cs[i]=c at e2 lc st u1 ⊢
  have few:=ok.few
  have s2:=s1.trans u1
  k_units
  refine⟨_,SqT.of upd_same,rfl,_,_,rfl,_,_,rfl,rfl,_,rfl,_,_,rfl,s2.seq hb,_,co_at (by omega),_,_,rfl,u1.seq hR',_,co_at (by omega),_,rfl,_,u1.seq hR',_,s2.seq hb,fun D nD=>?_⟩
  have hbx:=s2.seq hb
  have hRx:=u1.seq hR'
  generalize L2.upd H1 p (.tup [V.ref t,V.int (c:Int)])=H2 at s2 u1 hbx hRx nD ⊢
  have bpv:Bd 4000 (co b c):=co_in (P:=fun v=>Bd 4000 v) bb (Bd.zero _) c
  have bfa:Bd 4000 (co rw' c):=co_in (P:=fun v=>Bd 4000 v) br (Bd.zero _) c
  obtain⟨Pc,hPc⟩:∃Pc:Nat->Hp->Prop,∀j Hx,Pc j Hx↔Hx D=some (.lst (((List.zipWith (fun x y=>(co b c * x - co rw' c * y).fdiv bf) rw' b).take j).map V.int))∧Same H2 Hx:=⟨_,fun _ _=>Iff.rfl⟩
  refine cl_zip (xs:=rw'.map V.int) (ys:=b.map V.int) Pc ((hPc _ _).mpr ⟨upd_same,same_upd nD _⟩) (fun i Hx _ _ y=>by obtain⟨_,y⟩:=(hPc i Hx).mp y;exact⟨y.seq hRx,y.seq hbx⟩) ?_ ?_
  ·intro j w1 w2 r Hx f1 f2 hc nr
   obtain⟨k1,k2⟩:=(hPc _ _).mp hc
   rw [List.getElem?_map] at f1 f2
   obtain⟨x,hx,rfl⟩:=Option.map_eq_some_iff.mp f1
   obtain⟨y,hy,rfl⟩:=Option.map_eq_some_iff.mp f2
   have u2:=same_upd nr (.tup [V.int x,V.int y])
   have bx:=br x (List.mem_of_getElem? hx)
   have by':=bb y (List.mem_of_getElem? hy)
   (iterate 3 (k_units;(try simp only [bst2,Option.getD_some]));k_units)
   have hj:j < rw'.length:=(List.getElem?_eq_some_iff.mp hx).1
   refine⟨bpv.fits bx (by decide),bfa.fits by' (by decide),n0,Nat.lt_of_lt_of_le nb (Nat.pow_le_pow_right (by decide) (by decide)),_,u2 _ _ k1,?_,(hPc _ _).mpr ⟨?_,(k2.trans u2).more nD⟩⟩
   ·rw [List.length_map,List.length_take];exact small1000 (by omega)
   ·have hz:(List.zipWith (fun x y=>(co b c * x - co rw' c * y).fdiv bf) rw' b)[j]?=some ((co b c * x - co rw' c * y).fdiv bf):=by
     rw [List.getElem?_zipWith,hx,hy]
    rw [upd_same,List.take_succ,hz,List.map_append];rfl
  intro Hx hc
  obtain⟨k1,k2⟩:=(hPc _ _).mp hc
  rw [List.take_of_length_le (by rw [List.length_zipWith,List.length_map,List.length_map];exact Nat.le_refl _)] at k1
  refine (hPv _ _ _).mpr ?_
  rw [st]
  exact⟨D,_,_,_,_,rfl,.inr ⟨s2.free nD,k1⟩,SqL.of k1,s2.trans k2⟩
 intro σ H1 hp
 obtain⟨R',r4,r5,r6,r7,rfl,dR,hR',s1⟩:=(hPv _ _ _).mp hp
 have hn:min (ts.map V.ref).length ((cs.map fun c:Nat=>(c:Int)).map V.int).length=tb.length:=by
  have:=ok.len;simp;omega
 rw [hn] at hR' dR
 k_units
 refine q R' H1 s1 ?_ hR'
 rcases dR with ⟨z1,z2⟩ | z
 ·exact .inl ⟨z1,List.eq_nil_of_length_eq_zero z2⟩
 ·exact .inr z
def spValue (K:PySem.W.Frag):Sp:=fun vs H Q _=>∃(a:Addr) (xs:List Int) (n:Int) (k l:Nat),vs=[.ref a,.int n]∧SqL K H a (xs.map V.int)∧xs.length<=64∧(∀x∈xs,Bd k x)∧Bd l n∧k+l * 100<=60000000∧Q (.int (val n xs)) H
theorem val_drop (n:Int) (xs:List Int) (i:Nat) (h:i < xs.length):val n (xs.drop (xs.length - 1 - i))=val n (xs.drop (xs.length - i)) * n+xs[xs.length - 1 - i]:=by
 rw [List.drop_eq_getElem_cons (by omega),show xs.length - 1 - i+1=xs.length - i by omega]
 simp only [val]
 rw [Int.mul_comm];omega
theorem ok_poly_value {P:Program} {w:World} {K:PySem.W.Frag} {mg:Str->Option Value} {base:Heap} (T:Tx K mg):FnOk P w K mg base CX0 1 T.a_poly_value T.fd_poly_value ["poly","n"] (spValue K):=by
 refine T.F_poly_value.ok sc_poly_value (fun vs H Q E h=>?_) (fun cdv A outer s H vs Q E hr h=>?_)
 ·obtain⟨a,xs,n,k,l,rfl,_⟩:=h
  rfl
 obtain⟨a,xs,n,k,l,rfl,hS,hl,hk,hb,hf,q⟩:=h
 refine⟨_,((pss_cons (ps_set (i:=2) sc_poly_value.nd rfl (Or.inl rfl) pe_int)
  (pss_cons (ps_for PassesOwn.never rfl (pi_rev rfl T.z_reversed (pa_cons (pv 0) pa_nil)) (pg_name (i:=3) sc_poly_value.nd rfl (Or.inl rfl)) (pss_one (ps_set (i:=2) sc_poly_value.nd rfl (Or.inl rfl) (pe_op op_add (pe_op op_mulZ (pv 2) (pv 1)) (pv 3)))))
  (pss_one (ps_ret (pv 2)))))),?_⟩
 k_units
 refine⟨_,hS,?_⟩
 obtain⟨Pv,hPv⟩:∃Pv:Nat->L2.St->Hp->Prop,∀i σ H',Pv i σ H'↔(∃r,σ=[some (V.ref a),some (V.int n),some (V.int (val n (xs.drop (xs.length - i)))),r])∧Bd (k+(l+1) * i) (val n (xs.drop (xs.length - i)))∧H'=H:=⟨_,fun _ _ _=>Iff.rfl⟩
 refine lp_rev Pv ((hPv _ _ _).mpr ⟨⟨none,by simp [val]⟩,by simp [val,Bd.zero],rfl⟩) (fun i σ H' _ z=>by rw [((hPv i σ H').mp z).2.2];exact hS) ?_ ?_
 ·intro i v σ H' hi hv hp
  obtain⟨⟨r,rfl⟩,hbd,rfl⟩:=(hPv _ _ _).mp hp
  rw [List.length_map] at hi hv
  rw [List.getElem?_map,List.getElem?_eq_getElem (by omega)] at hv
  obtain rfl:V.int xs[xs.length - 1 - i]=v:=Option.some.inj hv
  k_units
  have hx:Bd k xs[xs.length - 1 - i]:=hk _ (List.getElem_mem _)
  have e:xs.length - (i+1)=xs.length - 1 - i:=by omega
  have i64:(l+1) * i<=l * 64+64:=by have:=Nat.mul_le_mul_left (l+1) (by omega:i<=64);omega
  refine⟨hbd.fits hb (by omega),(hPv _ _ _).mpr ⟨⟨_,by rw [e,val_drop n xs i hi]⟩,?_,rfl⟩⟩
  rw [e,val_drop n xs i hi]
  refine ((hbd.mul hb).add (hx.mono (by omega:k<=k+(l+1) * i+l))).mono ?_
  rw [Nat.mul_succ];omega
 ·intro σ H' hp
  obtain⟨⟨r,rfl⟩,_,rfl⟩:=(hPv _ _ _).mp hp
  k_units
  rw [List.length_map,Nat.sub_self,List.drop_zero]
  exact q
def KB (a:Addr) (H H':Hp):Prop:=∀y o,y≠a->H y=some o->H' y=some o
theorem KB.on {a:Addr} {H H1 H2:Hp} (k:KB a H H1) (s:Same H1 H2):KB a H H2:=fun y o n e=>s _ _ (k y o n e)
theorem KB.set {a:Addr} {H H1:Hp} {o:HO} (k:KB a H H1):KB a H (L2.upd H1 a o):=fun y o n e=>by rw [upd_ne n];exact k y o n e
theorem KB.of {a:Addr} {H H1:Hp} (s:Same H H1):KB a H H1:=fun y o _ e=>s y o e
theorem KB.free {a p:Addr} {H H1:Hp} {o:HO} (k:KB a H H1) (h:H1 a=some o) (n:H1 p=none):H p=none∧p≠a:=by
 have d:p≠a:=fun z=>by rw [z,h] at n;cases n
 refine⟨?_,d⟩
 cases e:H p with
 | none=>rfl
 | some u=>rw [k p u d e] at n;cases n
def spnF (w:Int) (Kp Cl:Addr) (pl:Int) (Tb:Addr):List (Str×V):=[(Str.ofString "width",.int w),(Str.ofString "kept",.ref Kp),(Str.ofString "columns",.ref Cl),(Str.ofString "place",.int pl),(Str.ofString "tables",.ref Tb)]
def spSInit (C:Addr):Sp:=fun vs H Q _=>∃(x dx:Addr) (w:Int),vs=[.ref x,.int w]∧H x=some (.ins C dx [])∧
 ∀(Kp Cl Tb:Addr) (H':Hp),(∀y o,y≠x->H y=some o->H' y=some o)->H Kp=none->H Cl=none->H Tb=none->Kp≠Cl->Kp≠Tb->Cl≠Tb->H' x=some (.ins C dx (spnF w Kp Cl 97 Tb))->H' Kp=some (.lst [])->H' Cl=some (.lst [])->H' Tb=some (.dK [])->Q .non H'
theorem ok_Span___init__ {P:Program} {w:World} {K:PySem.W.Frag} {mg:Str->Option Value} {base:Heap} (T:Tx K mg):FnOk P w K mg base CX0 1 T.a_Span___init__ T.fd_Span___init__ ["self","width"] (spSInit T.c_Span):=by
 refine T.F_Span___init__.ok sc_Span___init__ (fun vs H Q E h=>?_) (fun cdv A outer s H vs Q E hr h=>?_)
 ·obtain⟨x,dx,w,rfl,_⟩:=h
  rfl
 obtain⟨x,dx,w,rfl,hx,q⟩:=h
 refine⟨_,((pss_cons (ps_fld (pv 0) (pv 1) rfl)
  (pss_cons (ps_fld (pv 0) (pe_lst pa_nil) rfl)
  (pss_cons (ps_fld (pv 0) (pe_lst pa_nil) rfl)
  (pss_cons (ps_fld (pv 0) (pe_glob (v:=.int 97) rfl T.g_START.2 ⟨_,rfl⟩) rfl)
  (pss_one (ps_fld (pv 0) pe_dnewK rfl))))))),?_⟩
 have k0:KB x H H:=KB.of (Same.refl H)
 dsimp only [a_seq]
 k_typeOf
 refine⟨_,_,_,hx,T.cl_Span,T.na_Span_width,by decide,?_⟩
 have k1:=k0.set (o:=.ins T.c_Span dx (putF (Str.ofString "width") (V.int w) []))
 have x1:=upd_same (H:=H) (a:=x) (o:=.ins T.c_Span dx (putF (Str.ofString "width") (V.int w) []))
 generalize L2.upd H x (.ins T.c_Span dx (putF (Str.ofString "width") (V.int w) []))=G1 at k1 x1 ⊢
 dsimp only [a_seq]
 k_typeOf
 refine⟨by decide,fun p1 n1=>?_⟩
 have u1:=same_upd n1 (.lst [])
 obtain⟨m1,d1⟩:=k1.free x1 n1
 refine⟨_,_,_,u1 _ _ x1,T.cl_Span,T.na_Span_kept,by show 1 < 1000;decide,?_⟩
 have k2:=(k1.on u1).set (o:=.ins T.c_Span dx (putF (Str.ofString "kept") (V.ref p1) (putF (Str.ofString "width") (V.int w) [])))
 have x2:=upd_same (H:=L2.upd G1 p1 (.lst [])) (a:=x) (o:=.ins T.c_Span dx (putF (Str.ofString "kept") (V.ref p1) (putF (Str.ofString "width") (V.int w) [])))
 have e2:L2.upd (L2.upd G1 p1 (.lst [])) x (.ins T.c_Span dx (putF (Str.ofString "kept") (V.ref p1) (putF (Str.ofString "width") (V.int w) []))) p1=some (.lst []):=by rw [upd_ne d1];exact upd_same
 generalize L2.upd (L2.upd G1 p1 (.lst [])) x (.ins T.c_Span dx (putF (Str.ofString "kept") (V.ref p1) (putF (Str.ofString "width") (V.int w) [])))=G2 at k2 x2 e2 ⊢
 clear k1 x1 n1 u1
 dsimp only [a_seq]
 k_typeOf
 refine⟨by decide,fun p2 n2=>?_⟩
 have u2:=same_upd n2 (.lst [])
 obtain⟨m2,d2⟩:=k2.free x2 n2
 have n12:p1≠p2:=fun z=>by rw [← z,e2] at n2;cases n2
 refine⟨_,_,_,u2 _ _ x2,T.cl_Span,T.na_Span_columns,by show 2 < 1000;decide,?_⟩
 have k3:=(k2.on u2).set (o:=.ins T.c_Span dx (putF (Str.ofString "columns") (V.ref p2) (putF (Str.ofString "kept") (V.ref p1) (putF (Str.ofString "width") (V.int w) []))))
 have x3:=upd_same (H:=L2.upd G2 p2 (.lst [])) (a:=x) (o:=.ins T.c_Span dx (putF (Str.ofString "columns") (V.ref p2) (putF (Str.ofString "kept") (V.ref p1) (putF (Str.ofString "width") (V.int w) []))))
 have e3:L2.upd (L2.upd G2 p2 (.lst [])) x (.ins T.c_Span dx (putF (Str.ofString "columns") (V.ref p2) (putF (Str.ofString "kept") (V.ref p1) (putF (Str.ofString "width") (V.int w) [])))) p1=some (.lst []):=by rw [upd_ne d1];exact u2 _ _ e2
 have f3:L2.upd (L2.upd G2 p2 (.lst [])) x (.ins T.c_Span dx (putF (Str.ofString "columns") (V.ref p2) (putF (Str.ofString "kept") (V.ref p1) (putF (Str.ofString "width") (V.int w) [])))) p2=some (.lst []):=by rw [upd_ne d2];exact upd_same
 generalize L2.upd (L2.upd G2 p2 (.lst [])) x (.ins T.c_Span dx (putF (Str.ofString "columns") (V.ref p2) (putF (Str.ofString "kept") (V.ref p1) (putF (Str.ofString "width") (V.int w) []))))=G3 at k3 x3 e3 f3 ⊢
 clear k2 x2 n2 u2 e2
 dsimp only [a_seq]
 k_typeOf
 refine⟨_,_,_,x3,T.cl_Span,T.na_Span_place,by show 3 < 1000;decide,?_⟩
 have k4:=k3.set (o:=.ins T.c_Span dx (putF (Str.ofString "place") (V.int 97) (putF (Str.ofString "columns") (V.ref p2) (putF (Str.ofString "kept") (V.ref p1) (putF (Str.ofString "width") (V.int w) [])))))
 have x4:=upd_same (H:=G3) (a:=x) (o:=.ins T.c_Span dx (putF (Str.ofString "place") (V.int 97) (putF (Str.ofString "columns") (V.ref p2) (putF (Str.ofString "kept") (V.ref p1) (putF (Str.ofString "width") (V.int w) [])))))
 have e4:=(upd_ne (H:=G3) (o:=.ins T.c_Span dx (putF (Str.ofString "place") (V.int 97) (putF (Str.ofString "columns") (V.ref p2) (putF (Str.ofString "kept") (V.ref p1) (putF (Str.ofString "width") (V.int w) []))))) d1).trans e3
 have f4:=(upd_ne (H:=G3) (o:=.ins T.c_Span dx (putF (Str.ofString "place") (V.int 97) (putF (Str.ofString "columns") (V.ref p2) (putF (Str.ofString "kept") (V.ref p1) (putF (Str.ofString "width") (V.int w) []))))) d2).trans f3
 generalize L2.upd G3 x (.ins T.c_Span dx (putF (Str.ofString "place") (V.int 97) (putF (Str.ofString "columns") (V.ref p2) (putF (Str.ofString "kept") (V.ref p1) (putF (Str.ofString "width") (V.int w) [])))))=G4 at k4 x4 e4 f4 ⊢
 k_units
 intro p5 n5
 have u5:=same_upd n5 (.dK [])
 obtain⟨m5,d5⟩:=k4.free x4 n5
 have n15:p1≠p5:=fun z=>by rw [← z,e4] at n5;cases n5
 have n25:p2≠p5:=fun z=>by rw [← z,f4] at n5;cases n5
 refine⟨_,_,_,u5 _ _ x4,T.cl_Span,T.na_Span_tables,by show 4 < 1000;decide,?_⟩
 refine q p1 p2 p5 _ (k4.on u5).set m1 m2 m5 n12 n15 n25 ?_ (by rw [upd_ne d1];exact u5 _ _ e4) (by rw [upd_ne d2];exact u5 _ _ f4) (by rw [upd_ne d5];exact upd_same)
 rw [upd_same];rfl
def rowA (w:Nat) (vec:List (List Int)) (num:Nat) (pl:Int):List Int:=vec.map (val pl)++(List.range (w+1)).map fun o=>if o=num then 1 else 0
def spRowAt (K:PySem.W.Frag) (C:Addr):Sp:=fun vs H Q _=>∃(x dx Kp Cl Tb Vc:Addr) (pc:Int) (w num:Nat) (pl:Int) (as:List Addr) (vec:List (List Int)),vs=[.ref x,.ref Vc,.int (num:Int),.int pl]∧H x=some (.ins C dx (spnF w Kp Cl pc Tb))∧SqL K H Vc (as.map V.ref)∧LL K H as vec∧w<=20∧vec.length<=20∧Bd 40 pl∧(∀p∈vec,p.length<=60∧∀c∈p,Bd 1000 c)∧newL H Q ((rowA w vec num pl).map V.int)
theorem ok_Span_row_at {P:Program} {w:World} {K:PySem.W.Frag} {mg:Str->Option Value} {base:Heap} (T:Tx K mg):FnOk P w K mg base CX0 2 T.a_Span_row_at T.fd_Span_row_at ["self","vector","number","place"] (spRowAt K T.c_Span):=by
 refine T.F_Span_row_at.ok sc_Span_row_at (fun vs H Q E h=>?_) (fun cdv A outer s H vs Q E hr h=>?_)
 ·obtain⟨x,dx,Kp,Cl,Tb,Vc,pc,w,num,pl,as,vec,rfl,_⟩:=h
  rfl
 obtain⟨x,dx,Kp,Cl,Tb,Vc,pc,w,num,pl,as,vec,rfl,hx,hV,hL,w20,l20,bpl,bv,q⟩:=h
 refine⟨_,((pss_cons (ps_setC (i:=4) rfl (blkok rfl (sub_cons rfl sub_nil) (fv_cons 2 "number" (by decide) rfl (Or.inl rfl) (Or.inl rfl) ⟨_,rfl⟩ fv_nil)) (pi_range1 rfl T.z_range (pa_cons (pe_op op_add (pe_fld (pv 0) rfl) pe_int) pa_nil)) (fun _ _ _ _=>(pe_ifExp (pt_cmpR op_eq (pv 0) (pv 1) (nomark _)) pe_int pe_int)) sc_Span_row_at.nd rfl rfl)
  (pss_one (ps_ret (pe_op op_cat (pe_lcomp rfl (blkok rfl (sub_cons rfl sub_nil) (fv_cons 3 "place" (by decide) rfl (Or.inl rfl) (Or.inl rfl) ⟨_,rfl⟩ fv_nil)) (pi_list (pv 1)) (fun _ _ _ _=>(pe_call (FnOk.mono (ok_poly_value T) (by decide)) hr rfl T.m_poly_value T.F_poly_value.kp T.b_poly_value .nil pass0 (pa_cons (pv 0) (pa_cons (pv 1) pa_nil))))) (pv 4)))))),?_⟩
 have lv:=hL.len
 dsimp only [a_seq]
 k_typeOf
 refine⟨_,_,_,hx,T.cl_Span,T.na_Span_width,_,rfl,_,rfl,by omega,by omega,fun D nD=>?_⟩
 rw [show ((w:Int)+1).toNat=w+1 by omega]
 obtain⟨Pc,hPc⟩:∃Pc:Nat->Hp->Prop,∀j Hx,Pc j Hx↔Hx D=some (.lst (((List.range j).map fun o:Nat=>if o=num then (1:Int) else 0).map V.int))∧Same H Hx:=⟨_,fun _ _=>Iff.rfl⟩
 refine cl_range Pc ((hPc _ _).mpr ⟨upd_same,same_upd nD _⟩) ?_ ?_
 ·intro j Hx hj hc
  obtain⟨k1,k2⟩:=(hPc _ _).mp hc
  have e0:(0:Int)+(j:Int)=(j:Int):=Int.zero_add _
  have nx:∀v:Int,v=(if j=num then (1:Int) else 0)->∃ys,Hx D=some (.lst ys)∧ys.length < sizeLine∧Pc (j+1) (L2.upd Hx D (.lst (ys++[V.int v]))):=fun v hv=>by
   refine⟨_,k1,by rw [List.length_map,List.length_map,List.length_range];exact small1000 (by omega),(hPc _ _).mpr ⟨?_,k2.more nD⟩⟩
   rw [upd_same,List.range_succ,List.map_append,List.map_append,hv];rfl
  (iterate 3 (k_units;(try simp only [bst,e0,Option.getD_some]));k_units)
  refine ite2 (fun z=>nx 1 (by rw [if_pos (by omega)])) (fun z=>nx 0 (by rw [if_neg (by omega)]))
 intro H1 hc
 obtain⟨eD,s1⟩:=(hPc _ _).mp hc
 clear hc hPc Pc
 refine⟨⟨_,s1.seq hV⟩,fun D2 nD2=>?_⟩
 obtain⟨Pc,hPc⟩:∃Pc:Nat->Hp->Prop,∀j Hx,Pc j Hx↔Hx D2=some (.lst (((vec.map (val pl)).take j).map V.int))∧Same H1 Hx:=⟨_,fun _ _=>Iff.rfl⟩
 refine cl_list (xs:=as.map V.ref) Pc ((hPc _ _).mpr ⟨upd_same,same_upd nD2 _⟩) (fun i Hx _ y=>by obtain⟨_,y⟩:=(hPc i Hx).mp y;exact (s1.trans y).seq hV) ?_ ?_
 ·intro j v Hx hv hc
  obtain⟨k1,k2⟩:=(hPc _ _).mp hc
  obtain⟨a,p,rfl,ha,hp,sq⟩:=hL.nth hv
  have hj:j < vec.length:=(List.getElem?_eq_some_iff.mp hp).1
  obtain⟨b1,b2⟩:=bv p (List.mem_of_getElem? hp)
  (iterate 3 (k_units;(try simp only [bst,Option.getD_some]));k_units)
  refine⟨a,p,pl,1000,40,rfl,(s1.trans k2).seq sq,by omega,b2,bpl,by decide,_,k1,?_,(hPc _ _).mpr ⟨?_,k2.more nD2⟩⟩
  ·rw [List.length_map,List.length_take];exact small1000 (by omega)
  ·rw [upd_same,List.take_succ,List.getElem?_map,hp,List.map_append];rfl
 intro H2 hc
 obtain⟨eD2,s2⟩:=(hPc _ _).mp hc
 rw [List.length_map,lv,List.take_of_length_le (by rw [List.length_map];exact Nat.le_refl _)] at eD2
 refine⟨D2,rfl,D,rfl,_,eD2,_,s2 _ _ eD,?_,fun r nr=>?_⟩
 ·rw [List.length_map,List.length_map,List.length_map,List.length_map,List.length_range];exact Nat.le_of_lt (small1000 (by omega))
 ·refine q r _ ((s1.trans s2).trans (same_upd nr _)) ((s1.trans s2).free nr) ?_
  rw [upd_same];unfold rowA;rw [List.map_append]
def dgL (p:List Int):Int:=((p.length - 1:Nat):Int)
def IsGd (ps:List (List Int)) (M:Int):Prop:=(ps.map dgL=[]∧M=0)∨(M∈ps.map dgL∧∀a∈ps.map dgL,a<=M)
def spGd (K:PySem.W.Frag):Sp:=fun vs H Q _=>∃(A:Addr) (as:List Addr) (ps:List (List Int)),vs=[.ref A]∧SqL K H A (as.map V.ref)∧LL K H as ps∧ps.length<=60∧∀M H',Same H H'->IsGd ps M->Q (.int M) H'
theorem ok_greatest_degree {P:Program} {w:World} {K:PySem.W.Frag} {mg:Str->Option Value} {base:Heap} (T:Tx K mg):FnOk P w K mg base CX0 1 T.a_greatest_degree T.fd_greatest_degree ["polys"] (spGd K):=by
 refine T.F_greatest_degree.ok sc_greatest_degree (fun vs H Q E h=>?_) (fun cdv A outer s H vs Q E hr h=>?_)
 ·obtain⟨A,as,ps,rfl,_⟩:=h
  rfl
 obtain⟨A,as,ps,rfl,hA,hL,l60,q⟩:=h
 refine⟨_,((pss_one (ps_ret (pe_maxD rfl rfl T.z_max (pa_cons (pe_lcomp rfl (blkok rfl sub_nil fv_nil) (pi_list (pv 0)) (fun _ _ _ _=>(pe_callB (call_max2 rfl) rfl T.z_max bt_max (pa_cons (pe_op op_sub (pe_callB (call_len_seqK (K:=K) rfl) rfl T.z_len bt_len (pa_cons (pv 0) pa_nil)) pe_int) (pa_cons pe_int pa_nil))))) pa_nil) (pk_cons pe_int pk_nil))))),?_⟩
 have lv:=hL.len
 k_units
 refine⟨⟨_,hA⟩,fun D nD=>?_⟩
 obtain⟨Pc,hPc⟩:∃Pc:Nat->Hp->Prop,∀j Hx,Pc j Hx↔Hx D=some (.lst (((ps.map dgL).take j).map V.int))∧Same H Hx:=⟨_,fun _ _=>Iff.rfl⟩
 refine cl_list (xs:=as.map V.ref) Pc ((hPc _ _).mpr ⟨upd_same,same_upd nD _⟩) (fun i Hx _ y=>by obtain⟨_,y⟩:=(hPc i Hx).mp y;exact y.seq hA) ?_ ?_
 ·intro j v Hx hv hc
  obtain⟨k1,k2⟩:=(hPc _ _).mp hc
  obtain⟨a,p,rfl,ha,hp,sq⟩:=hL.nth hv
  have hj:j < ps.length:=(List.getElem?_eq_some_iff.mp hp).1
  (iterate 3 (k_units;(try simp only [bst,Option.getD_some]));k_units)
  refine⟨_,.inl (k2.seq sq),?_⟩
  have e:(if 0 > ((p.map V.int).length:Int) - 1 then 0 else ((p.map V.int).length:Int) - 1)=dgL p:=by unfold dgL;rw [List.length_map];split <;> omega
  try rw [e]
  refine⟨_,k1,?_,(hPc _ _).mpr ⟨?_,k2.more nD⟩⟩
  ·rw [List.length_map,List.length_take];exact small1000 (by omega)
  ·rw [upd_same,List.take_succ,List.getElem?_map,hp,List.map_append];rfl
 intro H1 hc
 obtain⟨eD,s1⟩:=(hPc _ _).mp hc
 rw [List.length_map,lv,List.take_of_length_le (by rw [List.length_map];exact Nat.le_refl _)] at eD
 exact⟨D,rfl,_,SqL.of eD,fun M hM=>q M H1 s1 hM⟩
theorem pi_listK {X:Cx} {K:PySem.W.Frag} {tg l:Expr} {tl:TE} (hK:X.K=K) (hl:PE X l tl):PI X tg l (iList K tl):=by subst hK;exact pi_list hl
structure VL (K:PySem.W.Frag) (H:Hp) (vs:List Addr) (qs:List (List (List Int))):Prop where
 len:vs.length=qs.length
 get:∀(i:Nat) (v:Addr) (q:List (List Int)),vs[i]?=some v->qs[i]?=some q->∃as,SqL K H v (as.map V.ref)∧LL K H as q
def rowC (q:List (List Int)) (cs:List Nat):List (List Int):=cs.map fun c=>q.getD c []
def colC (qs:List (List (List Int))) (c:Nat):List (List Int):=qs.map fun q=>q.getD c []
theorem app_all {α β:Type} {Φ:α->β->Prop} {rs:List α} {L:List β} {r:α} (h:∀(t:Nat) (r:α) (p:β),rs[t]?=some r->L[t]?=some p->Φ r p) (hr:∀p,L[rs.length]?=some p->Φ r p):∀(t:Nat) (r':α) (p:β),(rs++[r])[t]?=some r'->L[t]?=some p->Φ r' p:=fun t r' p e1 e2=>by
 by_cases hi:t < rs.length
 ·rw [List.getElem?_append_left hi] at e1;exact h t r' p e1 e2
 ·rw [List.getElem?_append_right (by omega)] at e1
  have:t - rs.length=0:=by have:=(List.getElem?_eq_some_iff.mp e1).1;simp at this;omega
  rw [this] at e1
  have ht:t=rs.length:=by omega
  cases Option.some.inj e1
  rw [ht] at e2
  exact hr p e2
theorem getD_at {α:Type} {xs:List α} {i:Nat} {d:α} (h:i < xs.length):xs[i]?=some (xs.getD i d):=by
 rw [List.getD_eq_getElem?_getD,List.getElem?_eq_getElem h];rfl
def spDb (K:PySem.W.Frag):Sp:=fun vs H Q _=>∃(A B:Addr) (us:List Addr) (qs:List (List (List Int))) (cs:List Nat),vs=[.ref A,.ref B]∧SqL K H A (us.map V.ref)∧VL K H us qs∧SqL K H B ((cs.map fun c:Nat=>(c:Int)).map V.int)∧qs≠[]∧qs.length<=20∧cs.length<=20∧(∀q∈qs,∀c∈cs,c < q.length)∧
 ∀(bv bc:List Int) (m N:Int) (H':Hp),Same H H'->bv.length=qs.length->bc.length=cs.length->(∀(i:Nat) (b:Int) (q:List (List Int)),bv[i]?=some b->qs[i]?=some q->IsGd (rowC q cs) b)->(∀(i:Nat) (b:Int) (c:Nat),bc[i]?=some b->cs[i]?=some c->IsGd (colC qs c) b)->m∈bv->(∀b∈bv,m<=b)->N=(if bc.sum < bv.sum - m then bc.sum else bv.sum - m)->Q (.int N) H'
theorem ok_degree_bound {P:Program} {w:World} {K:PySem.W.Frag} {mg:Str->Option Value} {base:Heap} (T:Tx K mg):FnOk P w K mg base CX0 2 T.a_degree_bound T.fd_degree_bound ["vectors","columns"] (spDb K):=by
 refine T.F_degree_bound.ok sc_degree_bound (fun vs H Q E h=>?_) (fun cdv A outer s H vs Q E hr h=>?_)
 ·obtain⟨A,B,us,qs,cs,rfl,_⟩:=h
  rfl
 obtain⟨A,B,us,qs,cs,rfl,hA,hV,hB,q0,l20,c20,hw,q⟩:=h
 refine⟨_,((pss_cons (ps_setCC (i:=2) rfl (blkokC rfl (sub_cons rfl sub_nil) (fv_cons 1 "columns" (by decide) rfl (Or.inl rfl) (Or.inl rfl) ⟨_,rfl⟩ fv_nil)) (pi_list (pv 0)) (fun _ _ _ _=>(pe_call (FnOk.mono (ok_greatest_degree T) (by decide)) hr rfl T.m_greatest_degree T.F_greatest_degree.kp T.b_greatest_degree .nil pass0 (pa_cons (pe_lcomp rfl (blkok rfl (sub_cons rfl sub_nil) (fv_cons 0 "vector" (by decide) rfl (Or.inl rfl) (Or.inl rfl) ⟨_,rfl⟩ fv_nil)) (pi_listK (K:=K) rfl (pv 1)) (fun _ _ _ _=>(pe_ix (ix_listK (K:=K) rfl) (pv 1) (pv 0) (fun _ _=>rfl)))) pa_nil))) sc_degree_bound.nd rfl rfl)
  (pss_cons (ps_setCC (i:=3) rfl (blkokC rfl (sub_cons rfl sub_nil) (fv_cons 0 "vectors" (by decide) rfl (Or.inl rfl) (Or.inl rfl) ⟨_,rfl⟩ fv_nil)) (pi_list (pv 1)) (fun _ _ _ _=>(pe_call (FnOk.mono (ok_greatest_degree T) (by decide)) hr rfl T.m_greatest_degree T.F_greatest_degree.kp T.b_greatest_degree .nil pass0 (pa_cons (pe_lcomp rfl (blkok rfl (sub_cons rfl sub_nil) (fv_cons 0 "column" (by decide) rfl (Or.inl rfl) (Or.inl rfl) ⟨_,rfl⟩ fv_nil)) (pi_listK (K:=K) rfl (pv 1)) (fun _ _ _ _=>(pe_ix (ix_listK (K:=K) rfl) (pv 0) (pv 1) (fun _ _=>rfl)))) pa_nil))) sc_degree_bound.nd rfl rfl)
  (pss_one (ps_ret (pe_callB (call_min2 rfl) rfl T.z_min bt_min (pa_cons (pe_op op_sub (pe_callB (call_sumL rfl) rfl T.z_sum boot_sum (pa_cons (pv 2) pa_nil)) (pe_callB (call_minL rfl) rfl T.z_min bt_min (pa_cons (pv 2) pa_nil))) (pa_cons (pe_callB (call_sumL rfl) rfl T.z_sum boot_sum (pa_cons (pv 3) pa_nil)) pa_nil)))))))),?_⟩
 have lu:=hV.len
 dsimp only [a_seq]
 k_typeOf
 refine⟨⟨_,hA⟩,fun D nD=>?_⟩
 obtain⟨Pc,hPc⟩:∃Pc:Nat->Hp->Prop,∀j Hx,Pc j Hx↔∃bv:List Int,Hx D=some (.lst (bv.map V.int))∧bv.length=j∧(∀(i:Nat) (b:Int) (q:List (List Int)),bv[i]?=some b->qs[i]?=some q->IsGd (rowC q cs) b)∧Same H Hx:=⟨_,fun _ _=>Iff.rfl⟩
 refine cl_list (xs:=us.map V.ref) Pc ((hPc _ _).mpr ⟨[],upd_same,rfl,fun i b q e=>by simp at e,same_upd nD _⟩) (fun i Hx _ y=>by obtain⟨_,_,_,_,y⟩:=(hPc i Hx).mp y;exact y.seq hA) ?_ ?_
 ·intro j v Hx hv hc
  obtain⟨bv,k1,k2,k3,k4⟩:=(hPc _ _).mp hc
  rw [List.getElem?_map] at hv
  obtain⟨u,hu,rfl⟩:=Option.map_eq_some_iff.mp hv
  have hj:j < qs.length:=by have:=(List.getElem?_eq_some_iff.mp hu).1;omega
  have hqj:qs[j]?=some qs[j]:=List.getElem?_eq_getElem hj
  obtain⟨as,sA,lA⟩:=hV.get j u _ hu hqj
  have hwq:=hw _ (List.getElem_mem hj)
  (iterate 3 (k_units;(try simp only [bst,Option.getD_some]));k_units)
  generalize qs[j]=qv at lA hwq hqj
  refine⟨⟨_,k4.seq hB⟩,fun D1 nD1=>?_⟩
  obtain⟨Pi,hPi⟩:∃Pi:Nat->Hp->Prop,∀i Hy,Pi i Hy↔∃rs:List Addr,Hy D1=some (.lst (rs.map V.ref))∧rs.length=i∧(∀(t:Nat) (r:Addr) (p:List Int),rs[t]?=some r->(rowC qv cs)[t]?=some p->SqL K H r (p.map V.int))∧Same Hx Hy:=⟨_,fun _ _=>Iff.rfl⟩
  refine cl_list (xs:=(cs.map fun c:Nat=>(c:Int)).map V.int) Pi ((hPi _ _).mpr ⟨[],upd_same,rfl,fun t r p e=>by simp at e,same_upd nD1 _⟩) (fun i Hy _ y=>by obtain⟨_,_,_,_,y⟩:=(hPi i Hy).mp y;exact (k4.trans y).seq hB) ?_ ?_
  ·intro i v Hy hv2 hi
   obtain⟨rs,m1,m2,m3,m4⟩:=(hPi _ _).mp hi
   rw [List.getElem?_map,List.getElem?_map] at hv2
   obtain⟨z,hz,rfl⟩:=Option.map_eq_some_iff.mp hv2
   obtain⟨c,hc',rfl⟩:=Option.map_eq_some_iff.mp hz
   have hcl:=hwq c (List.mem_of_getElem? hc')
   have hca:c < as.length:=by have:=lA.len;omega
   have hic:i < cs.length:=(List.getElem?_eq_some_iff.mp hc').1
   (iterate 3 (k_units;(try simp only [bst,Option.getD_some]));k_units)
   refine⟨_,(k4.trans m4).seq sA,V.ref as[c],atI_nat (by rw [List.getElem?_map,List.getElem?_eq_getElem hca];rfl),_,m1,by rw [List.length_map];exact small1000 (by omega),(hPi _ _).mpr ⟨rs++[as[c]],by rw [upd_same,List.map_append];rfl,by simp [m2],app_all m3 fun p hp=>?_,m4.more nD1⟩⟩
   rw [m2] at hp
   unfold rowC at hp
   rw [List.getElem?_map,hc'] at hp
   obtain rfl:=Option.some.inj hp
   exact lA.get c _ _ (List.getElem?_eq_getElem hca) (getD_at hcl)
  intro Hy hi
  obtain⟨rs,m1,m2,m3,m4⟩:=(hPi _ _).mp hi
  rw [List.length_map,List.length_map] at m2
  have hR:LL K Hy rs (rowC qv cs):=⟨by unfold rowC;rw [List.length_map];exact m2,fun t r p e1 e2=>(k4.trans m4).seq (m3 t r p e1 e2)⟩
  refine⟨D1,rs,_,rfl,SqL.of m1,hR,by unfold rowC;rw [List.length_map];omega,fun M H2 s2 hM=>⟨_,s2 _ _ (m4 _ _ k1),by rw [List.length_map];exact small1000 (by omega),(hPc _ _).mpr ⟨bv++[M],by rw [upd_same,List.map_append];rfl,by simp [k2],?_,(k4.trans (m4.trans s2)).more nD⟩⟩⟩
  refine app_all (Φ:=fun b q=>IsGd (rowC q cs) b) k3 fun q hq=>?_
  rw [k2,hqj] at hq
  obtain rfl:=Option.some.inj hq
  exact hM
 intro H1 hc
 obtain⟨bv,k1,k2,k3,k4⟩:=(hPc _ _).mp hc
 rw [List.length_map,lu] at k2
 clear hc hPc Pc
 dsimp only [a_seq]
 k_typeOf
 refine⟨⟨_,k4.seq hB⟩,fun D2 nD2=>?_⟩
 obtain⟨Pc,hPc⟩:∃Pc:Nat->Hp->Prop,∀j Hx,Pc j Hx↔∃bc:List Int,Hx D2=some (.lst (bc.map V.int))∧bc.length=j∧(∀(i:Nat) (b:Int) (c:Nat),bc[i]?=some b->cs[i]?=some c->IsGd (colC qs c) b)∧Same H1 Hx:=⟨_,fun _ _=>Iff.rfl⟩
 refine cl_list (xs:=(cs.map fun c:Nat=>(c:Int)).map V.int) Pc ((hPc _ _).mpr ⟨[],upd_same,rfl,fun i b q e=>by simp at e,same_upd nD2 _⟩) (fun i Hx _ y=>by obtain⟨_,_,_,_,y⟩:=(hPc i Hx).mp y;exact (k4.trans y).seq hB) ?_ ?_
 ·intro j v Hx hv hc
  obtain⟨bc,c1,c2,c3,c4⟩:=(hPc _ _).mp hc
  rw [List.getElem?_map,List.getElem?_map] at hv
  obtain⟨z,hz,rfl⟩:=Option.map_eq_some_iff.mp hv
  obtain⟨c,hc',rfl⟩:=Option.map_eq_some_iff.mp hz
  have hj:j < cs.length:=(List.getElem?_eq_some_iff.mp hc').1
  have s1x:=k4.trans c4
  (iterate 3 (k_units;(try simp only [bst,Option.getD_some]));k_units)
  refine⟨⟨_,s1x.seq hA⟩,fun D1 nD1=>?_⟩
  obtain⟨Pi,hPi⟩:∃Pi:Nat->Hp->Prop,∀i Hy,Pi i Hy↔∃rs:List Addr,Hy D1=some (.lst (rs.map V.ref))∧rs.length=i∧(∀(t:Nat) (r:Addr) (p:List Int),rs[t]?=some r->(colC qs c)[t]?=some p->SqL K H r (p.map V.int))∧Same Hx Hy:=⟨_,fun _ _=>Iff.rfl⟩
  refine cl_list (xs:=us.map V.ref) Pi ((hPi _ _).mpr ⟨[],upd_same,rfl,fun t r p e=>by simp at e,same_upd nD1 _⟩) (fun i Hy _ y=>by obtain⟨_,_,_,_,y⟩:=(hPi i Hy).mp y;exact (s1x.trans y).seq hA) ?_ ?_
  ·intro i v Hy hv2 hi
   obtain⟨rs,m1,m2,m3,m4⟩:=(hPi _ _).mp hi
   rw [List.getElem?_map] at hv2
   obtain⟨u,hu,rfl⟩:=Option.map_eq_some_iff.mp hv2
   have hiq:i < qs.length:=by have:=(List.getElem?_eq_some_iff.mp hu).1;omega
   have hqi:qs[i]?=some qs[i]:=List.getElem?_eq_getElem hiq
   obtain⟨as,sA,lA⟩:=hV.get i u _ hu hqi
   have hcl:=hw _ (List.getElem_mem hiq) c (List.mem_of_getElem? hc')
   generalize qs[i]=qv at lA hcl hqi
   have hca:c < as.length:=by have:=lA.len;omega
   (iterate 3 (k_units;(try simp only [bst,Option.getD_some]));k_units)
   refine⟨_,(s1x.trans m4).seq sA,V.ref as[c],atI_nat (by rw [List.getElem?_map,List.getElem?_eq_getElem hca];rfl),_,m1,by rw [List.length_map];exact small1000 (by omega),(hPi _ _).mpr ⟨rs++[as[c]],by rw [upd_same,List.map_append];rfl,by simp [m2],app_all m3 fun p hp=>?_,m4.more nD1⟩⟩
   rw [m2] at hp
   unfold colC at hp
   rw [List.getElem?_map,hqi] at hp
   obtain rfl:=Option.some.inj hp
   exact lA.get c _ _ (List.getElem?_eq_getElem hca) (getD_at hcl)
  intro Hy hi
  obtain⟨rs,m1,m2,m3,m4⟩:=(hPi _ _).mp hi
  rw [List.length_map,lu] at m2
  have hR:LL K Hy rs (colC qs c):=⟨by unfold colC;rw [List.length_map];exact m2,fun t r p e1 e2=>(s1x.trans m4).seq (m3 t r p e1 e2)⟩
  refine⟨D1,rs,_,rfl,SqL.of m1,hR,by unfold colC;rw [List.length_map];omega,fun M H2 s2 hM=>⟨_,s2 _ _ (m4 _ _ c1),by rw [List.length_map];exact small1000 (by omega),(hPc _ _).mpr ⟨bc++[M],by rw [upd_same,List.map_append];rfl,by simp [c2],?_,(c4.trans (m4.trans s2)).more nD2⟩⟩⟩
  refine app_all (Φ:=fun b c=>IsGd (colC qs c) b) c3 fun c'' hq=>?_
  rw [c2,hc'] at hq
  obtain rfl:=Option.some.inj hq
  exact hM
 intro H2 hc
 obtain⟨bc,c1,c2,c3,c4⟩:=(hPc _ _).mp hc
 rw [List.length_map,List.length_map] at c2
 have bv0:bv≠[]:=fun z=>by rw [z] at k2;exact q0 (List.eq_nil_of_length_eq_zero k2.symm)
 k_units
 exact⟨bv,SqL.of (c4 _ _ k1),bv,SqL.of (c4 _ _ k1),bv0,fun m hm hle=>⟨bc,SqL.of c1,q bv bc m _ H2 (k4.trans c4) k2 c2 k3 c3 hm hle rfl⟩⟩
structure LH (H:Hp) (as:List Addr) (ps:List (List Int)):Prop where
 len:as.length=ps.length
 get:∀(i:Nat) (a:Addr) (p:List Int),as[i]?=some a->ps[i]?=some p->H a=some (.lst (p.map V.int))
theorem LH.ll {K:PySem.W.Frag} {H:Hp} {as:List Addr} {ps:List (List Int)} (h:LH H as ps):LL K H as ps:=⟨h.len,fun i a p h1 h2=>SqL.of (h.get i a p h1 h2)⟩
theorem LH.same {H H':Hp} {as:List Addr} {ps:List (List Int)} (h:LH H as ps) (s:Same H H'):LH H' as ps:=⟨h.len,fun i a p h1 h2=>s _ _ (h.get i a p h1 h2)⟩
theorem LH.nil (H:Hp):LH H [] []:=⟨rfl,fun i a p h1 _=>by simp at h1⟩
theorem LH.snoc {H:Hp} {as:List Addr} {ps:List (List Int)} {a:Addr} {p:List Int} (h:LH H as ps) (e:H a=some (.lst (p.map V.int))):LH H (as++[a]) (ps++[p]):=by
 refine⟨by simp [h.len],fun i b r h1 h2=>?_⟩
 by_cases z:i < as.length
 ·rw [List.getElem?_append_left z] at h1
  rw [List.getElem?_append_left (by rw [← h.len];exact z)] at h2
  exact h.get i b r h1 h2
 ·rw [List.getElem?_append_right (by omega)] at h1
  rw [List.getElem?_append_right (by rw [← h.len];omega),← h.len] at h2
  have z2:i - as.length=0:=by
   rcases Nat.eq_zero_or_pos (i - as.length) with y | y
   ·exact y
   ·rw [List.getElem?_eq_none (by simp;omega)] at h1;cases h1
  rw [z2] at h1 h2
  simp at h1 h2
  rw [← h1,← h2];exact e
theorem LH.set {H:Hp} {as:List Addr} {ps:List (List Int)} {a:Addr} {p:List Int} (h:LH H as ps) (e:H a=some (.lst (p.map V.int))) (i:Nat):LH H (as.set i a) (ps.set i p):=by
 refine⟨by simp [h.len],fun j b r h1 h2=>?_⟩
 by_cases z:i=j
 ·subst z
  have l1:i < as.length:=by have:=(List.getElem?_eq_some_iff.mp h1).1;simpa using this
  rw [List.getElem?_set_self l1] at h1
  rw [List.getElem?_set_self (by rw [← h.len];exact l1)] at h2
  rw [← Option.some.inj h1,← Option.some.inj h2];exact e
 ·rw [List.getElem?_set_ne z] at h1 h2
  exact h.get j b r h1 h2
theorem LH.upd {H:Hp} {as:List Addr} {ps:List (List Int)} {b:Addr} {o:HO} (h:LH H as ps) (n:b∉as):LH (L2.upd H b o) as ps:=⟨h.len,fun i a p h1 h2=>by
 rw [upd_ne (fun z=>n (by rw [← z];exact List.mem_of_getElem? h1))];exact h.get i a p h1 h2⟩
theorem LH.mem {H:Hp} {as:List Addr} {ps:List (List Int)} (h:LH H as ps) {a:Addr} (ha:a∈as):∃p:List Int,H a=some (.lst (p.map V.int)):=by
 obtain⟨i,hi,e⟩:=List.mem_iff_getElem.mp ha
 have hp:i < ps.length:=by rw [← h.len];exact hi
 exact⟨ps[i],h.get i a ps[i] (by rw [← e];exact List.getElem?_eq_getElem hi) (List.getElem?_eq_getElem hp)⟩
theorem LH.notin {H:Hp} {as:List Addr} {ps:List (List Int)} (h:LH H as ps) {a:Addr} (ha:H a=none):a∉as:=fun z=>by
 obtain⟨p,e⟩:=h.mem z
 rw [ha] at e;cases e
def tabR (w:Nat) (kept:List (List (List Int))) (cs:List Nat) (p:Int):Nat->List (List Int)
 | 0=>[]
 | n+1=>tabR w kept cs p n++[(lowN (rowA w (kept.getD n []) n p) (tabR w kept cs p n) cs n).2]
def tRow (w:Nat) (kept:List (List (List Int))) (cs:List Nat) (p:Int) (n:Nat):List Int:=(lowN (rowA w (kept.getD n []) n p) (tabR w kept cs p n) cs n).2
theorem tabR_len (w:Nat) (kept:List (List (List Int))) (cs:List Nat) (p:Int):∀n,(tabR w kept cs p n).length=n
 | 0=>rfl
 | n+1=>by rw [tabR,List.length_append,tabR_len w kept cs p n];rfl
def Piv (w:Nat) (kept:List (List (List Int))) (cs:List Nat) (p:Int) (n:Nat):Prop:=∀i,i < n->co (tRow w kept cs p i) (cs.getD i 0)≠0
def VecAt (H:Hp) (M:List Addr) (u:Addr) (q:List (List Int)):Prop:=∃as:List Addr,H u=some (.lst (as.map V.ref))∧LH H as q∧u∉M∧∀a∈as,a∉M
def TabAt (H:Hp) (M:List Addr) (w:Nat) (kept:List (List (List Int))) (cs:List Nat) (e:Key×V):Prop:=∃(p:Int) (ta:Addr) (n:Nat) (rs:List Addr),e=(.inl p,.ref ta)∧ta∈M∧H ta=some (.lst (rs.map V.ref))∧LH H rs (tabR w kept cs p n)∧n<=kept.length∧Piv w kept cs p n∧∀r∈rs,r∉M
structure Spn {K:PySem.W.Frag} {mg:Str->Option Value} (T:Tx K mg) (H:Hp) (x dx Kp Cl Tb:Addr) (us:List Addr) (kvs:List (Key×V)) (M:List Addr) (w:Nat) (kept:List (List (List Int))) (cs:List Nat) (pl:Int):Prop where
 hx:H x=some (.ins T.c_Span dx (spnF w Kp Cl pl Tb))
 hK:H Kp=some (.lst (us.map V.ref))
 hC:H Cl=some (.lst ((cs.map fun c:Nat=>(c:Int)).map V.int))
 hT:H Tb=some (.dK kvs)
 lk:us.length=kept.length
 lc:cs.length=kept.length
 vec:∀(i:Nat) (u:Addr) (q:List (List Int)),us[i]?=some u->kept[i]?=some q->VecAt H M u q
 tab:∀e∈kvs,TabAt H M w kept cs e
 inj:∀e∈kvs,∀e'∈kvs,e.2=e'.2->e.1=e'.1
 mem:x∈M∧Kp∈M∧Cl∈M∧Tb∈M
 out:∀e∈kvs,e.2≠.ref Kp∧e.2≠.ref Cl
 ne:Kp≠Cl
 al:∀a∈M,∃o,H a=some o
def KX (M:List Addr) (H H':Hp):Prop:=∀y o,y∉M->H y=some o->H' y=some o
theorem LH.kx {H H':Hp} {as:List Addr} {ps:List (List Int)} {M:List Addr} (h:LH H as ps) (k:KX M H H') (n:∀a∈as,a∉M):LH H' as ps:=⟨h.len,fun i a p e1 e2=>k _ _ (n a (List.mem_of_getElem? e1)) (h.get i a p e1 e2)⟩
theorem VecAt.same {H H':Hp} {M:List Addr} {u:Addr} {q:List (List Int)} (h:VecAt H M u q) (s:Same H H'):VecAt H' M u q:=by
 obtain⟨as,h1,h2,h3,h4⟩:=h
 exact⟨as,s _ _ h1,h2.same s,h3,h4⟩
theorem TabAt.same {H H':Hp} {M:List Addr} {w:Nat} {kept:List (List (List Int))} {cs:List Nat} {e:Key×V} (h:TabAt H M w kept cs e) (s:Same H H'):TabAt H' M w kept cs e:=by
 obtain⟨p,ta,n,rs,h1,h2,h3,h4,h5⟩:=h
 exact⟨p,ta,n,rs,h1,h2,s _ _ h3,h4.same s,h5⟩
section
variable {K:PySem.W.Frag} {mg:Str->Option Value} {T:Tx K mg} {H H':Hp} {x dx Kp Cl Tb:Addr} {us:List Addr} {kvs:List (Key×V)} {M:List Addr} {w:Nat} {kept:List (List (List Int))} {cs:List Nat} {pl:Int}
theorem Spn.same (S:Spn T H x dx Kp Cl Tb us kvs M w kept cs pl) (s:Same H H'):Spn T H' x dx Kp Cl Tb us kvs M w kept cs pl:=
 ⟨s _ _ S.hx,s _ _ S.hK,s _ _ S.hC,s _ _ S.hT,S.lk,S.lc,fun i u q e1 e2=>(S.vec i u q e1 e2).same s,fun e he=>(S.tab e he).same s,S.inj,S.mem,S.out,S.ne,fun a ha=>by obtain⟨o,e⟩:=S.al a ha;exact⟨o,s _ _ e⟩⟩
theorem Spn.put {p:Int} {D:Addr} (S:Spn T H x dx Kp Cl Tb us kvs M w kept cs pl) (nD:H D=none) (hn:∀e∈kvs,e.1≠.inl p):
  Spn T (L2.upd (L2.upd H D (.lst [])) Tb (.dK (kvs++[(.inl p,.ref D)]))) x dx Kp Cl Tb us (kvs++[(.inl p,.ref D)]) (D :: M) w kept cs pl:=by
 obtain⟨m1,m2,m3,m4⟩:=S.mem
 have u:=same_upd nD (.lst [])
 have nT:∀{y:Addr} {o:HO},H y=some o->(∀z,o≠.dK z)->L2.upd (L2.upd H D (.lst [])) Tb (.dK (kvs++[(.inl p,.ref D)])) y=some o:=fun {y o} e hz=>by
  have:y≠Tb:=fun z=>by rw [z,S.hT] at e;cases e;exact hz _ rfl
  rw [upd_ne this];exact u _ _ e
 have hD:∀{y:Addr} {o:HO},H y=some o->y≠D:=fun {y o} e z=>by rw [z,nD] at e;cases e
 have dT:D≠Tb:=fun z=>by rw [z,S.hT] at nD;cases nD
 have lh:∀{as:List Addr} {ps:List (List Int)},LH H as ps->LH (L2.upd (L2.upd H D (.lst [])) Tb (.dK (kvs++[(.inl p,.ref D)]))) as ps:=fun h=>⟨h.len,fun i a p' e1 e2=>nT (h.get i a p' e1 e2) (fun z y=>nomatch y)⟩
 have nin:∀{as:List Addr} {ps:List (List Int)},LH H as ps->(∀a∈as,a∉M)->∀a∈as,a∉D :: M:=fun {as ps} h n a ha z=>by
  rcases List.mem_cons.mp z with z | z
  ·obtain⟨i,hi,rfl⟩:=List.mem_iff_getElem.mp ha
   have:=h.get i _ _ (List.getElem?_eq_getElem hi) (List.getElem?_eq_getElem (by rw [← h.len];exact hi))
   exact hD this z
  ·exact n a ha z
 refine⟨nT S.hx (fun z y=>nomatch y),nT S.hK (fun z y=>nomatch y),nT S.hC (fun z y=>nomatch y),upd_same,S.lk,S.lc,fun i v q e1 e2=>?_,fun e he=>?_,fun e he e' he' z=>?_,⟨.tail _ m1,.tail _ m2,.tail _ m3,.tail _ m4⟩,fun e he=>?_,S.ne,fun a ha=>?_⟩
 ·obtain⟨as,h1,h2,h3,h4⟩:=S.vec i v q e1 e2
  refine⟨as,nT h1 (fun z y=>nomatch y),lh h2,fun z=>?_,nin h2 h4⟩
  rcases List.mem_cons.mp z with z | z
  ·exact hD h1 z
  ·exact h3 z
 ·rcases List.mem_append.mp he with he | he
  ·obtain⟨p',ta,n,rs,h1,h2,h3,h4,h5,h6,h7⟩:=S.tab e he
   exact⟨p',ta,n,rs,h1,.tail _ h2,nT h3 (fun z y=>nomatch y),lh h4,h5,h6,nin h4 h7⟩
  ·rw [List.mem_singleton.mp he]
   exact⟨p,D,0,[],rfl,.head _,by rw [upd_ne dT];exact upd_same,LH.nil _,Nat.zero_le _,fun i hi=>by omega,fun r hr=>by simp at hr⟩
 ·have old:∀e∈kvs,e.2≠.ref D:=fun e he z=>by
   obtain⟨p',ta,n,rs,h1,h2,h3,_⟩:=S.tab e he
   rw [h1] at z
   have:ta=D:=by injection z
   exact hD h3 this
  rcases List.mem_append.mp he with he | he <;> rcases List.mem_append.mp he' with he' | he'
  ·exact S.inj e he e' he' z
  ·rw [List.mem_singleton.mp he'] at z ⊢;exact absurd z (old e he)
  ·rw [List.mem_singleton.mp he] at z ⊢;exact absurd z.symm (old e' he')
  ·rw [List.mem_singleton.mp he,List.mem_singleton.mp he']
 ·rcases List.mem_append.mp he with he | he
  ·exact S.out e he
  ·rw [List.mem_singleton.mp he]
   refine⟨fun z=>?_,fun z=>?_⟩
   ·injection z with z;rw [z,S.hK] at nD;cases nD
   ·injection z with z;rw [z,S.hC] at nD;cases nD
 ·by_cases z:a=Tb
  ·rw [z];exact⟨_,upd_same⟩
  ·rw [upd_ne z]
   rcases List.mem_cons.mp ha with y | y
   ·rw [y];exact⟨_,upd_same⟩
   ·obtain⟨o,e⟩:=S.al a y
    exact⟨o,u _ _ e⟩
theorem Spn.row {p:Int} {ta R:Addr} {n:Nat} {rs:List Addr} (S:Spn T H x dx Kp Cl Tb us kvs M w kept cs pl) (he:(Sum.inl p,V.ref ta)∈kvs) (hta:H ta=some (.lst (rs.map V.ref))) (hrs:LH H rs (tabR w kept cs p n)) (nrs:∀r∈rs,r∉M) (hn:n < kept.length) (hp:Piv w kept cs p (n+1)) (eR:H R=some (.lst ((tRow w kept cs p n).map V.int))) (nR:R∉M):
  Spn T (L2.upd H ta (.lst ((rs++[R]).map V.ref))) x dx Kp Cl Tb us kvs M w kept cs pl:=by
 obtain⟨p0,ta0,n0,rs0,g1,g2,g3,_⟩:=S.tab _ he
 have tM:ta∈M:=by injection g1 with _ z;injection z with z;rw [z];exact g2
 have kx:KX M H (L2.upd H ta (.lst ((rs++[R]).map V.ref))):=fun y o ny e=>by
  have d:y≠ta:=fun z=>ny (by rw [z];exact tM)
  rw [upd_ne d];exact e
 have o:=S.out _ he
 have nl:∀{y:Addr} {u:HO},H y=some u->(∀z,u≠.lst z)->L2.upd H ta (.lst ((rs++[R]).map V.ref)) y=some u:=fun {y u} e hz=>by
  rw [upd_ne (fun z=>by rw [z,hta] at e;cases e;exact hz _ rfl)];exact e
 refine⟨nl S.hx (fun z y=>nomatch y),?_,?_,nl S.hT (fun z y=>nomatch y),S.lk,S.lc,fun i v q e1 e2=>?_,fun e he'=>?_,S.inj,S.mem,S.out,S.ne,fun a ha=>?_⟩
 ·rw [upd_ne (fun z=>o.1 (by rw [z]))];exact S.hK
 ·rw [upd_ne (fun z=>o.2 (by rw [z]))];exact S.hC
 ·obtain⟨as,h1,h2,h3,h4⟩:=S.vec i v q e1 e2
  exact⟨as,kx _ _ h3 h1,h2.kx kx h4,h3,h4⟩
 ·by_cases z:e.2=.ref ta
  ·have ek:=S.inj _ he' _ he z
   have ee:e=(.inl p,.ref ta):=Prod.ext ek z
   rw [ee]
   refine⟨p,ta,n+1,rs++[R],rfl,tM,upd_same,?_,hn,hp,fun r hr=>?_⟩
   ·exact (hrs.kx kx nrs).snoc (kx _ _ nR eR)
   ·rcases List.mem_append.mp hr with h | h
    ·exact nrs r h
    ·rw [List.mem_singleton.mp h];exact nR
  ·obtain⟨p',ta',n',rs',h1,h2,h3,h4,h5,h6,h7⟩:=S.tab e he'
   have d:ta'≠ta:=fun y=>z (by rw [h1,y])
   exact⟨p',ta',n',rs',h1,h2,by rw [upd_ne d];exact h3,h4.kx kx h7,h5,h6,h7⟩
 ·by_cases z:a=ta
  ·rw [z];exact⟨_,upd_same⟩
  ·rw [upd_ne z];exact S.al a ha
end
def KW (x Kp Cl Tb:Addr) (kvs:List (Key×V)) (H H':Hp):Prop:=∀y o,y≠x->y≠Kp->y≠Cl->y≠Tb->(∀e∈kvs,e.2≠V.ref y)->H y=some o->H' y=some o
theorem Spn.kx {K:PySem.W.Frag} {mg:Str->Option Value} {T:Tx K mg} {H H':Hp} {x dx Kp Cl Tb:Addr} {us:List Addr} {kvs:List (Key×V)} {M:List Addr} {w:Nat} {kept:List (List (List Int))} {cs:List Nat} {pl:Int} (S:Spn T H x dx Kp Cl Tb us kvs M w kept cs pl) (k:KW x Kp Cl Tb kvs H H'):KX M H H':=fun y o ny e=>by
 obtain⟨m1,m2,m3,m4⟩:=S.mem
 have d:∀{z:Addr},z∈M->y≠z:=fun {z} hz h=>ny (by rw [h];exact hz)
 refine k y o (d m1) (d m2) (d m3) (d m4) (fun e' he z=>?_) e
 obtain⟨p,ta,n,rs,h1,h2,_⟩:=S.tab e' he
 rw [h1] at z
 injection z with z
 exact ny (by rw [← z];exact h2)
structure TBd (w:Nat) (kept:List (List (List Int))) (cs:List Nat) (p:Int):Prop where
 w20:w<=20
 bp:Bd 40 p
 low:∀n,n < kept.length->Piv w kept cs p n->LowOk (rowA w (kept.getD n []) n p) (tabR w kept cs p n) cs
 vec:∀q∈kept,q.length<=20∧∀f∈q,f.length<=60∧∀c∈f,Bd 1000 c
theorem a_tyK {K:PySem.W.Frag} {H:Hp} {a:Addr} {kvs:List (Key×V)} (h:H a=some (.dK kvs)):tyV K "dict" (.ref a) H:=.inr (.inr (.inl ⟨rfl,.inl ⟨_,h⟩⟩))
def spTab {K:PySem.W.Frag} {mg:Str->Option Value} (T:Tx K mg):Sp:=fun vs H Q _=>∃(x dx Kp Cl Tb:Addr) (us:List Addr) (kvs:List (Key×V)) (M:List Addr) (w:Nat) (kept:List (List (List Int))) (cs:List Nat) (pl p:Int),vs=[.ref x,.int p]∧Spn T H x dx Kp Cl Tb us kvs M w kept cs pl∧TBd w kept cs p∧kvs.length<=900∧kept.length<=20∧
 ∀(H':Hp) (kvs':List (Key×V)) (M':List Addr),Spn T H' x dx Kp Cl Tb us kvs' M' w kept cs pl->KW x Kp Cl Tb kvs H H'->(∀a∈M,a∈M')->(∀a∈M',a∈M∨H a=none)->kvs'.length<=kvs.length+1->(∀e∈kvs',e∈kvs∨∀a,e.2=V.ref a->H a=none)->
  (∀(ta:Addr) (rs:List Addr),ta∈M'->H' ta=some (.lst (rs.map V.ref))->LH H' rs (tabR w kept cs p kept.length)->Piv w kept cs p kept.length->Q (.ref ta) H')∧(¬Piv w kept cs p kept.length->Q .non H')
theorem val_none {kvs:List (Key×V)} {k:Key} (h:valV kvs k=none):(∀e∈kvs,e.1≠k)∧∀v,putK kvs k v=kvs++[(k,v)]:=by
 have a:∀e∈kvs,e.1≠k:=fun e he z=>by
  unfold valV at h
  rw [Option.map_eq_none_iff,List.find?_eq_none] at h
  exact h e he (by simp [z])
 refine⟨a,fun v=>?_⟩
 unfold putK
 rw [if_neg]
 rw [List.any_eq_true]
 rintro ⟨e,he,z⟩
 exact a e he (by simpa using z)
theorem val_some {kvs:List (Key×V)} {k:Key} {u:V} (h:valV kvs k=some u):(k,u)∈kvs:=by
 unfold valV at h
 obtain⟨e,h1,rfl⟩:=Option.map_eq_some_iff.mp h
 have h2:=List.find?_some h1
 have h3:=List.mem_of_find?_eq_some h1
 have:e.1=k:=by simpa using h2
 rw [← this];exact h3
theorem ok_Span_table_at {P:Program} {w:World} {K:PySem.W.Frag} {mg:Str->Option Value} {base:Heap} (T:Tx K mg):FnOk P w K mg base CX0 3 T.a_Span_table_at T.fd_Span_table_at ["self","place"] (spTab T):=by
 refine T.F_Span_table_at.ok sc_Span_table_at (fun vs H Q E h=>?_) (fun cdv A outer s H vs Q E hr h=>?_)
 ·obtain⟨x,dx,Kp,Cl,Tb,us,kvs,M,w,kept,cs,pl,p,rfl,_⟩:=h
  rfl
 obtain⟨x,dx,Kp,Cl,Tb,us,kvs,M,w,kept,cs,pl,p,rfl,S,B,l9,l20,q⟩:=h
 refine⟨_,((pss_mid (ps_set (i:=2) sc_Span_table_at.nd rfl (Or.inl rfl) (pe_bm PySem.F.plainAttrs_dict PySem.F.slot_dict_setdefault PySem.F.type_dict_setdefault mt_setDef (pe_fld (pv 0) rfl) (pa_cons (pv 1) (pa_cons (pe_lst pa_nil) pa_nil))))
  (pss_cons (ps_while PassesOwn.never (pt_cmpR op_lt (pe_callB call_len_seq rfl T.z_len bt_len (pa_cons (pv 2) pa_nil)) (pe_callB call_len_seq rfl T.z_len bt_len (pa_cons (pe_fld (pv 0) rfl) pa_nil)) (nomark _)) (pss_cons (ps_set (i:=3) sc_Span_table_at.nd rfl (Or.inl rfl) (pe_callB call_len_seq rfl T.z_len bt_len (pa_cons (pv 2) pa_nil)))
  (pss_cons (ps_set (i:=4) sc_Span_table_at.nd rfl (Or.inl rfl) (pe_call (FnOk.mono (ok_lowered T) (by decide)) hr rfl T.m_lowered T.F_lowered.kp T.b_lowered .nil pass0 (pa_cons (pe_meth (pv 0) T.cl_Span T.me_Span_row_at (FnOk.mono (ok_Span_row_at T) (by decide)) hr T.b_Span_row_at .nil pass0 (pa_cons (pe_ix ix_list (pe_fld (pv 0) rfl) (pv 3) (fun _ _=>rfl)) (pa_cons (pv 3) (pa_cons (pv 1) pa_nil)))) (pa_cons (pv 2) (pa_cons (pe_fld (pv 0) rfl) pa_nil)))))
  (pss_cons (ps_if (pt_cmpR op_eq (pe_ix ix_list (pv 4) (pe_ix ix_list (pe_fld (pv 0) rfl) (pv 3) (fun _ _=>rfl)) (fun _ _=>rfl)) pe_int (nomark _)) (pss_one (ps_ret pe_non)) pss_nil)
  (pss_one (ps_expr (pe_bm PySem.F.plainAttrs_list PySem.F.slot_list_append PySem.F.type_list_append mt_append (pv 2) (pa_cons (pv 4) pa_nil))))))))
  (pss_one (ps_ret (pv 2)))))),?_⟩
 obtain⟨J,hJ⟩:∃J:Nat->L2.St->Hp->Prop,∀m σ H',J m σ H'↔∃(ta:Addr) (n:Nat) (rs:List Addr) (kvs':List (Key×V)) (M':List Addr) (r3 r4:Option V),σ=[some (V.ref x),some (V.int p),some (V.ref ta),r3,r4]∧Spn T H' x dx Kp Cl Tb us kvs' M' w kept cs pl∧(Sum.inl p,V.ref ta)∈kvs'∧H' ta=some (.lst (rs.map V.ref))∧LH H' rs (tabR w kept cs p n)∧n<=kept.length∧Piv w kept cs p n∧(∀r∈rs,r∉M')∧KW x Kp Cl Tb kvs H H'∧(∀a∈M,a∈M')∧(∀a∈M',a∈M∨H a=none)∧kvs'.length<=kvs.length+1∧(∀e∈kvs',e∈kvs∨∀a,e.2=V.ref a->H a=none)∧m=kept.length - n:=⟨_,fun _ _ _=>Iff.rfl⟩
 refine mid_of (fun σ H'=>∃m,J m σ H') ?_ ?_
 ·k_units
  refine⟨_,_,_,S.hx,T.cl_Span,T.na_Span_tables,_,rfl,a_tyK S.hT,Nat.zero_le _,fun D nD=>⟨Tb,rfl,kvs,.inl p,rfl,same_upd nD _ _ _ S.hT,l9,fun u hu=>?_,fun hn=>?_⟩⟩
  ·have u1:=same_upd nD (.lst [])
   have he:=val_some hu
   obtain⟨p',ta,n,rs,h1,h2,h3,h4,h5,h6,h7⟩:=S.tab _ he
   injection h1 with z1 z2
   injection z1 with z1
   subst z1 z2
   exact⟨_,(hJ _ _ _).mpr ⟨ta,n,rs,kvs,M,none,none,rfl,S.same u1,he,u1 _ _ h3,h4.same u1,h5,h6,h7,fun y o _ _ _ _ _ e=>u1 _ _ e,fun _ h=>h,fun _ h=>.inl h,by omega,fun _ h=>.inl h,rfl⟩⟩
  ·obtain⟨hn1,hn2⟩:=val_none hn
   rw [hn2]
   have S2:=S.put nD hn1
   have dT:D≠Tb:=fun z=>by rw [z,S.hT] at nD;cases nD
   refine⟨_,(hJ _ _ _).mpr ⟨D,0,[],_,D :: M,none,none,rfl,S2,by simp,by rw [upd_ne dT];exact upd_same,LH.nil _,Nat.zero_le _,fun i hi=>by omega,fun r hr=>by simp at hr,fun y o _ _ _ d _ e=>?_,fun a h=>.tail _ h,fun a h=>?_,by simp,fun e h=>?_,rfl⟩⟩
   ·rw [upd_ne d];exact same_upd nD _ _ _ e
   ·rcases List.mem_cons.mp h with z | z
    ·exact .inr (by rw [z];exact nD)
    ·exact .inl z
   ·rcases List.mem_append.mp h with z | z
    ·exact .inl z
    ·rw [List.mem_singleton.mp z]
     exact .inr fun a y=>by injection y with y;rw [← y];exact nD
 rintro σ H1 ⟨m,hm⟩
 dsimp only [a_seq]
 k_typeOf
 refine while_of J m hm ?_
 clear hm
 intro m σ H2 hm
 obtain⟨ta,n,rs,kvs',M',r3,r4,rfl,S2,he,eta,hrs,nk,pv,nrs,kx,ms,mf,lk',tk,rfl⟩:=(hJ _ _ _).mp hm
 have lrs:(rs.map V.ref).length=n:=by rw [List.length_map,hrs.len,tabR_len]
 have lus:(us.map V.ref).length=kept.length:=by rw [List.length_map];exact S2.lk
 obtain⟨q1,q2⟩:=q H2 kvs' M' S2 kx ms mf lk' tk
 obtain⟨_,ta0,_,_,g1,g2,_⟩:=S2.tab _ he
 have tM:ta∈M':=by injection g1 with _ z;injection z with z;rw [z];exact g2
 k_units
 refine⟨_,.inl (SqL.of eta),_,_,_,S2.hx,T.cl_Span,T.na_Span_kept,_,rfl,Kp,rfl,_,.inl (SqL.of S2.hK),?_⟩
 rw [lrs,lus]
 refine ite2 (fun z=>?_) (fun z=>?_)
 ·have hn:n < kept.length:=by omega
  have hu:n < us.length:=by have:=S2.lk;omega
  have hkn:kept[n]?=some kept[n]:=List.getElem?_eq_getElem hn
  obtain⟨as,v1,v2,v3,v4⟩:=S2.vec n _ _ (List.getElem?_eq_getElem hu) hkn
  have ek:kept.getD n []=kept[n]:=by rw [List.getD_eq_getElem?_getD,hkn];rfl
  obtain⟨b1,b2⟩:=B.vec _ (List.getElem_mem hn)
  have lo:=B.low n hn pv
  have hcn:n < cs.length:=by have:=S2.lc;omega
  refine⟨J (kept.length - (n+1)),fun σ' H' z=>⟨_,by omega,z⟩,_,.inl (SqL.of eta),_,_,S2.hx,rfl,_,_,_,S2.hx,T.cl_Span,T.na_Span_kept,_,rfl,Kp,rfl,?_⟩
  rw [lrs]
  refine⟨_,SqL.of S2.hK,V.ref us[n],atI_nat (by rw [List.getElem?_map,List.getElem?_eq_getElem hu];rfl),x,dx,Kp,Cl,Tb,us[n],pl,w,n,p,as,kept[n],rfl,S2.hx,SqL.of v1,v2.ll,B.w20,b1,B.bp,b2,fun R H3 s3 nR eR=>?_⟩
  have S3:=S2.same s3
  rw [← ek] at eR
  refine⟨_,_,_,S3.hx,T.cl_Span,T.na_Span_columns,_,rfl,R,ta,Cl,_,rs,_,cs,rfl,SqL.of eR,SqL.of (s3 _ _ eta),(hrs.same s3).ll,SqL.of S3.hC,lo,fun R' H4 s4 dR sqR=>?_⟩
  have S4:=S3.same s4
  have s24:=s3.trans s4
  rw [tabR_len] at dR sqR
  have eR':H4 R'=some (.lst ((tRow w kept cs p n).map V.int))∧H2 R'=none:=by
   rcases dR with ⟨z1,z2⟩ | ⟨z1,z2⟩
   ·have n0:n=0:=by have:=tabR_len w kept cs p n;rw [z2] at this;exact this.symm
    subst n0
    rw [z1];exact⟨s4 _ _ eR,nR⟩
   ·exact⟨z2,s3.free z1⟩
  obtain⟨eR1,nR1⟩:=eR'
  have ll:=low_len lo n (by rw [tabR_len];exact Nat.le_refl _)
  have lcol:=lo.col _ (List.getElem_mem hcn)
  refine⟨_,_,_,S4.hx,T.cl_Span,T.na_Span_columns,_,rfl,Cl,rfl,_,SqL.of S4.hC,V.int (cs[n]:Int),atI_nat (by rw [List.getElem?_map,List.getElem?_map,List.getElem?_eq_getElem hcn];rfl),R',rfl,_,_,rfl,SqL.of eR1,_,co_at (show cs[n] < (tRow w kept cs p n).length by unfold tRow;rw [ll];exact lcol),?_⟩
  have ec:cs.getD n 0=cs[n]:=by rw [List.getD_eq_getElem?_getD,List.getElem?_eq_getElem hcn];rfl
  have kx4:KW x Kp Cl Tb kvs H H4:=fun y o a1 a2 a3 a4 a5 e=>s24 _ _ (kx y o a1 a2 a3 a4 a5 e)
  have nRM:R'∉M':=fun z=>by obtain⟨o,e⟩:=S2.al _ z;rw [nR1] at e;cases e
  k_units
  refine ite2 (fun z0=>?_) (fun z0=>?_)
  ·exact (q H4 kvs' M' S4 kx4 ms mf lk' tk).2 fun hp=>hp n hn (by rw [ec];exact z0)
  have hp1:Piv w kept cs p (n+1):=fun i hi=>by
   by_cases z:i < n
   ·exact pv i z
   ·rw [show i=n by omega,ec];exact z0
  have S5:=S4.row he (s24 _ _ eta) (hrs.same s24) nrs hn hp1 eR1 nRM
  have dta:∀r∈rs++[R'],r∉M':=fun r hr=>by
   rcases List.mem_append.mp hr with h | h
   ·exact nrs r h
   ·rw [List.mem_singleton.mp h];exact nRM
  have kt:KX M' H4 (L2.upd H4 ta (.lst ((rs++[R']).map V.ref))):=fun y o ny e=>by
   have d:y≠ta:=fun z=>ny (by rw [z];exact tM)
   rw [upd_ne d];exact e
  have et:(rs++[R']).map V.ref=rs.map V.ref++[V.ref R']:=by rw [List.map_append];rfl
  rw [et] at S5 kt
  refine⟨a_tyL (SqL.of (s24 _ _ eta)),_,s24 _ _ eta,by rw [lrs];exact small1000 (by omega),(hJ _ _ _).mpr ⟨ta,n+1,rs++[R'],kvs',M',_,_,rfl,S5,he,by rw [upd_same,et],?_,by omega,hp1,dta,fun y o a1 a2 a3 a4 a5 e=>?_,ms,mf,lk',tk,rfl⟩⟩
  ·exact ((hrs.same s24).kx kt nrs).snoc (kt _ _ nRM eR1)
  ·have e4:=kx4 y o a1 a2 a3 a4 a5 e
   have d:y≠ta:=fun z=>by
    rcases tk _ he with h | h
    ·exact a5 _ h (by rw [z])
    ·rw [z,h ta rfl] at e;cases e
   rw [upd_ne d];exact e4
 ·have e:n=kept.length:=by omega
  rw [e] at hrs pv
  exact q1 ta rs tM eta hrs pv
def lowV (w:Nat) (kept:List (List (List Int))) (cs:List Nat) (q:List (List Int)) (p:Int):List Int:=(lowN (rowA w q kept.length p) (tabR w kept cs p kept.length) cs kept.length).2
theorem VecAt.kx {H H':Hp} {M:List Addr} {u:Addr} {q:List (List Int)} (h:VecAt H M u q) (k:KX M H H'):VecAt H' M u q:=by
 obtain⟨as,h1,h2,h3,h4⟩:=h
 exact⟨as,k _ _ h3 h1,h2.kx k h4,h3,h4⟩
theorem VecAt.more {H:Hp} {M M':List Addr} {u:Addr} {q:List (List Int)} (h:VecAt H M u q) (mf:∀a∈M',a∈M∨H a=none):VecAt H M' u q:=by
 obtain⟨as,h1,h2,h3,h4⟩:=h
 have ne:∀{y:Addr} {o:HO},H y=some o->y∉M->y∉M':=fun {y o} e n z=>by
  rcases mf y z with h | h
  ·exact n h
  ·rw [h] at e;cases e
 refine⟨as,h1,h2,ne h1 h3,fun a ha=>?_⟩
 obtain⟨i,hi,rfl⟩:=List.mem_iff_getElem.mp ha
 exact ne (h2.get i _ _ (List.getElem?_eq_getElem hi) (List.getElem?_eq_getElem (by rw [← h2.len];exact hi))) (h4 _ (List.getElem_mem hi))
def spLowAt {K:PySem.W.Frag} {mg:Str->Option Value} (T:Tx K mg):Sp:=fun vs H Q _=>∃(x dx Kp Cl Tb Vc:Addr) (us:List Addr) (kvs:List (Key×V)) (M:List Addr) (w:Nat) (kept:List (List (List Int))) (cs:List Nat) (pl p:Int) (q:List (List Int)),vs=[.ref x,.ref Vc,.int p]∧Spn T H x dx Kp Cl Tb us kvs M w kept cs pl∧TBd w kept cs p∧kvs.length<=900∧kept.length<=20∧VecAt H M Vc q∧q.length<=20∧(∀f∈q,f.length<=60∧∀c∈f,Bd 1000 c)∧(Piv w kept cs p kept.length->LowOk (rowA w q kept.length p) (tabR w kept cs p kept.length) cs)∧
 ∀(H':Hp) (kvs':List (Key×V)) (M':List Addr),Spn T H' x dx Kp Cl Tb us kvs' M' w kept cs pl->KW x Kp Cl Tb kvs H H'->(∀a∈M,a∈M')->(∀a∈M',a∈M∨H a=none)->kvs'.length<=kvs.length+1->(∀e∈kvs',e∈kvs∨∀a,e.2=V.ref a->H a=none)->
  (∀R:Addr,R∉M'->H' R=some (.lst ((lowV w kept cs q p).map V.int))->Piv w kept cs p kept.length->Q (.ref R) H')∧(¬Piv w kept cs p kept.length->Q .non H')
theorem ok_Span_lowered_at {P:Program} {w:World} {K:PySem.W.Frag} {mg:Str->Option Value} {base:Heap} (T:Tx K mg):FnOk P w K mg base CX0 4 T.a_Span_lowered_at T.fd_Span_lowered_at ["self","vector","place"] (spLowAt T):=by
 refine T.F_Span_lowered_at.ok sc_Span_lowered_at (fun vs H Q E h=>?_) (fun cdv A outer s H vs Q E hr h=>?_)
 ·obtain⟨x,dx,Kp,Cl,Tb,Vc,us,kvs,M,w,kept,cs,pl,p,q,rfl,_⟩:=h
  rfl
 obtain⟨x,dx,Kp,Cl,Tb,Vc,us,kvs,M,w,kept,cs,pl,p,q,rfl,S,B,l9,l20,hV,q20,bq,lo,fin⟩:=h
 refine⟨_,((pss_cons (ps_set (i:=3) sc_Span_lowered_at.nd rfl (Or.inl rfl) (pe_meth (pv 0) T.cl_Span T.me_Span_table_at (FnOk.mono (ok_Span_table_at T) (by decide)) hr T.b_Span_table_at .nil pass0 (pa_cons (pv 2) pa_nil)))
  (pss_cons (ps_if (pt_cmpR op_isN (pv 3) pe_non (nomark _)) (pss_one (ps_ret pe_non)) pss_nil)
  (pss_one (ps_ret (pe_call (FnOk.mono (ok_lowered T) (by decide)) hr rfl T.m_lowered T.F_lowered.kp T.b_lowered .nil pass0 (pa_cons (pe_meth (pv 0) T.cl_Span T.me_Span_row_at (FnOk.mono (ok_Span_row_at T) (by decide)) hr T.b_Span_row_at .nil pass0 (pa_cons (pv 1) (pa_cons (pe_callB call_len_seq rfl T.z_len bt_len (pa_cons (pe_fld (pv 0) rfl) pa_nil)) (pa_cons (pv 2) pa_nil)))) (pa_cons (pv 3) (pa_cons (pe_fld (pv 0) rfl) pa_nil))))))))),?_⟩
 dsimp only [a_seq]
 k_typeOf
 refine⟨dx,_,S.hx,rfl,x,dx,Kp,Cl,Tb,us,kvs,M,w,kept,cs,pl,p,rfl,S,B,l9,l20,fun H1 kvs' M' S1 kx ms mf lk tk=>⟨fun ta rs tM eta hrs pv=>?_,fun np=>?_⟩⟩
 ·obtain⟨as,v1,v2,v3,v4⟩:=hV.kx (S.kx kx)
  k_units
  rw [if_neg (fun z=>nomatch z)]
  have lus:(us.map V.ref).length=kept.length:=by rw [List.length_map];exact S1.lk
  refine⟨_,_,S1.hx,rfl,_,_,_,S1.hx,T.cl_Span,T.na_Span_kept,_,rfl,Kp,rfl,_,.inl (SqL.of S1.hK),?_⟩
  rw [lus]
  refine⟨x,dx,Kp,Cl,Tb,Vc,pl,w,kept.length,p,as,q,rfl,S1.hx,SqL.of v1,v2.ll,B.w20,q20,B.bp,bq,fun R H3 s3 nR eR=>?_⟩
  have S3:=S1.same s3
  refine⟨_,_,_,S3.hx,T.cl_Span,T.na_Span_columns,_,rfl,R,ta,Cl,_,rs,_,cs,rfl,SqL.of eR,SqL.of (s3 _ _ eta),(hrs.same s3).ll,SqL.of S3.hC,lo pv,fun R' H4 s4 dR sqR=>?_⟩
  have S4:=S3.same s4
  rw [tabR_len] at dR sqR
  have eR':H4 R'=some (.lst ((lowV w kept cs q p).map V.int))∧H1 R'=none:=by
   rcases dR with ⟨z1,z2⟩ | ⟨z1,z2⟩
   ·have n0:kept.length=0:=by have:=tabR_len w kept cs p kept.length;rw [z2] at this;exact this.symm
    unfold lowV
    rw [n0] at eR ⊢
    rw [z1];exact⟨s4 _ _ eR,nR⟩
   ·exact⟨z2,s3.free z1⟩
  have nRM:R'∉M':=fun z=>by obtain⟨o,e⟩:=S1.al _ z;rw [eR'.2] at e;cases e
  exact (fin H4 kvs' M' S4 (fun y o a1 a2 a3 a4 a5 e=>s4 _ _ (s3 _ _ (kx y o a1 a2 a3 a4 a5 e))) ms mf lk tk).1 R' nRM eR'.1 pv
 ·k_units
  exact (fin H1 kvs' M' S1 kx ms mf lk tk).2 np
def sumC (qs:List (List (List Int))) (ws:List (List Int)) (c:Nat):Nat->List Int
 | 0=>[]
 | n+1=>addL (sumC qs ws c n) (mulL ((qs.getD n []).getD c []) (ws.getD n []))
theorem mem_getD {α:Type} {xs:List α} {i:Nat} {d:α} (h:i < xs.length):xs.getD i d∈xs:=by rw [List.getD_eq_getElem?_getD,List.getElem?_eq_getElem h];exact List.getElem_mem _
structure FcOk (w:Nat) (qs:List (List (List Int))) (ws:List (List Int)):Prop where
 len:ws.length=qs.length
 few:qs.length<=20
 w20:w<=20
 wid:∀q∈qs,q.length=w
 bq:∀q∈qs,∀f∈q,f.length<=40∧∀c∈f,Bd 1000 c
 bw:∀f∈ws,f.length<=40∧∀c∈f,Bd 20000 c
theorem sum_ok {w:Nat} {qs:List (List (List Int))} {ws:List (List Int)} {c:Nat} (o:FcOk w qs ws) (hc:c < w):∀n,n<=qs.length->(sumC qs ws c n).length<=80∧∀x∈sumC qs ws c n,Bd (21010+n) x
 | 0,_=>⟨Nat.zero_le _,fun x hx=>by simp [sumC] at hx⟩
 | n+1,hn=>by
  obtain⟨i1,i2⟩:=sum_ok o hc n (by omega)
  have hq:(qs.getD n [])∈qs:=mem_getD (by omega)
  have hw:(ws.getD n [])∈ws:=mem_getD (by have:=o.len;omega)
  have hl:=o.wid _ hq
  have hf:((qs.getD n []).getD c [])∈qs.getD n []:=mem_getD (by omega)
  obtain⟨f1,f2⟩:=o.bq _ hq _ hf
  obtain⟨w1,w2⟩:=o.bw _ hw
  have lm:(mulL ((qs.getD n []).getD c []) (ws.getD n [])).length<=80:=by
   by_cases z:ws.getD n []=[]
   ·rw [z,mul_nilR];exact Nat.zero_le _
   ·have:=mulL_len ((qs.getD n []).getD c []) (ws.getD n []) z
    omega
  have bm:∀k,Bd 21006 (co (mulL ((qs.getD n []).getD c []) (ws.getD n [])) k):=fun k=>by
   rw [co_mulL]
   exact pm_bd (c:=6) f2 w2 (Nat.le_trans f1 (by decide)) k
  refine⟨Nat.le_trans (addL_len _ _) (by omega),in_co fun k=>?_⟩
  show Bd _ (co (addL _ _) k)
  rw [co_addL]
  exact (co_in (P:=fun v=>Bd (21010+n) v) i2 (Bd.zero _) k).add ((bm k).mono (by omega))
def spFc {K:PySem.W.Frag} {mg:Str->Option Value} (T:Tx K mg):Sp:=fun vs H Q _=>∃(x dx Kp Cl Tb Vc Wt:Addr) (us:List Addr) (kvs:List (Key×V)) (M:List Addr) (w:Nat) (kept:List (List (List Int))) (cs:List Nat) (pl:Int) (q:List (List Int)) (ad:List Addr) (ws:List (List Int)),vs=[.ref x,.ref Vc,.ref Wt]∧Spn T H x dx Kp Cl Tb us kvs M w kept cs pl∧VecAt H M Vc q∧SqL K H Wt (ad.map V.ref)∧LL K H ad ws∧FcOk w (kept++[q]) ws∧
 ∀H',Same H H'->(∀c:Nat,c < w->c∉cs->sumC (kept++[q]) ws c (kept.length+1)≠[]->(∀c',c' < c->c'∉cs->sumC (kept++[q]) ws c' (kept.length+1)=[])->Q (.int (c:Int)) H')∧((∀c,c < w->c∉cs->sumC (kept++[q]) ws c (kept.length+1)=[])->Q .non H')
theorem ok_Span_failing_column {P:Program} {w:World} {K:PySem.W.Frag} {mg:Str->Option Value} {base:Heap} (T:Tx K mg):FnOk P w K mg base CX0 4 T.a_Span_failing_column T.fd_Span_failing_column ["self","vector","weights"] (spFc T):=by
 refine T.F_Span_failing_column.ok sc_Span_failing_column (fun vs H Q E h=>?_) (fun cdv A outer s H vs Q E hr h=>?_)
 ·obtain⟨x,dx,Kp,Cl,Tb,Vc,Wt,us,kvs,M,w,kept,cs,pl,q,ad,ws,rfl,_⟩:=h
  rfl
 obtain⟨x,dx,Kp,Cl,Tb,Vc,Wt,us,kvs,M,w,kept,cs,pl,q,ad,ws,rfl,S,hV,hW,lW,o,fin⟩:=h
 refine⟨_,((pss_cons (ps_for PassesOwn.never rfl (pi_range1 rfl T.z_range (pa_cons (pe_fld (pv 0) rfl) pa_nil)) (pg_name (i:=3) sc_Span_failing_column.nd rfl (Or.inl rfl)) (pss_cons (ps_if (pt_cmpR op_in_seq (pv 3) (pe_fld (pv 0) rfl) (by with_unfolding_all rfl)) (pss_one ps_continue) pss_nil)
  (pss_cons (ps_set (i:=4) sc_Span_failing_column.nd rfl (Or.inl rfl) (pe_lst pa_nil))
  (pss_cons (ps_for PassesOwn.never rfl (pi_zip rfl T.z_zip (pa_cons (pe_op op_cat (pe_fld (pv 0) rfl) (pe_lst (pa_cons (pv 1) pa_nil))) (pa_cons (pv 2) pa_nil))) (pg_tup rfl (pgs_cons (pg_name (i:=5) sc_Span_failing_column.nd rfl (Or.inl rfl)) (pgs_cons (pg_name (i:=6) sc_Span_failing_column.nd rfl (Or.inl rfl)) pgs_nil))) (pss_one (ps_set (i:=4) sc_Span_failing_column.nd rfl (Or.inl rfl) (pe_call (FnOk.mono (ok_poly_plus T) (by decide)) hr rfl T.m_poly_plus T.F_poly_plus.kp T.b_poly_plus .nil pass0 (pa_cons (pv 4) (pa_cons (pe_call (FnOk.mono (ok_poly_times T) (by decide)) hr rfl T.m_poly_times T.F_poly_times.kp T.b_poly_times .nil pass0 (pa_cons (pe_ix ix_list (pv 5) (pv 3) (fun _ _=>rfl)) (pa_cons (pv 6) pa_nil))) pa_nil))))))
  (pss_one (ps_if (pt_cmpR op_gt (pe_callB call_len_seq rfl T.z_len bt_len (pa_cons (pv 4) pa_nil)) pe_int (nomark _)) (pss_one (ps_ret (pv 3))) pss_nil))))))
  (pss_one (ps_ret pe_non)))),?_⟩
 k_units
 refine⟨_,_,_,S.hx,T.cl_Span,T.na_Span_width,_,rfl,_,rfl,by have:=o.w20;omega,by have:=o.w20;omega,?_⟩
 rw [Int.toNat_natCast]
 have w20:=o.w20
 obtain⟨Pv,hPv⟩:∃Pv:Nat->L2.St->Hp->Prop,∀i σ H',Pv i σ H'↔∃r3 r4 r5 r6:Option V,σ=[some (V.ref x),some (V.ref Vc),some (V.ref Wt),r3,r4,r5,r6]∧Same H H'∧∀c,c < i->c∉cs->sumC (kept++[q]) ws c (kept.length+1)=[]:=⟨_,fun _ _ _=>Iff.rfl⟩
 refine lp_range Pv ((hPv _ _ _).mpr ⟨none,none,none,none,rfl,Same.refl _,fun c hc=>by omega⟩) ?_ ?_
 ·intro i σ H1 hi hp
  obtain⟨r3,r4,r5,r6,rfl,s1,hz⟩:=(hPv _ _ _).mp hp
  have e0:(0:Int)+(i:Int)=(i:Int):=Int.zero_add _
  have S1:=S.same s1
  have fl:((cs.map fun c:Nat=>(c:Int)).map V.int).all flatV=true:=by simp [flatV]
  dsimp only [a_seq]
  k_typeOf
  rw [e0]
  refine⟨_,_,_,S1.hx,T.cl_Span,T.na_Span_columns,_,rfl,Cl,rfl,_,.inl (SqL.of S1.hC),rfl,fl,?_⟩
  rw [inV_int]
  have hmem:((i:Int)∈cs.map fun c:Nat=>(c:Int))↔i∈cs:=by
   rw [List.mem_map]
   constructor
   ·rintro ⟨c,hc,e⟩
    rw [show i=c by omega];exact hc
   ·intro h;exact⟨i,h,rfl⟩
  refine ite2 (fun z=>?_) (fun z=>?_)
  ·have hin:=hmem.mp (by simpa using z)
   refine (hPv _ _ _).mpr ⟨_,_,_,_,rfl,s1,fun c hc hn=>?_⟩
   by_cases y:c=i
   ·rw [y] at hn;exact absurd hin hn
   ·exact hz c (by omega) hn
  have hout:i∉cs:=fun h=>z (by simpa using hmem.mpr h)
  dsimp only [a_seq]
  k_typeOf
  refine⟨Nat.zero_le _,fun A0 nA0=>?_⟩
  have u0:=same_upd nA0 (.lst [])
  have eA0:=upd_same (H:=H1) (a:=A0) (o:=.lst [])
  generalize L2.upd H1 A0 (.lst [])=H2 at u0 eA0 ⊢
  have S2:=S1.same u0
  dsimp only [a_seq]
  k_typeOf
  refine⟨_,_,_,S2.hx,T.cl_Span,T.na_Span_kept,_,rfl,by decide,fun q1 m1=>?_⟩
  have u1:=same_upd m1 (.lst [V.ref Vc])
  refine⟨Kp,rfl,_,u1 _ _ S2.hK,_,upd_same,?_,fun q2 m2=>?_⟩
  ·rw [List.length_map]
   have:=S.lk
   have:=o.few
   simp at this
   exact Nat.le_of_lt (small1000 (by simp;omega))
  have u2:=same_upd m2 (.lst (us.map V.ref++[V.ref Vc]))
  have e2:=upd_same (H:=L2.upd H2 q1 (.lst [V.ref Vc])) (a:=q2) (o:=.lst (us.map V.ref++[V.ref Vc]))
  have s2:=s1.trans (u0.trans (u1.trans u2))
  have eA:=(u1.trans u2) _ _ eA0
  generalize L2.upd (L2.upd H2 q1 (.lst [V.ref Vc])) q2 (.lst (us.map V.ref++[V.ref Vc]))=H3 at e2 s2 eA ⊢
  have lk:=S.lk
  have few:=o.few
  rw [List.length_append] at few
  simp only [List.length_cons,List.length_nil] at few
  have lq:(kept++[q]).length=kept.length+1:=by simp
  have vecs:=app_all (Φ:=fun u qv=>VecAt H M u qv) (L:=kept++[q]) (rs:=us) (r:=Vc) (fun t u qv e1 e2=>by
   have ht:t < kept.length:=by have:=(List.getElem?_eq_some_iff.mp e1).1;omega
   rw [List.getElem?_append_left ht] at e2
   exact S.vec t u qv e1 e2) (fun qv e2=>by
   rw [List.getElem?_append_right (by omega),show us.length - kept.length=0 by omega] at e2
   cases Option.some.inj e2
   exact hV)
  have e2':H3 q2=some (.lst ((us++[Vc]).map V.ref)):=by rw [e2,List.map_append];rfl
  obtain⟨Pz,hPz⟩:∃Pz:Nat->L2.St->Hp->Prop,∀n σ H',Pz n σ H'↔∃(An:Addr) (r5 r6:Option V),σ=[some (V.ref x),some (V.ref Vc),some (V.ref Wt),some (V.int (i:Int)),some (V.ref An),r5,r6]∧H' An=some (.lst ((sumC (kept++[q]) ws i n).map V.int))∧Same H3 H':=⟨_,fun _ _ _=>Iff.rfl⟩
  refine⟨_,SqL.of e2',_,s2.seq hW,lp_zip (xs:=(us++[Vc]).map V.ref) (ys:=ad.map V.ref) Pz ((hPz _ _ _).mpr ⟨A0,r5,r6,rfl,eA,Same.refl _⟩) (fun n σ H' _ _ y=>by obtain⟨_,_,_,_,_,y⟩:=(hPz n σ H').mp y;exact⟨SqL.of (y _ _ e2'),(s2.trans y).seq hW⟩) ?_ ?_⟩
  ·intro n v1 v2 pr σ H4 e1 e3 hp' npr
   obtain⟨An,t5,t6,rfl,eAn,s4⟩:=(hPz _ _ _).mp hp'
   rw [List.getElem?_map] at e1
   obtain⟨u,hu,rfl⟩:=Option.map_eq_some_iff.mp e1
   have hn:n < (kept++[q]).length:=by have:=(List.getElem?_eq_some_iff.mp hu).1;simp at this ⊢;omega
   obtain⟨a,f,rfl,ha,hf,sqf⟩:=lW.nth e3
   have hqn:(kept++[q])[n]?=some ((kept++[q]).getD n []):=getD_at hn
   obtain⟨as,v1,v2,v3,v4⟩:=vecs n u _ hu hqn
   have hqm:=mem_getD (d:=([]:List (List Int))) hn
   have hwid:=o.wid _ hqm
   have hic:i < as.length:=by rw [v2.len,hwid];exact hi
   obtain⟨b1,b2⟩:=sum_ok o hi n (by omega)
   have hfm:=List.mem_of_getElem? hf
   obtain⟨c1,c2⟩:=o.bw _ hfm
   have hpm:=mem_getD (d:=([]:List Int)) (show i < ((kept++[q]).getD n []).length by rw [hwid];exact hi)
   obtain⟨d1,d2⟩:=o.bq _ hqm _ hpm
   have efw:ws.getD n []=f:=by rw [List.getD_eq_getElem?_getD,hf];rfl
   have epoly:=v2.get i _ _ (List.getElem?_eq_getElem hic) (getD_at (d:=[]) (show i < ((kept++[q]).getD n []).length by rw [hwid];exact hi))
   have st:sumC (kept++[q]) ws i (n+1)=addL (sumC (kept++[q]) ws i n) (mulL (((kept++[q]).getD n []).getD i []) f):=by rw [sumC,efw]
   obtain⟨g1,g2⟩:=sum_ok o hi (n+1) (by omega)
   have w1:=same_upd npr (.tup [V.ref u,V.ref a])
   have s24:=s2.trans (s4.trans w1)
   generalize ((kept++[q]).getD n []).getD i []=pq at d1 d2 epoly st
   have bm:∀k,Bd 21006 (co (mulL pq f) k):=fun k=>by
    rw [co_mulL]
    exact pm_bd (c:=6) d2 c2 (Nat.le_trans d1 (by decide)) k
   have lm:(mulL pq f).length<=80:=by
    by_cases z:f=[]
    ·rw [z,mul_nilR];exact Nat.zero_le _
    ·have:=mulL_len pq f z
     omega
   k_units
   refine⟨_,SqT.of upd_same,rfl,_,_,rfl,_,_,rfl,rfl,?_⟩
   refine⟨u,rfl,_,SqL.of (s24 _ _ v1),V.ref as[i],atI_nat (by rw [List.getElem?_map,List.getElem?_eq_getElem hic];rfl),as[i],a,pq,f,rfl,SqL.of (s24 _ _ epoly),s24.seq sqf,by omega,by omega,fun c hc=>(d2 c hc).mono (by decide),fun c hc=>(c2 c hc).mono (by decide),fun R1 H5 s5 nR1 eR1=>?_⟩
   refine⟨An,R1,_,_,rfl,SqL.of (s5 _ _ (w1 _ _ eAn)),SqL.of eR1,by omega,by omega,fun c hc=>(b2 c hc).mono (by omega),in_co fun k=>(bm k).mono (by decide),fun R2 H6 s6 nR2 eR2=>?_⟩
   exact (hPz _ _ _).mpr ⟨R2,_,_,rfl,by rw [eR2,st],s4.trans (w1.trans (s5.trans s6))⟩
  intro σ H4 hp'
  obtain⟨An,t5,t6,rfl,eAn,s4⟩:=(hPz _ _ _).mp hp'
  have hmin:min ((us++[Vc]).map V.ref).length (ad.map V.ref).length=kept.length+1:=by
   have h1:=lW.len
   have h2:=o.len
   rw [lq] at h2
   simp;omega
  rw [hmin] at eAn
  k_units
  refine⟨_,.inl (SqL.of eAn),?_⟩
  rw [List.length_map]
  refine ite2 (fun z=>?_) (fun z=>?_)
  ·exact (fin H4 (s2.trans s4)).1 i hi hout (fun y=>by rw [y] at z;simp at z) hz
  ·refine (hPv _ _ _).mpr ⟨_,_,_,_,rfl,s2.trans s4,fun c hc hn=>?_⟩
   by_cases y:c=i
   ·rw [y];exact List.eq_nil_of_length_eq_zero (by omega)
   ·exact hz c (by omega) hn
 intro σ H1 hp
 obtain⟨r3,r4,r5,r6,rfl,s1,hz⟩:=(hPv _ _ _).mp hp
 k_units
 exact (fin H1 s1).2 hz
theorem lowN_app {row:List Int} {tb:List (List Int)} {cs:List Nat} {c:Nat}:∀i,i<=cs.length->lowN row tb (cs++[c]) i=lowN row tb cs i
 | 0,_=>rfl
 | i+1,h=>by
  have e:(cs++[c]).getD i 0=cs.getD i 0:=by rw [List.getD_eq_getElem?_getD,List.getD_eq_getElem?_getD,List.getElem?_append_left (by omega)]
  rw [lowN,lowN,lowN_app i (by omega),e]
theorem tabR_app {w:Nat} {kept:List (List (List Int))} {cs:List Nat} {q:List (List Int)} {c:Nat} {p:Int} (hl:cs.length=kept.length):∀n,n<=kept.length->tabR w (kept++[q]) (cs++[c]) p n=tabR w kept cs p n
 | 0,_=>rfl
 | n+1,h=>by
  have e:(kept++[q]).getD n []=kept.getD n []:=by rw [List.getD_eq_getElem?_getD,List.getD_eq_getElem?_getD,List.getElem?_append_left (by omega)]
  rw [tabR,tabR,tabR_app hl n (by omega),e,lowN_app n (by omega)]
theorem piv_app {w:Nat} {kept:List (List (List Int))} {cs:List Nat} {q:List (List Int)} {c:Nat} {p:Int} {n:Nat} (hl:cs.length=kept.length) (h:n<=kept.length) (hp:Piv w kept cs p n):Piv w (kept++[q]) (cs++[c]) p n:=fun i hi=>by
 have e:(kept++[q]).getD i []=kept.getD i []:=by rw [List.getD_eq_getElem?_getD,List.getD_eq_getElem?_getD,List.getElem?_append_left (by omega)]
 have e2:(cs++[c]).getD i 0=cs.getD i 0:=by rw [List.getD_eq_getElem?_getD,List.getD_eq_getElem?_getD,List.getElem?_append_left (by omega)]
 have h1:=hp i hi
 unfold tRow at h1 ⊢
 rw [tabR_app hl i (by omega),e,lowN_app i (by omega),e2]
 exact h1
section
variable {K:PySem.W.Frag} {mg:Str->Option Value} {T:Tx K mg} {H:Hp} {x dx Kp Cl Tb:Addr} {us:List Addr} {kvs:List (Key×V)} {M:List Addr} {w:Nat} {kept:List (List (List Int))} {cs:List Nat} {pl:Int}
theorem Spn.keep {Vc:Addr} {q:List (List Int)} {c:Nat} (S:Spn T H x dx Kp Cl Tb us kvs M w kept cs pl) (hV:VecAt H M Vc q):
  Spn T (L2.upd (L2.upd H Kp (.lst ((us++[Vc]).map V.ref))) Cl (.lst (((cs++[c]).map fun c:Nat=>(c:Int)).map V.int))) x dx Kp Cl Tb (us++[Vc]) kvs M w (kept++[q]) (cs++[c]) pl:=by
 obtain⟨m1,m2,m3,m4⟩:=S.mem
 have kx:KX M H (L2.upd (L2.upd H Kp (.lst ((us++[Vc]).map V.ref))) Cl (.lst (((cs++[c]).map fun c:Nat=>(c:Int)).map V.int))):=fun y o ny e=>by
  have d1:y≠Cl:=fun z=>ny (by rw [z];exact m3)
  have d2:y≠Kp:=fun z=>ny (by rw [z];exact m2)
  rw [upd_ne d1,upd_ne d2];exact e
 have nl:∀{y:Addr} {u:HO},H y=some u->(∀z,u≠.lst z)->L2.upd (L2.upd H Kp (.lst ((us++[Vc]).map V.ref))) Cl (.lst (((cs++[c]).map fun c:Nat=>(c:Int)).map V.int)) y=some u:=fun {y u} e hz=>by
  have d1:y≠Cl:=fun z=>by rw [z,S.hC] at e;cases e;exact hz _ rfl
  have d2:y≠Kp:=fun z=>by rw [z,S.hK] at e;cases e;exact hz _ rfl
  rw [upd_ne d1,upd_ne d2];exact e
 refine⟨nl S.hx (fun z y=>nomatch y),by rw [upd_ne S.ne];exact upd_same,upd_same,nl S.hT (fun z y=>nomatch y),by simp [S.lk],by simp [S.lc],?_,fun e he=>?_,S.inj,S.mem,S.out,S.ne,fun a ha=>?_⟩
 ·refine app_all (Φ:=fun u qv=>VecAt _ M u qv) (fun t u qv e1 e2=>?_) fun qv e2=>?_
  ·have ht:t < kept.length:=by have:=(List.getElem?_eq_some_iff.mp e1).1;have:=S.lk;omega
   rw [List.getElem?_append_left ht] at e2
   exact (S.vec t u qv e1 e2).kx kx
  ·rw [List.getElem?_append_right (by have:=S.lk;omega),show us.length - kept.length=0 by have:=S.lk;omega] at e2
   cases Option.some.inj e2
   exact hV.kx kx
 ·obtain⟨p,ta,n,rs,h1,h2,h3,h4,h5,h6,h7⟩:=S.tab e he
  have o:=S.out e he
  have d1:ta≠Cl:=fun z=>o.2 (by rw [h1,z])
  have d2:ta≠Kp:=fun z=>o.1 (by rw [h1,z])
  refine⟨p,ta,n,rs,h1,h2,by rw [upd_ne d1,upd_ne d2];exact h3,?_,by simp;omega,piv_app S.lc h5 h6,h7⟩
  rw [tabR_app S.lc n h5]
  exact h4.kx kx h7
 ·by_cases z1:a=Cl
  ·rw [z1];exact⟨_,upd_same⟩
  ·rw [upd_ne z1]
   by_cases z2:a=Kp
   ·rw [z2];exact⟨_,upd_same⟩
   ·rw [upd_ne z2];exact S.al a ha
theorem Spn.go {pl':Int} (S:Spn T H x dx Kp Cl Tb us kvs M w kept cs pl):Spn T (L2.upd H x (.ins T.c_Span dx (spnF w Kp Cl pl' Tb))) x dx Kp Cl Tb us kvs M w kept cs pl':=by
 have kx:KX M H (L2.upd H x (.ins T.c_Span dx (spnF w Kp Cl pl' Tb))):=fun y o ny e=>by
  have d:y≠x:=fun z=>ny (by rw [z];exact S.mem.1)
  rw [upd_ne d];exact e
 have nl:∀{y:Addr} {u:HO},H y=some u->(∀C d f,u≠.ins C d f)->L2.upd H x (.ins T.c_Span dx (spnF w Kp Cl pl' Tb)) y=some u:=fun {y u} e hz=>by
  have d:y≠x:=fun z=>by rw [z,S.hx] at e;cases e;exact hz _ _ _ rfl
  rw [upd_ne d];exact e
 refine⟨upd_same,nl S.hK (fun _ _ _ y=>nomatch y),nl S.hC (fun _ _ _ y=>nomatch y),nl S.hT (fun _ _ _ y=>nomatch y),S.lk,S.lc,fun i u q e1 e2=>(S.vec i u q e1 e2).kx kx,fun e he=>?_,S.inj,S.mem,S.out,S.ne,fun a ha=>?_⟩
 ·obtain⟨p,ta,n,rs,h1,h2,h3,h4,h5,h6,h7⟩:=S.tab e he
  exact⟨p,ta,n,rs,h1,h2,nl h3 (fun _ _ _ y=>nomatch y),h4.kx kx h7,h5,h6,h7⟩
 ·by_cases z:a=x
  ·rw [z];exact⟨_,upd_same⟩
  ·rw [upd_ne z];exact S.al a ha
theorem Spn.more {D:Addr} {o:HO} (S:Spn T H x dx Kp Cl Tb us kvs M w kept cs pl) (nD:H D=none):Spn T (L2.upd H D o) x dx Kp Cl Tb us kvs (D :: M) w kept cs pl:=by
 obtain⟨m1,m2,m3,m4⟩:=S.mem
 have u:=same_upd nD o
 have hD:∀{y:Addr} {o:HO},H y=some o->y≠D:=fun {y o} e z=>by rw [z,nD] at e;cases e
 have out:∀{y:Addr} {o:HO},H y=some o->y∉M->y∉D :: M:=fun {y o} e n z=>by
  rcases List.mem_cons.mp z with z | z
  ·exact hD e z
  ·exact n z
 have nin:∀{as:List Addr} {ps:List (List Int)},LH H as ps->(∀a∈as,a∉M)->∀a∈as,a∉D :: M:=fun {as ps} h n a ha=>by
  obtain⟨i,hi,rfl⟩:=List.mem_iff_getElem.mp ha
  exact out (h.get i _ _ (List.getElem?_eq_getElem hi) (List.getElem?_eq_getElem (by rw [← h.len];exact hi))) (n _ ha)
 refine⟨u _ _ S.hx,u _ _ S.hK,u _ _ S.hC,u _ _ S.hT,S.lk,S.lc,fun i v q e1 e2=>?_,fun e he=>?_,S.inj,⟨.tail _ m1,.tail _ m2,.tail _ m3,.tail _ m4⟩,S.out,S.ne,fun a ha=>?_⟩
 ·obtain⟨as,h1,h2,h3,h4⟩:=S.vec i v q e1 e2
  exact⟨as,u _ _ h1,h2.same u,out h1 h3,nin h2 h4⟩
 ·obtain⟨p,ta,n,rs,h1,h2,h3,h4,h5,h6,h7⟩:=S.tab e he
  exact⟨p,ta,n,rs,h1,.tail _ h2,u _ _ h3,h4.same u,h5,h6,nin h4 h7⟩
 ·rcases List.mem_cons.mp ha with z | z
  ·rw [z];exact⟨_,upd_same⟩
  ·obtain⟨o',e⟩:=S.al a z
   exact⟨o',u _ _ e⟩
theorem Spn.other {D:Addr} {o:HO} (S:Spn T H x dx Kp Cl Tb us kvs M w kept cs pl) (mD:D∈M) (n1:D≠x) (n2:D≠Kp) (n3:D≠Cl) (n4:D≠Tb) (nt:∀e∈kvs,e.2≠.ref D):Spn T (L2.upd H D o) x dx Kp Cl Tb us kvs M w kept cs pl:=by
 have kx:KX M H (L2.upd H D o):=fun y u ny e=>by
  have d:y≠D:=fun z=>ny (by rw [z];exact mD)
  rw [upd_ne d];exact e
 refine⟨by rw [upd_ne (Ne.symm n1)];exact S.hx,by rw [upd_ne (Ne.symm n2)];exact S.hK,by rw [upd_ne (Ne.symm n3)];exact S.hC,by rw [upd_ne (Ne.symm n4)];exact S.hT,S.lk,S.lc,fun i v q e1 e2=>(S.vec i v q e1 e2).kx kx,fun e he=>?_,S.inj,S.mem,S.out,S.ne,fun a ha=>?_⟩
 ·obtain⟨p,ta,n,rs,h1,h2,h3,h4,h5,h6,h7⟩:=S.tab e he
  have d:ta≠D:=fun z=>nt e he (by rw [h1,z])
  exact⟨p,ta,n,rs,h1,h2,by rw [upd_ne d];exact h3,h4.kx kx h7,h5,h6,h7⟩
 ·by_cases z:a=D
  ·rw [z];exact⟨_,upd_same⟩
  ·rw [upd_ne z];exact S.al a ha
end
theorem KX.trans {M M':List Addr} {H H1 H2:Hp} (k:KX M H H1) (k2:KX M' H1 H2) (mf:∀a∈M',a∈M∨H a=none):KX M H H2:=fun y o ny e=>by
 refine k2 y o (fun z=>?_) (k y o ny e)
 rcases mf y z with h | h
 ·exact ny h
 ·rw [h] at e;cases e
theorem mf_trans {M M' M2:List Addr} {H H1:Hp} (k:KX M H H1) (mf:∀a∈M',a∈M∨H a=none) (mf2:∀a∈M2,a∈M'∨H1 a=none):∀a∈M2,a∈M∨H a=none:=fun a ha=>by
 rcases mf2 a ha with h | h
 ·exact mf a h
 ·by_cases z:a∈M
  ·exact .inl z
  ·refine .inr ?_
   cases e:H a with
   | none=>rfl
   | some o=>rw [k a o z e] at h;cases h
def spKeep {K:PySem.W.Frag} {mg:Str->Option Value} (T:Tx K mg):Sp:=fun vs H Q _=>∃(x dx Kp Cl Tb Vc:Addr) (us:List Addr) (kvs:List (Key×V)) (M:List Addr) (w:Nat) (kept:List (List (List Int))) (cs:List Nat) (pl:Int) (q:List (List Int)) (c N:Nat),vs=[.ref x,.ref Vc,.int (c:Int)]∧Spn T H x dx Kp Cl Tb us kvs M w kept cs pl∧VecAt H M Vc q∧kept.length < 20∧kvs.length+N+1<=900∧(∀t:Nat,t<=N->TBd w (kept++[q]) (cs++[c]) (pl+(t:Int)))∧Piv w (kept++[q]) (cs++[c]) (pl+(N:Int)) (kept.length+1)∧
 ∀(H':Hp) (kvs':List (Key×V)) (M':List Addr) (t:Nat),t<=N->Spn T H' x dx Kp Cl Tb (us++[Vc]) kvs' M' w (kept++[q]) (cs++[c]) (pl+(t:Int))->Piv w (kept++[q]) (cs++[c]) (pl+(t:Int)) (kept.length+1)->KX M H H'->(∀a∈M,a∈M')->(∀a∈M',a∈M∨H a=none)->kvs'.length<=kvs.length+t+1->Q .non H'
theorem ok_Span_keep {P:Program} {w:World} {K:PySem.W.Frag} {mg:Str->Option Value} {base:Heap} (T:Tx K mg):FnOk P w K mg base CX0 4 T.a_Span_keep T.fd_Span_keep ["self","vector","column"] (spKeep T):=by
 refine T.F_Span_keep.ok sc_Span_keep (fun vs H Q E h=>?_) (fun cdv A outer s H vs Q E hr h=>?_)
 ·obtain⟨x,dx,Kp,Cl,Tb,Vc,us,kvs,M,w,kept,cs,pl,q,c,N,rfl,_⟩:=h
  rfl
 obtain⟨x,dx,Kp,Cl,Tb,Vc,us,kvs,M,w,kept,cs,pl,q,c,N,rfl,S,hV,k20,l9,B,pN,fin⟩:=h
 refine⟨_,((pss_cons (ps_expr (pe_bm PySem.F.plainAttrs_list PySem.F.slot_list_append PySem.F.type_list_append mt_append (pe_fld (pv 0) rfl) (pa_cons (pv 1) pa_nil)))
  (pss_cons (ps_expr (pe_bm PySem.F.plainAttrs_list PySem.F.slot_list_append PySem.F.type_list_append mt_append (pe_fld (pv 0) rfl) (pa_cons (pv 2) pa_nil)))
  (pss_one (ps_while PassesOwn.never (pt_cmpR op_isN (pe_meth (pv 0) T.cl_Span T.me_Span_table_at (FnOk.mono (ok_Span_table_at T) (by decide)) hr T.b_Span_table_at .nil pass0 (pa_cons (pe_fld (pv 0) rfl) pa_nil)) pe_non (nomark _)) (pss_one (ps_fldaug (pv 0) pe_int in_add))))))),?_⟩
 have lk:=S.lk
 have lc:=S.lc
 dsimp only [a_seq]
 k_typeOf
 refine⟨_,_,_,S.hx,T.cl_Span,T.na_Span_kept,_,rfl,a_tyL (SqL.of S.hK),Kp,rfl,_,S.hK,by rw [List.length_map];exact small1000 (by omega),?_⟩
 have hx1:L2.upd H Kp (.lst (us.map V.ref++[V.ref Vc])) x=some (.ins T.c_Span dx (spnF w Kp Cl pl Tb)):=by
  rw [upd_ne (ne_of S.hx S.hK (fun z=>nomatch z))];exact S.hx
 have hC1:L2.upd H Kp (.lst (us.map V.ref++[V.ref Vc])) Cl=some (.lst ((cs.map fun c:Nat=>(c:Int)).map V.int)):=by
  rw [upd_ne (Ne.symm S.ne)];exact S.hC
 dsimp only [a_seq]
 k_typeOf
 refine⟨_,_,_,hx1,T.cl_Span,T.na_Span_columns,_,rfl,a_tyL (SqL.of hC1),Cl,rfl,_,hC1,by rw [List.length_map,List.length_map];exact small1000 (by omega),?_⟩
 have S1:=S.keep (c:=c) hV
 have eu:(us++[Vc]).map V.ref=us.map V.ref++[V.ref Vc]:=by rw [List.map_append];rfl
 have ec:((cs++[c]).map fun c:Nat=>(c:Int)).map V.int=(cs.map fun c:Nat=>(c:Int)).map V.int++[V.int (c:Int)]:=by rw [List.map_append,List.map_append];rfl
 rw [eu,ec] at S1
 have kx1:KX M H (L2.upd (L2.upd H Kp (.lst (us.map V.ref++[V.ref Vc]))) Cl (.lst ((cs.map fun c:Nat=>(c:Int)).map V.int++[V.int (c:Int)]))):=fun y o ny e=>by
  have d1:y≠Cl:=fun z=>ny (by rw [z];exact S.mem.2.2.1)
  have d2:y≠Kp:=fun z=>ny (by rw [z];exact S.mem.2.1)
  rw [upd_ne d1,upd_ne d2];exact e
 generalize L2.upd (L2.upd H Kp (.lst (us.map V.ref++[V.ref Vc]))) Cl (.lst ((cs.map fun c:Nat=>(c:Int)).map V.int++[V.int (c:Int)]))=H1 at S1 kx1 ⊢
 clear hx1 hC1
 have lk1:(kept++[q]).length=kept.length+1:=by simp
 k_units
 obtain⟨J,hJ⟩:∃J:Nat->L2.St->Hp->Prop,∀m σ H',J m σ H'↔∃(t:Nat) (kvs':List (Key×V)) (M':List Addr),σ=[some (V.ref x),some (V.ref Vc),some (V.int (c:Int))]∧t<=N∧m=N - t∧Spn T H' x dx Kp Cl Tb (us++[Vc]) kvs' M' w (kept++[q]) (cs++[c]) (pl+(t:Int))∧KX M H H'∧(∀a∈M,a∈M')∧(∀a∈M',a∈M∨H a=none)∧kvs'.length<=kvs.length+t:=⟨_,fun _ _ _=>Iff.rfl⟩
 refine while_of J N ((hJ _ _ _).mpr ⟨0,kvs,M,rfl,Nat.zero_le _,by omega,by rw [show pl+((0:Nat):Int)=pl by omega];exact S1,kx1,fun _ h=>h,fun _ h=>.inl h,by omega⟩) ?_
 intro m σ H2 hm
 obtain⟨t,kvs',M',rfl,tN,rfl,S2,kx2,ms,mf,l2⟩:=(hJ _ _ _).mp hm
 k_units
 refine⟨dx,_,S2.hx,rfl,_,_,_,S2.hx,T.cl_Span,T.na_Span_place,_,rfl,x,dx,Kp,Cl,Tb,us++[Vc],kvs',M',w,kept++[q],cs++[c],_,pl+(t:Int),rfl,S2,B t tN,by omega,by rw [lk1];omega,fun H3 kvs3 M3 S3 kw3 ms3 mf3 l3 tk3=>⟨fun ta rs tM eta hrs pv=>?_,fun np=>?_⟩⟩
 ·show if V.ref ta=V.non then _ else Q V.non H3
  rw [if_neg (fun z=>nomatch z)]
  rw [lk1] at pv
  exact fin H3 kvs3 M3 t tN S3 pv (kx2.trans (S2.kx kw3) mf) (fun a h=>ms3 a (ms a h)) (mf_trans kx2 mf mf3) (by omega)
 ·show if V.non=V.non then _ else Q V.non H3
  rw [if_pos rfl]
  rw [lk1] at np
  have tl:t < N:=by
   rcases Nat.lt_or_ge t N with h | h
   ·exact h
   ·rw [show t=N by omega] at np;exact absurd pN np
  refine⟨J (N - (t+1)),fun σ' H' z=>⟨_,by omega,z⟩,_,_,_,S3.hx,T.cl_Span,T.na_Span_place,_,rfl,_,rfl,_,_,S3.hx,by show 5 < 1000;decide,(hJ _ _ _).mpr ⟨t+1,kvs3,M3,rfl,tl,rfl,?_,?_,fun a h=>ms3 a (ms a h),mf_trans kx2 mf mf3,by omega⟩⟩
  ·have S4:=S3.go (pl':=pl+((t+1:Nat):Int))
   have e:putF (Str.ofString "place") (V.int (pl+(t:Int)+1)) (spnF w Kp Cl (pl+(t:Int)) Tb)=spnF w Kp Cl (pl+((t+1:Nat):Int)) Tb:=by
    rw [show pl+((t+1:Nat):Int)=pl+(t:Int)+1 by omega];rfl
   rw [e];exact S4
  ·refine (kx2.trans (S2.kx kw3) mf).trans (M':=M3) (fun y o ny e=>?_) (mf_trans kx2 mf mf3)
   have d:y≠x:=fun z=>ny (by rw [z];exact S3.mem.1)
   rw [upd_ne d];exact e
theorem abs_nat (a:Int):(if a < 0 then -a else a)=((a.natAbs:Nat):Int):=by split <;> omega
def spGcd:Sp:=fun vs H Q _=>∃a b:Int,vs=[.int a,.int b]∧b.natAbs < 2 ^ 4000∧Q (.int (Nat.gcd a.natAbs b.natAbs:Nat)) H
theorem bits_le {b:Int} (h:b.natAbs < 2 ^ 4000):¬(4000:Int) < ((Builtin.Int.intBits ((b.natAbs:Nat):Int):Nat):Int):=by
 have:=intBits_le_of (i:=((b.natAbs:Nat):Int)) (k:=4000) (by rw [Int.natAbs_natCast];exact h)
 omega
theorem ok_divisor {P:Program} {w:World} {K:PySem.W.Frag} {mg:Str->Option Value} {base:Heap} (T:Tx K mg):FnOk P w K mg base CX0 1 T.a_divisor T.fd_divisor ["one","other"] spGcd:=by
 refine T.F_divisor.ok sc_divisor (fun vs H Q E h=>?_) (fun cdv A outer s H vs Q E hr h=>?_)
 ·obtain⟨a,b,rfl,_⟩:=h
  rfl
 obtain⟨a,b,rfl,hb,q⟩:=h
 refine⟨_,((pss_cons (ps_set (i:=2) sc_divisor.nd rfl (Or.inl rfl) (pe_callB call_abs rfl T.z_abs bt_abs (pa_cons (pv 0) pa_nil)))
  (pss_cons (ps_set (i:=3) sc_divisor.nd rfl (Or.inl rfl) (pe_callB call_abs rfl T.z_abs bt_abs (pa_cons (pv 1) pa_nil)))
  (pss_cons (ps_while PassesOwn.never (pt_cmpR op_gt (pe_bm0 PySem.F.plainAttrs_int PySem.F.slot_int_bit_length PySem.F.type_int_bit_length mt_bitlen (pv 3)) (pe_glob (v:=.int 4000) rfl T.g_LONG.2 ⟨_,rfl⟩) (nomark _)) pss_never)
  (pss_cons (ps_while PassesOwn.never (pt_cmpR op_ne (pv 3) pe_int (nomark _)) (pss_cons (ps_set (i:=5) sc_divisor.nd rfl (Or.inl rfl) (pe_op op_mod (pv 2) (pv 3)))
  (pss_cons (ps_set (i:=2) sc_divisor.nd rfl (Or.inl rfl) (pv 3))
  (pss_one (ps_set (i:=3) sc_divisor.nd rfl (Or.inl rfl) (pv 5))))))
  (pss_one (ps_ret (pv 2)))))))),?_⟩
 (iterate 3 (k_units;(try simp only [abs_nat]));k_units)
 refine while_of (fun m σ H'=>σ=[some (V.int a),some (V.int b),some (V.int a.natAbs),some (V.int b.natAbs),none,none]∧H'=H) 0 ⟨rfl,rfl⟩ ?_
 rintro m σ H' ⟨rfl,rfl⟩
 k_units
 rw [if_neg (bits_le hb)]
 refine while_of (fun m σ H1=>∃(x y:Nat) (r:Option V),σ=[some (V.int a),some (V.int b),some (.int x),some (.int y),none,r]∧H1=H'∧m=y∧Nat.gcd x y=Nat.gcd a.natAbs b.natAbs) b.natAbs ⟨a.natAbs,b.natAbs,none,rfl,rfl,rfl,rfl⟩ ?_
 rintro m σ H1 ⟨x,y,r,rfl,rfl,rfl,hg⟩
 k_units
 refine ite2 (fun h=>?_) (fun h=>?_)
 ·refine⟨fun σ' H2=>σ'=[some (V.int a),some (V.int b),some (V.int m),some (V.int ((x:Int) % (m:Int))),none,some (V.int ((x:Int) % (m:Int)))]∧H2=H1,?_,by omega,rfl,rfl⟩
  rintro σ' H2 ⟨rfl,rfl⟩
  refine⟨x % m,Nat.mod_lt _ (by omega),m,x % m,_,by rw [← Int.natCast_emod],rfl,rfl,?_⟩
  rw [Nat.gcd_comm m,← Nat.gcd_rec,Nat.gcd_comm];exact hg
 ·have h0:m=0:=by omega
  subst h0
  rw [Nat.gcd_zero_right] at hg
  rw [hg];exact q
def spGcdL:Sp:=fun vs H Q _=>∃a b:Int,vs=[.int a,.int b]∧Q (.int (Nat.gcd a.natAbs b.natAbs:Nat)) H
theorem ok__law_divisor {P:Program} {w:World} {K:PySem.W.Frag} {mg:Str->Option Value} {base:Heap} (T:Tx K mg):FnOk P w K mg base CX0 1 T.a__law_divisor T.fd__law_divisor ["_law_one","_law_other"] spGcdL:=by
 refine T.F__law_divisor.ok sc__law_divisor (fun vs H Q E h=>?_) (fun cdv A outer s H vs Q E hr h=>?_)
 ·obtain⟨a,b,rfl,_⟩:=h
  rfl
 obtain⟨a,b,rfl,q⟩:=h
 refine⟨_,((pss_cons (ps_set (i:=0) sc__law_divisor.nd rfl (Or.inl rfl) (pe_callB call_abs rfl T.z_abs bt_abs (pa_cons (pv 0) pa_nil)))
  (pss_cons (ps_set (i:=1) sc__law_divisor.nd rfl (Or.inl rfl) (pe_callB call_abs rfl T.z_abs bt_abs (pa_cons (pv 1) pa_nil)))
  (pss_cons (ps_while PassesOwn.never (pt_cmpR op_ne (pv 0) pe_int (nomark _)) (pss_cons (ps_set (i:=2) sc__law_divisor.nd rfl (Or.inl rfl) (pe_op op_mod (pv 1) (pv 0)))
  (pss_cons (ps_set (i:=1) sc__law_divisor.nd rfl (Or.inl rfl) (pv 0))
  (pss_one (ps_set (i:=0) sc__law_divisor.nd rfl (Or.inl rfl) (pv 2))))))
  (pss_one (ps_ret (pv 1))))))),?_⟩
 (iterate 3 (k_units;(try simp only [abs_nat]));k_units)
 refine while_of (fun m σ H'=>∃(x y:Nat) (r:Option V),σ=[some (.int x),some (.int y),r]∧H'=H∧m=x∧Nat.gcd x y=Nat.gcd a.natAbs b.natAbs) a.natAbs ⟨a.natAbs,b.natAbs,none,rfl,rfl,rfl,rfl⟩ ?_
 rintro m σ H' ⟨x,y,r,rfl,rfl,rfl,hg⟩
 k_units
 refine ite2 (fun h=>?_) (fun h=>?_)
 ·refine⟨fun σ' H1=>σ'=[some (V.int ((y:Int) % (m:Int))),some (V.int m),some (V.int ((y:Int) % (m:Int)))]∧H1=H',?_,by omega,rfl,rfl⟩
  rintro σ' H1 ⟨rfl,rfl⟩
  refine⟨y % m,Nat.mod_lt _ (by omega),y % m,m,_,by rw [← Int.natCast_emod],rfl,rfl,?_⟩
  rw [← Nat.gcd_rec];exact hg
 ·have h0:m=0:=by omega
  subst h0
  rw [Nat.gcd_zero_left] at hg
  rw [hg];exact q
def spQuot (K:PySem.W.Frag) (c:Addr):Sp:=fun vs H Q E=>∃(a b:Addr) (one other:List Int) (k l:Nat),vs=[.ref a,.ref b]∧SqL K H a (one.map V.int)∧SqL K H b (other.map V.int)∧one.length<=64∧other.length<=64∧Nml one∧Nml other∧
 (∀x∈one,Bd k x)∧(∀y∈other,Bd l y)∧k<=100000∧l<=8995∧
 ((other=[]∧E (.ref c) none H)∨(other≠[]∧((∃q,Nml q∧Div one other q∧newL H Q (q.map V.int))∨((∀q,¬Div one other q)∧∀H',Same H H'->Q .non H'))))
theorem fdiv_bd {k:Nat} {x d:Int} (h:Bd k x) (hd:d≠0):Bd (k+1) (x.fdiv d):=by
 unfold Bd at *
 have e:=Int.fmod_add_mul_fdiv x d
 have r:(x.fmod d).natAbs < d.natAbs:=by
  rcases Int.lt_or_gt_of_ne hd with g | g
  ·have h1:=Int.fmod_nonneg_of_pos (-x) (show 0 < -d by omega)
   have h2:=Int.fmod_lt_of_pos (-x) (show 0 < -d by omega)
   rw [Int.neg_fmod_neg] at h1 h2
   omega
  ·have h1:=Int.fmod_nonneg_of_pos x g
   have h2:=Int.fmod_lt_of_pos x g
   omega
 have a:(d * x.fdiv d).natAbs=d.natAbs * (x.fdiv d).natAbs:=Int.natAbs_mul _ _
 have s:d.natAbs * (x.fdiv d).natAbs < 2 ^ k+d.natAbs:=by omega
 have d1:1<=d.natAbs:=by omega
 rw [Nat.pow_succ]
 by_cases z:(x.fdiv d).natAbs<=1
 ·have:=Nat.two_pow_pos k
  omega
 ·have m:d.natAbs * 2<=d.natAbs * (x.fdiv d).natAbs:=Nat.mul_le_mul_left _ (by omega)
  have m2:(x.fdiv d).natAbs<=d.natAbs * (x.fdiv d).natAbs:=Nat.le_mul_of_pos_left _ (by omega)
  omega
theorem ok_quotient {P:Program} {w:World} {K:PySem.W.Frag} {mg:Str->Option Value} {base:Heap} (T:Tx K mg):FnOk P w K mg base (CXE P w) 3 T.a_quotient T.fd_quotient ["one","other"] (spQuot K T.c_NoNumber):=by
 refine T.F_quotient.okE sc_quotient (fun vs H Q E h=>?_) (fun cdv A outer s H vs Q E hr h=>?_)
 ·obtain⟨a,b,one,other,k,l,rfl,_⟩:=h
  rfl
 obtain⟨a,b,one,other,k,l,rfl,hA,hB,la,lb,no,nt,bk,bl,hk,hl,q⟩:=h
 refine⟨_,((pss_cons (ps_if (PT.nox (pt_cmpR op_eq (pe_callB call_len_seq rfl T.z_len bt_len (pa_cons (pv 1) pa_nil)) pe_int (nomark _))) (pss_one (ps_raise rfl throwE rfl T.mc_NoNumber T.xc_NoNumber (pa_cons pe_str pa_nil))) pss_nil)
  (pss_cons (PS.nox (ps_set (i:=2) sc_quotient.nd rfl (Or.inl rfl) (pe_callTy call_list_of rfl T.z_list bt_list (pa_cons (pv 0) pa_nil))))
  (pss_cons (PS.nox (ps_set (i:=3) sc_quotient.nd rfl (Or.inl rfl) (pe_callB (call_max2 rfl) rfl T.z_max bt_max (pa_cons pe_int (pa_cons (pe_op op_add (pe_op op_sub (pe_callB call_len_seq rfl T.z_len bt_len (pa_cons (pv 0) pa_nil)) (pe_callB call_len_seq rfl T.z_len bt_len (pa_cons (pv 1) pa_nil))) pe_int) pa_nil)))))
  (pss_cons (PS.nox (ps_set (i:=4) sc_quotient.nd rfl (Or.inl rfl) (pe_op op_rep (pe_lst (pa_cons pe_int pa_nil)) (pv 3))))
  (pss_cons (PS.nox (ps_for PassesOwn.never rfl (pi_range3 rfl T.z_range (pa_cons (pe_op op_sub (pv 3) pe_int) (pa_cons (pe_un un_neg pe_int) (pa_cons (pe_un un_neg pe_int) pa_nil)))) (pg_name (i:=5) sc_quotient.nd rfl (Or.inl rfl)) (pss_cons (ps_set (i:=6) sc_quotient.nd rfl (Or.inl rfl) (pe_ix ix_list (pv 2) (pe_op op_sub (pe_op op_add (pv 5) (pe_callB call_len_seq rfl T.z_len bt_len (pa_cons (pv 1) pa_nil))) pe_int) (fun _ _=>rfl)))
  (pss_cons (ps_set (i:=7) sc_quotient.nd rfl (Or.inl rfl) (pe_op op_fdivB (pv 6) (pe_ix ix_list (pv 1) (pe_un un_neg pe_int) (fun _ _=>rfl))))
  (pss_cons (ps_if (pt_cmpR op_ne (pe_op op_mulZ (pv 7) (pe_ix ix_list (pv 1) (pe_un un_neg pe_int) (fun _ _=>rfl))) (pv 6) (nomark _)) (pss_one (ps_ret pe_non)) pss_nil)
  (pss_cons (ps_asg (pv 7) (pg_sub (pv 4) (pv 5) set_list))
  (pss_one (ps_for PassesOwn.never rfl (pi_enum rfl T.z_enumerate (pa_cons (pv 1) pa_nil)) (pg_tup rfl (pgs_cons (pg_name (i:=8) sc_quotient.nd rfl (Or.inl rfl)) (pgs_cons (pg_name (i:=9) sc_quotient.nd rfl (Or.inl rfl)) pgs_nil))) (pss_one (ps_augS (pv 2) (pe_op op_add (pv 5) (pv 8)) get_list (pe_op op_mulZ (pv 7) (pv 9)) ip_sub set_list))))))))))
  (pss_cons (PS.nox (ps_if (pt_cmpR op_gt (pe_callB call_len_seq rfl T.z_len bt_len (pa_cons (pe_call (FnOk.mono (ok_trimmed T) (by decide)) hr rfl T.m_trimmed T.F_trimmed.kp T.b_trimmed .nil pass0 (pa_cons (pv 2) pa_nil)) pa_nil)) pe_int (nomark _)) (pss_one (ps_ret pe_non)) pss_nil))
  (pss_one (PS.nox (ps_ret (pv 4))))))))))),?_⟩
 k_units
 refine⟨_,.inl hB,?_⟩
 rw [List.length_map]
 refine ite2 (fun h0=>?_) (fun h0=>?_)
 ·rcases q with ⟨_,q⟩ | ⟨hn,_⟩
  ·exact⟨by decide,q⟩
  ·exact absurd (List.eq_nil_of_length_eq_zero (by omega)) hn
 have hne:other≠[]:=by intro z;rw [z] at h0;simp at h0
 have q:=(q.resolve_left fun z=>hne z.1).2
 have lo:=List.length_pos_iff.mpr hne
 refine⟨_,.inl hA,fun R nR=>?_⟩
 have s1:=same_upd nR (.lst (one.map V.int))
 refine⟨_,.inl (s1.seq hA),_,.inl (s1.seq hB),by decide,fun p np=>⟨_,upd_same,?_⟩⟩
 have s2:=same_upd np (.lst [V.int 0])
 rw [List.length_map,List.length_map,rep_zero]
 obtain⟨n,hn⟩:∃n:Nat,(if (one.length:Int) - (other.length:Int)+1 > 0 then (one.length:Int) - (other.length:Int)+1 else 0)=(n:Int):=⟨one.length+1 - other.length,by split <;> omega⟩
 have hn':n=one.length+1 - other.length:=by split at hn <;> omega
 rw [hn,Int.toNat_natCast]
 refine⟨by omega,by omega,Nat.le_of_lt (small1000 (by simp;omega)),fun A0 nA=>?_⟩
 have s3:=same_upd nA (.lst ((List.replicate n (0:Int)).map V.int))
 have sG:=s1.trans (s2.trans s3)
 have gR:=s3 _ _ (s2 _ _ (upd_same (H:=H) (a:=R) (o:=.lst (one.map V.int))))
 have gA:upd (upd (upd H R (.lst (one.map V.int))) p (.lst [V.int 0])) A0 (.lst ((List.replicate n (0:Int)).map V.int)) A0=_:=upd_same
 have hRA:R≠A0:=ne_of_none (s2 _ _ (upd_same (H:=H) (a:=R) (o:=.lst (one.map V.int)))) nA
 have fA:=(s1.trans s2).free nA
 generalize upd (upd (upd H R (.lst (one.map V.int))) p (.lst [V.int 0])) A0 (.lst ((List.replicate n (0:Int)).map V.int))=G at sG gR gA ⊢
 clear s1 s2 s3 nA np
 refine⟨by decide,by decide,small_down (by omega) (by omega) (by omega) (by omega),n,size_down (by omega),?_⟩
 have fin:∀(rest ans:List Int) (r1 r2 r3 r4 r5:Option V) (H':Hp),(∀q,Div one other q->∀k,co rest k=0)->((∀k,co rest k=0)->Div one other ans∧Nml ans)->H' R=some (.lst (rest.map V.int))->H' A0=some (.lst (ans.map V.int))->Same H H'->rest.length<=64->
   spTrim K [V.ref R] H' (fun x H1=>∃p,x=V.ref p∧∃x,(SqL K H1 p x∨SqT K H1 p x)∧if 0 < (x.length:Int) then Q V.non H1 else Q (V.ref A0) H1) E0:=by
  intro rest ans r1 r2 r3 r4 r5 H' e1 e2 hR hA' sH lr
  refine⟨R,rest,rfl,SqL.of hR,by omega,fun f H2 s2 nf ef=>⟨f,rfl,_,.inl (SqL.of ef),?_⟩⟩
  rw [List.length_map]
  refine ite2 (fun h=>?_) (fun h=>?_)
  ·rcases q with ⟨q0,_,hd,_⟩ | ⟨_,q⟩
   ·have:=trim_nilI.mpr (e1 q0 hd)
    rw [this] at h;simp at h
   ·exact q _ (sH.trans s2)
  ·have tz:trim rest=[]:=List.eq_nil_of_length_eq_zero (by omega)
   obtain⟨d1,d2⟩:=e2 (trim_nilI.mp tz)
   rcases q with ⟨q0,n0,hd,q⟩ | ⟨q,_⟩
   ·rw [div_uniq nt hne n0 d2 hd d1] at q
    exact q A0 _ (sH.trans s2) fA (s2 _ _ hA')
   ·exact absurd d1 (q ans)
 by_cases hc:one.length+1 < other.length
 ·have n0:n=0:=by omega
  subst n0
  refine lp_ranges (fun i σ H'=>σ=[some (V.ref a),some (V.ref b),some (V.ref R),some (V.int ((0:Nat):Int)),some (V.ref A0),none,none,none,none,none]∧H'=G) ⟨rfl,rfl⟩ (fun i σ H' hi=>by omega) ?_
  rintro σ H' ⟨rfl,rfl⟩
  k_units
  refine fin one [] none none none none none H' (fun q hq k=>?_) (fun hz=>?_) gR gA sG la
  ·by_cases ho:one=[]
   ·rw [ho];rfl
   ·by_cases hq':Nml q
    ·obtain⟨y1,y2⟩:=div_len nt hne no hq' hq ho
     have:=List.length_pos_iff.mpr y1
     omega
    ·obtain⟨y1,y2⟩:=div_len (q:=trim q) nt hne no (trim_nml q) (fun k=>by rw [hq k];unfold pm;exact sumN_congr fun j _=>by rw [trim_co]) ho
     have:=List.length_pos_iff.mpr y1
     omega
  ·have ho:=nml_zero no hz
   rw [ho];exact⟨div_nil,nml_nil⟩
 have hla:n+other.length=one.length+1:=by omega
 have elast:co other (other.length - 1)=other.getLast hne:=by
  rw [co_lt (by omega),List.getLast_eq_getElem]
 have l0:other.getLast hne≠0:=by rw [← elast];exact co_last nt hne
 have bl0:Bd l (other.getLast hne):=bl _ (List.getLast_mem hne)
 obtain⟨Pv,hPv⟩:∃Pv:Nat->L2.St->Hp->Prop,∀i σ H',Pv i σ H'↔∃(ans rest:List Int) (r1 r2 r3 r4 r5:Option V),σ=[some (V.ref a),some (V.ref b),some (V.ref R),some (V.int (n:Int)),some (V.ref A0),r1,r2,r3,r4,r5]∧H' R=some (.lst (rest.map V.int))∧H' A0=some (.lst (ans.map V.int))∧
  DivAt one other ans rest (n - i)∧(∀x∈rest,Bd (k+(l+2) * i) x)∧Same H H':=⟨_,fun _ _ _=>Iff.rfl⟩
 refine lp_ranges Pv ((hPv _ _ _).mpr ⟨_,one,none,none,none,none,none,rfl,gR,gA,div_start hne hla,fun x hx=>(bk x hx).mono (by omega),sG⟩) ?_ ?_
 ·intro i σ H' hi hp
  obtain⟨ans,rest,r1,r2,r3,r4,r5,rfl,hR,hA',D,hb,sH⟩:=(hPv _ _ _).mp hp
  obtain⟨low,hlow⟩:∃low,n - i=low+1:=⟨n - i - 1,by omega⟩
  rw [hlow] at D
  have ei:(n:Int) - 1+(i:Int) * -1=(low:Int):=by omega
  have ix:(low:Int)+(other.length:Int) - 1=((low+(other.length - 1):Nat):Int):=by omega
  have hlr:=D.lr
  have hla':=D.la
  have hin:low+(other.length - 1) < rest.length:=by omega
  have i64:(l+2) * i<=(l+2) * 64:=Nat.mul_le_mul_left _ (by omega)
  (iterate 3 (k_units;(try simp only [ei]));k_units)
  refine⟨_,.inl (sH.seq hB),?_⟩
  rw [List.length_map]
  simp only [ix]
  refine⟨_,SqL.of hR,_,at_int hin,?_⟩
  have ct:co rest (low+(other.length - 1))=rest[low+(other.length - 1)]:=co_lt hin
  have bt:=hb _ (List.getElem_mem hin)
  generalize rest[low+(other.length - 1)]=tp at ct bt ⊢
  have bf:=fdiv_bd bt l0
  refine⟨_,sH.seq hB,_,at_last hne,tp,rfl,_,rfl,l0,Nat.lt_of_lt_of_le bl0 (Nat.pow_le_pow_right (by decide) (by omega)),_,sH.seq hB,_,at_last hne,_,rfl,bf.fits bl0 (by omega),?_⟩
  k_units
  refine ite2 (fun h=>?_) (fun h=>?_)
  ·rcases q with ⟨q0,_,hd,_⟩ | ⟨_,q⟩
   ·have z:=div_fail nt hne D hd
    rw [ct,elast] at z
    exact absurd z h
   ·exact q _ sH
  have hf:tp.fdiv (other.getLast hne) * other.getLast hne=tp:=by simpa using h
  generalize tp.fdiv (other.getLast hne)=f at hf bf ⊢
  refine⟨_,hA',low,ixN_nat (by rw [List.length_map];omega),?_⟩
  rw [map_set]
  have s5:=sH.more fA (o:=.lst ((ans.set low f).map V.int))
  have R5:=(upd_ne hRA:upd H' A0 (.lst ((ans.set low f).map V.int)) R=H' R).trans hR
  have A5:upd H' A0 (.lst ((ans.set low f).map V.int)) A0=_:=upd_same
  generalize upd H' A0 (.lst ((ans.set low f).map V.int))=H5 at s5 R5 A5 ⊢
  refine⟨_,s5.seq hB,?_⟩
  obtain⟨Pw,hPw⟩:∃Pw:Nat->L2.St->Hp->Prop,∀j σ Hx,Pw j σ Hx↔∃(rs:List Int) (r4 r5:Option V),σ=[some (V.ref a),some (V.ref b),some (V.ref R),some (V.int (n:Int)),some (V.ref A0),some (V.int (low:Int)),some (V.int tp),some (V.int f),r4,r5]∧Hx R=some (.lst (rs.map V.int))∧Hx A0=some (.lst ((ans.set low f).map V.int))∧rs.length=rest.length∧
   (∀u,co rs u=co rest u - if low<=u∧u < low+j then f * co other (u - low) else 0)∧Same H Hx:=⟨_,fun _ _ _=>Iff.rfl⟩
  refine lp_enum Pw ((hPw _ _ _).mpr ⟨rest,_,_,rfl,R5,A5,rfl,fun u=>by rw [if_neg (by omega)];omega,s5⟩) (fun j σ Hx _ z=>by obtain⟨_,_,_,_,_,_,_,_,z5⟩:=(hPw j σ Hx).mp z;exact z5.seq hB) ?_ ?_
  ·intro j v pt σ Hx hv hp' hpt
   obtain⟨rs,r4,r5,rfl,xR,xA,xl,xc,xs⟩:=(hPw _ _ _).mp hp'
   have hj:j < other.length:=by have:=(List.getElem?_eq_some_iff.mp hv).1;rw [List.length_map] at this;exact this
   rw [List.getElem?_map,List.getElem?_eq_getElem hj] at hv
   obtain rfl:V.int other[j]=v:=Option.some.inj hv
   have st:=same_upd hpt (.tup [V.int j,V.int other[j]])
   have eij:(low:Int)+(j:Int)=((low+j:Nat):Int):=rfl
   k_units
   refine⟨_,SqT.of upd_same,rfl,?_⟩
   (iterate 3 (k_units;(try simp only [eij]));k_units)
   have hiz:low+j < rs.length:=by omega
   have yR:=st _ _ xR
   have yA:=st _ _ xA
   refine⟨_,SqL.of yR,_,at_int hiz,bf.fits (bl _ (List.getElem_mem hj)) (by omega),_,rfl,_,yR,low+j,ixN_nat (by rw [List.length_map];exact hiz),(hPw _ _ _).mpr ⟨rs.set (low+j) (rs[low+j] - f * other[j]),_,_,rfl,by rw [upd_same,map_set],by rw [upd_ne (Ne.symm hRA)];exact yA,by rw [List.length_set];exact xl,fun u=>?_,(xs.trans st).more nR⟩⟩
   rw [co_set _ _ _ _ hiz]
   by_cases e:u=low+j
   ·subst e
    have z:=xc (low+j)
    rw [if_neg (show ¬(low<=low+j∧low+j < low+j) by omega),co_lt hiz] at z
    rw [if_pos (show low+j=low+j from rfl),if_pos (show low<=low+j∧low+j < low+(j+1) by omega),show low+j - low=j by omega,co_lt hj];omega
   ·rw [if_neg e,xc u]
    by_cases h3:low<=u∧u < low+j
    ·rw [if_pos h3,if_pos (show low<=u∧u < low+(j+1) by omega)]
    ·rw [if_neg h3,if_neg (show ¬(low<=u∧u < low+(j+1)) by omega)]
  ·intro σ Hx hp'
   obtain⟨rs,r4,r5,rfl,xR,xA,xl,xc,xs⟩:=(hPw _ _ _).mp hp'
   rw [List.length_map] at xc
   have D':DivAt one other (ans.set low f) rs low:=div_turn hne D (by omega) (by rw [elast,ct];exact hf) xl fun u=>by
    rw [xc u]
    by_cases h3:low<=u
    ·rw [if_pos h3]
     by_cases h4:u < low+other.length
     ·rw [if_pos ⟨h3,h4⟩]
     ·rw [if_neg (by omega),co_ge (xs:=other) (by omega),Int.mul_zero]
    ·rw [if_neg (by omega),if_neg h3]
   refine (hPv _ _ _).mpr ⟨_,rs,_,_,_,_,_,rfl,xR,xA,by rw [show n - (i+1)=low by omega];exact D',fun x hx=>?_,xs⟩
   obtain⟨u,hu,rfl⟩:=List.mem_iff_getElem.mp hx
   have eu:=xc u
   rw [co_lt hu,co_lt (show u < rest.length by omega)] at eu
   have b1:=hb _ (List.getElem_mem (show u < rest.length by omega))
   have b2:Bd (k+(l+2) * i+1+l) (if low<=u∧u < low+other.length then f * co other (u - low) else 0):=by
    split
    ·rcases Nat.lt_or_ge (u - low) other.length with z | z
     ·rw [co_lt z];exact bf.mul (bl _ (List.getElem_mem z))
     ·rw [co_ge z,Int.mul_zero];exact Bd.zero _
    ·exact Bd.zero _
   rw [eu]
   have e2:(l+2) * (i+1)=(l+2) * i+(l+2):=Nat.mul_succ _ _
   exact ((b1.mono (by omega)).sub b2).mono (by omega)
 ·intro σ H' hp
  obtain⟨ans,rest,r1,r2,r3,r4,r5,rfl,hR,hA',D,hb,sH⟩:=(hPv _ _ _).mp hp
  rw [Nat.sub_self] at D
  k_units
  refine fin rest ans r1 r2 r3 r4 r5 H' (fun q hq=>div_bad nt hne D q hq) (fun hz=>⟨div_good D hz,?_⟩) hR hA' sH (by have:=D.lr;omega)
  by_cases ho:one=[]
  ·have:ans.length=0:=by have:=D.la;rw [ho] at this;simp at this;omega
   rw [List.eq_nil_of_length_eq_zero this];exact nml_nil
  ·exact div_nml hne no ho D.la (div_good D hz)
theorem small5000 {n:Nat} (h:n<=5000):n < sizeLine:=Nat.lt_of_le_of_lt h (by decide)
def contL (xs:List Int):Nat:=xs.foldl (fun g x=>Nat.gcd x.natAbs g) 0
theorem cont_snoc (xs:List Int) (x:Int):contL (xs++[x])=Nat.gcd x.natAbs (contL xs):=by unfold contL;rw [List.foldl_append];rfl
theorem cont_lt {b:Nat} (hb:0 < b):∀xs:List Int,(∀x∈xs,x.natAbs < b)->contL xs < b:=fun xs=>by
 refine snoc_ind (P:=fun xs=>(∀x∈xs,x.natAbs < b)->contL xs < b) (fun _=>hb) (fun xs x ih h=>?_) xs
 rw [cont_snoc]
 by_cases z:x.natAbs=0
 ·rw [z,Nat.gcd_zero_left];exact ih fun y hy=>h y (by simp [hy])
 ·exact Nat.lt_of_le_of_lt (Nat.gcd_le_left _ (by omega)) (h x (by simp))
theorem cont_dvd (xs:List Int):∀x∈xs,((contL xs:Nat):Int)∣x:=by
 refine snoc_ind (P:=fun xs=>∀x∈xs,((contL xs:Nat):Int)∣x) (by simp) (fun xs y ih x hx=>?_) xs
 rw [cont_snoc]
 rcases List.mem_append.mp hx with z | z
 ·exact Int.dvd_trans (Int.natCast_dvd_natCast.mpr (Nat.gcd_dvd_right _ _)) (ih x z)
 ·rw [List.mem_singleton.mp z]
  exact Int.dvd_natAbs.mp (Int.natCast_dvd_natCast.mpr (Nat.gcd_dvd_left _ _))
theorem dvd_cont (d:Nat) (xs:List Int):(∀x∈xs,(d:Int)∣x)->d∣contL xs:=by
 refine snoc_ind (P:=fun xs=>(∀x∈xs,(d:Int)∣x)->d∣contL xs) (fun _=>Nat.dvd_zero d) (fun xs y ih h=>?_) xs
 rw [cont_snoc]
 refine Nat.dvd_gcd ?_ (ih fun x hx=>h x (by simp [hx]))
 exact Int.natCast_dvd_natCast.mp (Int.dvd_natAbs.mpr (h y (by simp)))
def spCont (K:PySem.W.Frag):Sp:=fun vs H Q _=>∃(a:Addr) (xs:List Int),vs=[.ref a]∧SqL K H a (xs.map V.int)∧(∀x∈xs,x.natAbs < 2 ^ 4000)∧Q (.int (contL xs:Nat)) H
theorem ok_content {P:Program} {w:World} {K:PySem.W.Frag} {mg:Str->Option Value} {base:Heap} (T:Tx K mg):FnOk P w K mg base CX0 2 T.a_content T.fd_content ["poly"] (spCont K):=by
 refine T.F_content.ok sc_content (fun vs H Q E h=>?_) (fun cdv A outer s H vs Q E hr h=>?_)
 ·obtain⟨a,xs,rfl,_⟩:=h
  rfl
 obtain⟨a,xs,rfl,hS,hb,q⟩:=h
 refine⟨_,((pss_cons (ps_set (i:=1) sc_content.nd rfl (Or.inl rfl) pe_int)
  (pss_cons (ps_for PassesOwn.never rfl (pi_list (pv 0)) (pg_name (i:=2) sc_content.nd rfl (Or.inl rfl)) (pss_one (ps_set (i:=1) sc_content.nd rfl (Or.inl rfl) (pe_call (FnOk.mono (ok_divisor T) (by decide)) hr rfl T.m_divisor T.F_divisor.kp T.b_divisor .nil pass0 (pa_cons (pv 2) (pa_cons (pv 1) pa_nil))))))
  (pss_one (ps_ret (pv 1)))))),?_⟩
 k_units
 refine⟨⟨_,hS⟩,?_⟩
 obtain⟨Pv,hPv⟩:∃Pv:Nat->L2.St->Hp->Prop,∀i σ H',Pv i σ H'↔∃r:Option V,σ=[some (V.ref a),some (V.int (contL (xs.take i):Nat)),r]∧H'=H:=⟨_,fun _ _ _=>Iff.rfl⟩
 refine lp_list (xs:=xs.map V.int) Pv ((hPv _ _ _).mpr ⟨_,rfl,rfl⟩) (fun i σ H' _ z=>by obtain⟨_,_,rfl⟩:=(hPv i σ H').mp z;exact hS) ?_ ?_
 ·intro i v σ H' hv hp
  obtain⟨r,rfl,rfl⟩:=(hPv _ _ _).mp hp
  have hi:i < xs.length:=by have:=(List.getElem?_eq_some_iff.mp hv).1;rw [List.length_map] at this;exact this
  rw [List.getElem?_map,List.getElem?_eq_getElem hi] at hv
  obtain rfl:V.int xs[i]=v:=Option.some.inj hv
  have et:xs.take (i+1)=xs.take i++[xs[i]]:=by rw [List.take_succ,List.getElem?_eq_getElem hi];rfl
  k_units
  refine⟨_,_,rfl,?_,(hPv _ _ _).mpr ⟨some (V.int xs[i]),?_,rfl⟩⟩
  ·rw [Int.natAbs_natCast]
   exact cont_lt (Nat.two_pow_pos _) _ fun x hx=>hb x (List.mem_of_mem_take hx)
  ·rw [et,cont_snoc,Int.natAbs_natCast]
 ·intro σ H' hp
  obtain⟨r,rfl,rfl⟩:=(hPv _ _ _).mp hp
  rw [List.length_map,List.take_length]
  k_units
  exact q
def spOver (K:PySem.W.Frag):Sp:=fun vs H Q _=>∃(a:Addr) (xs:List Int) (c:Int),vs=[.ref a,.int c]∧SqL K H a (xs.map V.int)∧xs.length<=5000∧c≠0∧c.natAbs < 2 ^ 4000∧newL H Q ((xs.map fun x=>x.fdiv c).map V.int)
theorem ok_over {P:Program} {w:World} {K:PySem.W.Frag} {mg:Str->Option Value} {base:Heap} (T:Tx K mg):FnOk P w K mg base CX0 1 T.a_over T.fd_over ["poly","number"] (spOver K):=by
 refine T.F_over.ok sc_over (fun vs H Q E h=>?_) (fun cdv A outer s H vs Q E hr h=>?_)
 ·obtain⟨a,xs,c,rfl,_⟩:=h
  rfl
 obtain⟨a,xs,c,rfl,hS,hl,c0,cb,q⟩:=h
 refine⟨_,((pss_one (ps_ret (pe_lcomp rfl (blkok rfl (sub_cons rfl sub_nil) (fv_cons 1 "number" (by decide) rfl (Or.inl rfl) (Or.inl rfl) ⟨_,rfl⟩ fv_nil)) (pi_list (pv 0)) (fun _ _ _ _=>(pe_op op_fdivB (pv 0) (pv 1))))))),?_⟩
 k_units
 refine⟨⟨_,hS⟩,fun C hC=>?_⟩
 obtain⟨Pc,hPc⟩:∃Pc:Nat->Hp->Prop,∀i H',Pc i H'↔H' C=some (.lst (((xs.take i).map fun x=>x.fdiv c).map V.int))∧Same H H':=⟨_,fun _ _=>Iff.rfl⟩
 refine cl_list (xs:=xs.map V.int) Pc ((hPc _ _).mpr ⟨by rw [upd_same];rfl,same_upd hC _⟩) (fun i Hx _ z=>((hPc i Hx).mp z).2.seq hS) ?_ ?_
 ·intro i v Hx hv hc
  obtain⟨k1,k2⟩:=(hPc _ _).mp hc
  have hi:i < xs.length:=by have:=(List.getElem?_eq_some_iff.mp hv).1;rw [List.length_map] at this;exact this
  rw [List.getElem?_map,List.getElem?_eq_getElem hi] at hv
  obtain rfl:V.int xs[i]=v:=Option.some.inj hv
  (iterate 3 (k_units;(try simp only [bst,Option.getD_some]));k_units)
  have et:xs.take (i+1)=xs.take i++[xs[i]]:=by rw [List.take_succ,List.getElem?_eq_getElem hi];rfl
  refine⟨c0,Nat.lt_of_lt_of_le cb (Nat.pow_le_pow_right (by decide) (by decide)),_,k1,small5000 (by simp;omega),(hPc _ _).mpr ⟨?_,k2.more hC⟩⟩
  rw [upd_same,et,List.map_append,List.map_append];rfl
 intro H1 hc
 obtain⟨k1,k2⟩:=(hPc _ _).mp hc
 rw [List.length_map,List.take_length] at k1
 exact q C _ k2 hC k1
def uprL (xs:List Int):List Int:=if xs≠[]∧co xs (xs.length - 1) < 0 then xs.map fun x=>-x else xs
def spUp (K:PySem.W.Frag):Sp:=fun vs H Q _=>∃(a:Addr) (xs:List Int),vs=[.ref a]∧SqL K H a (xs.map V.int)∧xs.length<=1000∧newL H Q ((uprL xs).map V.int)
theorem ok_upright {P:Program} {w:World} {K:PySem.W.Frag} {mg:Str->Option Value} {base:Heap} (T:Tx K mg):FnOk P w K mg base CX0 1 T.a_upright T.fd_upright ["poly"] (spUp K):=by
 refine T.F_upright.ok sc_upright (fun vs H Q E h=>?_) (fun cdv A outer s H vs Q E hr h=>?_)
 ·obtain⟨a,xs,rfl,_⟩:=h
  rfl
 obtain⟨a,xs,rfl,hS,hl,q⟩:=h
 refine⟨_,((pss_cons (ps_if (PW.pt (pw_and (pt_cmpR op_gt (pe_callB call_len_seq rfl T.z_len bt_len (pa_cons (pv 0) pa_nil)) pe_int (nomark _)) (pw_and1 (pt_cmpR op_lt (pe_ix ix_list (pv 0) (pe_un un_neg pe_int) (fun _ _=>rfl)) pe_int (nomark _))))) (pss_one (ps_ret (pe_lcomp rfl (blkok rfl sub_nil fv_nil) (pi_list (pv 0)) (fun _ _ _ _=>(pe_un un_neg (pv 0)))))) pss_nil)
  (pss_one (ps_ret (pe_callTy call_list_of rfl T.z_list bt_list (pa_cons (pv 0) pa_nil)))))),?_⟩
 k_units
 refine⟨_,.inl hS,?_⟩
 rw [List.length_map]
 unfold uprL at q
 have lst:¬(xs≠[]∧co xs (xs.length - 1) < 0)->∃x,(SqL K H a x∨SqT K H a x)∧∀l,H l=none->Q (V.ref l) (upd H l (HO.lst x)):=fun h=>by
  rw [if_neg h] at q
  exact⟨_,.inl hS,fun l hl=>q l _ (same_upd hl _) hl upd_same⟩
 refine ite2 (fun h=>?_) (fun h=>lst fun z=>?_)
 ·have hne:xs≠[]:=by intro z;rw [z] at h;simp at h
  refine⟨_,hS,_,at_last hne,?_⟩
  k_units
  have ec:co xs (xs.length - 1)=xs.getLast hne:=by rw [co_lt (by omega),List.getLast_eq_getElem]
  refine ite2 (fun h0=>?_) (fun h0=>lst fun z=>h0 (by rw [← ec];exact z.2))
  rw [if_pos ⟨hne,by rw [ec];exact h0⟩] at q
  refine⟨⟨_,hS⟩,fun C hC=>?_⟩
  obtain⟨Pc,hPc⟩:∃Pc:Nat->Hp->Prop,∀i H',Pc i H'↔H' C=some (.lst (((xs.take i).map fun x=>-x).map V.int))∧Same H H':=⟨_,fun _ _=>Iff.rfl⟩
  refine cl_list (xs:=xs.map V.int) Pc ((hPc _ _).mpr ⟨by rw [upd_same];rfl,same_upd hC _⟩) (fun i Hx _ z=>((hPc i Hx).mp z).2.seq hS) ?_ ?_
  ·intro i v Hx hv hc
   obtain⟨k1,k2⟩:=(hPc _ _).mp hc
   have hi:i < xs.length:=by have:=(List.getElem?_eq_some_iff.mp hv).1;rw [List.length_map] at this;exact this
   rw [List.getElem?_map,List.getElem?_eq_getElem hi] at hv
   obtain rfl:V.int xs[i]=v:=Option.some.inj hv
   (iterate 3 (k_units;(try simp only [bst,Option.getD_some]));k_units)
   have et:xs.take (i+1)=xs.take i++[xs[i]]:=by rw [List.take_succ,List.getElem?_eq_getElem hi];rfl
   refine⟨_,k1,small1000 (by simp;omega),(hPc _ _).mpr ⟨?_,k2.more hC⟩⟩
   rw [upd_same,et,List.map_append,List.map_append];rfl
  intro H1 hc
  obtain⟨k1,k2⟩:=(hPc _ _).mp hc
  rw [List.length_map,List.take_length] at k1
  exact q C _ k2 hC k1
 ·have:0 < xs.length:=List.length_pos_iff.mpr z.1
  omega
def spGreat (K:PySem.W.Frag):Sp:=fun vs H Q _=>∃(a:Addr) (xs:List Int),vs=[.ref a]∧SqL K H a (xs.map V.int)∧xs≠[]∧xs.length<=1000∧∀(M:Nat) H',Same H H'->(∀x∈xs,x.natAbs<=M)->(∃x∈xs,x.natAbs=M)->Q (.int (M:Int)) H'
theorem ok_greatest_size {P:Program} {w:World} {K:PySem.W.Frag} {mg:Str->Option Value} {base:Heap} (T:Tx K mg):FnOk P w K mg base CX0 1 T.a_greatest_size T.fd_greatest_size ["poly"] (spGreat K):=by
 refine T.F_greatest_size.ok sc_greatest_size (fun vs H Q E h=>?_) (fun cdv A outer s H vs Q E hr h=>?_)
 ·obtain⟨a,xs,rfl,_⟩:=h
  rfl
 obtain⟨a,xs,rfl,hS,hne,hl,q⟩:=h
 refine⟨_,((pss_one (ps_ret (pe_callB (call_maxL rfl) rfl T.z_max bt_max (pa_cons (pe_lcomp rfl (blkok rfl sub_nil fv_nil) (pi_list (pv 0)) (fun _ _ _ _=>(pe_callB call_abs rfl T.z_abs bt_abs (pa_cons (pv 0) pa_nil)))) pa_nil))))),?_⟩
 (iterate 3 (k_units;(try simp only [abs_nat]));k_units)
 refine⟨⟨_,hS⟩,fun C hC=>?_⟩
 obtain⟨Pc,hPc⟩:∃Pc:Nat->Hp->Prop,∀i H',Pc i H'↔H' C=some (.lst (((xs.take i).map fun x=>((x.natAbs:Nat):Int)).map V.int))∧Same H H':=⟨_,fun _ _=>Iff.rfl⟩
 refine cl_list (xs:=xs.map V.int) Pc ((hPc _ _).mpr ⟨by rw [upd_same];rfl,same_upd hC _⟩) (fun i Hx _ z=>((hPc i Hx).mp z).2.seq hS) ?_ ?_
 ·intro i v Hx hv hc
  obtain⟨k1,k2⟩:=(hPc _ _).mp hc
  have hi:i < xs.length:=by have:=(List.getElem?_eq_some_iff.mp hv).1;rw [List.length_map] at this;exact this
  rw [List.getElem?_map,List.getElem?_eq_getElem hi] at hv
  obtain rfl:V.int xs[i]=v:=Option.some.inj hv
  (iterate 3 (k_units;(try simp only [bst,Option.getD_some,abs_nat]));k_units)
  have et:xs.take (i+1)=xs.take i++[xs[i]]:=by rw [List.take_succ,List.getElem?_eq_getElem hi];rfl
  refine⟨_,k1,small1000 (by simp;omega),(hPc _ _).mpr ⟨?_,k2.more hC⟩⟩
  rw [upd_same,et,List.map_append,List.map_append];rfl
 intro H1 hc
 obtain⟨k1,k2⟩:=(hPc _ _).mp hc
 rw [List.length_map,List.take_length] at k1
 refine⟨C,rfl,_,SqL.of k1,by simpa using hne,fun M hM1 hM2=>?_⟩
 obtain⟨x,hx,rfl⟩:=List.mem_map.mp hM1
 exact q _ _ k2 (fun y hy=>by have:=hM2 _ (List.mem_map.mpr ⟨y,hy,rfl⟩);omega) ⟨x,hx,rfl⟩
def spSpread (K:PySem.W.Frag):Sp:=fun vs H Q _=>∃(n b:Int),vs=[.int n,.int b]∧0 < n∧n.natAbs < 2 ^ 3990∧29<=b∧b.natAbs < 2 ^ 3990∧
 ∀f:List Int,val b f=n->(∀x∈f,2 * x.natAbs<=b.natAbs)->f≠[]->0 < co f (f.length - 1)->f.length<=4000->newL H Q (f.map V.int)
theorem ok_spread {P:Program} {w:World} {K:PySem.W.Frag} {mg:Str->Option Value} {base:Heap} (T:Tx K mg):FnOk P w K mg base CX0 1 T.a_spread T.fd_spread ["number","base"] (spSpread K):=by
 refine T.F_spread.ok sc_spread (fun vs H Q E h=>?_) (fun cdv A outer s H vs Q E hr h=>?_)
 ·obtain⟨n,b,rfl,_⟩:=h
  rfl
 obtain⟨n,b,rfl,n0,nb,b29,bb,q⟩:=h
 refine⟨_,((pss_cons (ps_set (i:=2) sc_spread.nd rfl (Or.inl rfl) (pe_lst pa_nil))
  (pss_cons (ps_while PassesOwn.never (pt_cmpR op_ne (pv 0) pe_int (nomark _)) (pss_cons (ps_set (i:=3) sc_spread.nd rfl (Or.inl rfl) (pe_op op_mod (pv 0) (pv 1)))
  (pss_mid (ps_if (pt_cmpR op_gt (pe_op op_mul pe_int (pv 3)) (pv 1) (nomark _)) (pss_one (ps_aug (i:=3) sc_spread.nd rfl (Or.inl rfl) (pv 1) ip_sub)) pss_nil)
  (pss_cons (ps_expr (pe_bm PySem.F.plainAttrs_list PySem.F.slot_list_append PySem.F.type_list_append mt_append (pv 2) (pa_cons (pv 3) pa_nil)))
  (pss_one (ps_set (i:=0) sc_spread.nd rfl (Or.inl rfl) (pe_op op_fdivB (pe_op op_sub (pv 0) (pv 3)) (pv 1))))))))
  (pss_one (ps_ret (pv 2)))))),?_⟩
 k_units
 refine⟨Nat.zero_le _,fun A0 hA=>?_⟩
 have inv0:∃(ds:List Int) (k:Nat) (r:Option V),[some (V.int n),some (V.int b),some (V.ref A0),none]=[some (V.int n),some (V.int b),some (V.ref A0),r]∧upd H A0 (.lst []) A0=some (.lst (ds.map V.int))∧Same H (upd H A0 (.lst []))∧0<=n∧n < 2 ^ k∧ds.length+k<=3990∧(∀x∈ds,2 * x.natAbs<=b.natAbs)∧(0 < n∨ds≠[]∧0 < co ds (ds.length - 1))∧∀rest,val b rest=n->val b (ds++rest)=n:=
  ⟨[],3990,none,rfl,upd_same,same_upd hA _,by omega,by omega,by simp,by simp,.inl n0,fun rest h=>h⟩
 refine while_of (fun m σ H'=>∃(n':Int) (ds:List Int) (k:Nat) (r:Option V),m=n'.natAbs∧σ=[some (V.int n'),some (V.int b),some (V.ref A0),r]∧H' A0=some (.lst (ds.map V.int))∧Same H H'∧0<=n'∧n' < 2 ^ k∧ds.length+k<=3990∧(∀x∈ds,2 * x.natAbs<=b.natAbs)∧(0 < n'∨ds≠[]∧0 < co ds (ds.length - 1))∧∀rest,val b rest=n'->val b (ds++rest)=n) n.natAbs ?_ ?_
 ·obtain⟨ds,k,r,e⟩:=inv0
  exact⟨n,ds,k,r,rfl,e⟩
 rintro m σ H' ⟨n',ds,k,r,rfl,rfl,hz,sz,h0,hk,hl,hb,hp,hv⟩
 k_units
 refine ite2 (fun h=>?_) (fun h=>?_)
 ·have hn:n'≠0:=by simpa using h
  refine⟨fun σ' H1=>∃low t:Int,σ'=[some (V.int t),some (V.int b),some (V.ref A0),some (V.int low)]∧H1=upd H' A0 (.lst ((ds++[low]).map V.int))∧n'=low+b * t∧2 * low.natAbs<=b.natAbs∧0<=t,?_,by omega,?_⟩
  ·rintro σ' H1 ⟨low,t,rfl,rfl,hnt,hlow,ht⟩
   have tb:2 * t<=n':=by
    by_cases z:t=0
    ·omega
    ·have z1:b * 1<=b * t:=Int.mul_le_mul_of_nonneg_left (by omega) (by omega)
     have z2:29 * t<=b * t:=Int.mul_le_mul_of_nonneg_right b29 ht
     generalize b * t=X at z1 z2 hnt
     omega
   obtain⟨k',rfl⟩:∃k',k=k'+1:=⟨k - 1,by
    by_cases z:k=0
    ·rw [z] at hk;simp at hk;omega
    ·omega⟩
   refine⟨t.natAbs,by omega,t,rfl,ds++[low],k',_,rfl,upd_same,sz.more hA,ht,?_,by simp;omega,fun x hx=>?_,?_,fun rest hr'=>?_⟩
   ·have:(2:Int) ^ (k'+1)=2 ^ k' * 2:=Int.pow_succ 2 k'
    omega
   ·rcases List.mem_append.mp hx with z | z
    ·exact hb x z
    ·rw [List.mem_singleton.mp z];exact hlow
   ·by_cases z:t=0
    ·refine .inr ⟨by simp,?_⟩
     rw [show (ds++[low]).length - 1=ds.length by simp,co_snoc,if_pos rfl]
     rw [z,Int.mul_zero] at hnt
     omega
    ·exact .inl (by omega)
   ·rw [List.append_assoc]
    refine hv ([low]++rest) ?_
    show low+b * val b rest=n'
    rw [hr',hnt]
  ·obtain⟨M,hM⟩:∃M:L2.St->Hp->Prop,∀σ H1,M σ H1↔∃low t:Int,σ=[some (V.int n'),some (V.int b),some (V.ref A0),some (V.int low)]∧H1=H'∧n'=low+b * t∧2 * low.natAbs<=b.natAbs∧0<=t:=⟨_,fun _ _=>Iff.rfl⟩
   have m1:=Int.emod_nonneg n' (show b≠0 by omega)
   have m2:=Int.emod_lt_of_pos n' (show 0 < b by omega)
   have m3:=Int.emod_add_mul_ediv n' b
   have m4:=Int.ediv_nonneg h0 (show 0<=b by omega)
   refine mid_of M ?_ ?_
   ·k_units
    refine⟨.inl ⟨by decide,by decide⟩,ite2 (fun h2=>(hM _ _).mpr ⟨_,n' / b+1,rfl,rfl,?_,by omega,by omega⟩) (fun h2=>(hM _ _).mpr ⟨_,n' / b,rfl,rfl,by omega,by omega,m4⟩)⟩
    rw [Int.mul_add,Int.mul_one];omega
   ·intro σ H1 hm
    obtain⟨low,t,rfl,rfl,hnt,hlow,ht⟩:=(hM _ _).mp hm
    k_units
    have et:(n' - low).fdiv b=t:=by
     rw [show n' - low=b * t by omega]
     exact Int.mul_fdiv_cancel_left _ (by omega)
    rw [et]
    refine⟨a_tyL (SqL.of hz),_,hz,small5000 (by simp;omega),by omega,Nat.lt_of_lt_of_le bb (Nat.pow_le_pow_right (by decide) (by decide)),by rw [List.map_append];rfl,hnt,hlow,ht⟩
 ·have e0:n'=0:=by simpa using h
  subst e0
  rcases hp with z | ⟨z1,z2⟩
  ·omega
  have v:=hv [] rfl
  rw [List.append_nil] at v
  exact q ds v hb z1 z2 (by omega) A0 _ sz hA hz
structure Two (a b g:List Int) (G:Nat):Prop where
 na:Nml a
 nb:Nml b
 a0:a≠[]
 b0:b≠[]
 la:a.length<=12
 lb:b.length<=12
 ba:∀z∈a,Bd 130 z
 bb:∀z∈b,Bd 130 z
 pg:Prim (co g)
 ng:Nml g
 lg:g.length<=12
 up:0 < co g (g.length - 1)
 bG:G < 2 ^ 130
 da:∃x,Div a g x
 db:∃y,Div b g y
 bz:∃(U V:List Int) (m:Int),m≠0∧(∀z∈g,m.natAbs * z.natAbs<=G)∧∀n,val n U * val n a+val n V * val n b=m * val n g
theorem val_ne {p:Int} (hp:1<=p) {a:List Int} (na:Nml a) (a0:a≠[]) (h:∀z∈a,2 * z.natAbs<=p.natAbs):val p a≠0:=by
 have l0:=co_last na a0
 rcases Int.lt_or_gt_of_ne l0 with g | g
 ·have e:∀j,co (a.map fun z=>-1 * z) j=-1 * co a j:=fun j=>by
   by_cases h:j < a.length
   ·rw [co_lt (xs:=a.map _) (by simpa using h),co_lt h,List.getElem_map]
   ·rw [co_ge (xs:=a.map _) (by simp;omega),co_ge (by omega),Int.mul_zero]
  have:=(digits_top hp (a.map fun z=>-1 * z) (by simpa using a0) (fun x hx=>by
   obtain⟨z,hz,rfl⟩:=List.mem_map.mp hx
   have:=h z hz
   omega) (by rw [List.length_map,e];omega)).2
  rw [val_map] at this
  omega
 ·have:=(digits_top hp a a0 h g).2
  omega
theorem val_lt {p:Int} (hp:1<=p):∀a:List Int,(∀z∈a,2 * z.natAbs<=p.natAbs)->(val p a).natAbs < p.natAbs ^ a.length
 | [],_=>by simp [val]
 | x :: a,h=>by
  have i:=val_lt hp a fun z hz=>h z (by simp [hz])
  have hx:=h x (by simp)
  have e:val p (x :: a)=x+p * val p a:=rfl
  rw [e,List.length_cons,Nat.pow_succ]
  have m:p.natAbs * ((val p a).natAbs+1)<=p.natAbs * p.natAbs ^ a.length:=Nat.mul_le_mul_left _ i
  rw [Nat.mul_add,Nat.mul_one,Nat.mul_comm _ (p.natAbs ^ a.length)] at m
  have n:(p * val p a).natAbs=p.natAbs * (val p a).natAbs:=Int.natAbs_mul _ _
  omega
theorem few {p L:Nat} (hp:29<=p) (h:p ^ L < 2 ^ L * p ^ 12):L<=15:=by
 refine Nat.le_of_not_lt fun hl=>?_
 obtain⟨r,rfl⟩:∃r,L=16+r:=⟨L - 16,by omega⟩
 have e1:p ^ (16+r)=p ^ 12 * (p ^ 4 * p ^ r):=by rw [← Nat.pow_add,← Nat.pow_add];congr 1;omega
 have e2:(2:Nat) ^ (16+r)=2 ^ 16 * 2 ^ r:=Nat.pow_add 2 16 r
 have m1:29 ^ 4<=p ^ 4:=Nat.pow_le_pow_left hp 4
 have m2:2 ^ r<=p ^ r:=Nat.pow_le_pow_left (by omega) r
 have m3:2 ^ 16 * 2 ^ r<=p ^ 4 * p ^ r:=Nat.mul_le_mul (by omega) m2
 rw [e1,e2,Nat.mul_comm (2 ^ 16 * 2 ^ r)] at h
 exact absurd h (Nat.not_lt.mpr (Nat.mul_le_mul_left (p ^ 12) m3))
theorem pm_const (f:Nat->Int) (c:Int) (j:Nat):pm f (fun i=>if i=0 then c else 0) j=c * f j:=by
 unfold pm
 rw [sumN_one (i:=j) (by omega) fun i hi hne=>?_]
 ·show f j * (if j - j=0 then c else 0)=_
  rw [if_pos (Nat.sub_self j),Int.mul_comm]
 ·show f i * (if j - i=0 then c else 0)=0
  rw [if_neg (by omega),Int.mul_zero]
theorem found_is {a b g:List Int} {G:Nat} (tw:Two a b g G) {p:Int} {M:Nat} (hp:2 * (M:Int)+29<=p) (hM:(∀z∈a,z.natAbs<=M)∨(∀z∈b,z.natAbs<=M)):
  0 < Nat.gcd (val p a).natAbs (val p b).natAbs∧∀f:List Int,val p f=(Nat.gcd (val p a).natAbs (val p b).natAbs:Nat)->(∀x∈f,2 * x.natAbs<=p.natAbs)->f≠[]->0 < co f (f.length - 1)->
   f.length<=16∧0 < contL f∧Nml (f.map fun x=>x.fdiv (contL f))∧(∀qa qb,Div a (f.map fun x=>x.fdiv (contL f)) qa->Div b (f.map fun x=>x.fdiv (contL f)) qb->f.map (fun x=>x.fdiv (contL f))=g)∧(2 * (G:Int)+1<=p->f.map (fun x=>x.fdiv (contL f))=g):=by
 obtain⟨U,V,m,m0,hG,bz⟩:=tw.bz
 obtain⟨x,hx⟩:=tw.da
 obtain⟨y,hy⟩:=tw.db
 have vx:=div_val.mp hx
 have vy:=div_val.mp hy
 have small:∃d:List Int,(val p d≠0∧(val p d).natAbs < p.natAbs ^ 12)∧(Nat.gcd (val p a).natAbs (val p b).natAbs)∣(val p d).natAbs:=by
  have pw:∀d:List Int,d.length<=12->(∀z∈d,z.natAbs<=M)->(val p d).natAbs < p.natAbs ^ 12:=fun d hd hz=>
   Nat.lt_of_lt_of_le (val_lt (by omega) d fun z hz'=>by have:=hz z hz';omega) (Nat.pow_le_pow_right (by omega) hd)
  rcases hM with h | h
  ·exact⟨a,⟨val_ne (by omega) tw.na tw.a0 fun z hz=>by have:=h z hz;omega,pw a tw.la h⟩,Nat.gcd_dvd_left _ _⟩
  ·exact⟨b,⟨val_ne (by omega) tw.nb tw.b0 fun z hz=>by have:=h z hz;omega,pw b tw.lb h⟩,Nat.gcd_dvd_right _ _⟩
 obtain⟨d,⟨d0,dl⟩,dd⟩:=small
 have gpos:0 < Nat.gcd (val p a).natAbs (val p b).natAbs:=Nat.pos_of_ne_zero fun z=>by
  rw [z] at dd
  exact d0 (Int.natAbs_eq_zero.mp (Nat.eq_zero_of_zero_dvd dd))
 have gle:=Nat.le_of_dvd (Int.natAbs_pos.mpr d0) dd
 refine⟨gpos,fun f fv fs f0 ft=>?_⟩
 have fl:f.length<=16:=by
  have t:=(digits_top (by omega) f f0 fs ft).1
  rw [fv] at t
  have e:(p.natAbs:Int)=p:=by omega
  have t':p.natAbs ^ (f.length - 1)<=2 ^ (f.length - 1) * Nat.gcd (val p a).natAbs (val p b).natAbs:=by
   have:((p.natAbs ^ (f.length - 1):Nat):Int)<=((2 ^ (f.length - 1) * Nat.gcd (val p a).natAbs (val p b).natAbs:Nat):Int):=by
    rw [Int.natCast_pow,Int.natCast_mul,Int.natCast_pow,e];exact t
   exact Int.ofNat_le.mp this
  have:=few (p:=p.natAbs) (L:=f.length - 1) (by omega) (Nat.lt_of_le_of_lt t' (Nat.mul_lt_mul_of_pos_left (by omega) (Nat.two_pow_pos _)))
  omega
 have hl:f.length - 1 < f.length:=by have:=List.length_pos_iff.mpr f0;omega
 have cpos:0 < contL f:=Nat.pos_of_ne_zero fun z=>by
  have:=cont_dvd f _ (List.getElem_mem hl)
  rw [z] at this
  have:=Int.zero_dvd.mp (by simpa using this)
  rw [co_lt hl,this] at ft;omega
 have c0:((contL f:Nat):Int)≠0:=by omega
 have fz:∀z∈f,((contL f:Nat):Int) * z.fdiv (contL f:Nat)=z:=fun z hz=>by
  obtain⟨t,ht⟩:=cont_dvd f z hz
  rw [ht,Int.mul_fdiv_cancel_left _ c0]
 have fc:∀j,co f j=((contL f:Nat):Int) * co (f.map fun x=>x.fdiv (contL f:Nat)) j:=fun j=>by
  by_cases hj:j < f.length
  ·rw [co_lt hj,co_lt (xs:=f.map _) (by simpa using hj),List.getElem_map]
   exact (fz _ (List.getElem_mem hj)).symm
  ·rw [co_ge (by omega),co_ge (xs:=f.map _) (by simp;omega),Int.mul_zero]
 have vf:val p f=((contL f:Nat):Int) * val p (f.map fun x=>x.fdiv (contL f:Nat)):=by
  rw [← val_map]
  refine val_of_co (fun j=>?_) p
  rw [fc j]
  by_cases hj:j < f.length
  ·rw [co_lt (xs:=(f.map _).map _) (by simpa using hj),List.getElem_map,co_lt (xs:=f.map _) (by simpa using hj)]
  ·rw [co_ge (xs:=f.map _) (by simp;omega),co_ge (xs:=(f.map _).map _) (by simp;omega),Int.mul_zero]
 have fs':∀z∈f.map (fun x=>x.fdiv (contL f:Nat)),2 * (((contL f:Nat):Int) * z).natAbs<=p.natAbs:=fun z hz=>by
  obtain⟨x,hx,rfl⟩:=List.mem_map.mp hz
  rw [fz x hx];exact fs x hx
 have fl':(f.map fun x=>x.fdiv (contL f:Nat)).length=f.length:=List.length_map _
 have ft':0 < co (f.map fun x=>x.fdiv (contL f:Nat)) (f.length - 1):=by
  rw [fc] at ft
  exact Int.pos_of_mul_pos_right ft (by omega)
 have fp:Prim (co (f.map fun x=>x.fdiv (contL f:Nat))):=fun e he=>by
  have:e * contL f∣contL f:=dvd_cont _ f fun z hz=>by
   obtain⟨j,hj,rfl⟩:=List.mem_iff_getElem.mp hz
   rw [← co_lt hj,fc j,Int.natCast_mul,Int.mul_comm]
   exact Int.mul_dvd_mul_left _ (he j)
  obtain⟨t,ht⟩:=this
  have:contL f * 1=contL f * (e * t):=by rw [Nat.mul_one,← Nat.mul_assoc,Nat.mul_comm _ e];exact ht
  have:=Nat.eq_of_mul_eq_mul_left cpos this
  exact (Nat.eq_one_of_mul_eq_one_right this.symm)
 generalize hf':(f.map fun x=>x.fdiv (contL f:Nat))=f' at *
 generalize contL f=c at *
 have f0':f'≠[]:=List.length_pos_iff.mp (by omega)
 have fn':Nml f':=nml_last.mpr fun z hz=>by
  rw [List.getLast?_eq_getElem?,fl',List.getElem?_eq_getElem (by omega)] at hz
  rw [co_lt (by omega)] at ft'
  rw [← Option.some.inj hz];omega
 obtain⟨h,hh⟩:((val p g).natAbs)∣Nat.gcd (val p a).natAbs (val p b).natAbs:=Nat.dvd_gcd (by rw [vx p,Int.natAbs_mul];exact Nat.dvd_mul_right _ _) (by rw [vy p,Int.natAbs_mul];exact Nat.dvd_mul_right _ _)
 have h1:1<=h:=Nat.pos_of_ne_zero fun z=>by rw [z,Nat.mul_zero] at hh;omega
 have fpos:0 < val p f':=by
  have:0 < (c:Int) * val p f':=by rw [← vf,fv];omega
  exact Int.pos_of_mul_pos_right this (by omega)
 have hv:(c:Int) * val p f'=(h:Int) * ((val p g).natAbs:Int):=by rw [← vf,fv,hh,Int.natCast_mul,Int.mul_comm]
 refine⟨fl,cpos,fn',fun qa qb da db=>?_,fun hpG=>?_⟩
 ·rcases common_found (c:=c) (h:=h) hp fp fn' f0' (by omega) fs' tw.pg tw.ng hx hy (hM.imp (fun z=>⟨tw.a0,tw.na,z⟩) fun z=>⟨tw.b0,tw.nb,z⟩) da db m0 bz (by omega) fpos hv with e | e
  ·exact e
  ·exfalso
   have lg:f'.length=g.length:=by rw [e,List.length_map]
   rw [← fl',e] at ft'
   rw [List.length_map] at ft'
   have hg:g.length - 1 < g.length:=by have:=List.length_pos_iff.mpr f0';omega
   rw [co_lt (xs:=g.map _) (by simpa using hg),List.getElem_map] at ft'
   have:=tw.up
   rw [co_lt hg] at this
   omega
 ·have hm:h∣m.natAbs:=by
   have dv:(Nat.gcd (val p a).natAbs (val p b).natAbs:Int)∣m * val p g:=by
    rw [← bz p]
    exact Int.dvd_add (Int.dvd_trans (Int.dvd_natAbs.mp (Int.natCast_dvd_natCast.mpr (Nat.gcd_dvd_left _ _))) (Int.dvd_mul_left _ _)) (Int.dvd_trans (Int.dvd_natAbs.mp (Int.natCast_dvd_natCast.mpr (Nat.gcd_dvd_right _ _))) (Int.dvd_mul_left _ _))
   have dn:=Int.natAbs_dvd_natAbs.mpr dv
   rw [Int.natAbs_natCast,Int.natAbs_mul,hh,Nat.mul_comm m.natAbs] at dn
   have gp:0 < (val p g).natAbs:=Nat.pos_of_ne_zero fun z=>by rw [z,Nat.zero_mul] at hh;omega
   exact Nat.dvd_of_mul_dvd_mul_left gp dn
  have hle:=Nat.le_of_dvd (Int.natAbs_pos.mpr m0) hm
  have m1:=Int.natAbs_pos.mpr m0
  have g0:g≠[]:=fun z=>by have:=tw.up;rw [z] at this;simp [co] at this
  have gs:∀z∈g,2 * z.natAbs<=p.natAbs:=fun z hz=>by
   have:=hG z hz
   have:z.natAbs<=m.natAbs * z.natAbs:=Nat.le_mul_of_pos_left _ m1
   omega
  have gpos':=(digits_top (by omega) g g0 gs tw.up).2
  have hc:∀k,co f k=co (g.map fun z=>(h:Int) * z) k:=digits_uniq (by omega) f _ fs (fun z hz=>by
   obtain⟨y,hy,rfl⟩:=List.mem_map.mp hz
   have h2:=hG y hy
   have h3:h * y.natAbs<=m.natAbs * y.natAbs:=Nat.mul_le_mul_right _ hle
   rw [Int.natAbs_mul,Int.natAbs_natCast]
   omega) (by rw [val_map,vf,hv];congr 1;omega)
  have hc':∀k,(c:Int) * co f' k=(h:Int) * co g k:=fun k=>by
   rw [← fc k,hc k]
   by_cases hj:k < g.length
   ·rw [co_lt (xs:=g.map _) (by simpa using hj),co_lt hj,List.getElem_map]
   ·rw [co_ge (xs:=g.map _) (by simp;omega),co_ge (by omega),Int.mul_zero]
  have hc1:h∣c:=by
   refine Int.natCast_dvd_natCast.mp (Classical.byContradiction fun hno=>?_)
   have z:=prim_dvd fp h h1 (fun j=>if j=0 then (c:Int) else 0) (fun j=>by
    rw [pm_const,hc' j];exact Int.dvd_mul_right _ _) 0
   exact hno (by simpa using z)
  have hc2:c∣h:=by
   refine Int.natCast_dvd_natCast.mp (Classical.byContradiction fun hno=>?_)
   have z:=prim_dvd tw.pg c cpos (fun j=>if j=0 then (h:Int) else 0) (fun j=>by
    rw [pm_const,← hc' j];exact Int.dvd_mul_right _ _) 0
   exact hno (by simpa using z)
  have ch:c=h:=Nat.dvd_antisymm hc2 hc1
  refine nml_ext fn' tw.ng fun k=>?_
  have:=hc' k
  rw [ch] at this
  exact Int.eq_of_mul_eq_mul_left (by omega) this
def spBare (K:PySem.W.Frag):Sp:=fun vs H Q _=>∃(p q:Addr) (a b g:List Int) (G:Nat),vs=[.ref p,.ref q]∧SqL K H p (a.map V.int)∧SqL K H q (b.map V.int)∧Two a b g G∧newL H Q (g.map V.int)
theorem div_trim {one other q:List Int} (h:Div one other q):Div one other (trim q):=fun k=>by
 rw [h k];unfold pm;exact sumN_congr fun j _=>by rw [trim_co]
theorem quot_of {K:PySem.W.Frag} {c:Addr} {H:Hp} {h1 h2:Addr} {one other:List Int} {k l:Nat} {R:VK} (a1:SqL K H h1 (one.map V.int)) (a2:SqL K H h2 (other.map V.int)) (l1:one.length<=64) (l2:other.length<=64) (n1:Nml one) (n2:Nml other) (hne:other≠[])
  (b1:∀x∈one,Bd k x) (b2:∀y∈other,Bd l y) (hk:k<=100000) (hl:l<=8000)
  (hR:∀x H',Same H H'->((x=.non∧∀q,¬Div one other q)∨∃(F:Addr) (q:List Int),x=.ref F∧H F=none∧H' F=some (.lst (q.map V.int))∧Nml q∧Div one other q)->R x H'):
  spQuot K c [.ref h1,.ref h2] H R E0:=by
 refine⟨h1,h2,one,other,k,l,rfl,a1,a2,l1,l2,n1,n2,b1,b2,hk,by omega,.inr ⟨hne,?_⟩⟩
 by_cases hq:∃q,Div one other q
 ·obtain⟨q,hq⟩:=hq
  exact .inl ⟨trim q,trim_nml q,div_trim hq,fun F H' s f e=>hR _ _ s (.inr ⟨F,trim q,rfl,f,e,trim_nml q,div_trim hq⟩)⟩
 ·exact .inr ⟨fun q h=>hq ⟨q,h⟩,fun H' s=>hR _ _ s (.inl ⟨rfl,fun q h=>hq ⟨q,h⟩⟩)⟩
theorem val_bd {k l:Nat} {n:Int} (hn:Bd l n):∀xs:List Int,(∀x∈xs,Bd k x)->Bd (k+(l+1) * xs.length) (val n xs)
 | [],_=>Bd.zero _
 | x :: xs,h=>by
  have i:=val_bd hn xs fun y hy=>h y (by simp [hy])
  have e:val n (x :: xs)=x+n * val n xs:=rfl
  rw [e,List.length_cons,Nat.mul_succ]
  exact (((h x (by simp)).mono (l:=l+(k+(l+1) * xs.length)) (by omega)).add (hn.mul i)).mono (by omega)
theorem ok_bare_common {P:Program} {w:World} {K:PySem.W.Frag} {mg:Str->Option Value} {base:Heap} (T:Tx K mg):FnOk P w K mg base CX0 4 T.a_bare_common T.fd_bare_common ["one","other"] (spBare K):=by
 refine T.F_bare_common.ok sc_bare_common (fun vs H Q E h=>?_) (fun cdv A outer s H vs Q E hr h=>?_)
 ·obtain⟨p,q,a,b,g,G,rfl,_⟩:=h
  rfl
 obtain⟨pa,pb,a,b,g,G,rfl,hA,hB,tw,q⟩:=h
 refine⟨_,((pss_cons (ps_set (i:=2) sc_bare_common.nd rfl (Or.inl rfl) (pe_op op_add (pe_op op_mul pe_int (pe_callB (call_min2 rfl) rfl T.z_min bt_min (pa_cons (pe_call (FnOk.mono (ok_greatest_size T) (by decide)) hr rfl T.m_greatest_size T.F_greatest_size.kp T.b_greatest_size .nil pass0 (pa_cons (pv 0) pa_nil)) (pa_cons (pe_call (FnOk.mono (ok_greatest_size T) (by decide)) hr rfl T.m_greatest_size T.F_greatest_size.kp T.b_greatest_size .nil pass0 (pa_cons (pv 1) pa_nil)) pa_nil)))) pe_int))
  (pss_one (ps_while PassesOwn.never (pt_val pe_bl) (pss_cons (ps_set (i:=3) sc_bare_common.nd rfl (Or.inl rfl) (pe_call (FnOk.mono (ok_spread T) (by decide)) hr rfl T.m_spread T.F_spread.kp T.b_spread .nil pass0 (pa_cons (pe_call (FnOk.mono (ok_divisor T) (by decide)) hr rfl T.m_divisor T.F_divisor.kp T.b_divisor .nil pass0 (pa_cons (pe_call (FnOk.mono (ok_poly_value T) (by decide)) hr rfl T.m_poly_value T.F_poly_value.kp T.b_poly_value .nil pass0 (pa_cons (pv 0) (pa_cons (pv 2) pa_nil))) (pa_cons (pe_call (FnOk.mono (ok_poly_value T) (by decide)) hr rfl T.m_poly_value T.F_poly_value.kp T.b_poly_value .nil pass0 (pa_cons (pv 1) (pa_cons (pv 2) pa_nil))) pa_nil))) (pa_cons (pv 2) pa_nil))))
  (pss_cons (ps_set (i:=3) sc_bare_common.nd rfl (Or.inl rfl) (pe_call (FnOk.mono (ok_over T) (by decide)) hr rfl T.m_over T.F_over.kp T.b_over .nil pass0 (pa_cons (pv 3) (pa_cons (pe_call (FnOk.mono (ok_content T) (by decide)) hr rfl T.m_content T.F_content.kp T.b_content .nil pass0 (pa_cons (pv 3) pa_nil)) pa_nil))))
  (pss_cons (ps_if (PW.pt (pw_and (pt_cmpR op_notN (pe_call (FnOk.mono (ok_quotient T) (by decide)) hr rfl T.m_quotient T.F_quotient.kp T.b_quotient .nil passF (pa_cons (pv 0) (pa_cons (pv 3) pa_nil))) pe_non (nomark _)) (pw_and1 (pt_cmpR op_notN (pe_call (FnOk.mono (ok_quotient T) (by decide)) hr rfl T.m_quotient T.F_quotient.kp T.b_quotient .nil passF (pa_cons (pv 1) (pa_cons (pv 3) pa_nil))) pe_non (nomark _))))) (pss_one (ps_ret (pv 3))) pss_nil)
  (pss_one (ps_set (i:=2) sc_bare_common.nd rfl (Or.inl rfl) (pe_op op_add (pe_op op_mulZ (pv 2) (pv 2)) pe_int)))))))))),?_⟩
 k_units
 refine⟨pa,a,rfl,hA,tw.a0,by have:=tw.la;omega,fun Ma H1 s1 ma1 ma2=>⟨pb,b,rfl,s1.seq hB,tw.b0,by have:=tw.lb;omega,fun Mb H2 s2 mb1 mb2=>⟨_,rfl,_,rfl,.inl ⟨by decide,by decide⟩,?_⟩⟩⟩
 have big:∀(M:Nat) (xs:List Int),(∀z∈xs,Bd 130 z)->(∃z∈xs,z.natAbs=M)->M < 2 ^ 130:=fun M xs hb ⟨z,hz,e⟩=>by rw [← e];exact hb z hz
 obtain⟨M,hMe,hM,hMb⟩:∃M:Nat,(2 * if (Mb:Int) < (Ma:Int) then (Mb:Int) else (Ma:Int))+29=2 * (M:Int)+29∧((∀z∈a,z.natAbs<=M)∨(∀z∈b,z.natAbs<=M))∧M < 2 ^ 130:=by
  by_cases h:(Mb:Int) < (Ma:Int)
  ·exact⟨Mb,by rw [if_pos h],.inr mb1,big _ _ tw.bb mb2⟩
  ·exact⟨Ma,by rw [if_neg h],.inl ma1,big _ _ tw.ba ma2⟩
 rw [hMe]
 have s3:=s1.trans s2
 have p264:(2:Nat) ^ 264=2 ^ 132 * 2 ^ 132:=by rw [← Nat.pow_add]
 refine while_of (fun k σ H'=>∃(p:Int) (r:Option V),k=(2 * (G:Int)+1 - p).toNat∧σ=[some (V.ref pa),some (V.ref pb),some (V.int p),r]∧Same H H'∧2 * (M:Int)+29<=p∧Bd 264 p) (2 * (G:Int)+1 - (2 * (M:Int)+29)).toNat ⟨_,none,rfl,rfl,s3,by omega,Bd.of_lt (m:=2 ^ 132) (by omega) (Nat.pow_le_pow_right (by decide) (by decide))⟩ ?_
 rintro k σ H' ⟨p,r,rfl,rfl,sP,hp,bp⟩
 k_units
 obtain⟨gpos,fi⟩:=found_is tw hp hM
 obtain⟨xg,hxg⟩:=tw.da
 obtain⟨yg,hyg⟩:=tw.db
 have la:=tw.la
 have lb:=tw.lb
 have bG:=tw.bG
 have bva:=val_bd bp a tw.ba
 have bvb:=val_bd bp b tw.bb
 have bva':Bd 3400 (val p a):=bva.mono (by omega)
 have bvb':Bd 3400 (val p b):=bvb.mono (by omega)
 have bgc:Nat.gcd (val p a).natAbs (val p b).natAbs < 2 ^ 3400:=by
  by_cases z:(val p a).natAbs=0
  ·rw [z,Nat.gcd_zero_left];exact bvb'
  ·exact Nat.lt_of_le_of_lt (Nat.gcd_le_left _ (by omega)) bva'
 have up1:(2:Nat) ^ 3400<=2 ^ 3990:=Nat.pow_le_pow_right (by decide) (by decide)
 have up2:(2:Nat) ^ 3400<=2 ^ 4000:=Nat.pow_le_pow_right (by decide) (by decide)
 have up3:(2:Nat) ^ 264<=2 ^ 3990:=Nat.pow_le_pow_right (by decide) (by decide)
 have up4:(2:Nat) ^ 264<=2 ^ 4000:=Nat.pow_le_pow_right (by decide) (by decide)
 have bp':p.natAbs < 2 ^ 264:=bp
 refine⟨fun σ' H1=>∃r:Option V,σ'=[some (V.ref pa),some (V.ref pb),some (V.int (p * p+1)),r]∧Same H H1∧p < 2 * (G:Int)+1,?_,?_⟩
 ·rintro σ' H1 ⟨r,rfl,sN,hG⟩
  have pp:29 * p<=p * p:=Int.mul_le_mul_of_nonneg_right (by omega) (by omega)
  have bq:Bd 131 p:=by
   show p.natAbs < 2 ^ 131
   have:(2:Nat) ^ 131=2 * 2 ^ 130:=by rw [← Nat.pow_succ']
   omega
  have bpp:=((bq.mul bq).add (Bd.one (by decide))).mono (l:=264) (by decide)
  refine⟨_,?_,p * p+1,rfl,r,rfl,sN,by omega,bpp⟩
  generalize p * p=X at pp
  omega
 clear bp'
 refine⟨pa,a,p,130,264,rfl,sP.seq hA,by omega,tw.ba,bp,by decide,pb,b,p,130,264,rfl,sP.seq hB,by omega,tw.bb,bp,by decide,_,_,rfl,Nat.lt_of_lt_of_le bvb' up2,?_⟩
 refine⟨_,p,rfl,by omega,by rw [Int.natAbs_natCast];exact Nat.lt_of_lt_of_le bgc up1,by omega,Nat.lt_of_lt_of_le bp up3,fun f fv fs f0 ft fl F G1 s1 nF eF=>?_⟩
 obtain⟨f16,c0,fn,fg1,fg2⟩:=fi f fv fs f0 ft
 have bf:∀x∈f,Bd 264 x:=fun x hx=>by
  show x.natAbs < 2 ^ 264
  have:=fs x hx
  have:p.natAbs < 2 ^ 264:=bp
  omega
 have bf4:∀x∈f,x.natAbs < 2 ^ 4000:=fun x hx=>Nat.lt_of_lt_of_le (bf x hx) up4
 have bc4:((contL f:Nat):Int).natAbs < 2 ^ 4000:=by rw [Int.natAbs_natCast];exact cont_lt (Nat.two_pow_pos _) f bf4
 refine⟨F,f,rfl,SqL.of eF,bf4,F,f,_,rfl,SqL.of eF,by omega,by omega,bc4,fun F2 G2 s2 nF2 eF2=>?_⟩
 have hne:(f.map fun x=>x.fdiv (contL f:Nat))≠[]:=by simpa using f0
 have bf2:∀y∈f.map (fun x=>x.fdiv (contL f:Nat)),Bd 265 y:=fun y hy=>by
  obtain⟨x,hx,rfl⟩:=List.mem_map.mp hy
  exact fdiv_bd (bf x hx) (by omega)
 have lf2:(f.map fun x=>x.fdiv (contL f:Nat)).length<=64:=by rw [List.length_map];omega
 have sQ:=sP.trans (s1.trans s2)
 have nF0:H F2=none:=(sP.trans s1).free nF2
 have pfit:IntMulOk p p:=bp.fits bp (by decide)
 generalize (f.map fun x=>x.fdiv (contL f:Nat))=f2 at fn fg1 fg2 eF2 hne bf2 lf2
 refine quot_of (one:=a) (other:=f2) (k:=130) (l:=265) (sQ.seq hA) (SqL.of eF2) (by omega) lf2 tw.na fn hne tw.ba bf2 (by decide) (by decide) fun x3 G3 s3' hx3=>?_
 rcases hx3 with ⟨rfl,hno⟩ | ⟨Fq,qa,rfl,_,_,_,da⟩
 ·rw [if_neg (by simp)]
  refine⟨pfit,_,rfl,sQ.trans s3',Int.lt_of_not_ge fun z=>?_⟩
  rw [fg2 z] at hno
  exact hno xg hxg
 rw [if_pos (by simp)]
 refine quot_of (one:=b) (other:=f2) (k:=130) (l:=265) ((sQ.trans s3').seq hB) (SqL.of (s3' _ _ eF2)) (by omega) lf2 tw.nb fn hne tw.bb bf2 (by decide) (by decide) fun x4 G4 s4 hx4=>?_
 rcases hx4 with ⟨rfl,hno⟩ | ⟨Fq2,qb,rfl,_,_,_,db⟩
 ·rw [if_neg (by simp)]
  refine⟨pfit,_,rfl,sQ.trans (s3'.trans s4),Int.lt_of_not_ge fun z=>?_⟩
  rw [fg2 z] at hno
  exact hno yg hyg
 rw [if_pos (by simp)]
 have e:=s4 _ _ (s3' _ _ eF2)
 rw [fg1 qa qb da db] at e
 exact q F2 _ (sQ.trans (s3'.trans s4)) nF0 e
def spCommon (K:PySem.W.Frag):Sp:=fun vs H Q _=>∃(pa pb:Addr) (a b:List Int),vs=[.ref pa,.ref pb]∧SqL K H pa (a.map V.int)∧SqL K H pb (b.map V.int)∧a.length<=1000∧b.length<=1000∧
 ((a=[]∧newL H Q ((uprL b).map V.int))∨(a≠[]∧b=[]∧newL H Q ((uprL a).map V.int))∨
  (a≠[]∧b≠[]∧0 < contL a∧0 < contL b∧(∀z∈a,Bd 130 z)∧(∀z∈b,Bd 130 z)∧∃(g:List Int) (G:Nat),Two (a.map fun x=>x.fdiv (contL a:Nat)) (b.map fun x=>x.fdiv (contL b:Nat)) g G∧newL H Q ((g.map fun z=>((Nat.gcd (contL a) (contL b):Nat):Int) * z).map V.int)))
theorem ok_common {P:Program} {w:World} {K:PySem.W.Frag} {mg:Str->Option Value} {base:Heap} (T:Tx K mg):FnOk P w K mg base CX0 5 T.a_common T.fd_common ["one","other"] (spCommon K):=by
 refine T.F_common.ok sc_common (fun vs H Q E h=>?_) (fun cdv A outer s H vs Q E hr h=>?_)
 ·obtain⟨p,q,a,b,rfl,_⟩:=h
  rfl
 obtain⟨pa,pb,a,b,rfl,hA,hB,la,lb,q⟩:=h
 refine⟨_,((pss_cons (ps_if (pt_cmpR op_eq (pe_callB call_len_seq rfl T.z_len bt_len (pa_cons (pv 0) pa_nil)) pe_int (nomark _)) (pss_one (ps_ret (pe_call (FnOk.mono (ok_upright T) (by decide)) hr rfl T.m_upright T.F_upright.kp T.b_upright .nil pass0 (pa_cons (pv 1) pa_nil)))) pss_nil)
  (pss_cons (ps_if (pt_cmpR op_eq (pe_callB call_len_seq rfl T.z_len bt_len (pa_cons (pv 1) pa_nil)) pe_int (nomark _)) (pss_one (ps_ret (pe_call (FnOk.mono (ok_upright T) (by decide)) hr rfl T.m_upright T.F_upright.kp T.b_upright .nil pass0 (pa_cons (pv 0) pa_nil)))) pss_nil)
  (pss_cons (ps_set (i:=2) sc_common.nd rfl (Or.inl rfl) (pe_call (FnOk.mono (ok_content T) (by decide)) hr rfl T.m_content T.F_content.kp T.b_content .nil pass0 (pa_cons (pv 0) pa_nil)))
  (pss_cons (ps_set (i:=3) sc_common.nd rfl (Or.inl rfl) (pe_call (FnOk.mono (ok_content T) (by decide)) hr rfl T.m_content T.F_content.kp T.b_content .nil pass0 (pa_cons (pv 1) pa_nil)))
  (pss_cons (ps_set (i:=4) sc_common.nd rfl (Or.inr rfl) (pe_call (FnOk.mono (ok_divisor T) (by decide)) hr rfl T.m_divisor T.F_divisor.kp T.b_divisor .nil pass0 (pa_cons (pv 2) (pa_cons (pv 3) pa_nil))))
  (pss_one (ps_ret (pe_lcomp rfl (blkok rfl (sub_cons rfl sub_nil) (fv_cons 4 "shared" (by decide) rfl (Or.inl rfl) (Or.inl rfl) ⟨_,rfl⟩ fv_nil)) (pi_list (pe_call (FnOk.mono (ok_bare_common T) (by decide)) hr rfl T.m_bare_common T.F_bare_common.kp T.b_bare_common .nil pass0 (pa_cons (pe_call (FnOk.mono (ok_over T) (by decide)) hr rfl T.m_over T.F_over.kp T.b_over .nil pass0 (pa_cons (pv 0) (pa_cons (pv 2) pa_nil))) (pa_cons (pe_call (FnOk.mono (ok_over T) (by decide)) hr rfl T.m_over T.F_over.kp T.b_over .nil pass0 (pa_cons (pv 1) (pa_cons (pv 3) pa_nil))) pa_nil)))) (fun _ _ _ _=>(pe_op op_mulZ (pv 1) (pv 0)))))))))))),?_⟩
 k_units
 refine⟨_,.inl hA,?_⟩
 rw [List.length_map]
 refine ite2 (fun h=>?_) (fun h=>⟨_,.inl hB,?_⟩)
 ·have a0:a=[]:=List.eq_nil_of_length_eq_zero (by omega)
  rcases q with ⟨_,q⟩ | ⟨z,_⟩ | ⟨z,_⟩
  ·exact⟨pb,b,rfl,hB,lb,q⟩
  ·exact absurd a0 z
  ·exact absurd a0 z
 have a0:a≠[]:=by intro z;rw [z] at h;simp at h
 rw [List.length_map]
 refine ite2 (fun h=>?_) (fun h=>?_)
 ·have b0:b=[]:=List.eq_nil_of_length_eq_zero (by omega)
  rcases q with ⟨z,_⟩ | ⟨_,_,q⟩ | ⟨_,z,_⟩
  ·exact absurd z a0
  ·exact⟨pa,a,rfl,hA,la,q⟩
  ·exact absurd b0 z
 have b0:b≠[]:=by intro z;rw [z] at h;simp at h
 rcases q with ⟨z,_⟩ | ⟨_,z,_⟩ | ⟨_,_,ca,cb,ba,bb,g,G,tw,q⟩
 ·exact absurd z a0
 ·exact absurd z b0
 have u4:(2:Nat) ^ 130<=2 ^ 4000:=Nat.pow_le_pow_right (by decide) (by decide)
 have ba4:∀x∈a,x.natAbs < 2 ^ 4000:=fun x hx=>Nat.lt_of_lt_of_le (ba x hx) u4
 have bb4:∀x∈b,x.natAbs < 2 ^ 4000:=fun x hx=>Nat.lt_of_lt_of_le (bb x hx) u4
 have ka:=cont_lt (Nat.two_pow_pos 130) a ba
 have kb:=cont_lt (Nat.two_pow_pos 130) b bb
 refine⟨pa,a,rfl,hA,ba4,pb,b,rfl,hB,bb4,_,_,rfl,by rw [Int.natAbs_natCast];omega,?_⟩
 rw [Int.natAbs_natCast,Int.natAbs_natCast]
 refine⟨pa,a,_,rfl,hA,by omega,by omega,by rw [Int.natAbs_natCast];omega,fun A1 H1 s1 n1 e1=>⟨pb,b,_,rfl,s1.seq hB,by omega,by omega,by rw [Int.natAbs_natCast];omega,fun B1 H2 s2 n2 e2=>⟨A1,B1,_,_,g,G,rfl,SqL.of (s2 _ _ e1),SqL.of e2,tw,fun F H3 s3 n3 e3=>?_⟩⟩⟩
 have sg:∀z∈g,Bd 130 z:=fun z hz=>by
  obtain⟨_,_,m,m0,hG,_⟩:=tw.bz
  have h1:=hG z hz
  have h2:z.natAbs<=m.natAbs * z.natAbs:=Nat.le_mul_of_pos_left _ (Int.natAbs_pos.mpr m0)
  have:=tw.bG
  show z.natAbs < 2 ^ 130
  omega
 have gc:Bd 130 ((Nat.gcd (contL a) (contL b):Nat):Int):=by
  show ((Nat.gcd (contL a) (contL b):Nat):Int).natAbs < 2 ^ 130
  rw [Int.natAbs_natCast]
  exact Nat.lt_of_le_of_lt (Nat.gcd_le_left _ ca) ka
 have lg:=tw.lg
 refine⟨F,rfl,⟨_,SqL.of e3⟩,fun C hC=>?_⟩
 obtain⟨Pc,hPc⟩:∃Pc:Nat->Hp->Prop,∀i H',Pc i H'↔H' C=some (.lst (((g.take i).map fun z=>((Nat.gcd (contL a) (contL b):Nat):Int) * z).map V.int))∧Same H3 H':=⟨_,fun _ _=>Iff.rfl⟩
 refine cl_list (xs:=g.map V.int) Pc ((hPc _ _).mpr ⟨by rw [upd_same];rfl,same_upd hC _⟩) (fun i Hx _ z=>SqL.of (((hPc i Hx).mp z).2 _ _ e3)) ?_ ?_
 ·intro i v Hx hv hc
  obtain⟨k1,k2⟩:=(hPc _ _).mp hc
  have hi:i < g.length:=by have:=(List.getElem?_eq_some_iff.mp hv).1;rw [List.length_map] at this;exact this
  rw [List.getElem?_map,List.getElem?_eq_getElem hi] at hv
  obtain rfl:V.int g[i]=v:=Option.some.inj hv
  (iterate 3 (k_units;(try simp only [bst,Option.getD_some]));k_units)
  have et:g.take (i+1)=g.take i++[g[i]]:=by rw [List.take_succ,List.getElem?_eq_getElem hi];rfl
  refine⟨gc.fits (sg _ (List.getElem_mem hi)) (by decide),_,k1,small5000 (by simp;omega),(hPc _ _).mpr ⟨?_,k2.more hC⟩⟩
  rw [upd_same,et,List.map_append,List.map_append];rfl
 intro H4 hc
 obtain⟨k1,k2⟩:=(hPc _ _).mp hc
 rw [List.length_map,List.take_length] at k1
 have sA:=s1.trans (s2.trans s3)
 exact q C _ (sA.trans k2) (sA.free hC) k1
def dvL (xs:List Int) (c:Nat):List Int:=xs.map fun x=>x.fdiv (c:Int)
theorem fdiv_mul_cont {c:Nat} (hc:0 < c) {x:Int} (h:(c:Int)∣x):(c:Int) * x.fdiv (c:Int)=x:=by
 rw [Int.fdiv_eq_ediv_of_nonneg _ (by omega)]
 exact Int.mul_ediv_cancel' h
theorem co_dv (xs:List Int) (c:Nat) (j:Nat):co (dvL xs c) j=(co xs j).fdiv (c:Int):=by
 unfold dvL
 by_cases h:j < xs.length
 ·rw [co_lt (by rw [List.length_map];exact h),co_lt h,List.getElem_map]
 ·rw [co_ge (by rw [List.length_map];omega),co_ge (by omega)];simp
theorem dv_mul {xs:List Int} (hc:0 < contL xs) (j:Nat):((contL xs:Nat):Int) * co (dvL xs (contL xs)) j=co xs j:=by
 rw [co_dv]
 exact fdiv_mul_cont hc (co_in (cont_dvd xs) (Int.dvd_zero _) j)
theorem dv_val {xs:List Int} (hc:0 < contL xs) (n:Int):((contL xs:Nat):Int) * val n (dvL xs (contL xs))=val n xs:=by
 rw [← val_map]
 refine val_of_co (fun j=>?_) n
 rw [← dv_mul hc j]
 by_cases h:j < (dvL xs (contL xs)).length
 ·rw [co_lt (by rw [List.length_map];exact h),co_lt h,List.getElem_map]
 ·rw [co_ge (by rw [List.length_map];omega),co_ge (by omega)];simp
theorem dv_len (xs:List Int) (c:Nat):(dvL xs c).length=xs.length:=List.length_map ..
theorem cont_pos {xs:List Int} (h:Nml xs) (hne:xs≠[]):0 < contL xs:=by
 refine Nat.pos_of_ne_zero fun z=>?_
 have:=co_last h hne
 have h2:=co_in (P:=fun x=>((contL xs:Nat):Int)∣x) (cont_dvd xs) (Int.dvd_zero _) (xs.length - 1)
 rw [z] at h2
 exact this (Int.zero_dvd.mp h2)
theorem dv_nml {xs:List Int} (h:Nml xs) (hne:xs≠[]):Nml (dvL xs (contL xs)):=by
 refine nml_of_last (.inr fun z=>?_)
 rw [dv_len] at z
 have:=dv_mul (cont_pos h hne) (xs.length - 1)
 rw [z,Int.mul_zero] at this
 exact co_last h hne this.symm
theorem dv_prim {xs:List Int} (hc:0 < contL xs):Prim (co (dvL xs (contL xs))):=fun d hd=>by
 have h:d * contL xs∣contL xs:=dvd_cont _ _ (in_co fun j=>by
  rw [← dv_mul hc j,Int.natCast_mul,Int.mul_comm (d:Int)]
  exact Int.mul_dvd_mul_left _ (hd j))
 obtain⟨e,he⟩:=h
 have h1:contL xs * (d * e)=contL xs * 1:=by rw [Nat.mul_one,← Nat.mul_assoc,Nat.mul_comm (contL xs) d];exact he.symm
 have h2:=Nat.eq_of_mul_eq_mul_left hc h1
 exact Nat.eq_one_of_mul_eq_one_right h2
theorem cont_mul {p g A:List Int} (hp:0 < contL p) (hg:0 < contL g) (h:∀j,co A j=pm (co p) (co g) j):contL A=contL p * contL g:=by
 have e:∀j,co A j=((contL p * contL g:Nat):Int) * pm (co (dvL p (contL p))) (co (dvL g (contL g))) j:=fun j=>by
  rw [h j,Int.natCast_mul,Int.mul_assoc,← pm_scale,← pm_scaleL]
  congr 1
  ·funext i;exact (dv_mul hp i).symm
  ·funext i;exact (dv_mul hg i).symm
 have d1:contL p * contL g∣contL A:=dvd_cont _ _ (in_co fun j=>by rw [e j];exact Int.dvd_mul_right _ _)
 obtain⟨f,hf⟩:=d1
 have hpg:0 < contL p * contL g:=Nat.mul_pos hp hg
 have hf1:f=1:=prim_mul (dv_prim hp) (dv_prim hg) f fun j=>by
  have h2:=co_in (P:=fun x=>((contL A:Nat):Int)∣x) (cont_dvd A) (Int.dvd_zero _) j
  rw [e j,hf,Int.natCast_mul _ f] at h2
  exact Int.dvd_of_mul_dvd_mul_left (by omega) h2
 rw [hf,hf1,Nat.mul_one]
theorem upr_co (xs:List Int):∃e:Int,(e=1∨e=-1)∧∀j,co (uprL xs) j=e * co xs j:=by
 unfold uprL
 split
 ·exact⟨-1,.inr rfl,fun j=>by rw [co_neg];omega⟩
 ·exact⟨1,.inl rfl,fun j=>by omega⟩
theorem upr_len (xs:List Int):(uprL xs).length=xs.length:=by unfold uprL;split <;> simp
theorem upr_top {xs:List Int} (h:Nml xs) (hne:xs≠[]):0 < co (uprL xs) ((uprL xs).length - 1):=by
 have:=co_last h hne
 rw [upr_len]
 unfold uprL
 split
 ·rename_i z;rw [co_neg];omega
 ·rename_i z
  have:¬co xs (xs.length - 1) < 0:=fun y=>z ⟨hne,y⟩
  omega
theorem upr_of {xs ys:List Int} (hn:Nml xs) (hy:Nml ys) {e:Int} (he:e=1∨e=-1) (h:∀j,co ys j=e * co xs j) (hp:ys≠[]->0 < co ys (ys.length - 1)):ys=uprL xs:=by
 by_cases hx:xs=[]
 ·have:ys=[]:=nml_zero hy fun k=>by rw [h k,hx,co_nil];simp
  rw [this,hx];rfl
 obtain⟨f,hf,hc⟩:=upr_co xs
 have hl:ys.length=xs.length:=Nat.le_antisymm (nml_len hy fun k hk=>by rw [h k,co_ge hk];simp) (nml_len hn fun k hk=>by
  have:=h k;rw [co_ge hk] at this;rcases he with rfl | rfl <;> omega)
 have hy0:ys≠[]:=by intro z;rw [z] at hl;exact hx (List.eq_nil_of_length_eq_zero hl.symm)
 have h1:=hp hy0
 have h2:=upr_top hn hx
 rw [upr_len,hc] at h2
 rw [hl,h] at h1
 have:e=f:=by rcases he with rfl | rfl <;> rcases hf with rfl | rfl <;> first | rfl | omega
 exact co_ext (by rw [hl,upr_len]) fun k _=>by rw [h k,hc k,this]
theorem upr_nml {xs:List Int} (h:Nml xs):Nml (uprL xs):=by
 by_cases hx:xs=[]
 ·rw [hx];exact nml_nil
 ·have:=upr_top h hx
  exact nml_of_last (.inr (by omega))
theorem two_of {p q g A B U W:List Int} {m:Int} (np:Nml p) (nq:Nml q) (ng:Nml g) (nA:Nml A) (nB:Nml B) (p0:p≠[]) (q0:q≠[]) (g0:g≠[]) (lA:A.length<=12) (lB:B.length<=12) (lg:g.length<=12)
  (bA:∀z∈A,Bd 130 z) (bB:∀z∈B,Bd 130 z) (bg:∀z∈g,z.natAbs < 10 ^ 20) (hm:m≠0) (hm1:m.natAbs<=2000) (hb:∀n,val n U * val n p+val n W * val n q=m)
  (hA:∀n,val n A=val n p * val n g) (hB:∀n,val n B=val n q * val n g):
  0 < contL A∧0 < contL B∧A≠[]∧B≠[]∧Two (dvL A (contL A)) (dvL B (contL B)) (uprL (dvL g (contL g))) (2000 * 10 ^ 20)∧
   (uprL (dvL g (contL g))).map (fun z=>((Nat.gcd (contL A) (contL B):Nat):Int) * z)=uprL (g.map fun z=>((contL (p++q):Nat):Int) * z):=by
 have cp:=cont_pos np p0
 have cq:=cont_pos nq q0
 have cg:=cont_pos ng g0
 have hA':∀j,co A j=pm (co p) (co g) j:=fun j=>by rw [← co_mulP];exact co_of_val (fun n=>by rw [hA,val_mulP]) j
 have hB':∀j,co B j=pm (co q) (co g) j:=fun j=>by rw [← co_mulP];exact co_of_val (fun n=>by rw [hB,val_mulP]) j
 have eA:=cont_mul cp cg hA'
 have eB:=cont_mul cq cg hB'
 have cA:0 < contL A:=by rw [eA];exact Nat.mul_pos cp cg
 have cB:0 < contL B:=by rw [eB];exact Nat.mul_pos cq cg
 have A0:A≠[]:=by intro z;rw [z] at cA;simp [contL] at cA
 have B0:B≠[]:=by intro z;rw [z] at cB;simp [contL] at cB
 obtain⟨e,he,hc⟩:=upr_co (dvL g (contL g))
 have ee:e * e=1:=by rcases he with rfl | rfl <;> rfl
 have ng1:=dv_nml ng g0
 have g10:dvL g (contL g)≠[]:=by intro z;have:=dv_len g (contL g);rw [z] at this;exact g0 (List.eq_nil_of_length_eq_zero this.symm)
 have vu:∀n,val n (uprL (dvL g (contL g)))=e * val n (dvL g (contL g)):=fun n=>by
  rw [← val_map]
  refine val_of_co (fun j=>?_) n
  rw [hc j]
  by_cases h:j < (dvL g (contL g)).length
  ·rw [co_lt (xs:=List.map _ _) (by rw [List.length_map];exact h),co_lt h,List.getElem_map]
  ·rw [co_ge (xs:=List.map _ _) (by rw [List.length_map];omega),co_ge (xs:=dvL _ _) (by omega)];simp
 have key:∀{r C:List Int},0 < contL r->contL C=contL r * contL g->0 < contL C->(∀n,val n C=val n r * val n g)->∀n,val n (dvL C (contL C))=val n (dvL r (contL r)) * val n (dvL g (contL g)):=fun {r C} h1 h2 h3 h4 n=>by
  have a1:=dv_val h3 n
  rw [h4 n,← dv_val h1 n,← dv_val cg n] at a1
  have a2:((contL C:Nat):Int) * val n (dvL C (contL C))=((contL C:Nat):Int) * (val n (dvL r (contL r)) * val n (dvL g (contL g))):=by
   rw [a1]
   conv=>rhs;rw [h2,Int.natCast_mul]
   simp only [Int.mul_assoc,Int.mul_left_comm]
  exact Int.eq_of_mul_eq_mul_left (by omega) a2
 have kA:=key cp eA cA hA
 have kB:=key cq eB cB hB
 have small:∀{C:List Int},0 < contL C->(∀z∈C,Bd 130 z)->∀z∈dvL C (contL C),Bd 130 z:=fun {C} h1 h2=>in_co fun j=>by
  have a1:=dv_mul h1 j
  have a2:Bd 130 (co C j):=co_in h2 (Bd.zero _) j
  show (co (dvL C (contL C)) j).natAbs < 2 ^ 130
  have a3:(co C j).natAbs=contL C * (co (dvL C (contL C)) j).natAbs:=by rw [← a1,Int.natAbs_mul,Int.natAbs_natCast]
  have a4:(co (dvL C (contL C)) j).natAbs<=contL C * (co (dvL C (contL C)) j).natAbs:=Nat.le_mul_of_pos_left _ h1
  have a5:(co C j).natAbs < 2 ^ 130:=a2
  omega
 refine⟨cA,cB,A0,B0,⟨dv_nml nA A0,dv_nml nB B0,by intro z;have:=dv_len A (contL A);rw [z] at this;exact A0 (List.eq_nil_of_length_eq_zero this.symm),by intro z;have:=dv_len B (contL B);rw [z] at this;exact B0 (List.eq_nil_of_length_eq_zero this.symm),
  by rw [dv_len];exact lA,by rw [dv_len];exact lB,small cA bA,small cB bB,?_,upr_nml ng1,by rw [upr_len,dv_len];exact lg,upr_top ng1 g10,by decide,?_,?_,?_⟩,?_⟩
 ·intro d hd
  refine dv_prim cg d fun j=>?_
  have:=hd j
  rw [hc j] at this
  rcases he with rfl | rfl
  ·rwa [Int.one_mul] at this
  ·rw [Int.neg_mul,Int.one_mul] at this;exact Int.dvd_neg.mp this
 ·refine⟨(dvL p (contL p)).map fun x=>e * x,div_val.mpr fun n=>?_⟩
  rw [kA n,vu n,val_map]
  generalize val n (dvL p (contL p))=u
  generalize val n (dvL g (contL g))=v
  calc u * v=(e * e) * (u * v):=by rw [ee,Int.one_mul]
   _=e * v * (e * u):=by simp only [Int.mul_assoc,Int.mul_comm,Int.mul_left_comm]
 ·refine⟨(dvL q (contL q)).map fun x=>e * x,div_val.mpr fun n=>?_⟩
  rw [kB n,vu n,val_map]
  generalize val n (dvL q (contL q))=u
  generalize val n (dvL g (contL g))=v
  calc u * v=(e * e) * (u * v):=by rw [ee,Int.one_mul]
   _=e * v * (e * u):=by simp only [Int.mul_assoc,Int.mul_comm,Int.mul_left_comm]
 ·refine⟨U.map fun x=>((contL p:Nat):Int) * x,W.map fun x=>((contL q:Nat):Int) * x,m * e,?_,?_,fun n=>?_⟩
  ·rcases he with rfl | rfl <;> omega
  ·refine in_co fun j=>?_
   have a1:(m * e).natAbs=m.natAbs:=by rcases he with rfl | rfl <;> omega
   have a2:(co (uprL (dvL g (contL g))) j).natAbs=(co (dvL g (contL g)) j).natAbs:=by rw [hc j];rcases he with rfl | rfl <;> omega
   have a3:=dv_mul cg j
   have a4:(co g j).natAbs < 10 ^ 20:=co_in (P:=fun z=>z.natAbs < 10 ^ 20) bg (by decide) j
   have a5:(co g j).natAbs=contL g * (co (dvL g (contL g)) j).natAbs:=by rw [← a3,Int.natAbs_mul,Int.natAbs_natCast]
   have a6:(co (dvL g (contL g)) j).natAbs<=contL g * (co (dvL g (contL g)) j).natAbs:=Nat.le_mul_of_pos_left _ cg
   rw [a1,a2]
   exact Nat.mul_le_mul hm1 (by omega)
  ·have a1:=hb n
   rw [← dv_val cp n,← dv_val cq n] at a1
   rw [val_map,val_map,kA n,kB n,vu n,← a1]
   generalize val n (dvL p (contL p))=u
   generalize val n (dvL q (contL q))=u'
   generalize val n (dvL g (contL g))=v
   generalize ((contL p:Nat):Int)=c1
   generalize ((contL q:Nat):Int)=c2
   calc c1 * val n U * (u * v)+c2 * val n W * (u' * v)=(val n U * (c1 * u)+val n W * (c2 * u')) * v:=by rw [Int.add_mul];simp only [Int.mul_assoc,Int.mul_comm,Int.mul_left_comm]
    _=(val n U * (c1 * u)+val n W * (c2 * u')) * ((e * e) * v):=by rw [ee,Int.one_mul]
    _=_:=by simp only [Int.mul_assoc]
 ·have ec:Nat.gcd (contL A) (contL B)=contL (p++q) * contL g:=by
   rw [eA,eB,Nat.gcd_mul_right]
   congr 1
   refine Nat.dvd_antisymm (dvd_cont _ _ fun x hx=>?_) (Nat.dvd_gcd (dvd_cont _ _ fun x hx=>cont_dvd _ x (by simp [hx])) (dvd_cont _ _ fun x hx=>cont_dvd _ x (by simp [hx])))
   rcases List.mem_append.mp hx with z | z
   ·exact Int.dvd_trans (Int.natCast_dvd_natCast.mpr (Nat.gcd_dvd_left _ _)) (cont_dvd p x z)
   ·exact Int.dvd_trans (Int.natCast_dvd_natCast.mpr (Nat.gcd_dvd_right _ _)) (cont_dvd q x z)
  have cpq:0 < contL (p++q):=Nat.pos_of_ne_zero fun z=>by
   rw [z] at ec
   have:0 < Nat.gcd (contL A) (contL B):=Nat.gcd_pos_of_pos_left _ cA
   omega
  have cm:∀(c:Int) (xs:List Int) j,co (xs.map fun z=>c * z) j=c * co xs j:=fun c xs j=>by
   by_cases h:j < xs.length
   ·rw [co_lt (by rw [List.length_map];exact h),co_lt h,List.getElem_map]
   ·rw [co_ge (by rw [List.length_map];omega),co_ge (xs:=xs) (by omega)];simp
  have ut:=upr_top ng1 g10
  have cgcd:0 < Nat.gcd (contL A) (contL B):=Nat.gcd_pos_of_pos_left _ cA
  have tp:0 < co ((uprL (dvL g (contL g))).map fun z=>((Nat.gcd (contL A) (contL B):Nat):Int) * z) (((uprL (dvL g (contL g))).map fun z=>((Nat.gcd (contL A) (contL B):Nat):Int) * z).length - 1):=by
   rw [List.length_map,cm]
   exact Int.mul_pos (by omega) ut
  refine upr_of ?_ (nml_of_last (.inr (by omega))) he (fun j=>?_) (fun _=>tp)
  ·refine nml_of_last (.inr ?_)
   rw [List.length_map,cm]
   exact Int.mul_ne_zero (by omega) (co_last ng g0)
  ·rw [cm,cm,hc,ec,← dv_mul cg j,Int.natCast_mul]
   simp only [Int.mul_assoc,Int.mul_comm,Int.mul_left_comm]
def CommonIs (A B R:List Int):Prop:=
 (A=[]∧R=uprL B)∨(A≠[]∧B=[]∧R=uprL A)∨
 (A≠[]∧B≠[]∧0 < contL A∧0 < contL B∧(∀z∈A,Bd 130 z)∧(∀z∈B,Bd 130 z)∧∃(g:List Int) (G:Nat),Two (dvL A (contL A)) (dvL B (contL B)) g G∧R=g.map fun z=>((Nat.gcd (contL A) (contL B):Nat):Int) * z)
theorem co_mapc (c:Int) (xs:List Int) (j:Nat):co (xs.map fun z=>c * z) j=c * co xs j:=by
 by_cases h:j < xs.length
 ·rw [co_lt (by rw [List.length_map];exact h),co_lt h,List.getElem_map]
 ·rw [co_ge (by rw [List.length_map];omega),co_ge (xs:=xs) (by omega)];simp
theorem val_trim (n:Int) (xs:List Int):val n (trim xs)=val n xs:=val_of_co (fun k=>trim_co xs k) n
def pdL (g h:List Int):List Int:=trim (mulP g h)
theorem pd_nml (g h:List Int):Nml (pdL g h):=trim_nml _
theorem pd_val (n:Int) (g h:List Int):val n (pdL g h)=val n g * val n h:=by unfold pdL;rw [val_trim,val_mulP]
theorem pd_co (g h:List Int) (j:Nat):co (pdL g h) j=pm (co g) (co h) j:=by unfold pdL;rw [trim_co,co_mulP]
theorem pd_ne {g h:List Int} (ng:Nml g) (nh:Nml h) (g0:g≠[]) (h0:h≠[]):pdL g h≠[]:=fun z=>by
 have:=pd_co g h (h.length - 1+(g.length - 1))
 rw [z,co_nil,pm_top (fun j hj=>co_over j hj) (fun j hj=>co_over j hj)] at this
 exact Int.mul_ne_zero (co_last ng g0) (co_last nh h0) this.symm
theorem pd_len {g h:List Int} (ng:Nml g) (nh:Nml h):(pdL g h).length<=g.length+h.length - 1:=prod_len ng nh (pd_nml _ _) (pd_co g h)
theorem upr_val (xs:List Int):∃e:Int,(e=1∨e=-1)∧∀n,val n (uprL xs)=e * val n xs:=by
 obtain⟨e,he,hc⟩:=upr_co xs
 exact⟨e,he,fun n=>by rw [← val_map];exact val_of_co (fun j=>by rw [hc j,co_mapc]) n⟩
theorem upr_ne {xs:List Int} (h:xs≠[]):uprL xs≠[]:=fun z=>h (List.eq_nil_of_length_eq_zero (by rw [← upr_len,z];rfl))
theorem cont_sign {p p' q:List Int} (h:∀d:Int,(∀x∈p,d∣x)↔∀x∈p',d∣x):contL (p++q)=contL (p'++q):=by
 have one:∀{a b:List Int},(∀d:Int,(∀x∈a,d∣x)->∀x∈b,d∣x)->contL (a++q)∣contL (b++q):=fun {a b} hh=>dvd_cont _ _ fun x hx=>by
  rcases List.mem_append.mp hx with z | z
  ·exact hh _ (fun y hy=>cont_dvd _ y (by simp [hy])) x z
  ·exact cont_dvd _ x (by simp [z])
 exact Nat.dvd_antisymm (one fun d=>(h d).mp) (one fun d=>(h d).mpr)
theorem com_of {K:PySem.W.Frag} {H:Hp} {pa pb:Addr} {A B R:List Int} {Q:VK} {E:XK} (hA:SqL K H pa (A.map V.int)) (hB:SqL K H pb (B.map V.int)) (la:A.length<=1000) (lb:B.length<=1000) (h:CommonIs A B R) (q:newL H Q (R.map V.int)):spCommon K [.ref pa,.ref pb] H Q E:=by
 refine⟨pa,pb,A,B,rfl,hA,hB,la,lb,?_⟩
 rcases h with ⟨z,rfl⟩ | ⟨z1,z2,rfl⟩ | ⟨A0,B0,c1,c2,b1,b2,g,G,tw,rfl⟩
 ·exact .inl ⟨z,q⟩
 ·exact .inr (.inl ⟨z1,z2,q⟩)
 ·exact .inr (.inr ⟨A0,B0,c1,c2,b1,b2,g,G,tw,q⟩)
def spComOf (K:PySem.W.Frag):Sp:=fun vs H Q _=>∃(R:Addr) (as:List Addr) (rows:List (List Int)) (f:Nat->List Int),vs=[.ref R]∧SqL K H R (as.map V.ref)∧LL K H as rows∧rows.length<=1000∧(∀r∈rows,r.length<=1000)∧(∀i,(f i).length<=1000)∧
 f 0=[]∧(∀i r,rows[i]?=some r->CommonIs (f i) r (f (i+1)))∧newL H Q ((f rows.length).map V.int)
theorem ok_common_of {P:Program} {w:World} {K:PySem.W.Frag} {mg:Str->Option Value} {base:Heap} (T:Tx K mg):FnOk P w K mg base CX0 6 T.a_common_of T.fd_common_of ["polys"] (spComOf K):=by
 refine T.F_common_of.ok sc_common_of (fun vs H Q E h=>?_) (fun cdv A outer s H vs Q E hr h=>?_)
 ·obtain⟨R,as,rows,f,rfl,_⟩:=h
  rfl
 obtain⟨R,as,rows,f,rfl,hR,hL,lr,br,bf,f0,fs,q⟩:=h
 refine⟨_,((pss_cons (ps_set (i:=1) sc_common_of.nd rfl (Or.inl rfl) (pe_lst pa_nil))
  (pss_cons (ps_for PassesOwn.never rfl (pi_list (pv 0)) (pg_name (i:=2) sc_common_of.nd rfl (Or.inl rfl)) (pss_one (ps_set (i:=1) sc_common_of.nd rfl (Or.inl rfl) (pe_call (FnOk.mono (ok_common T) (by decide)) hr rfl T.m_common T.F_common.kp T.b_common .nil pass0 (pa_cons (pv 1) (pa_cons (pv 2) pa_nil))))))
  (pss_one (ps_ret (pv 1)))))),?_⟩
 k_units
 refine⟨Nat.zero_le _,fun X0 hX=>?_⟩
 have s1:=same_upd hX (.lst [])
 refine⟨⟨_,s1.seq hR⟩,?_⟩
 obtain⟨Pv,hPv⟩:∃Pv:Nat->L2.St->Hp->Prop,∀i σ H',Pv i σ H'↔∃(X:Addr) (r2:Option V),σ=[some (V.ref R),some (V.ref X),r2]∧H' X=some (.lst ((f i).map V.int))∧H X=none∧Same H H':=⟨_,fun _ _ _=>Iff.rfl⟩
 refine lp_list (xs:=as.map V.ref) Pv ((hPv _ _ _).mpr ⟨X0,_,rfl,by rw [upd_same,f0];rfl,hX,s1⟩) (fun i σ H' _ z=>by obtain⟨_,_,_,_,_,z⟩:=(hPv i σ H').mp z;exact z.seq hR) ?_ ?_
 ·intro i v σ H' hv hp
  obtain⟨X,r2,rfl,eX,nX,sP⟩:=(hPv _ _ _).mp hp
  obtain⟨a,r,rfl,ha,hr',hA⟩:=hL.nth hv
  k_units
  exact com_of (SqL.of eX) (sP.seq hA) (bf i) (br r (List.mem_of_getElem? hr')) (fs i r hr') fun Y H2 s2 nY eY=>(hPv _ _ _).mpr ⟨Y,_,rfl,eY,sP.free nY,sP.trans s2⟩
 ·intro σ H' hp
  obtain⟨X,r2,rfl,eX,nX,sP⟩:=(hPv _ _ _).mp hp
  k_units
  rw [List.length_map,hL.len] at eX
  exact q X _ sP nX eX
def negL (b:Bool) (R:List Int):List Int:=if b then R.map (fun z=>-z) else R
def spClr (K:PySem.W.Frag):Sp:=fun vs H Q _=>∃(A:Addr) (as:List Addr) (ps:List (List Int)) (f:Nat->List Int) (qs:List (List Int)) (p0:List Int) (t:Int),vs=[.ref A]∧SqL K H A (as.map V.ref)∧LL K H as ps∧ps.length<=60∧(∀p∈ps,p.length<=64∧Nml p∧∀c∈p,Bd 130 c)∧(∀i,(f i).length<=64)∧f 0=[]∧(∀i r,ps[i]?=some r->CommonIs (f i) r (f (i+1)))∧
 ps.getLast?=some (p0++[t])∧f ps.length≠[]∧Nml (f ps.length)∧(∀c∈f ps.length,Bd 4000 c)∧qs.length=ps.length∧(∀(i:Nat) (p q:List Int),ps[i]?=some p->qs[i]?=some q->Nml q∧Div p (negL (decide (t < 0)) (f ps.length)) q)∧
 ∀(D:Addr) (bs:List Addr) (H':Hp),Same H H'->H D=none->H' D=some (.lst (bs.map V.ref))->LH H' bs qs->(∀b∈bs,H b=none)->D∉bs->Q (.ref D) H'
theorem nml_neg {R:List Int} (h:Nml R):Nml (R.map fun z=>-z):=nml_last.mpr fun x hx=>by
 rw [List.getLast?_map] at hx
 obtain⟨y,hy,rfl⟩:=Option.map_eq_some_iff.mp hx
 have:=nml_last.mp h y hy
 omega
theorem ok_cleared {P:Program} {w:World} {K:PySem.W.Frag} {mg:Str->Option Value} {base:Heap} (T:Tx K mg):FnOk P w K mg base CX0 7 T.a_cleared T.fd_cleared ["polys"] (spClr K):=by
 refine T.F_cleared.ok sc_cleared (fun vs H Q E h=>?_) (fun cdv A outer s H vs Q E hr h=>?_)
 ·obtain⟨A,as,ps,f,qs,p0,t,rfl,_⟩:=h
  rfl
 obtain⟨A,as,ps,f,qs,p0,t,rfl,hA,hL,l60,bp,bf,f0,fs,hl,fn,nf,bfn,lq,hq,fin⟩:=h
 refine⟨_,((pss_cons (ps_set (i:=1) sc_cleared.nd rfl (Or.inr rfl) (pe_call (FnOk.mono (ok_common_of T) (by decide)) hr rfl T.m_common_of T.F_common_of.kp T.b_common_of .nil pass0 (pa_cons (pv 0) pa_nil)))
  (pss_mid (ps_if (pt_cmpR op_lt (pe_ix ix_list (pe_ix ix_list (pv 0) (pe_un un_neg pe_int) (fun _ _=>rfl)) (pe_un un_neg pe_int) (fun _ _=>rfl)) pe_int (nomark _)) (pss_one (ps_set (i:=1) sc_cleared.nd rfl (Or.inr rfl) (pe_lcomp rfl (blkok rfl sub_nil fv_nil) (pi_list (pv 1)) (fun _ _ _ _=>(pe_un un_neg (pv 0)))))) pss_nil)
  (pss_one (ps_ret (pe_lcomp rfl (blkok rfl (sub_cons rfl sub_nil) (fv_cons 1 "shared" (by decide) rfl (Or.inl rfl) (Or.inl rfl) ⟨_,rfl⟩ fv_nil)) (pi_list (pv 0)) (fun _ _ _ _=>(pe_call (FnOk.mono (ok_quotient T) (by decide)) hr rfl T.m_quotient T.F_quotient.kp T.b_quotient .nil passF (pa_cons (pv 0) (pa_cons (pv 1) pa_nil)))))))))),?_⟩
 have la:=hL.len
 dsimp only [a_seq]
 k_typeOf
 refine⟨A,as,ps,f,rfl,hA,hL,by omega,fun r hr=>by have:=(bp r hr).1;omega,fun i=>by have:=bf i;omega,f0,fs,fun S H1 s1 nS eS=>?_⟩
 generalize hR:f ps.length=R at fn nf bfn hq eS
 have lR:R.length<=64:=by rw [← hR];exact bf _
 obtain⟨M,hM⟩:∃M:L2.St->Hp->Prop,∀σ H',M σ H'↔∃S':Addr,σ=[some (V.ref A),some (V.ref S')]∧H' S'=some (.lst ((negL (decide (t < 0)) R).map V.int))∧Same H H':=⟨_,fun _ _=>Iff.rfl⟩
 refine mid_of M ?_ ?_
 ·k_units
  obtain⟨ps1,rfl⟩:=List.getLast?_eq_some_iff.mp hl
  obtain⟨as1,a,rfl⟩:∃as1 a,as=as1++[a]:=by
   cases z:as.getLast? with
   | none=>rw [List.getLast?_eq_none_iff] at z;rw [z] at la;simp at la
   | some a=>exact⟨_,a,(List.getLast?_eq_some_iff.mp z).choose_spec⟩
  have l1:as1.length=ps1.length:=by simpa using la
  have hlast:SqL K H a ((p0++[t]).map V.int):=hL.get as1.length a _ (by simp) (by rw [l1];simp)
  have e1:(as1++[a]).map V.ref=as1.map V.ref++[V.ref a]:=by rw [List.map_append];rfl
  have e2:(p0++[t]).map V.int=p0.map V.int++[V.int t]:=by rw [List.map_append];rfl
  rw [e1] at hA
  rw [e2] at hlast
  refine⟨_,s1.seq hA,_,atI_last _ _,a,rfl,_,s1.seq hlast,_,atI_last _ _,t,rfl,ite2 (fun z=>⟨⟨_,SqL.of eS⟩,fun D nD=>?_⟩) (fun z=>(hM _ _).mpr ⟨S,rfl,?_,s1⟩)⟩
  ·obtain⟨Pc,hPc⟩:∃Pc:Nat->Hp->Prop,∀j Hx,Pc j Hx↔Hx D=some (.lst (((R.map fun z=>-z).take j).map V.int))∧Same H1 Hx:=⟨_,fun _ _=>Iff.rfl⟩
   refine cl_list (xs:=R.map V.int) Pc ((hPc _ _).mpr ⟨upd_same,same_upd nD _⟩) (fun i Hx _ y=>by obtain⟨_,y⟩:=(hPc i Hx).mp y;exact SqL.of (y _ _ eS)) ?_ ?_
   ·intro j v Hx hv hc
    obtain⟨k1,k2⟩:=(hPc _ _).mp hc
    rw [List.getElem?_map] at hv
    obtain⟨c,hc',rfl⟩:=Option.map_eq_some_iff.mp hv
    have hj:=(List.getElem?_eq_some_iff.mp hc').1
    (iterate 3 (k_units;(try simp only [bst,Option.getD_some]));k_units)
    refine⟨_,k1,?_,(hPc _ _).mpr ⟨?_,k2.more nD⟩⟩
    ·rw [List.length_map,List.length_take];exact small1000 (by omega)
    ·rw [upd_same,List.take_succ,List.getElem?_map,hc',List.map_append];rfl
   intro Hx hc
   obtain⟨k1,k2⟩:=(hPc _ _).mp hc
   rw [List.length_map,List.take_of_length_le (by rw [List.length_map];exact Nat.le_refl _)] at k1
   refine (hM _ _).mpr ⟨D,rfl,?_,s1.trans k2⟩
   rw [k1];unfold negL;rw [if_pos (by simpa using z)]
  ·rw [eS];unfold negL;rw [if_neg (by simpa using z)]
 intro σ H2 hm
 obtain⟨S',rfl,eS',s2⟩:=(hM _ _).mp hm
 k_units
 have nR:Nml (negL (decide (t < 0)) R)∧negL (decide (t < 0)) R≠[]∧(negL (decide (t < 0)) R).length<=64∧∀c∈negL (decide (t < 0)) R,Bd 4000 c:=by
  unfold negL
  split
  ·refine⟨nml_neg nf,fun z=>fn (List.map_eq_nil_iff.mp z),by rw [List.length_map];exact lR,fun c hc=>?_⟩
   obtain⟨d,hd,rfl⟩:=List.mem_map.mp hc
   exact (bfn d hd).neg
  ·exact⟨nf,fn,lR,bfn⟩
 generalize negL (decide (t < 0)) R=R' at nR hq eS'
 obtain⟨n1,n2,n3,n4⟩:=nR
 refine⟨⟨_,s2.seq hA⟩,fun D nD=>?_⟩
 obtain⟨Pc,hPc⟩:∃Pc:Nat->Hp->Prop,∀j Hx,Pc j Hx↔∃bs:List Addr,Hx D=some (.lst (bs.map V.ref))∧LH Hx bs (qs.take j)∧D∉bs∧Same H2 Hx∧∀b∈bs,H2 b=none:=⟨_,fun _ _=>Iff.rfl⟩
 refine cl_list (xs:=as.map V.ref) Pc ((hPc _ _).mpr ⟨[],upd_same,LH.nil _,by simp,same_upd nD _,by simp⟩) (fun i Hx _ y=>by obtain⟨_,_,_,_,y,_⟩:=(hPc i Hx).mp y;exact (s2.trans y).seq hA) ?_ ?_
 ·intro j v Hx hv hc
  obtain⟨bs,k1,k2,k3,k4,k5⟩:=(hPc _ _).mp hc
  obtain⟨a,p,rfl,ha,hp,sq⟩:=hL.nth hv
  have hj:j < ps.length:=(List.getElem?_eq_some_iff.mp hp).1
  obtain⟨b1,b2,b3⟩:=bp p (List.mem_of_getElem? hp)
  have hqj:qs[j]?=some qs[j]:=List.getElem?_eq_getElem (by omega)
  obtain⟨d1,d2⟩:=hq j p _ hp hqj
  (iterate 3 (k_units;(try simp only [bst,Option.getD_some]));k_units)
  refine⟨a,S',p,R',130,4000,rfl,(s2.trans k4).seq sq,SqL.of (k4 _ _ eS'),b1,n3,b2,n1,b3,n4,by decide,by decide,.inr ⟨n2,.inl ⟨qs[j],d1,d2,fun r Hy s3 nr er=>?_⟩⟩⟩
  have lb:=k2.len
  rw [List.length_take] at lb
  have ne:r≠D:=fun z=>by rw [z,k1] at nr;cases nr
  refine⟨_,s3 _ _ k1,by rw [List.length_map];exact small1000 (by omega),(hPc _ _).mpr ⟨bs++[r],by rw [upd_same,List.map_append];rfl,?_,by simp [k3];exact fun z=>ne z.symm,(k4.trans s3).more nD,fun b hb=>?_⟩⟩
  rotate_left
  ·rcases List.mem_append.mp hb with h | h
   ·exact k5 b h
   ·rw [List.mem_singleton.mp h];exact k4.free nr
  rw [List.take_succ,hqj]
  refine LH.snoc ⟨k2.len,fun i b q e1 e2=>?_⟩ (by rw [upd_ne ne];exact er)
  have hb:b≠D:=fun z=>k3 (by rw [← z];exact List.mem_of_getElem? e1)
  rw [upd_ne hb];exact s3 _ _ (k2.get i b q e1 e2)
 intro Hx hc
 obtain⟨bs,k1,k2,k3,k4,k5⟩:=(hPc _ _).mp hc
 rw [List.length_map,la,List.take_of_length_le (by omega)] at k2
 exact fin D bs Hx (s2.trans k4) (s2.free nD) k1 k2 (fun b hb=>s2.free (k5 b hb)) k3
def pivB (w:Nat) (kept:List (List (List Int))) (cs:List Nat) (p:Int) (n:Nat):Bool:=(List.range n).all fun i=>co (tRow w kept cs p i) (cs.getD i 0) != 0
theorem piv_iff {w:Nat} {kept:List (List (List Int))} {cs:List Nat} {p:Int} {n:Nat}:pivB w kept cs p n=true↔Piv w kept cs p n:=by
 unfold pivB Piv
 rw [List.all_eq_true]
 constructor
 ·intro h i hi
  have:=h i (List.mem_range.mpr hi)
  simpa using this
 ·intro h i hi
  simpa using h i (List.mem_range.mp hi)
def plc (w:Nat) (kept:List (List (List Int))) (cs:List Nat) (t:Nat):List Int:=((List.range t).filter fun p:Nat=>pivB w kept cs (p:Int) kept.length).map fun p:Nat=>(p:Int)
theorem plc_pos {w:Nat} {kept:List (List (List Int))} {cs:List Nat} {t:Nat} (h:Piv w kept cs (t:Int) kept.length):plc w kept cs (t+1)=plc w kept cs t++[(t:Int)]:=by
 unfold plc;rw [List.range_succ,List.filter_append,List.map_append];simp [piv_iff.mpr h]
theorem plc_neg {w:Nat} {kept:List (List (List Int))} {cs:List Nat} {t:Nat} (h:¬Piv w kept cs (t:Int) kept.length):plc w kept cs (t+1)=plc w kept cs t:=by
 have hf:pivB w kept cs (t:Int) kept.length=false:=by
  cases e:pivB w kept cs (t:Int) kept.length with
  | false=>rfl
  | true=>exact absurd (piv_iff.mp e) h
 unfold plc;rw [List.range_succ,List.filter_append,List.map_append];simp [hf]
theorem plc_in {w:Nat} {kept:List (List (List Int))} {cs:List Nat} {t:Nat} {p:Int} (h:p∈plc w kept cs t):∃n:Nat,p=(n:Int)∧n < t∧Piv w kept cs p kept.length:=by
 unfold plc at h
 obtain⟨n,hn,rfl⟩:=List.mem_map.mp h
 obtain⟨h1,h2⟩:=List.mem_filter.mp hn
 exact⟨n,rfl,List.mem_range.mp h1,piv_iff.mp h2⟩
theorem plc_len {w:Nat} {kept:List (List (List Int))} {cs:List Nat}:∀t,(plc w kept cs t).length<=t
 | 0=>Nat.le_refl _
 | t+1=>by
  have ih:=plc_len (w:=w) (kept:=kept) (cs:=cs) t
  by_cases hp:Piv w kept cs (t:Int) kept.length
  ·rw [plc_pos hp,List.length_append];simp;omega
  ·rw [plc_neg hp];omega
theorem plc_step {w:Nat} {kept:List (List (List Int))} {cs:List Nat} {t:Nat}:(plc w kept cs (t+1)).length<=(plc w kept cs t).length+1:=by
 by_cases hp:Piv w kept cs (t:Int) kept.length
 ·rw [plc_pos hp,List.length_append];exact Nat.le_refl _
 ·rw [plc_neg hp];omega
theorem plc_nodup (w:Nat) (kept:List (List (List Int))) (cs:List Nat):∀t,(plc w kept cs t).Nodup
 | 0=>List.nodup_nil
 | t+1=>by
  have ih:=plc_nodup w kept cs t
  by_cases hp:Piv w kept cs (t:Int) kept.length
  ·rw [plc_pos hp,List.nodup_append]
   refine⟨ih,by simp,fun a ha b hb=>?_⟩
   rw [List.mem_singleton.mp hb]
   obtain⟨n,rfl,hn,_⟩:=plc_in ha
   omega
  ·rw [plc_neg hp];exact ih
structure OcOk (w:Nat) (kept:List (List (List Int))) (cs:List Nat) (q:List (List Int)) (gs:List (List Int)) (Pn:Nat):Prop where
 k19:kept.length<=19
 kw:kept.length<=w
 wid:∀v∈kept++[q],v.length=w
 col:∀c∈cs,c < w
 cl:cs.length<=19
 len:gs.length=kept.length+1
 P7:Pn<=700
 tb:∀p:Nat,p < Pn->TBd w kept cs (p:Int)
 lo:∀p:Nat,p < Pn->Piv w kept cs (p:Int) kept.length->LowOk (rowA w q kept.length (p:Int)) (tabR w kept cs (p:Int) kept.length) cs
 vq:q.length<=20∧∀f∈q,f.length<=60∧∀c∈f,Bd 1000 c
 mrk:∀p:Nat,p < Pn->Piv w kept cs (p:Int) kept.length->∀(i:Nat) (g:List Int),gs[i]?=some g->co (lowV w kept cs q (p:Int)) (w+i)=val (p:Int) g
 ng:∀g∈gs,Nml g∧∀p:Nat,p < Pn->Bd 10000 (val (p:Int) g)
def DbIs (qs:List (List (List Int))) (cs:List Nat) (N:Int):Prop:=∃(bv bc:List Int) (m:Int),bv.length=qs.length∧bc.length=cs.length∧(∀(i:Nat) (b:Int) (q:List (List Int)),bv[i]?=some b->qs[i]?=some q->IsGd (rowC q cs) b)∧(∀(i:Nat) (b:Int) (c:Nat),bc[i]?=some b->cs[i]?=some c->IsGd (colC qs c) b)∧m∈bv∧(∀b∈bv,m<=b)∧N=(if bc.sum < bv.sum - m then bc.sum else bv.sum - m)
def spOc {K:PySem.W.Frag} {mg:Str->Option Value} (T:Tx K mg):Sp:=fun vs H Q _=>∃(x dx Kp Cl Tb Vc:Addr) (us:List Addr) (kvs:List (Key×V)) (M:List Addr) (w:Nat) (kept:List (List (List Int))) (cs:List Nat) (pl:Int) (q gs:List (List Int)) (Pn:Nat) (f:Nat->List Int) (qs:List (List Int)) (p0:List Int) (t0:Int),vs=[.ref x,.ref Vc]∧Spn T H x dx Kp Cl Tb us kvs M w kept cs pl∧VecAt H M Vc q∧OcOk w kept cs q gs Pn∧kvs.length+Pn<=900∧(∀N,DbIs (kept++[q]) cs N->0<=N∧N < 60∧(∀g∈gs,(g.length:Int)<=N+1)∧N < ((plc w kept cs Pn).length:Int))∧
 ((∀p∈gs,p.length<=64∧Nml p∧∀c∈p,Bd 130 c)∧(∀i,(f i).length<=64)∧f 0=[]∧(∀i r,gs[i]?=some r->CommonIs (f i) r (f (i+1)))∧gs.getLast?=some (p0++[t0])∧f gs.length≠[]∧Nml (f gs.length)∧(∀c∈f gs.length,Bd 4000 c)∧qs.length=gs.length∧(∀(i:Nat) (p q:List Int),gs[i]?=some p->qs[i]?=some q->Nml q∧Div p (negL (decide (t0 < 0)) (f gs.length)) q))∧
 ∀(H':Hp) (kvs':List (Key×V)) (M':List Addr) (D:Addr) (bs:List Addr),Spn T H' x dx Kp Cl Tb us kvs' M' w kept cs pl->KX M H H'->(∀a∈M,a∈M')->(∀a∈M',a∈M∨H a=none)->kvs'.length<=kvs.length+Pn->D∉M'->H D=none->H' D=some (.lst (bs.map V.ref))->LH H' bs qs->(∀b∈bs,b∉M'∧H b=none)->D∉bs->Q (.ref D) H'
theorem cut_fromI (bs:List Int) (k:Nat):cutV (bs.map V.int) (some (k:Int)) none=(bs.drop k).map V.int:=by
 unfold cutV
 rw [HT.sIx_nat,HT.sIx_none,List.length_map,← List.map_drop,List.take_of_length_le (by rw [List.length_map,List.length_drop];omega)]
 congr 1
 by_cases z:k<=bs.length
 ·rw [Nat.min_eq_left z]
 ·rw [Nat.min_eq_right (by omega),List.drop_of_length_le (Nat.le_refl _),List.drop_of_length_le (by omega)]
theorem KW.trans {x Kp Cl Tb:Addr} {kvs kvs1:List (Key×V)} {H H1 H2:Hp} (k:KW x Kp Cl Tb kvs H H1) (tk:∀e∈kvs1,e∈kvs∨∀a,e.2=V.ref a->H a=none) (k2:KW x Kp Cl Tb kvs1 H1 H2):KW x Kp Cl Tb kvs H H2:=fun y o a1 a2 a3 a4 a5 e=>by
 refine k2 y o a1 a2 a3 a4 (fun e' he z=>?_) (k y o a1 a2 a3 a4 a5 e)
 rcases tk e' he with h | h
 ·exact a5 e' h z
 ·rw [h y z] at e;cases e
theorem tk_trans {M M1:List Addr} {kvs kvs1 kvs2:List (Key×V)} {H H1:Hp} (kx:KX M H H1) (ms:∀a∈M,a∈M1) (al:∀a∈M1,∃o,H1 a=some o) (tk:∀e∈kvs1,e∈kvs∨∀a,e.2=V.ref a->H a=none) (tk2:∀e∈kvs2,e∈kvs1∨∀a,e.2=V.ref a->H1 a=none):∀e∈kvs2,e∈kvs∨∀a,e.2=V.ref a->H a=none:=fun e he=>by
 rcases tk2 e he with h | h
 ·exact tk e h
 ·refine .inr fun a ea=>?_
  have h1:=h a ea
  cases z:H a with
  | none=>rfl
  | some o=>
   by_cases m:a∈M
   ·obtain⟨o',e'⟩:=al a (ms a m)
    rw [h1] at e';cases e'
   ·rw [kx a o m z] at h1;cases h1
theorem ok_Span_only_choice {P:Program} {w:World} {K:PySem.W.Frag} {mg:Str->Option Value} {base:Heap} (T:Tx K mg):FnOk P w K mg base CX0 8 T.a_Span_only_choice T.fd_Span_only_choice ["self","vector"] (spOc T):=by
 refine T.F_Span_only_choice.ok sc_Span_only_choice (fun vs H Q E h=>?_) (fun cdv A outer s H vs Q E hr h=>?_)
 ·obtain⟨x,dx,Kp,Cl,Tb,Vc,us,kvs,M,w,kept,cs,pl,q,gs,Pn,f,qs,p0,t0,rfl,_⟩:=h
  rfl
 obtain⟨x,dx,Kp,Cl,Tb,Vc,us,kvs,M,w,kept,cs,pl,q,gs,Pn,f,qs,p0,t0,rfl,S,hV,O,l9,hN,hC,fin⟩:=h
 refine⟨_,((pss_cons (ps_set (i:=2) sc_Span_only_choice.nd rfl (Or.inl rfl) (pe_op op_add pe_int (pe_call (FnOk.mono (ok_degree_bound T) (by decide)) hr rfl T.m_degree_bound T.F_degree_bound.kp T.b_degree_bound .nil pass0 (pa_cons (pe_op op_cat (pe_fld (pv 0) rfl) (pe_lst (pa_cons (pv 1) pa_nil))) (pa_cons (pe_fld (pv 0) rfl) pa_nil)))))
  (pss_cons (ps_set (i:=3) sc_Span_only_choice.nd rfl (Or.inr rfl) (pe_lst pa_nil))
  (pss_cons (ps_set (i:=4) sc_Span_only_choice.nd rfl (Or.inr rfl) (pe_lst pa_nil))
  (pss_cons (ps_set (i:=5) sc_Span_only_choice.nd rfl (Or.inl rfl) pe_int)
  (pss_cons (ps_while PassesOwn.never (pt_cmpR op_lt (pe_callB call_len_seq rfl T.z_len bt_len (pa_cons (pv 3) pa_nil)) (pv 2) (nomark _)) (pss_cons (ps_set (i:=6) sc_Span_only_choice.nd rfl (Or.inl rfl) (pe_meth (pv 0) T.cl_Span T.me_Span_lowered_at (FnOk.mono (ok_Span_lowered_at T) (by decide)) hr T.b_Span_lowered_at .nil pass0 (pa_cons (pv 1) (pa_cons (pv 5) pa_nil))))
  (pss_mid (ps_if (pt_cmpR op_notN (pv 6) pe_non (nomark _)) (pss_cons (ps_expr (pe_bm PySem.F.plainAttrs_list PySem.F.slot_list_append PySem.F.type_list_append mt_append (pv 3) (pa_cons (pv 5) pa_nil)))
  (pss_one (ps_expr (pe_bm PySem.F.plainAttrs_list PySem.F.slot_list_append PySem.F.type_list_append mt_append (pv 4) (pa_cons (pe_slice sl_list (pv 6) (po_some (pe_fld (pv 0) rfl)) po_none) pa_nil))))) pss_nil)
  (pss_one (ps_aug (i:=5) sc_Span_only_choice.nd rfl (Or.inl rfl) pe_int ip_add)))))
  (pss_one (ps_ret (pe_call (FnOk.mono (ok_cleared T) (by decide)) hr rfl T.m_cleared T.F_cleared.kp T.b_cleared .nil pass0 (pa_cons (pe_lcompC rfl (blkokC rfl (sub_cons rfl (sub_cons rfl sub_nil)) (fv_cons 3 "places" (by decide) rfl (Or.inl rfl) (Or.inl rfl) ⟨_,rfl⟩ (fv_cons 4 "marks" (by decide) rfl (Or.inl rfl) (Or.inl rfl) ⟨_,rfl⟩ fv_nil))) (pi_range1 rfl T.z_range (pa_cons (pe_op op_add (pe_callB call_len_seq rfl T.z_len bt_len (pa_cons (pe_fld (pv 0) rfl) pa_nil)) pe_int) pa_nil)) (fun _ _ _ _=>(pe_call (FnOk.mono (ok_through T) (by decide)) hr rfl T.m_through T.F_through.kp T.b_through .nil pass0 (pa_cons (pv 1) (pa_cons (pe_lcomp rfl (blkok rfl (sub_cons rfl sub_nil) (fv_cons 0 "number" (by decide) rfl (Or.inl rfl) (Or.inl rfl) ⟨_,rfl⟩ fv_nil)) (pi_listK (K:=K) rfl (pv 2)) (fun _ _ _ _=>(pe_ix (ix_listK (K:=K) rfl) (pv 0) (pv 1) (fun _ _=>rfl)))) pa_nil))))) pa_nil)))))))))),?_⟩
 have lk:=S.lk
 have k19:=O.k19
 have lq:(kept++[q]).length=kept.length+1:=by simp
 have vecs:=app_all (Φ:=fun u qv=>VecAt H M u qv) (L:=kept++[q]) (rs:=us) (r:=Vc) (fun t u qv e1 e2=>by
  have ht:t < kept.length:=by have:=(List.getElem?_eq_some_iff.mp e1).1;omega
  rw [List.getElem?_append_left ht] at e2
  exact S.vec t u qv e1 e2) (fun qv e2=>by
  rw [List.getElem?_append_right (by omega),show us.length - kept.length=0 by omega] at e2
  cases Option.some.inj e2
  exact hV)
 dsimp only [a_seq]
 k_typeOf
 refine⟨_,_,_,S.hx,T.cl_Span,T.na_Span_kept,_,rfl,by decide,fun q1 m1=>?_⟩
 have u1:=same_upd m1 (.lst [V.ref Vc])
 refine⟨Kp,rfl,_,u1 _ _ S.hK,_,upd_same,?_,fun q2 m2=>?_⟩
 ·rw [List.length_map]
  exact Nat.le_of_lt (small1000 (by simp;omega))
 have u2:=same_upd m2 (.lst (us.map V.ref++[V.ref Vc]))
 have e2:=upd_same (H:=L2.upd H q1 (.lst [V.ref Vc])) (a:=q2) (o:=.lst (us.map V.ref++[V.ref Vc]))
 have s2:=u1.trans u2
 generalize L2.upd (L2.upd H q1 (.lst [V.ref Vc])) q2 (.lst (us.map V.ref++[V.ref Vc]))=H3 at e2 s2 ⊢
 clear u1 u2 m1 m2
 have e2':H3 q2=some (.lst ((us++[Vc]).map V.ref)):=by rw [e2,List.map_append];rfl
 have S3:=S.same s2
 have vl:VL K H3 (us++[Vc]) (kept++[q]):=⟨by simp [lk],fun i v qv e1 e3=>by
  obtain⟨as,v1,v2,_⟩:=vecs i v qv e1 e3
  exact⟨as,SqL.of (s2 _ _ v1),(v2.same s2).ll⟩⟩
 refine⟨_,_,_,S3.hx,T.cl_Span,T.na_Span_columns,_,rfl,q2,Cl,us++[Vc],kept++[q],cs,rfl,SqL.of e2',vl,SqL.of S3.hC,by simp,by rw [lq];omega,by have:=O.cl;omega,fun v hv c hc=>by rw [O.wid v hv];exact O.col c hc,fun bv bc m N H4 s4 d1 d2 d3 d4 d5 d6 d7=>?_⟩
 obtain⟨N0,N6,gN,pN⟩:=hN N ⟨bv,bc,m,d1,d2,d3,d4,d5,d6,d7⟩
 obtain⟨Nn,rfl⟩:∃Nn:Nat,N=(Nn:Int):=⟨N.toNat,by omega⟩
 clear d1 d2 d3 d4 d5 d6 d7 bv bc m
 have s04:=s2.trans s4
 have S4:=S.same s04
 clear S3 vl e2' e2 s2 s4
 refine⟨_,rfl,?_⟩
 dsimp only [a_seq]
 k_typeOf
 refine⟨Nat.zero_le _,fun Pl nPl=>?_⟩
 have S5:=S4.more (o:=.lst []) nPl
 have u5:=same_upd nPl (.lst [])
 have e5:=upd_same (H:=H4) (a:=Pl) (o:=.lst [])
 generalize L2.upd H4 Pl (.lst [])=H5 at S5 u5 e5 ⊢
 dsimp only [a_seq]
 k_typeOf
 refine⟨Nat.zero_le _,fun Mk nMk=>?_⟩
 have S6:=S5.more (o:=.lst []) nMk
 have u6:=same_upd nMk (.lst [])
 have e6:=upd_same (H:=H5) (a:=Mk) (o:=.lst [])
 have f6:=u6 _ _ e5
 have dPM:Pl≠Mk:=fun z=>by rw [← z,e5] at nMk;cases nMk
 generalize L2.upd H5 Mk (.lst [])=H6 at S6 u6 e6 f6 ⊢
 have s06:=s04.trans (u5.trans u6)
 have n0P:=s04.free nPl
 have n0M:=s04.free (u5.free nMk)
 have mf6:∀a∈Mk :: Pl :: M,a∈M∨H a=none:=fun a ha=>by
  rcases List.mem_cons.mp ha with z | ha
  ·exact .inr (by rw [z];exact n0M)
  ·rcases List.mem_cons.mp ha with z | z
   ·exact .inr (by rw [z];exact n0P)
   ·exact .inl z
 have V6:=(hV.more mf6).same s06
 have nk:∀e∈kvs,e.2≠V.ref Pl∧e.2≠V.ref Mk:=fun e he=>by
  obtain⟨p,ta,n,rs,h1,h2,h3,_⟩:=S.tab e he
  refine⟨fun z=>?_,fun z=>?_⟩
  ·rw [h1] at z;injection z with z;rw [z,n0P] at h3;cases h3
  ·rw [h1] at z;injection z with z;rw [z,n0M] at h3;cases h3
 have dP:Pl≠x∧Pl≠Kp∧Pl≠Cl∧Pl≠Tb:=⟨(fun z=>by rw [z,S.hx] at n0P;cases n0P),(fun z=>by rw [z,S.hK] at n0P;cases n0P),(fun z=>by rw [z,S.hC] at n0P;cases n0P),(fun z=>by rw [z,S.hT] at n0P;cases n0P)⟩
 have dM:Mk≠x∧Mk≠Kp∧Mk≠Cl∧Mk≠Tb:=⟨(fun z=>by rw [z,S.hx] at n0M;cases n0M),(fun z=>by rw [z,S.hK] at n0M;cases n0M),(fun z=>by rw [z,S.hC] at n0M;cases n0M),(fun z=>by rw [z,S.hT] at n0M;cases n0M)⟩
 clear S4 S5 u5 u6 e5 nPl nMk
 dsimp only [a_seq]
 k_typeOf
 dsimp only [a_seq]
 k_typeOf
 obtain⟨J,hJ⟩:∃J:Nat->L2.St->Hp->Prop,∀m σ H',J m σ H'↔∃(t:Nat) (kvs':List (Key×V)) (M':List Addr) (r6:Option V) (mks:List Addr),σ=[some (V.ref x),some (V.ref Vc),some (V.int (1+(Nn:Int))),some (V.ref Pl),some (V.ref Mk),some (V.int (t:Int)),r6]∧Spn T H' x dx Kp Cl Tb us kvs' M' w kept cs pl∧VecAt H' M' Vc q∧H' Pl=some (.lst ((plc w kept cs t).map V.int))∧H' Mk=some (.lst (mks.map V.ref))∧LH H' mks ((plc w kept cs t).map fun p=>(lowV w kept cs q p).drop w)∧(∀a∈mks,a∉M')∧Pl∈M'∧Mk∈M'∧KW x Kp Cl Tb kvs H H'∧(∀a∈M,a∈M')∧(∀a∈M',a∈M∨H a=none)∧(∀e∈kvs',e.2≠V.ref Pl∧e.2≠V.ref Mk)∧(∀e∈kvs',e∈kvs∨∀a,e.2=V.ref a->H a=none)∧kvs'.length<=kvs.length+t∧t<=Pn∧(plc w kept cs t).length<=Nn+1∧m=Pn - t:=⟨_,fun _ _ _=>Iff.rfl⟩
 refine while_of J Pn ((hJ _ _ _).mpr ⟨0,kvs,Mk :: Pl :: M,none,[],rfl,S6,V6,f6,e6,LH.nil _,fun a ha=>by simp at ha,.tail _ (.head _),.head _,fun y o _ _ _ _ _ e=>s06 _ _ e,fun a h=>.tail _ (.tail _ h),mf6,nk,fun _ h=>.inl h,by omega,Nat.zero_le _,Nat.zero_le _,rfl⟩) ?_
 intro m σ H7 hm
 obtain⟨t,kvs',M',r6,mks,rfl,S7,V7,eP,eM,hMk,nMk,mP,mM,kw,ms,mf,nt,tk,lk7,tP,ln1,rfl⟩:=(hJ _ _ _).mp hm
 k_units
 refine⟨_,.inl (SqL.of eP),?_⟩
 rw [List.length_map]
 refine ite2 (fun z=>?_) (fun z=>?_)
 ·have ht:t < Pn:=by
   rcases Nat.lt_or_ge t Pn with h | h
   ·exact h
   ·rw [show t=Pn by omega] at z;omega
  refine⟨J (Pn - (t+1)),fun σ' H' z=>⟨_,by omega,z⟩,dx,_,S7.hx,rfl,x,dx,Kp,Cl,Tb,Vc,us,kvs',M',w,kept,cs,pl,(t:Int),q,rfl,S7,O.tb t ht,by omega,by omega,V7,O.vq.1,O.vq.2,O.lo t ht,fun H8 kvs8 M8 S8 kw8 ms8 mf8 l8 tk8=>?_⟩
  have kx8:=S7.kx kw8
  have kx8':KX M8 H7 H8:=fun y o ny e=>kx8 y o (fun z=>ny (ms8 y z)) e
  have V8:=(V7.more mf8).kx kx8'
  have nt7:=nt
  have eP8:=kw8 Pl _ dP.1 dP.2.1 dP.2.2.1 dP.2.2.2 (fun e he=>(nt e he).1) eP
  have eM8:=kw8 Mk _ dM.1 dM.2.1 dM.2.2.1 dM.2.2.2 (fun e he=>(nt e he).2) eM
  have hMk8:=hMk.kx kx8 nMk
  have nMk8:∀a∈mks,a∉M8:=fun a ha z=>by
   rcases mf8 a z with h | h
   ·exact nMk a ha h
   ·obtain⟨i,hi,rfl⟩:=List.mem_iff_getElem.mp ha
    have:=hMk.get i _ _ (List.getElem?_eq_getElem hi) (List.getElem?_eq_getElem (by rw [← hMk.len];exact hi))
    rw [h] at this;cases this
  have nt8:∀e∈kvs8,e.2≠V.ref Pl∧e.2≠V.ref Mk:=fun e he=>by
   rcases tk8 e he with h | h
   ·exact nt e h
   ·refine⟨fun z=>?_,fun z=>?_⟩
    ·have y:=h Pl z
     rw [eP] at y;cases y
    ·have y:=h Mk z
     rw [eM] at y;cases y
  have kwT:=kw.trans tk kw8
  have tkT:=tk_trans (S.kx kw) ms S7.al tk tk8
  have mfT:=mf_trans (S.kx kw) mf mf8
  have msT:∀a∈M,a∈M8:=fun a h=>ms8 a (ms a h)
  obtain⟨Mx,hMx⟩:∃Mx:L2.St->Hp->Prop,∀σ H',Mx σ H'↔∃(r6:Option V) (mks':List Addr),σ=[some (V.ref x),some (V.ref Vc),some (V.int (1+(Nn:Int))),some (V.ref Pl),some (V.ref Mk),some (V.int (t:Int)),r6]∧Spn T H' x dx Kp Cl Tb us kvs8 M8 w kept cs pl∧VecAt H' M8 Vc q∧H' Pl=some (.lst ((plc w kept cs (t+1)).map V.int))∧H' Mk=some (.lst (mks'.map V.ref))∧LH H' mks' ((plc w kept cs (t+1)).map fun p=>(lowV w kept cs q p).drop w)∧(∀a∈mks',a∉M8)∧KW x Kp Cl Tb kvs H H':=⟨_,fun _ _=>Iff.rfl⟩
  have tail:∀σ H',Mx σ H'->∃r6:Option V,σ=[some (V.ref x),some (V.ref Vc),some (V.int (1+(Nn:Int))),some (V.ref Pl),some (V.ref Mk),some (V.int (t:Int)),r6]∧J (Pn - (t+1)) [some (V.ref x),some (V.ref Vc),some (V.int (1+(Nn:Int))),some (V.ref Pl),some (V.ref Mk),some (V.int ((t:Int)+1)),r6] H':=fun σ H' h=>by
   obtain⟨r6,mks',rfl,g1,g2,g3,g4,g5,g6,g7⟩:=(hMx _ _).mp h
   exact⟨r6,rfl,(hJ _ _ _).mpr ⟨t+1,kvs8,M8,r6,mks',rfl,g1,g2,g3,g4,g5,g6,ms8 _ mP,ms8 _ mM,g7,msT,mfT,nt8,tkT,by omega,by omega,by have:=plc_step (w:=w) (kept:=kept) (cs:=cs) (t:=t);omega,rfl⟩⟩
  refine⟨fun R nR eR pv=>?_,fun np=>?_⟩
  ·refine mid_of Mx ?_ ?_
   ·k_units
    rw [if_pos (fun z=>nomatch z)]
    have mP8:=ms8 _ mP
    have mM8:=ms8 _ mM
    have dR:R≠Pl:=fun z=>nR (by rw [z];exact mP8)
    have lpl:=plc_len (w:=w) (kept:=kept) (cs:=cs) t
    have P7:=O.P7
    have S9:=S8.other (o:=.lst ((plc w kept cs t).map V.int++[V.int (t:Int)])) mP8 dP.1 dP.2.1 dP.2.2.1 dP.2.2.2 fun e he=>(nt8 e he).1
    have k9:KX M8 H8 (L2.upd H8 Pl (.lst ((plc w kept cs t).map V.int++[V.int (t:Int)]))):=fun y o ny e=>by
     have d:y≠Pl:=fun z=>ny (by rw [z];exact mP8)
     rw [upd_ne d];exact e
    have eP9:=upd_same (H:=H8) (a:=Pl) (o:=.lst ((plc w kept cs t).map V.int++[V.int (t:Int)]))
    have eM9:=(upd_ne (H:=H8) (o:=.lst ((plc w kept cs t).map V.int++[V.int (t:Int)])) (Ne.symm dPM)).trans eM8
    have eR9:=(upd_ne (H:=H8) (o:=.lst ((plc w kept cs t).map V.int++[V.int (t:Int)])) dR).trans eR
    have kw9:KW x Kp Cl Tb kvs H (L2.upd H8 Pl (.lst ((plc w kept cs t).map V.int++[V.int (t:Int)]))):=fun y o a1 a2 a3 a4 a5 e=>by
     have d:y≠Pl:=fun z=>by rw [z,n0P] at e;cases e
     rw [upd_ne d];exact kwT y o a1 a2 a3 a4 a5 e
    refine⟨a_tyL (SqL.of eP8),_,eP8,by rw [List.length_map];exact small1000 (by omega),?_⟩
    generalize L2.upd H8 Pl (.lst ((plc w kept cs t).map V.int++[V.int (t:Int)]))=H9 at S9 k9 eP9 eM9 eR9 kw9 ⊢
    refine⟨a_tyL (SqL.of eM9),_,_,_,S9.hx,T.cl_Span,T.na_Span_width,_,rfl,_,rfl,_,SqL.of eR9,fun D nD=>?_⟩
    rw [cut_fromI]
    have u:=same_upd nD (.lst (((lowV w kept cs q (t:Int)).drop w).map V.int))
    have SA:=S9.same u
    have eD:=upd_same (H:=H9) (a:=D) (o:=.lst (((lowV w kept cs q (t:Int)).drop w).map V.int))
    have nDM:D∉M8:=fun z=>by obtain⟨o,e⟩:=S9.al D z;rw [nD] at e;cases e
    have dDM:D≠Mk:=fun z=>nDM (by rw [z];exact mM8)
    have eMA:=u _ _ eM9
    have ePA:=u _ _ eP9
    have hMA:=(hMk8.kx k9 nMk8).same u
    have VA:=(V8.kx k9).same u
    have kwA:KW x Kp Cl Tb kvs H (L2.upd H9 D (.lst (((lowV w kept cs q (t:Int)).drop w).map V.int))):=fun y o a1 a2 a3 a4 a5 e=>u _ _ (kw9 y o a1 a2 a3 a4 a5 e)
    generalize L2.upd H9 D (.lst (((lowV w kept cs q (t:Int)).drop w).map V.int))=HA at SA eD eMA ePA hMA VA kwA ⊢
    have lmk:mks.length<=t:=by have:=hMk.len;rw [List.length_map] at this;omega
    have kB:KX M8 HA (L2.upd HA Mk (.lst (mks.map V.ref++[V.ref D]))):=fun y o ny e=>by
     have d:y≠Mk:=fun z=>ny (by rw [z];exact mM8)
     rw [upd_ne d];exact e
    refine⟨_,eMA,by rw [List.length_map];exact small1000 (by omega),(hMx _ _).mpr ⟨_,mks++[D],rfl,SA.other mM8 dM.1 dM.2.1 dM.2.2.1 dM.2.2.2 fun e he=>(nt8 e he).2,VA.kx kB,?_,by rw [upd_same,List.map_append];rfl,?_,fun a ha=>?_,fun y o a1 a2 a3 a4 a5 e=>?_⟩⟩
    ·rw [upd_ne dPM,plc_pos pv,List.map_append];exact ePA
    ·rw [plc_pos pv,List.map_append]
     exact (hMA.kx kB nMk8).snoc (by rw [upd_ne dDM];exact eD)
    ·rcases List.mem_append.mp ha with h | h
     ·exact nMk8 a h
     ·rw [List.mem_singleton.mp h];exact nDM
    ·have d:y≠Mk:=fun z=>by rw [z,n0M] at e;cases e
     rw [upd_ne d];exact kwA y o a1 a2 a3 a4 a5 e
   ·intro σ H9 h9
    obtain⟨r6',rfl,hj⟩:=tail σ H9 h9
    k_units
    exact hj
  ·refine mid_of Mx ?_ ?_
   ·k_units
    refine (hMx _ _).mpr ⟨_,mks,rfl,S8,V8,?_,eM8,?_,nMk8,kwT⟩
    ·rw [plc_neg np];exact eP8
    ·rw [plc_neg np];exact hMk8
   ·intro σ H9 h9
    obtain⟨r6',rfl,hj⟩:=tail σ H9 h9
    k_units
    exact hj
 ·have gt:Nn+1<=(plc w kept cs t).length:=by omega
  refine⟨_,_,_,S7.hx,T.cl_Span,T.na_Span_kept,_,rfl,Kp,rfl,_,.inl (SqL.of S7.hK),?_⟩
  have lus:(us.map V.ref).length=kept.length:=by rw [List.length_map];exact lk
  rw [lus]
  refine⟨by omega,by omega,fun D nD=>?_⟩
  rw [show ((kept.length:Int)+1).toNat=kept.length+1 by omega]
  have P7:=O.P7
  have lg:=O.len
  have hps:∀p∈plc w kept cs t,∃n:Nat,p=(n:Int)∧n < Pn∧Piv w kept cs p kept.length:=fun p hp=>by
   obtain⟨n,h1,h2,h3⟩:=plc_in hp
   exact⟨n,h1,by omega,h3⟩
  have nd:=plc_nodup w kept cs t
  obtain⟨psx,hpsx⟩:∃psx,plc w kept cs t=psx:=⟨_,rfl⟩
  rw [hpsx] at hps nd gt ln1 eP hMk
  have lmk:=hMk.len
  rw [List.length_map] at lmk
  obtain⟨Pc,hPc⟩:∃Pc:Nat->Hp->Prop,∀j Hx,Pc j Hx↔∃bs:List Addr,Hx D=some (.lst (bs.map V.ref))∧LH Hx bs (gs.take j)∧D∉bs∧Same H7 Hx:=⟨_,fun _ _=>Iff.rfl⟩
  refine cl_range Pc ((hPc _ _).mpr ⟨[],upd_same,LH.nil _,by simp,same_upd nD _⟩) ?_ ?_
  ·intro j Hx hj hc
   obtain⟨bs,k1,k2,k3,k4⟩:=(hPc _ _).mp hc
   have hgj:gs[j]?=some gs[j]:=List.getElem?_eq_getElem (by omega)
   obtain⟨n1,n2⟩:=O.ng _ (List.getElem_mem (show j < gs.length by omega))
   have n3:=gN _ (List.getElem_mem (show j < gs.length by omega))
   have e0:(0:Int)+(j:Int)=(j:Int):=Int.zero_add _
   have kj:=O.kw
   generalize gs[j]=g at hgj n1 n2 n3
   (iterate 3 (k_units;(try simp only [bst,Option.getD_some,e0]));k_units)
   refine⟨⟨_,SqL.of (k4 _ _ eM)⟩,fun D1 nD1=>?_⟩
   obtain⟨Pi,hPi⟩:∃Pi:Nat->Hp->Prop,∀i Hy,Pi i Hy↔Hy D1=some (.lst (((psx.map fun p=>val p g).take i).map V.int))∧Same Hx Hy:=⟨_,fun _ _=>Iff.rfl⟩
   refine cl_list (xs:=mks.map V.ref) Pi ((hPi _ _).mpr ⟨upd_same,same_upd nD1 _⟩) (fun i Hy _ y=>by obtain⟨_,y⟩:=(hPi i Hy).mp y;exact SqL.of ((k4.trans y) _ _ eM)) ?_ ?_
   ·intro i v Hy hv hi
    obtain⟨m1,m2⟩:=(hPi _ _).mp hi
    rw [List.getElem?_map] at hv
    obtain⟨a,ha,rfl⟩:=Option.map_eq_some_iff.mp hv
    have hip:i < psx.length:=by have:=(List.getElem?_eq_some_iff.mp ha).1;omega
    have hpi:psx[i]?=some psx[i]:=List.getElem?_eq_getElem hip
    obtain⟨n,hn1,hn2,hn3⟩:=hps _ (List.getElem_mem hip)
    generalize psx[i]=p at hpi hn1 hn3
    subst hn1
    have ea:=hMk.get i a _ ha (by rw [List.getElem?_map,hpi];rfl)
    have hlow:=low_len (O.lo n hn2 hn3) kept.length (by rw [tabR_len];exact Nat.le_refl _)
    have hwq:q.length=w:=O.wid q (by simp)
    have hll:(lowV w kept cs q (n:Int)).length=w+(w+1):=by
     unfold lowV;rw [hlow];unfold rowA;rw [List.length_append,List.length_map,List.length_map,List.length_range,hwq]
    have hjl:j < ((lowV w kept cs q (n:Int)).drop w).length:=by rw [List.length_drop,hll];omega
    have hco:co ((lowV w kept cs q (n:Int)).drop w) j=val (n:Int) g:=by
     rw [← O.mrk n hn2 hn3 j g hgj]
     unfold co
     rw [List.getD_eq_getElem?_getD,List.getD_eq_getElem?_getD,List.getElem?_drop]
    (iterate 3 (k_units;(try simp only [bst,Option.getD_some]));k_units)
    refine⟨_,SqL.of ((k4.trans m2) _ _ ea),_,co_at hjl,_,m1,?_,(hPi _ _).mpr ⟨?_,m2.more nD1⟩⟩
    ·rw [List.length_map,List.length_take];exact small1000 (by omega)
    ·rw [upd_same,List.take_succ,List.getElem?_map,hpi,List.map_append,hco];rfl
   intro Hy hi
   obtain⟨m1,m2⟩:=(hPi _ _).mp hi
   rw [List.length_map,lmk,List.take_of_length_le (by rw [List.length_map];exact Nat.le_refl _)] at m1
   refine⟨Pl,D1,psx,g,rfl,SqL.of ((k4.trans m2) _ _ eP),SqL.of m1,⟨by omega,n1,by omega,fun a b ha hb hne h=>by
    rcases Nat.lt_or_gt_of_ne hne with y | y
    ·exact List.pairwise_iff_getElem.mp nd a b ha hb y h
    ·exact List.pairwise_iff_getElem.mp nd b a hb ha y h.symm,fun p hp=>?_,fun p hp=>?_⟩,fun R Hz sz nR eR=>?_⟩
   ·obtain⟨n,rfl,h2,_⟩:=hps p hp
    exact Bd.of_lt (m:=701) (by omega) (by decide)
   ·obtain⟨n,rfl,h2,_⟩:=hps p hp
    exact n2 n h2
   have lb:=k2.len
   rw [List.length_take] at lb
   have ne:R≠D:=fun z=>by rw [z,m2 _ _ k1] at nR;cases nR
   refine⟨_,sz _ _ (m2 _ _ k1),by rw [List.length_map];exact small1000 (by omega),(hPc _ _).mpr ⟨bs++[R],by rw [upd_same,List.map_append];rfl,?_,by simp [k3];exact fun z=>ne z.symm,(k4.trans (m2.trans sz)).more nD⟩⟩
   rw [List.take_succ,hgj]
   refine LH.snoc ⟨k2.len,fun i b' p e1 e2=>?_⟩ (by rw [upd_ne ne];exact eR)
   have hb:b'≠D:=fun z=>k3 (by rw [← z];exact List.mem_of_getElem? e1)
   rw [upd_ne hb];exact sz _ _ (m2 _ _ (k2.get i b' p e1 e2))
  intro Hx hc
  obtain⟨bs,k1,k2,k3,k4⟩:=(hPc _ _).mp hc
  rw [List.take_of_length_le (by omega)] at k2
  obtain⟨c1,c2,c3,c4,c5,c6,c7,c8,c9,c10⟩:=hC
  refine⟨D,bs,gs,f,qs,p0,t0,rfl,SqL.of k1,k2.ll,by omega,c1,c2,c3,c4,c5,c6,c7,c8,c9,c10,fun D2 bs2 Hz sz nD2 eD2 lD2 nb2 nDb=>?_⟩
  have S8:=(S7.same k4).same sz
  have fr:∀y,Hx y=none->y∉M'∧H y=none:=fun y hy=>by
   have h1:y∉M':=fun z=>by obtain⟨o,e⟩:=(S7.same k4).al y z;rw [hy] at e;cases e
   refine⟨h1,?_⟩
   cases e:H y with
   | none=>rfl
   | some o=>
    have:=k4 _ _ (S.kx kw y o (fun z=>h1 (ms y z)) e)
    rw [hy] at this;cases this
  exact fin Hz kvs' M' D2 bs2 S8 (S.kx fun y o a1 a2 a3 a4 a5 e=>sz _ _ (k4 _ _ (kw y o a1 a2 a3 a4 a5 e))) ms mf (by omega) (fr D2 nD2).1 (fr D2 nD2).2 eD2 lD2 (fun b hb=>fr b (nb2 b hb)) nDb
def spw (n:Nat) (few:List Nat) (ws:List (List Int)):Nat->List (List Int)
 | 0=>List.replicate n []++[ws.getD few.length []]
 | t+1=>(spw n few ws t).set (few.getD t 0) (ws.getD t [])
theorem spw_len (n:Nat) (few:List Nat) (ws:List (List Int)):∀t,(spw n few ws t).length=n+1
 | 0=>by simp [spw]
 | t+1=>by rw [spw,List.length_set];exact spw_len n few ws t
theorem piv_snoc {w:Nat} {kept:List (List (List Int))} {cs:List Nat} {q:List (List Int)} {c:Nat} {p:Int} (hl:cs.length=kept.length) (hp:Piv w kept cs p kept.length) (h:co (lowV w kept cs q p) c≠0):Piv w (kept++[q]) (cs++[c]) p (kept.length+1):=fun i hi=>by
 by_cases z:i < kept.length
 ·exact piv_app hl (Nat.le_refl _) hp i z
 ·have e:i=kept.length:=by omega
  subst e
  unfold tRow
  rw [tabR_app hl _ (Nat.le_refl _),lowN_app _ (by omega)]
  have e1:(kept++[q]).getD kept.length []=q:=by simp
  have e2:(cs++[c]).getD kept.length 0=c:=by rw [← hl];simp
  rw [e1,e2];exact h
structure SpTh (w B KM:Nat) (St:List (List (List Int))->List Nat->Int->Prop) (Vq:List (List (List Int))->List (List Int)->Prop) (Rl:List (List (List Int))->List (List Int)->List (List Int)->Prop):Prop where
 b3:(KM+2) * (2 * B+2)<=900
 k18:KM<=18
 st0:St [] [] 97
 stS:∀kept cs pl q c (t:Nat),St kept cs pl->Vq kept q->c < w->c∉cs->t<=B->Piv w (kept++[q]) (cs++[c]) (pl+(t:Int)) (kept.length+1)->St (kept++[q]) (cs++[c]) (pl+(t:Int))
 bd:∀kept cs pl q,St kept cs pl->Vq kept q->kept.length<=KM∧q.length=w∧∀f∈q,f.length<=40∧∀c∈f,Bd 1000 c
 tb:∀kept cs pl q,St kept cs pl->Vq kept q->TBd w kept cs pl∧Piv w kept cs pl kept.length∧LowOk (rowA w q kept.length pl) (tabR w kept cs pl kept.length) cs
 hit:∀kept cs pl q c,St kept cs pl->Vq kept q->c < w->co (lowV w kept cs q pl) c≠0->c∉cs∧TBd w (kept++[q]) (cs++[c]) pl
 oc:∀kept cs pl q,St kept cs pl->Vq kept q->(∀c,c < w->co (lowV w kept cs q pl) c=0)->∃(gs:List (List Int)) (Pn:Nat) (f:Nat->List Int) (qs:List (List Int)) (p0:List Int) (t0:Int),OcOk w kept cs q gs Pn∧Pn<=B∧(∀N,DbIs (kept++[q]) cs N->0<=N∧N < 60∧(∀g∈gs,(g.length:Int)<=N+1)∧N < ((plc w kept cs Pn).length:Int))∧
  ((∀p∈gs,p.length<=64∧Nml p∧∀c∈p,Bd 130 c)∧(∀i,(f i).length<=64)∧f 0=[]∧(∀i r,gs[i]?=some r->CommonIs (f i) r (f (i+1)))∧gs.getLast?=some (p0++[t0])∧f gs.length≠[]∧Nml (f gs.length)∧(∀c∈f gs.length,Bd 4000 c)∧qs.length=gs.length∧(∀(i:Nat) (p q:List Int),gs[i]?=some p->qs[i]?=some q->Nml q∧Div p (negL (decide (t0 < 0)) (f gs.length)) q))∧
  FcOk w (kept++[q]) qs∧((∀c,c < w->c∉cs->sumC (kept++[q]) qs c (kept.length+1)=[])->Rl kept q qs)∧
  ∀c,c < w->c∉cs->sumC (kept++[q]) qs c (kept.length+1)≠[]->∃N,N<=B∧(∀t:Nat,t<=N->TBd w (kept++[q]) (cs++[c]) (pl+(t:Int)))∧Piv w (kept++[q]) (cs++[c]) (pl+(N:Int)) (kept.length+1)
 sub:∀kept cs pl q (few:List Nat),St kept cs pl->Vq kept q->few.Pairwise (· < ·)->(∀i∈few,i < kept.length)->few.length < kept.length->
  Vq (few.map fun i=>kept.getD i []) q∧(∀(i j:Nat),few[i]?=some j->Vq ((few.take i).map fun i=>kept.getD i []) (kept.getD j [])∧∀ws,¬Rl ((few.take i).map fun i=>kept.getD i []) (kept.getD j []) ws)
 len:∀kept q ws,Rl kept q ws->ws.length=kept.length+1
 up:∀kept cs pl q (few:List Nat) ws,St kept cs pl->Vq kept q->few.Pairwise (· < ·)->(∀i∈few,i < kept.length)->few.length < kept.length->Rl (few.map fun i=>kept.getD i []) q ws->Rl kept q (spw kept.length few ws few.length)
def spTake {K:PySem.W.Frag} {mg:Str->Option Value} (T:Tx K mg) (w B:Nat) (St:List (List (List Int))->List Nat->Int->Prop) (Vq:List (List (List Int))->List (List Int)->Prop) (Rl:List (List (List Int))->List (List Int)->List (List Int)->Prop) (d:Nat):Sp:=fun vs H Q _=>∃(x dx Kp Cl Tb Vc:Addr) (us:List Addr) (kvs:List (Key×V)) (M:List Addr) (kept:List (List (List Int))) (cs:List Nat) (pl:Int) (as:List Addr) (q:List (List Int)),vs=[.ref x,.ref Vc]∧Spn T H x dx Kp Cl Tb us kvs M w kept cs pl∧SqL K H Vc (as.map V.ref)∧LL K H as q∧St kept cs pl∧Vq kept q∧kept.length < d∧kvs.length+(2 * B+2)<=900∧
 (∀(H':Hp) (us':List Addr) (kvs':List (Key×V)) (M':List Addr) (c:Nat) (pl':Int),Spn T H' x dx Kp Cl Tb us' kvs' M' w (kept++[q]) (cs++[c]) pl'->St (kept++[q]) (cs++[c]) pl'->KX M H H'->(∀a∈M,a∈M')->(∀a∈M',a∈M∨H a=none)->kvs'.length<=kvs.length+(2 * B+2)->Q .non H')∧
 (∀(H':Hp) (kvs':List (Key×V)) (M':List Addr) (D:Addr) (bs:List Addr) (ws:List (List Int)),Spn T H' x dx Kp Cl Tb us kvs' M' w kept cs pl->Rl kept q ws->KX M H H'->(∀a∈M,a∈M')->(∀a∈M',a∈M∨H a=none)->kvs'.length<=kvs.length+(2 * B+2)->D∉M'->H D=none->H' D=some (.lst (bs.map V.ref))->LH H' bs ws->(∀b∈bs,b∉M'∧H b=none)->D∉bs->Q (.ref D) H')
def spBf {K:PySem.W.Frag} {mg:Str->Option Value} (T:Tx K mg) (w B:Nat) (St:List (List (List Int))->List Nat->Int->Prop) (Vq:List (List (List Int))->List (List Int)->Prop) (Rl:List (List (List Int))->List (List Int)->List (List Int)->Prop) (d:Nat):Sp:=fun vs H Q _=>∃(x dx Kp Cl Tb Vc Fw:Addr) (us:List Addr) (kvs:List (Key×V)) (M:List Addr) (kept:List (List (List Int))) (cs:List Nat) (pl:Int) (q:List (List Int)) (few:List Nat),vs=[.ref x,.ref Vc,.ref Fw]∧Spn T H x dx Kp Cl Tb us kvs M w kept cs pl∧VecAt H M Vc q∧H Fw=some (.lst ((few.map fun c:Nat=>(c:Int)).map V.int))∧St kept cs pl∧Vq kept q∧kept.length<=d∧few.Pairwise (· < ·)∧(∀i∈few,i < kept.length)∧few.length < kept.length∧
 (∀H':Hp,Same H H'->Q .non H')∧
 (∀(H':Hp) (D:Addr) (bs:List Addr) (ws:List (List Int)),Same H H'->Rl kept q ws->H D=none->H' D=some (.lst (bs.map V.ref))->LH H' bs ws->(∀b∈bs,H b=none)->D∉bs->Q (.ref D) H')
theorem same_new {H:Hp} {x dx:Addr} {o u:HO} (hx:H x=none) (hd:H dx=none):Same H (L2.upd (L2.upd H dx u) x o):=fun b v e=>by rw [upd_ne (ne_of_none e hx),upd_ne (ne_of_none e hd)];exact e
theorem mk_span {K:PySem.W.Frag} {mg:Str->Option Value} {T:Tx K mg} {H:Hp} {Q:Addr->Hp->Prop} {E:XK} {w:Nat} (k:∀(x dx Kp Cl Tb:Addr) (M:List Addr) (H':Hp),Same H H'->(∀a∈M,H a=none)->Spn T H' x dx Kp Cl Tb [] [] M w [] [] 97->Q x H') (x dx:Addr) (hx:H x=none) (hd:H dx=none) (_:dx≠x):
  spSInit T.c_Span [.ref x,.int (w:Int)] (L2.upd (L2.upd H dx (.own x)) x (.ins T.c_Span dx [])) (fun v H2=>v=V.non∧Q x H2) E:=by
 have s1:Same H (L2.upd (L2.upd H dx (.own x)) x (.ins T.c_Span dx [])):=same_new hx hd
 refine⟨x,dx,(w:Int),rfl,upd_same,fun Kp Cl Tb H' s2 n1 n2 n3 d1 d2 d3 ex e1 e2 e3=>⟨rfl,?_⟩⟩
 have s3:Same H H':=fun y o e=>s2 y o (ne_of_none e hx) (s1 y o e)
 refine k x dx Kp Cl Tb [x,Kp,Cl,Tb] H' s3 (fun a ha=>?_) ⟨ex,e1,e2,e3,rfl,rfl,fun i u q e=>by simp at e,fun e he=>by simp at he,fun e he=>by simp at he,by simp,fun e he=>by simp at he,d1,fun a ha=>?_⟩
 ·simp only [List.mem_cons,List.not_mem_nil,or_false] at ha
  rcases ha with rfl | rfl | rfl | rfl
  ·exact hx
  ·exact s1.free n1
  ·exact s1.free n2
  ·exact s1.free n3
 ·simp only [List.mem_cons,List.not_mem_nil,or_false] at ha
  rcases ha with rfl | rfl | rfl | rfl
  ·exact⟨_,ex⟩
  ·exact⟨_,e1⟩
  ·exact⟨_,e2⟩
  ·exact⟨_,e3⟩
theorem cut_lst (xs:List Addr) (a:Addr):cutV ((xs++[a]).map V.ref) (some (-1)) none=[V.ref a]:=by
 unfold cutV
 have e:HT.sIx ((xs++[a]).map V.ref).length 0 (some (-1))=xs.length:=by
  unfold HT.sIx
  dsimp only
  rw [if_pos (by decide)];simp;omega
 rw [e,HT.sIx_none,← List.map_drop]
 simp
theorem ok_Span_by_few {P:Program} {wd:World} {K:PySem.W.Frag} {mg:Str->Option Value} {base:Heap} (T:Tx K mg) {w B KM:Nat} {St:List (List (List Int))->List Nat->Int->Prop} {Vq:List (List (List Int))->List (List Int)->Prop} {Rl:List (List (List Int))->List (List Int)->List (List Int)->Prop} (Z:SpTh w B KM St Vq Rl) (d:Nat) (F:FnOk P wd K mg base CX0 (2 * d+9) T.a_Span_take T.fd_Span_take ["self","vector"] (spTake T w B St Vq Rl d)):FnOk P wd K mg base CX0 (2 * d+10) T.a_Span_by_few T.fd_Span_by_few ["self","vector","few"] (spBf T w B St Vq Rl d):=by
 refine T.F_Span_by_few.ok sc_Span_by_few (fun vs H Q E h=>?_) (fun cdv A outer s H vs Q E hr h=>?_)
 ·obtain⟨x,dx,Kp,Cl,Tb,Vc,Fw,us,kvs,M,kept,cs,pl,q,few,rfl,_⟩:=h
  rfl
 obtain⟨x,dx,Kp,Cl,Tb,Vc,Fw,us,kvs,M,kept,cs,pl,q,few,rfl,S,hV,hF,hSt,hVq,kd,fp,fk,fl,q1,q2⟩:=h
 refine⟨_,((pss_cons (ps_set (i:=3) sc_Span_by_few.nd rfl (Or.inl rfl) (pe_make T.mk_Span (FnOk.mono (ok_Span___init__ T) (by omega)) hr rfl T.mc_Span T.b_Span___init__ .nil pass0 (pa_cons (pe_fld (pv 0) rfl) pa_nil)))
  (pss_cons (ps_for PassesOwn.never rfl (pi_list (pv 2)) (pg_name (i:=4) sc_Span_by_few.nd rfl (Or.inl rfl)) (pss_one (ps_expr (pe_meth (pv 3) T.cl_Span T.me_Span_take (FnOk.mono F (by omega)) hr T.b_Span_take .nil pass0 (pa_cons (pe_ix ix_list (pe_fld (pv 0) rfl) (pv 4) (fun _ _=>rfl)) pa_nil)))))
  (pss_cons (ps_set (i:=5) sc_Span_by_few.nd rfl (Or.inl rfl) (pe_meth (pv 3) T.cl_Span T.me_Span_take (FnOk.mono F (by omega)) hr T.b_Span_take .nil pass0 (pa_cons (pv 1) pa_nil)))
  (pss_cons (ps_if (pt_cmpR op_isN (pv 5) pe_non (nomark _)) (pss_one (ps_ret pe_non)) pss_nil)
  (pss_cons (ps_set (i:=6) sc_Span_by_few.nd rfl (Or.inl rfl) (pe_op op_cat (pe_lcomp rfl (blkok rfl sub_nil fv_nil) (pi_list (pe_fld (pv 0) rfl)) (fun _ _ _ _=>(pe_lst pa_nil))) (pe_slice sl_list (pv 5) (po_some (pe_un un_neg pe_int)) po_none)))
  (pss_cons (ps_for PassesOwn.never rfl (pi_zip rfl T.z_zip (pa_cons (pv 2) (pa_cons (pv 5) pa_nil))) (pg_tup rfl (pgs_cons (pg_name (i:=4) sc_Span_by_few.nd rfl (Or.inl rfl)) (pgs_cons (pg_name (i:=7) sc_Span_by_few.nd rfl (Or.inl rfl)) pgs_nil))) (pss_one (ps_asg (pv 7) (pg_sub (pv 6) (pv 4) set_list))))
  (pss_one (ps_ret (pv 6)))))))))),?_⟩
 obtain⟨k18,qw,bq⟩:=Z.bd kept cs pl q hSt hVq
 have b3:=Z.b3
 have kM:=Z.k18
 dsimp only [a_seq]
 k_typeOf
 refine⟨_,_,_,S.hx,T.cl_Span,T.na_Span_width,_,rfl,mk_span fun x2 dx2 Kp2 Cl2 Tb2 M2 H1 s1 m1 S1=>?_⟩
 obtain⟨sub1,sub2⟩:=Z.sub kept cs pl q few hSt hVq fp fk fl
 dsimp only [a_seq]
 k_typeOf
 obtain⟨Pv,hPv⟩:∃Pv:Nat->L2.St->Hp->Prop,∀i σ H',Pv i σ H'↔∃(us2:List Addr) (kvs2:List (Key×V)) (M2:List Addr) (cs2:List Nat) (pl2:Int) (r4:Option V),σ=[some (V.ref x),some (V.ref Vc),some (V.ref Fw),some (V.ref x2),r4,none,none,none]∧Spn T H' x2 dx2 Kp2 Cl2 Tb2 us2 kvs2 M2 w ((few.take i).map fun i=>kept.getD i []) cs2 pl2∧St ((few.take i).map fun i=>kept.getD i []) cs2 pl2∧(∀a∈M2,H a=none)∧kvs2.length<=i * (2 * B+2)∧Same H H':=⟨_,fun _ _ _=>Iff.rfl⟩
 have lf:(few.map fun c:Nat=>(c:Int)).length=few.length:=List.length_map ..
 refine⟨⟨_,SqL.of (s1 _ _ hF)⟩,lp_list (xs:=(few.map fun c:Nat=>(c:Int)).map V.int) Pv ((hPv _ _ _).mpr ⟨[],[],M2,[],97,none,rfl,S1,Z.st0,m1,Nat.zero_le _,s1⟩) (fun i σ H' _ z=>by obtain⟨_,_,_,_,_,_,_,_,_,_,_,z⟩:=(hPv i σ H').mp z;exact SqL.of (z _ _ hF)) ?_ ?_⟩
 ·intro i v σ H2 hv hp
  obtain⟨us2,kvs2,M2,cs2,pl2,r4,rfl,S2,t2,m2,l2,s2⟩:=(hPv _ _ _).mp hp
  rw [List.getElem?_map,List.getElem?_map] at hv
  obtain⟨j',hj',rfl⟩:=Option.map_eq_some_iff.mp hv
  obtain⟨j,hj,rfl⟩:=Option.map_eq_some_iff.mp hj'
  have hi:i < few.length:=(List.getElem?_eq_some_iff.mp hj).1
  have hjk:=fk j (List.mem_of_getElem? hj)
  obtain⟨v1,v2⟩:=sub2 i j hj
  have hu:j < us.length:=by have:=S.lk;omega
  have hkn:kept[j]?=some kept[j]:=List.getElem?_eq_getElem hjk
  obtain⟨as,w1,w2,w3,w4⟩:=S.vec j _ _ (List.getElem?_eq_getElem hu) hkn
  have ek:kept.getD j []=kept[j]:=by rw [List.getD_eq_getElem?_getD,hkn];rfl
  have et:few.take (i+1)=few.take i++[j]:=by rw [List.take_succ,hj];rfl
  have lt:((few.take i).map fun i=>kept.getD i []).length=i:=by rw [List.length_map,List.length_take];omega
  have S0:=S.same s2
  have lb:i * (2 * B+2)+(2 * B+2)<=900:=by
   have:(i+1) * (2 * B+2)<=(KM+2) * (2 * B+2):=Nat.mul_le_mul_right _ (by omega)
   rw [Nat.add_mul,Nat.one_mul] at this;omega
  k_units
  refine⟨dx2,_,S2.hx,rfl,_,_,_,S0.hx,T.cl_Span,T.na_Span_kept,_,rfl,Kp,rfl,_,SqL.of S0.hK,V.ref us[j],atI_nat (by rw [List.getElem?_map,List.getElem?_eq_getElem hu];rfl),x2,dx2,Kp2,Cl2,Tb2,us[j],us2,kvs2,M2,_,cs2,pl2,as,kept[j],rfl,S2,SqL.of (s2 _ _ w1),(w2.same s2).ll,t2,by rw [← ek];exact v1,by rw [lt];omega,by omega,fun H3 us3 kvs3 M3 c pl3 S3 t3 kx ms mf l3=>?_,fun H3 kvs3 M3 D bs ws _ hR _ _ _ _ _ _ _ _ _ _=>by rw [← ek] at hR;exact absurd hR (v2 ws)⟩
  have s3:Same H H3:=fun y o e=>kx y o (fun z=>by rw [m2 y z] at e;cases e) (s2 y o e)
  have ea:((few.take (i+1)).map fun i=>kept.getD i [])=((few.take i).map fun i=>kept.getD i [])++[kept[j]]:=by rw [et,List.map_append,List.map_cons,List.map_nil,ek]
  refine (hPv _ _ _).mpr ⟨us3,kvs3,M3,_,pl3,_,rfl,by rw [ea];exact S3,by rw [ea];exact t3,fun a ha=>?_,by rw [Nat.add_mul,Nat.one_mul];omega,s3⟩
  rcases mf a ha with h | h
  ·exact m2 a h
  ·exact s2.free h
 intro σ H2 hp
 obtain⟨us2,kvs2,M2,cs2,pl2,r4,rfl,S2,t2,m2,l2,s2⟩:=(hPv _ _ _).mp hp
 rw [List.length_map,lf] at S2 t2 l2
 rw [List.take_of_length_le (Nat.le_refl _)] at S2 t2
 clear hp hPv Pv
 have lt:(few.map fun i=>kept.getD i []).length=few.length:=List.length_map ..
 have lb:few.length * (2 * B+2)+(2 * B+2)<=900:=by
  have:(few.length+1) * (2 * B+2)<=(KM+2) * (2 * B+2):=Nat.mul_le_mul_right _ (by omega)
  rw [Nat.add_mul,Nat.one_mul] at this;omega
 obtain⟨asV,w1,w2,_,_⟩:=hV
 dsimp only [a_seq]
 k_typeOf
 refine⟨dx2,_,S2.hx,rfl,x2,dx2,Kp2,Cl2,Tb2,Vc,us2,kvs2,M2,_,cs2,pl2,asV,q,rfl,S2,SqL.of (s2 _ _ w1),(w2.same s2).ll,t2,sub1,by rw [lt];omega,by omega,fun H3 us3 kvs3 M3 c pl3 S3 t3 kx ms mf l3=>?_,fun H3 kvs3 M3 D bs ws S3 hR kx ms mf l3 nDM nD eD lD nb Db=>?_⟩
 ·k_units
  exact q1 H3 fun y o e=>kx y o (fun z=>by rw [m2 y z] at e;cases e) (s2 y o e)
 have s3:Same H H3:=fun y o e=>kx y o (fun z=>by rw [m2 y z] at e;cases e) (s2 y o e)
 have S0:=S.same s3
 have hR':=Z.up kept cs pl q few ws hSt hVq fp fk fl hR
 have lw:=Z.len _ _ _ hR
 rw [lt] at lw
 have lbs:=lD.len
 dsimp only [a_seq]
 k_typeOf
 rw [if_neg (fun z=>nomatch z)]
 dsimp only [a_seq]
 k_typeOf
 have lus:(us.map V.ref).length=kept.length:=by rw [List.length_map];exact S.lk
 refine⟨_,_,_,S0.hx,T.cl_Span,T.na_Span_kept,_,rfl,Kp,rfl,⟨_,SqL.of S0.hK⟩,fun D1 nD1=>?_⟩
 obtain⟨Pc,hPc⟩:∃Pc:Nat->Hp->Prop,∀j Hx,Pc j Hx↔∃rs:List Addr,Hx D1=some (.lst (rs.map V.ref))∧LH Hx rs (List.replicate j [])∧D1∉rs∧Same H3 Hx∧∀b∈rs,H3 b=none:=⟨_,fun _ _=>Iff.rfl⟩
 refine cl_list (xs:=us.map V.ref) Pc ((hPc _ _).mpr ⟨[],upd_same,LH.nil _,by simp,same_upd nD1 _,by simp⟩) (fun i Hx _ y=>by obtain⟨_,_,_,_,y,_⟩:=(hPc i Hx).mp y;exact SqL.of (y _ _ S0.hK)) ?_ ?_
 ·intro j v Hx hv hc
  obtain⟨rs,k1,k2,k3,k4,k5⟩:=(hPc _ _).mp hc
  have hj:j < kept.length:=by have:=(List.getElem?_eq_some_iff.mp hv).1;omega
  have lr:=k2.len
  rw [List.length_replicate] at lr
  k_units
  refine⟨Nat.zero_le _,fun p np=>?_⟩
  have ne:p≠D1:=fun z=>by rw [z,k1] at np;cases np
  have u1:=same_upd np (.lst [])
  refine⟨_,u1 _ _ k1,by rw [List.length_map];exact small1000 (by omega),(hPc _ _).mpr ⟨rs++[p],by rw [upd_same,List.map_append];rfl,?_,by simp [k3];exact fun z=>ne z.symm,(k4.trans u1).more nD1,fun b hb=>?_⟩⟩
  ·rw [List.replicate_succ']
   refine LH.snoc ((k2.same u1).upd k3) (by rw [upd_ne ne];exact upd_same)
  ·rcases List.mem_append.mp hb with h | h
   ·exact k5 b h
   ·rw [List.mem_singleton.mp h];exact k4.free np
 intro H4 hc
 obtain⟨rs,k1,k2,k3,k4,k5⟩:=(hPc _ _).mp hc
 rw [lus] at k2
 clear hc hPc Pc
 have lr:=k2.len
 rw [List.length_replicate] at lr
 have eD4:=k4 _ _ eD
 have lD4:=lD.same k4
 obtain⟨bi,bl,rfl⟩:∃bi bl,bs=bi++[bl]:=by
  cases z:bs.getLast? with
  | none=>rw [List.getLast?_eq_none_iff] at z;rw [z] at lbs;simp at lbs;omega
  | some a=>exact⟨_,a,(List.getLast?_eq_some_iff.mp z).choose_spec⟩
 have lbi:bi.length=few.length:=by simp at lbs;omega
 refine⟨_,SqL.of eD4,fun D2 nD2=>⟨D1,rfl,?_⟩⟩
 rw [cut_lst]
 have u2:=same_upd nD2 (.lst [V.ref bl])
 refine⟨_,u2 _ _ k1,_,upd_same,by rw [List.length_map];exact Nat.le_of_lt (small1000 (by simp;omega)),fun Wt nW=>?_⟩
 have u3:=same_upd nW (.lst (rs.map V.ref++[V.ref bl]))
 have s4:=s3.trans (k4.trans (u2.trans u3))
 have eW:=upd_same (H:=L2.upd H4 D2 (.lst [V.ref bl])) (a:=Wt) (o:=.lst (rs.map V.ref++[V.ref bl]))
 have nW0:H Wt=none:=s3.free (k4.free (u2.free nW))
 have s34:=k4.trans (u2.trans u3)
 have lD5:=lD.same s34
 have eD5:=s34 _ _ eD
 have nWD:Wt≠D:=fun z=>by rw [← z] at eD4;rw [u2 _ _ eD4] at nW;cases nW
 have nWb:Wt∉bi++[bl]:=(lD4.same u2).notin nW
 have nWr:Wt∉rs:=(k2.same u2).notin nW
 have k25:=(k2.same u2).same u3
 have eWm:L2.upd (L2.upd H4 D2 (.lst [V.ref bl])) Wt (.lst (rs.map V.ref++[V.ref bl])) Wt=some (.lst ((rs++[bl]).map V.ref)):=by rw [eW,List.map_append];rfl
 have hF5:=s4 _ _ hF
 have nWF:Wt≠Fw:=fun z=>by rw [z,hF] at nW0;cases nW0
 generalize L2.upd (L2.upd H4 D2 (.lst [V.ref bl])) Wt (.lst (rs.map V.ref++[V.ref bl]))=H5 at s4 lD5 eD5 k25 eWm hF5 s34 ⊢
 have hbl:H5 bl=some (.lst ((ws.getD few.length []).map V.int)):=by
  refine lD5.get few.length bl _ (by rw [← lbi];simp) ?_
  rw [List.getD_eq_getElem?_getD,List.getElem?_eq_getElem (by omega)];rfl
 have nbH:∀b∈bi++[bl],H b=none:=fun b hb=>s2.free (nb b hb).2
 have nrH:∀b∈rs,H b=none:=fun b hb=>s3.free (k5 b hb)
 clear u2 u3 nD2 nW eW k1 k2 eD4 lD4 s34
 dsimp only [a_seq]
 k_typeOf
 obtain⟨Pz,hPz⟩:∃Pz:Nat->L2.St->Hp->Prop,∀n σ H',Pz n σ H'↔∃(wb:List Addr) (r4 r7:Option V),σ=[some (V.ref x),some (V.ref Vc),some (V.ref Fw),some (V.ref x2),r4,some (V.ref D),some (V.ref Wt),r7]∧H' Wt=some (.lst (wb.map V.ref))∧LH H' wb (spw kept.length few ws n)∧(∀b∈wb,H b=none∧b≠Wt)∧KB Wt H5 H':=⟨_,fun _ _ _=>Iff.rfl⟩
 have keepF:∀{H':Hp},KB Wt H5 H'->SqL K H' Fw ((few.map fun c:Nat=>(c:Int)).map V.int)∧SqL K H' D ((bi++[bl]).map V.ref):=fun {H'} k=>⟨SqL.of (k _ _ (Ne.symm nWF) hF5),SqL.of (k _ _ (Ne.symm nWD) eD5)⟩
 obtain⟨kf1,kf2⟩:=keepF (KB.of (Same.refl H5))
 refine⟨_,kf1,_,kf2,lp_zip (xs:=(few.map fun c:Nat=>(c:Int)).map V.int) (ys:=(bi++[bl]).map V.ref) Pz ((hPz _ _ _).mpr ⟨rs++[bl],_,_,rfl,eWm,by rw [spw];exact k25.snoc hbl,fun b hb=>?_,KB.of (Same.refl _)⟩) (fun n σ H' _ _ y=>by obtain⟨_,_,_,_,_,_,_,y⟩:=(hPz n σ H').mp y;exact keepF y) ?_ ?_⟩
 ·rcases List.mem_append.mp hb with h | h
  ·exact⟨nrH b h,fun z=>nWr (by rw [← z];exact h)⟩
  ·rw [List.mem_singleton.mp h];exact⟨nbH bl (by simp),fun z=>nWb (by rw [← z];simp)⟩
 ·intro n v1 v2 pr σ H6 e1 e3 hp' npr
  obtain⟨wb,t4,t7,rfl,eW,lW,nW',kb⟩:=(hPz _ _ _).mp hp'
  rw [List.getElem?_map,List.getElem?_map] at e1
  obtain⟨j',hj',rfl⟩:=Option.map_eq_some_iff.mp e1
  obtain⟨j,hj,rfl⟩:=Option.map_eq_some_iff.mp hj'
  rw [List.getElem?_map] at e3
  obtain⟨b,hb,rfl⟩:=Option.map_eq_some_iff.mp e3
  have hn:n < few.length:=(List.getElem?_eq_some_iff.mp hj).1
  have hjk:=fk j (List.mem_of_getElem? hj)
  have w1:=same_upd npr (.tup [V.int (j:Int),V.ref b])
  have nbW:b≠Wt:=fun z=>nWb (by rw [← z];exact List.mem_of_getElem? hb)
  have hws:ws[n]?=some (ws.getD n []):=by rw [List.getD_eq_getElem?_getD,List.getElem?_eq_getElem (by omega)];rfl
  have hb5:=lD5.get n b _ hb hws
  have lwb:=lW.len
  rw [spw_len] at lwb
  have ef:few.getD n 0=j:=by rw [List.getD_eq_getElem?_getD,hj];rfl
  k_units
  refine⟨_,SqT.of upd_same,rfl,_,_,rfl,_,_,rfl,rfl,_,(j:Int),rfl,w1 _ _ eW,j,ixN_nat (by rw [List.length_map];omega),(hPz _ _ _).mpr ⟨wb.set j b,_,_,rfl,by rw [upd_same,List.map_set],?_,fun c hc=>?_,(kb.on w1).set⟩⟩
  ·rw [spw,ef]
   exact ((lW.same w1).upd (fun z=>(nW' _ z).2 rfl)).set (by rw [upd_ne nbW];exact w1 _ _ (kb _ _ nbW hb5)) j
  ·rcases List.mem_or_eq_of_mem_set hc with h | h
   ·exact nW' c h
   ·rw [h];exact⟨nbH b (List.mem_of_getElem? hb),nbW⟩
 intro σ H6 hp'
 obtain⟨wb,t4,t7,rfl,eW,lW,nW',kb⟩:=(hPz _ _ _).mp hp'
 have hmin:min ((few.map fun c:Nat=>(c:Int)).map V.int).length ((bi++[bl]).map V.ref).length=few.length:=by simp;omega
 rw [hmin] at lW
 k_units
 refine q2 H6 Wt wb _ (fun y o e=>kb y o (fun z=>by rw [z,nW0] at e;cases e) (s4 y o e)) hR' nW0 eW lW (fun b hb=>(nW' b hb).1) fun z=>(nW' _ z).2 rfl
def newLL (H:Hp) (Q:VK) (ds:List (List Int)):Prop:=∀(D:Addr) (bs:List Addr) H',Same H H'->H D=none->H' D=some (.lst (bs.map V.ref))->LH H' bs ds->(∀b∈bs,H b=none)->D∉bs->bs.Nodup->Q (.ref D) H'
theorem cl_ll {K:PySem.W.Frag} {a:Addr} {as:List Addr} {ps ds:List (List Int)} {fv:List (Nat×Str)} {te:TE} {Q:VK} {σ:L2.St} {H1:Hp} {D:Addr} (nD:H1 D=none) (hA:SqL K H1 a (as.map V.ref)) (hL:LL K H1 as ps) (hd:ds.length=ps.length) (hl:ps.length<=900)
  (hs:∀(i:Nat) (b:Addr) (p d:List Int) (Hx:Hp) (R:VK),ps[i]?=some p->ds[i]?=some d->Same H1 Hx->SqL K Hx b (p.map V.int)->newL Hx R (d.map V.int)->te (bst fv σ (some (V.ref b))) Hx R) (he:newLL H1 Q ds):CLoop (Itl K a) fv te Q σ H1 D:=by
 obtain⟨Pc,hPc⟩:∃Pc:Nat->Hp->Prop,∀j Hx,Pc j Hx↔∃bs:List Addr,Hx D=some (.lst (bs.map V.ref))∧LH Hx bs (ds.take j)∧D∉bs∧bs.Nodup∧(∀b∈bs,H1 b=none)∧Same H1 Hx:=⟨_,fun _ _=>Iff.rfl⟩
 refine cl_list (xs:=as.map V.ref) Pc ((hPc _ _).mpr ⟨[],upd_same,LH.nil _,by simp,List.nodup_nil,by simp,same_upd nD _⟩) (fun i Hx _ z=>by obtain⟨_,_,_,_,_,_,z⟩:=(hPc i Hx).mp z;exact z.seq hA) ?_ ?_
 ·intro j v Hx hv hc
  obtain⟨bs,k1,k2,k3,k4,k5,k6⟩:=(hPc _ _).mp hc
  obtain⟨b,p,rfl,hb,hp,hB⟩:=hL.nth hv
  have hj:j < ps.length:=(List.getElem?_eq_some_iff.mp hp).1
  have hdj:ds[j]?=some ds[j]:=List.getElem?_eq_getElem (by omega)
  refine hs j b p _ Hx _ hp hdj k6 (k6.seq hB) fun F H2 s2 nF eF=>?_
  have lk:=k2.len
  rw [List.length_take] at lk
  have nFD:F≠D:=fun z=>by rw [z,k1] at nF;cases nF
  have nFb:F∉bs:=k2.notin nF
  have m1:D∉bs++[F]:=fun z=>by
   rcases List.mem_append.mp z with z | z
   ·exact k3 z
   ·exact nFD (List.mem_singleton.mp z).symm
  refine⟨_,s2 _ _ k1,by rw [List.length_map];exact small1000 (by omega),(hPc _ _).mpr ⟨bs++[F],by rw [upd_same];simp,?_,m1,?_,?_,(k6.trans s2).more nD⟩⟩
  ·have e:ds.take (j+1)=ds.take j++[ds[j]]:=by rw [List.take_succ,hdj];rfl
   rw [e]
   exact ((k2.same s2).snoc eF).upd m1
  ·exact List.nodup_append.mpr ⟨k4,by simp,fun x hx y hy z=>nFb (by rw [List.mem_singleton.mp hy] at z;rw [← z];exact hx)⟩
  ·intro x hx
   rcases List.mem_append.mp hx with z | z
   ·exact k5 x z
   ·rw [List.mem_singleton.mp z];exact k6.free nF
 ·intro H' hc
  obtain⟨bs,k1,k2,k3,k4,k5,k6⟩:=(hPc _ _).mp hc
  rw [List.length_map,hL.len,← hd,List.take_length] at k2
  exact he D bs H' k6 nD k1 k2 k5 k3 k4
theorem cl_rangeIf {lo:Int} {n:Nat} {σ:L2.St} {H1:Hp} {fv:List (Nat×Str)} {tt:TT} {te:TE} {Q:VK} {L:Addr} (Pv:Nat->Hp->Prop) (h0:Pv 0 (L2.upd H1 L (.lst [])))
  (hs:∀i H,i < n->Pv i H->tt (bst fv σ (some (.int (lo+i)))) H fun b Hb=>if b=true then te (bst fv σ (some (.int (lo+i)))) Hb fun y H2=>∃ys,H2 L=some (.lst ys)∧ys.length < sizeLine∧Pv (i+1) (L2.upd H2 L (.lst (ys++[y]))) else Pv (i+1) Hb) (hd:∀H,Pv n H->Q (.ref L) H):
  CLoopIf (Itr lo n) fv tt te Q σ H1 L:=by
 refine⟨fun i m H=>m=n - i∧i<=n∧Pv i H,⟨n,by simp,Nat.zero_le _,h0⟩,?_⟩
 rintro i m H ⟨rfl,hi,p⟩
 by_cases hlt:i < n
 ·refine .inr ⟨hlt,Pv (i+1),fun H' p'=>⟨n - (i+1),by omega,rfl,hlt,p'⟩,fun v H' y=>?_⟩
  obtain⟨e,y⟩:=y
  subst e y
  exact hs i _ hlt p
 ·have e:i=n:=by omega
  subst e
  exact .inl ⟨Nat.le_refl _,hd H p⟩
theorem ok_Span_take {P:Program} {wd:World} {K:PySem.W.Frag} {mg:Str->Option Value} {base:Heap} (T:Tx K mg) {w B KM:Nat} {St:List (List (List Int))->List Nat->Int->Prop} {Vq:List (List (List Int))->List (List Int)->Prop} {Rl:List (List (List Int))->List (List Int)->List (List Int)->Prop} (Z:SpTh w B KM St Vq Rl):∀d:Nat,FnOk P wd K mg base CX0 (2 * d+9) T.a_Span_take T.fd_Span_take ["self","vector"] (spTake T w B St Vq Rl d)
 | 0=>T.F_Span_take.ok sc_Span_take (fun _ _ _ _ h=>by obtain⟨_,_,_,_,_,_,_,_,_,_,_,_,_,_,_,_,_,_,_,_,z,_⟩:=h;exact absurd z (Nat.not_lt_zero _)) (fun _ _ _ _ _ _ _ _ _ h=>by obtain⟨_,_,_,_,_,_,_,_,_,_,_,_,_,_,_,_,_,_,_,_,z,_⟩:=h;exact absurd z (Nat.not_lt_zero _))
 | d+1=>by
  have F:=ok_Span_by_few (P:=P) (wd:=wd) (base:=base) T Z d (ok_Span_take T Z d)
  refine T.F_Span_take.ok sc_Span_take (fun vs H Q E h=>?_) (fun cdv A outer s H vs Q E hr h=>?_)
  ·obtain⟨x,dx,Kp,Cl,Tb,Vc,us,kvs,M,kept,cs,pl,as,q,rfl,_⟩:=h
   rfl
  obtain⟨x,dx,Kp,Cl,Tb,Vc,us,kvs,M,kept,cs,pl,as,q,rfl,S,hV,hL,hSt,hVq,kd,l9,q1,q2⟩:=h
  refine⟨_,((pss_cons (ps_setC (i:=2) rfl (blkok rfl sub_nil fv_nil) (pi_list (pv 1)) (fun _ _ _ _=>(pe_callTy (call_list_ofK (K:=K) rfl) rfl T.z_list bt_list (pa_cons (pv 0) pa_nil))) sc_Span_take.nd rfl rfl)
  (pss_cons (ps_set (i:=3) sc_Span_take.nd rfl (Or.inr rfl) (pe_meth (pv 0) T.cl_Span T.me_Span_lowered_at (FnOk.mono (ok_Span_lowered_at T) (by omega)) hr T.b_Span_lowered_at .nil pass0 (pa_cons (pv 2) (pa_cons (pe_fld (pv 0) rfl) pa_nil))))
  (pss_cons (ps_for PassesOwn.never rfl (pi_range1 rfl T.z_range (pa_cons (pe_fld (pv 0) rfl) pa_nil)) (pg_name (i:=4) sc_Span_take.nd rfl (Or.inl rfl)) (pss_one (ps_if (pt_cmpR op_ne (pe_ix ix_list (pv 3) (pv 4) (fun _ _=>rfl)) pe_int (nomark _)) (pss_cons (ps_expr (pe_meth (pv 0) T.cl_Span T.me_Span_keep (FnOk.mono (ok_Span_keep T) (by omega)) hr T.b_Span_keep .nil pass0 (pa_cons (pv 2) (pa_cons (pv 4) pa_nil))))
  (pss_one (ps_ret pe_non))) pss_nil)))
  (pss_cons (ps_setCIf (i:=5) rfl (blkok rfl (sub_cons rfl (sub_cons rfl sub_nil)) (fv_cons 3 "row" (by decide) rfl (Or.inl rfl) (Or.inl rfl) ⟨_,rfl⟩ (fv_cons 0 "self" (by decide) rfl (Or.inl rfl) (Or.inl rfl) ⟨_,rfl⟩ fv_nil))) (pi_range1 rfl T.z_range (pa_cons (pe_callB call_len_seq rfl T.z_len bt_len (pa_cons (pe_fld (pv 0) rfl) pa_nil)) pa_nil)) (fun _ _ _ _=>(pt_cmpR op_ne (pe_ix (ix_listK (K:=K) rfl) (pv 1) (pe_op op_add (pe_fldK (K:=K) rfl (pv 2) rfl) (pv 0)) (fun _ _=>rfl)) pe_int (nomark _))) (fun _ _ _ _=>(pv 0)) sc_Span_take.nd rfl rfl)
  (pss_mid (ps_set (i:=6) sc_Span_take.nd rfl (Or.inl rfl) (pe_ifExp (pt_cmpR op_lt (pe_callB call_len_seq rfl T.z_len bt_len (pa_cons (pv 5) pa_nil)) (pe_callB call_len_seq rfl T.z_len bt_len (pa_cons (pe_fld (pv 0) rfl) pa_nil)) (nomark _)) (pe_meth (pv 0) T.cl_Span T.me_Span_by_few (FnOk.mono F (by omega)) hr T.b_Span_by_few .nil pass0 (pa_cons (pv 2) (pa_cons (pv 5) pa_nil))) pe_non))
  (pss_cons (ps_if (pt_cmpR op_notN (pv 6) pe_non (nomark _)) (pss_one (ps_ret (pv 6))) pss_nil)
  (pss_cons (ps_set (i:=6) sc_Span_take.nd rfl (Or.inl rfl) (pe_meth (pv 0) T.cl_Span T.me_Span_only_choice (FnOk.mono (ok_Span_only_choice T) (by omega)) hr T.b_Span_only_choice .nil pass0 (pa_cons (pv 2) pa_nil)))
  (pss_cons (ps_set (i:=4) sc_Span_take.nd rfl (Or.inl rfl) (pe_meth (pv 0) T.cl_Span T.me_Span_failing_column (FnOk.mono (ok_Span_failing_column T) (by omega)) hr T.b_Span_failing_column .nil pass0 (pa_cons (pv 2) (pa_cons (pv 6) pa_nil))))
  (pss_cons (ps_if (pt_cmpR op_isN (pv 4) pe_non (nomark _)) (pss_one (ps_ret (pv 6))) pss_nil)
  (pss_cons (ps_expr (pe_meth (pv 0) T.cl_Span T.me_Span_keep (FnOk.mono (ok_Span_keep T) (by omega)) hr T.b_Span_keep .nil pass0 (pa_cons (pv 2) (pa_cons (pv 4) pa_nil))))
  (pss_one (ps_ret pe_non))))))))))))),?_⟩
  obtain⟨k18,qw,bq⟩:=Z.bd kept cs pl q hSt hVq
  obtain⟨tb,pv,lo⟩:=Z.tb kept cs pl q hSt hVq
  have kM:=Z.k18
  have b3:=Z.b3
  have b1:2 * (2 * B+2)<=900:=Nat.le_trans (Nat.mul_le_mul_right _ (by omega)) b3
  have w20:=tb.w20
  have lk:=S.lk
  have lc:=S.lc
  dsimp only [a_seq]
  k_typeOf
  refine⟨⟨_,hV⟩,fun D nD=>cl_ll (ps:=q) (ds:=q) nD hV hL rfl (by omega) (fun i b p d Hx R' hp hd sx hb hR'=>?_) (fun O ob H1 s1 nO eO lO nOb Oob nd=>?_)⟩
  ·have e:d=p:=by rw [hp] at hd;exact (Option.some.inj hd).symm
   subst e
   (iterate 3 (k_units;(try simp only [bst]));k_units)
   exact⟨_,.inl hb,fun l hl=>hR' l _ (same_upd hl _) hl upd_same⟩
  have S1:=S.same s1
  have nM:∀a,H a=none->a∉M:=fun a ha z=>by obtain⟨o,e⟩:=S.al a z;rw [ha] at e;cases e
  have V1:VecAt H1 M O q:=⟨ob,eO,lO,nM O nO,fun a ha=>nM a (nOb a ha)⟩
  clear eO lO nOb Oob nd
  dsimp only [a_seq]
  k_typeOf
  refine⟨dx,_,S1.hx,rfl,_,_,_,S1.hx,T.cl_Span,T.na_Span_place,_,rfl,x,dx,Kp,Cl,Tb,O,us,kvs,M,w,kept,cs,pl,pl,q,rfl,S1,tb,by omega,by omega,V1,by omega,fun f hf=>⟨by have:=(bq f hf).1;omega,(bq f hf).2⟩,fun _=>lo,fun H2 kvs2 M2 S2 kw2 ms2 mf2 l2 tk2=>⟨fun R nR eR _=>?_,fun np=>absurd pv np⟩⟩
  have kx2:KX M H H2:=fun y o ny e=>S1.kx kw2 y o ny (s1 y o e)
  have V2:=(V1.more mf2).kx (fun y o ny e=>S1.kx kw2 y o (fun z=>ny (ms2 y z)) e)
  have mf2':∀a∈M2,a∈M∨H a=none:=fun a ha=>(mf2 a ha).imp (fun h=>h) s1.free
  clear mf2 tk2 kw2 V1 S1
  have hll:(lowV w kept cs q pl).length=w+(w+1):=by
   unfold lowV;rw [low_len lo kept.length (by rw [tabR_len];exact Nat.le_refl _)];unfold rowA;rw [List.length_append,List.length_map,List.length_map,List.length_range,qw]
  dsimp only [a_seq]
  k_typeOf
  refine⟨_,_,_,S2.hx,T.cl_Span,T.na_Span_width,_,rfl,_,rfl,by omega,by omega,?_⟩
  rw [Int.toNat_natCast]
  obtain⟨Pv,hPv⟩:∃Pv:Nat->L2.St->Hp->Prop,∀i σ H',Pv i σ H'↔∃r4:Option V,σ=[some (V.ref x),some (V.ref Vc),some (V.ref O),some (V.ref R),r4,none,none]∧H'=H2∧∀c,c < i->co (lowV w kept cs q pl) c=0:=⟨_,fun _ _ _=>Iff.rfl⟩
  refine lp_range Pv ((hPv _ _ _).mpr ⟨none,rfl,rfl,fun c hc=>by omega⟩) ?_ ?_
  ·intro i σ H' hi hp
   obtain⟨r4,rfl,rfl,hz⟩:=(hPv _ _ _).mp hp
   have e0:(0:Int)+(i:Int)=(i:Int):=Int.zero_add _
   (iterate 3 (k_units;(try simp only [e0]));k_units)
   refine⟨_,SqL.of eR,_,co_at (by omega),?_⟩
   k_units
   refine ite2 (fun z=>?_) (fun z=>(hPv _ _ _).mpr ⟨_,rfl,rfl,fun c hc=>?_⟩)
   ·obtain⟨ht1,ht2⟩:=Z.hit kept cs pl q i hSt hVq hi (by simpa using z)
    have pv1:=piv_snoc lc pv (show co (lowV w kept cs q pl) i≠0 by simpa using z)
    have e00:pl+((0:Nat):Int)=pl:=by omega
    refine⟨dx,_,S2.hx,rfl,x,dx,Kp,Cl,Tb,O,us,kvs2,M2,w,kept,cs,pl,q,i,0,rfl,S2,V2,by omega,by omega,fun t ht=>?_,by rw [e00];exact pv1,fun H3 kvs3 M3 t ht S3 pv3 kx3 ms3 mf3 l3=>?_⟩
    ·rw [show t=0 by omega,e00];exact ht2
    ·have et:t=0:=by omega
     subst et
     have hs:=Z.stS kept cs pl q i 0 hSt hVq hi ht1 (Nat.zero_le _) pv3
     exact q1 H3 _ kvs3 M3 i _ S3 hs (kx2.trans kx3 mf2') (fun a h=>ms3 a (ms2 a h)) (mf_trans kx2 mf2' mf3) (by omega)
   ·by_cases y:c=i
    ·rw [y];simpa using z
    ·exact hz c (by omega)
  intro σ H' hp
  obtain⟨r4,rfl,rfl,hz⟩:=(hPv _ _ _).mp hp
  clear hp hPv Pv
  obtain⟨gs,Pn,f,qs,p0,t0,O1,O2,O3,O4,O5,O6,O7⟩:=Z.oc kept cs pl q hSt hVq hz
  have lus:(us.map V.ref).length=kept.length:=by rw [List.length_map];exact S.lk
  dsimp only [a_seq]
  k_typeOf
  refine⟨_,_,_,S2.hx,T.cl_Span,T.na_Span_kept,_,rfl,Kp,rfl,_,.inl (SqL.of S2.hK),by rw [lus];omega,by rw [lus];omega,fun Fw nFw=>?_⟩
  rw [lus,Int.toNat_natCast]
  obtain⟨fw,hfw⟩:∃fw:Nat->List Nat,∀j,fw j=(List.range j).filter fun n=>decide (co (lowV w kept cs q pl) (w+n)≠0):=⟨_,fun _=>rfl⟩
  have fw0:fw 0=[]:=by rw [hfw];rfl
  have fwl:∀j,(fw j).length<=j:=fun j=>by rw [hfw];exact Nat.le_trans (List.length_filter_le _ _) (by rw [List.length_range];exact Nat.le_refl _)
  have fws:∀j,fw (j+1)=if co (lowV w kept cs q pl) (w+j)≠0 then fw j++[j] else fw j:=fun j=>by
   rw [hfw,hfw,List.range_succ,List.filter_append]
   by_cases z:co (lowV w kept cs q pl) (w+j)=0 <;> simp [z]
  have fp:(fw kept.length).Pairwise (· < ·):=by rw [hfw];exact List.pairwise_lt_range.filter _
  have fk:∀i∈fw kept.length,i < kept.length:=fun i hi=>by rw [hfw] at hi;exact List.mem_range.mp (List.mem_filter.mp hi).1
  obtain⟨Pc,hPc⟩:∃Pc:Nat->Hp->Prop,∀j Hx,Pc j Hx↔Hx Fw=some (.lst (((fw j).map fun c:Nat=>(c:Int)).map V.int))∧Same H' Hx:=⟨_,fun _ _=>Iff.rfl⟩
  have kw:=O1.kw
  refine cl_rangeIf Pc ((hPc _ _).mpr ⟨by rw [upd_same,fw0];rfl,same_upd nFw _⟩) ?_ ?_
  ·intro j Hx hj hc
   obtain⟨k1,k2⟩:=(hPc _ _).mp hc
   have e0:(0:Int)+(j:Int)=(j:Int):=Int.zero_add _
   have e1:(w:Int)+(j:Int)=((w+j:Nat):Int):=by omega
   have S2x:=S2.same k2
   have lj:=fwl j
   (iterate 3 (k_units;(try simp only [bst2,bst,e0,Option.getD_some]));k_units)
   refine⟨_,_,_,S2x.hx,T.cl_Span,T.na_Span_width,_,rfl,_,rfl,_,SqL.of (k2 _ _ eR),_,by rw [e1];exact co_at (by omega),?_⟩
   k_units
   refine ite2 (fun z=>⟨_,k1,by rw [List.length_map,List.length_map];exact small1000 (by omega),(hPc _ _).mpr ⟨?_,k2.more nFw⟩⟩) (fun z=>(hPc _ _).mpr ⟨?_,k2⟩)
   ·rw [upd_same,fws,if_pos (by simpa using z),List.map_append,List.map_append];rfl
   ·rw [k1,fws,if_neg (by simpa using z)]
  intro H3 hc
  obtain⟨eF,s3⟩:=(hPc _ _).mp hc
  clear hc hPc Pc
  generalize fw kept.length=few at fp fk eF
  clear hfw fw0 fwl fws
  have S3:=S2.same s3
  have V3:=V2.same s3
  have kx3:KX M H H3:=fun y o ny e=>s3 _ _ (kx2 y o ny e)
  have nM2:∀a,H' a=none->a∉M2:=fun a ha z=>by obtain⟨o,e⟩:=S2.al a z;rw [ha] at e;cases e
  have nH2:∀a,H' a=none->H a=none:=fun a ha=>by
   cases e:H a with
   | none=>rfl
   | some o=>
    by_cases m:a∈M
    ·exact absurd (ms2 a m) (nM2 a ha)
    ·rw [kx2 a o m e] at ha;cases ha
  obtain⟨Mx,hMx⟩:∃Mx:L2.St->Hp->Prop,∀σ H',Mx σ H'↔∃v6:V,σ=[some (V.ref x),some (V.ref Vc),some (V.ref O),some (V.ref R),r4,some (V.ref Fw),some v6]∧Same H3 H'∧(v6=.non∨∃(D:Addr) (bs:List Addr) (ws:List (List Int)),v6=.ref D∧Rl kept q ws∧H3 D=none∧H' D=some (.lst (bs.map V.ref))∧LH H' bs ws∧(∀b∈bs,H3 b=none)∧D∉bs):=⟨_,fun _ _=>Iff.rfl⟩
  refine mid_of Mx ?_ ?_
  ·k_units
   refine⟨_,.inl (SqL.of eF),_,_,_,S3.hx,T.cl_Span,T.na_Span_kept,_,rfl,Kp,rfl,_,.inl (SqL.of S3.hK),?_⟩
   rw [lus,List.length_map,List.length_map]
   refine ite2 (fun z=>?_) (fun z=>(hMx _ _).mpr ⟨_,rfl,Same.refl _,.inl rfl⟩)
   refine⟨dx,_,S3.hx,rfl,x,dx,Kp,Cl,Tb,O,Fw,us,kvs2,M2,kept,cs,pl,q,few,rfl,S3,V3,eF,hSt,hVq,by omega,fp,fk,by omega,fun H4 s4=>(hMx _ _).mpr ⟨_,rfl,s4,.inl rfl⟩,fun H4 D bs ws s4 hR nD eD lD nb Db=>(hMx _ _).mpr ⟨_,rfl,s4,.inr ⟨D,bs,ws,rfl,hR,nD,eD,lD,nb,Db⟩⟩⟩
  intro σ H4 hm
  obtain⟨v6,rfl,s4,hv6⟩:=(hMx _ _).mp hm
  clear hm hMx Mx
  have S4:=S3.same s4
  have V4:=V3.same s4
  have kx4:KX M H H4:=fun y o ny e=>s4 _ _ (kx3 y o ny e)
  dsimp only [a_seq]
  k_typeOf
  rcases hv6 with rfl | ⟨D,bs,ws,rfl,hR,nD,eD,lD,nb,Db⟩
  ·rw [if_neg (fun z=>z rfl)]
   dsimp only [a_seq]
   k_typeOf
   refine⟨dx,_,S4.hx,rfl,x,dx,Kp,Cl,Tb,O,us,kvs2,M2,w,kept,cs,pl,q,gs,Pn,f,qs,p0,t0,rfl,S4,V4,O1,by omega,O3,O4,fun H5 kvs5 M5 D bs S5 kx5 ms5 mf5 l5 nDM nD eD lD nb Db=>?_⟩
   have kx05:=kx4.trans kx5 mf2'
   have mf05:=mf_trans kx4 mf2' mf5
   have V5:=(V4.more mf5).kx (fun y o ny e=>kx5 y o (fun z=>ny (ms5 y z)) e)
   have n5:∀a,H4 a=none->H a=none:=fun a ha=>nH2 a (s3.free (s4.free ha))
   dsimp only [a_seq]
   k_typeOf
   refine⟨dx,_,S5.hx,rfl,x,dx,Kp,Cl,Tb,O,D,us,kvs5,M5,w,kept,cs,pl,q,bs,qs,rfl,S5,V5,SqL.of eD,lD.ll,O5,fun H6 s6=>⟨fun c hcw hcn hs hb=>?_,fun hall=>?_⟩⟩
   ·obtain⟨N,N1,N2,N3⟩:=O7 c hcw hcn hs
    have S6:=S5.same s6
    k_units
    rw [if_neg (fun z=>nomatch z)]
    refine⟨dx,_,S6.hx,rfl,x,dx,Kp,Cl,Tb,O,us,kvs5,M5,w,kept,cs,pl,q,c,N,rfl,S6,V5.same s6,by omega,by omega,N2,N3,fun H7 kvs7 M7 t ht S7 pv7 kx7 ms7 mf7 l7=>?_⟩
    have hs:=Z.stS kept cs pl q c t hSt hVq hcw hcn (by omega) pv7
    have kx06:KX M H H6:=fun y o ny e=>s6 _ _ (kx05 y o ny e)
    exact q1 H7 _ kvs7 M7 c _ S7 hs (kx06.trans kx7 mf05) (fun a h=>ms7 a (ms5 a (ms2 a h))) (mf_trans kx06 mf05 mf7) (by omega)
   ·have S6:=S5.same s6
    k_units
    exact q2 H6 kvs5 M5 D bs qs S6 (O6 hall) (fun y o ny e=>s6 _ _ (kx05 y o ny e)) (fun a h=>ms5 a (ms2 a h)) mf05 (by omega) nDM (n5 D nD) (s6 _ _ eD) (lD.same s6) (fun b hb=>⟨(nb b hb).1,n5 b (nb b hb).2⟩) Db
  ·rw [if_pos (fun z=>nomatch z)]
   have n4:∀a,H3 a=none->a∉M2∧H a=none:=fun a ha=>⟨nM2 a (s3.free ha),nH2 a (s3.free ha)⟩
   exact q2 H4 kvs2 M2 D bs ws S4 hR kx4 ms2 mf2' (by omega) (n4 D nD).1 (n4 D nD).2 eD lD (fun b hb=>n4 b (nb b hb)) Db
def spRel {K:PySem.W.Frag} (w B KM:Nat) (St:List (List (List Int))->List Nat->Int->Prop) (Vq:List (List (List Int))->List (List Int)->Prop) (Rl:List (List (List Int))->List (List Int)->List (List Int)->Prop):Sp:=fun vs H Q _=>∃(A:Addr) (us:List Addr) (qs:List (List (List Int))),vs=[.ref A]∧SqL K H A (us.map V.ref)∧VL K H us qs∧(∀q,qs[0]?=some q->q.length=w)∧qs≠[]∧qs.length<=KM+2∧(∀(i:Nat) (q:List (List Int)) (cs:List Nat) (pl:Int),qs[i]?=some q->St (qs.take i) cs pl->Vq (qs.take i) q)∧
 (∀(H':Hp) (i:Nat) (q:List (List Int)) (D:Addr) (bs:List Addr) (ws:List (List Int)) (cs:List Nat) (pl:Int),qs[i]?=some q->St (qs.take i) cs pl->Rl (qs.take i) q ws->Same H H'->H D=none->H' D=some (.lst (bs.map V.ref))->LH H' bs ws->(∀b∈bs,H b=none)->D∉bs->Q (.ref D) H')∧
 (∀(H':Hp) (cs:List Nat) (pl:Int),St qs cs pl->Same H H'->Q .non H')
theorem ok_relation' {P:Program} {wd:World} {K:PySem.W.Frag} {mg:Str->Option Value} {base:Heap} (T:Tx K mg) {w B KM:Nat} {St:List (List (List Int))->List Nat->Int->Prop} {Vq:List (List (List Int))->List (List Int)->Prop} {Rl:List (List (List Int))->List (List Int)->List (List Int)->Prop} (Z:SpTh w B KM St Vq Rl):FnOk P wd K mg base CX0 (2 * (KM+2)+10) T.a_relation T.fd_relation ["vectors"] (spRel (K:=K) w B KM St Vq Rl):=by
 have F:=ok_Span_take (P:=P) (wd:=wd) (base:=base) T Z (KM+2)
 refine T.F_relation.ok sc_relation (fun vs H Q E h=>?_) (fun cdv A outer s H vs Q E hr h=>?_)
 ·obtain⟨A,us,qs,rfl,_⟩:=h
  rfl
 obtain⟨A,us,qs,rfl,hA,hL,hw,ne,lq,hVq,q1,q2⟩:=h
 refine⟨_,((pss_cons (ps_if (pt_cmpR op_eq (pe_callB call_len_seq rfl T.z_len bt_len (pa_cons (pv 0) pa_nil)) pe_int (nomark _)) (pss_one (ps_ret pe_non)) pss_nil)
  (pss_cons (ps_set (i:=1) sc_relation.nd rfl (Or.inl rfl) (pe_make T.mk_Span (FnOk.mono (ok_Span___init__ T) (by omega)) hr rfl T.mc_Span T.b_Span___init__ .nil pass0 (pa_cons (pe_callB call_len_seq rfl T.z_len bt_len (pa_cons (pe_ix ix_list (pv 0) pe_int (fun _ _=>rfl)) pa_nil)) pa_nil)))
  (pss_cons (ps_for PassesOwn.never rfl (pi_list (pv 0)) (pg_name (i:=2) sc_relation.nd rfl (Or.inl rfl)) (pss_cons (ps_set (i:=3) sc_relation.nd rfl (Or.inl rfl) (pe_meth (pv 1) T.cl_Span T.me_Span_take (FnOk.mono F (by omega)) hr T.b_Span_take .nil pass0 (pa_cons (pv 2) pa_nil)))
  (pss_one (ps_if (pt_cmpR op_notN (pv 3) pe_non (nomark _)) (pss_one (ps_ret (pv 3))) pss_nil))))
  (pss_one (ps_ret pe_non)))))),?_⟩
 have lu:=hL.len
 have b3:=Z.b3
 have l0:0 < qs.length:=List.length_pos_iff.mpr ne
 dsimp only [a_seq]
 k_typeOf
 refine⟨_,.inl hA,?_⟩
 rw [if_neg (by rw [List.length_map];omega)]
 dsimp only [a_seq]
 k_typeOf
 have hu0:us[0]?=some us[0]:=List.getElem?_eq_getElem (by omega)
 have hq0:qs[0]?=some qs[0]:=List.getElem?_eq_getElem l0
 obtain⟨as0,a1,a2⟩:=hL.get 0 _ _ hu0 hq0
 have ew:(as0.map V.ref).length=w:=by rw [List.length_map,a2.len,hw _ hq0]
 refine⟨_,hA,_,atI_nat (j:=0) (by rw [List.getElem?_map,hu0];rfl),_,rfl,_,.inl a1,?_⟩
 rw [ew]
 refine mk_span fun x dx Kp Cl Tb M H1 s1 m1 S1=>?_
 dsimp only [a_seq]
 k_typeOf
 obtain⟨Pv,hPv⟩:∃Pv:Nat->L2.St->Hp->Prop,∀i σ H',Pv i σ H'↔∃(vs:List Addr) (kvs:List (Key×V)) (M:List Addr) (cs:List Nat) (pl:Int) (r2 r3:Option V),σ=[some (V.ref A),some (V.ref x),r2,r3]∧Spn T H' x dx Kp Cl Tb vs kvs M w (qs.take i) cs pl∧St (qs.take i) cs pl∧(∀a∈M,H a=none)∧kvs.length<=i * (2 * B+2)∧Same H H':=⟨_,fun _ _ _=>Iff.rfl⟩
 refine⟨⟨_,s1.seq hA⟩,lp_list (xs:=us.map V.ref) Pv ((hPv _ _ _).mpr ⟨[],[],M,[],97,none,none,rfl,S1,Z.st0,m1,Nat.zero_le _,s1⟩) (fun i σ H' _ z=>by obtain⟨_,_,_,_,_,_,_,_,_,_,_,_,z⟩:=(hPv i σ H').mp z;exact z.seq hA) ?_ ?_⟩
 ·intro i v σ H2 hv hp
  obtain⟨vs,kvs,M,cs,pl,r2,r3,rfl,S2,t2,m2,l2,s2⟩:=(hPv _ _ _).mp hp
  rw [List.getElem?_map] at hv
  obtain⟨u,hu,rfl⟩:=Option.map_eq_some_iff.mp hv
  have hi:i < qs.length:=by have:=(List.getElem?_eq_some_iff.mp hu).1;omega
  have hq:qs[i]?=some qs[i]:=List.getElem?_eq_getElem hi
  obtain⟨as,w1,w2⟩:=hL.get i u _ hu hq
  have vq:=hVq i _ cs pl hq t2
  have et:qs.take (i+1)=qs.take i++[qs[i]]:=by rw [List.take_succ,hq];rfl
  have lb:i * (2 * B+2)+(2 * B+2)<=900:=by
   have:(i+1) * (2 * B+2)<=(KM+2) * (2 * B+2):=Nat.mul_le_mul_right _ (by omega)
   rw [Nat.add_mul,Nat.one_mul] at this;omega
  k_units
  refine⟨dx,_,S2.hx,rfl,x,dx,Kp,Cl,Tb,u,vs,kvs,M,_,cs,pl,as,qs[i],rfl,S2,s2.seq w1,w2.same s2,t2,vq,by rw [List.length_take];omega,by omega,fun H3 us3 kvs3 M3 c pl3 S3 t3 kx ms mf l3=>?_,fun H3 kvs3 M3 D bs ws S3 hR kx ms mf l3 nDM nD eD lD nb Db=>?_⟩
  ·show if ¬V.non=V.non then _ else Pv (i+1) _ H3
   rw [if_neg (fun z=>z rfl)]
   have s3:Same H H3:=fun y o e=>kx y o (fun z=>by rw [m2 y z] at e;cases e) (s2 y o e)
   refine (hPv _ _ _).mpr ⟨us3,kvs3,M3,_,pl3,_,_,rfl,by rw [et];exact S3,by rw [et];exact t3,fun a ha=>?_,by rw [Nat.add_mul,Nat.one_mul];omega,s3⟩
   rcases mf a ha with h | h
   ·exact m2 a h
   ·exact s2.free h
  ·show if ¬V.ref D=V.non then Q (V.ref D) H3 else _
   rw [if_pos (fun z=>nomatch z)]
   exact q1 H3 i _ D bs ws cs pl hq t2 hR (fun y o e=>kx y o (fun z=>by rw [m2 y z] at e;cases e) (s2 y o e)) (s2.free nD) eD lD (fun b hb=>s2.free (nb b hb).2) Db
 intro σ H2 hp
 obtain⟨vs,kvs,M,cs,pl,r2,r3,rfl,S2,t2,m2,l2,s2⟩:=(hPv _ _ _).mp hp
 rw [List.length_map,List.take_of_length_le (by omega)] at t2
 k_units
 exact q2 H2 cs pl t2 s2
def spRelX (K:PySem.W.Frag):Sp:=fun vs H Q E=>∃(w B KM:Nat) (St:List (List (List Int))->List Nat->Int->Prop) (Vq:List (List (List Int))->List (List Int)->Prop) (Rl:List (List (List Int))->List (List Int)->List (List Int)->Prop),SpTh w B KM St Vq Rl∧KM<=4∧spRel (K:=K) w B KM St Vq Rl vs H Q E
theorem ok_relation {P:Program} {wd:World} {K:PySem.W.Frag} {mg:Str->Option Value} {base:Heap} (T:Tx K mg):FnOk P wd K mg base CX0 22 T.a_relation T.fd_relation ["vectors"] (spRelX K):=
 ⟨fun vs H Q E h=>by obtain⟨w,B,KM,St,Vq,Rl,Z,_,h⟩:=h;exact (ok_relation' (P:=P) (wd:=wd) (base:=base) T Z).len vs H Q E h,
  fun A outer s H args us vs Q E hr I hb hv h=>by
  obtain⟨w,B,KM,St,Vq,Rl,Z,hk,h⟩:=h
  exact (FnOk.mono (ok_relation' (P:=P) (wd:=wd) (base:=base) T Z) (by omega)).run A outer s H args us vs Q E hr I hb hv h⟩
theorem root_few {f:List Int} (nf:Nml f) {ps:List Int} (nd:ps.Nodup) (hl:f.length<=ps.length) (hz:∀p∈ps,val p f=0):f=[]:=by
 have dis:∀i j (hi:i < ps.length) (hj:j < ps.length),i≠j->ps[i]≠ps[j]:=fun a b ha hb hne h=>by
  rcases Nat.lt_or_gt_of_ne hne with y | y
  ·exact List.pairwise_iff_getElem.mp nd a b ha hb y h
  ·exact List.pairwise_iff_getElem.mp nd b a hb ha y h.symm
 have z:∀t,t < ps.length->dd f (ps.take (t+1))=0:=fun t ht=>by
  have h:=dd_le f dis (B:=0) (fun i h=>by rw [hz _ (List.getElem_mem h)];exact Nat.le_refl _) t 0 (by omega)
  have e2:run ps 0 (t+1)=ps.take (t+1):=by unfold run;rw [List.drop_zero]
  rw [e2] at h
  omega
 have down:∀k t,t+k=ps.length->∀n,dd f (ps.take t++[n])=0:=fun k=>by
  induction k with
  | zero=>intro t ht n;exact dd_far (by rw [List.length_append,List.length_take];simp;omega)
  | succ k ih=>
   intro t ht n
   have hl':t < ps.length:=by omega
   have e1:ps.take (t+1)=ps.take t++[ps[t]]:=by rw [List.take_succ,List.getElem?_eq_getElem hl'];rfl
   rw [dd_step f (ps.take t) ps[t] n,← e1,z t hl',ih (t+1) (by omega) n];simp
 exact nml_val nf nml_nil fun n=>by
  have:=down ps.length 0 (by omega) n
  rw [List.take_zero,List.nil_append,dd_one] at this
  rw [this];rfl
theorem root_run {f:List Int} (nf:Nml f) (f0:f≠[]) (pl:Int) {N:Nat} (hl:f.length<=N+1):∃t:Nat,t<=N∧val (pl+(t:Int)) f≠0:=by
 by_cases h:∃t:Nat,t<=N∧val (pl+(t:Int)) f≠0
 ·exact h
 refine absurd (root_few nf (ps:=(List.range (N+1)).map fun t:Nat=>pl+(t:Int)) ?_ (by simp;omega) fun p hp=>?_) f0
 ·refine List.Pairwise.map _ (fun a b hab=>?_) (List.nodup_range (n:=N+1))
  intro e;apply hab;omega
 ·obtain⟨t,ht,rfl⟩:=List.mem_map.mp hp
  have:=List.mem_range.mp ht
  by_cases z:val (pl+(t:Int)) f=0
  ·exact z
  ·exact absurd ⟨t,by omega,z⟩ h
theorem plc_many {w:Nat} {kept:List (List (List Int))} {cs:List Nat} {d:List Int} (nd:Nml d) (d0:d≠[]) {Pn:Nat} (h:∀p:Nat,p < Pn->val (p:Int) d≠0->Piv w kept cs (p:Int) kept.length):Pn < (plc w kept cs Pn).length+d.length:=by
 have cnt:∀(g:Nat->Bool) (xs:List Nat),(xs.filter g).length+(xs.filter fun x=>! g x).length=xs.length:=fun g xs=>by
  induction xs with
  | nil=>rfl
  | cons x xs ih=>cases e:g x <;> simp [List.filter_cons,e] <;> omega
 have e:=cnt (fun p:Nat=>pivB w kept cs (p:Int) kept.length) (List.range Pn)
 rw [List.length_range] at e
 have l1:(plc w kept cs Pn).length=((List.range Pn).filter fun p:Nat=>pivB w kept cs (p:Int) kept.length).length:=by unfold plc;rw [List.length_map]
 rw [l1]
 have l2:((List.range Pn).filter fun p:Nat=>! pivB w kept cs (p:Int) kept.length).length < d.length:=by
  refine Nat.lt_of_not_le fun hle=>d0 (root_few nd (ps:=((List.range Pn).filter fun p:Nat=>! pivB w kept cs (p:Int) kept.length).map fun p:Nat=>(p:Int)) ?_ (by rw [List.length_map];exact hle) fun p hp=>?_)
  ·refine List.Pairwise.map _ (fun a b hab=>?_) ((List.nodup_range (n:=Pn)).filter _)
   intro e;apply hab;omega
  ·obtain⟨t,ht,rfl⟩:=List.mem_map.mp hp
   obtain⟨h1,h2⟩:=List.mem_filter.mp ht
   by_cases z:val (t:Int) d=0
   ·exact z
   ·have:=piv_iff.mpr (h t (List.mem_range.mp h1) z)
    rw [this] at h2;simp at h2
 omega
theorem co_zipW {g:Int->Int->Int} {a b:List Int} {j:Nat} (ha:j < a.length) (hb:j < b.length):co (List.zipWith g a b) j=g (co a j) (co b j):=by
 rw [co_lt (by rw [List.length_zipWith];omega),List.getElem_zipWith,co_lt ha,co_lt hb]
theorem rowA_len {w:Nat} {vec:List (List Int)} {num:Nat} {p:Int} (hv:vec.length=w):(rowA w vec num p).length=w+(w+1):=by
 unfold rowA;rw [List.length_append,List.length_map,List.length_map,List.length_range,hv]
theorem rowA_col {w:Nat} {vec:List (List Int)} {num:Nat} {p:Int} {j:Nat} (hj:j < vec.length):co (rowA w vec num p) j=val p (vec.getD j []):=by
 unfold rowA co
 rw [List.getD_eq_getElem?_getD,List.getD_eq_getElem?_getD,List.getElem?_append_left (by rw [List.length_map];exact hj),List.getElem?_map,List.getElem?_eq_getElem hj];rfl
theorem rowA_mark {w:Nat} {vec:List (List Int)} {num:Nat} {p:Int} {i:Nat} (hv:vec.length=w) (hi:i<=w):co (rowA w vec num p) (w+i)=if i=num then 1 else 0:=by
 unfold rowA co
 rw [List.getD_eq_getElem?_getD,List.getElem?_append_right (by rw [List.length_map];omega),List.length_map,hv,Nat.add_sub_cancel_left,List.getElem?_map,List.getElem?_range (by omega)];rfl
theorem rowA_bd {w:Nat} {vec:List (List Int)} {num:Nat} {p:Int} {k l L:Nat} (hp:Bd l p) (hb:∀f∈vec,f.length<=L∧∀c∈f,Bd k c) (hk:0 < k):∀y∈rowA w vec num p,Bd (k+(l+1) * L) y:=fun y hy=>by
 unfold rowA at hy
 rcases List.mem_append.mp hy with h | h
 ·obtain⟨f,hf,rfl⟩:=List.mem_map.mp h
  obtain⟨h1,h2⟩:=hb f hf
  exact (val_bd hp f h2).mono (Nat.add_le_add_left (Nat.mul_le_mul_left _ h1) _)
 ·obtain⟨o,_,rfl⟩:=List.mem_map.mp h
  split
  ·exact Bd.one (by omega)
  ·exact Bd.zero _
def addT (p q:List Int):List Int:=trim (addP p q)
theorem add_nml (p q:List Int):Nml (addT p q):=trim_nml _
theorem add_val (n:Int) (p q:List Int):val n (addT p q)=val n p+val n q:=by unfold addT;rw [val_trim,val_addP]
def dueOf (p q g:List Int):List Int:=if p=[]∨q=[] then pdL (addT p q) g else pdL [((contL (p++q):Nat):Int)] g
theorem cont_comm (p q:List Int):contL (p++q)=contL (q++p):=by
 have one:∀a b:List Int,contL (a++b)∣contL (b++a):=fun a b=>dvd_cont _ _ fun x hx=>cont_dvd _ x (by
  rcases List.mem_append.mp hx with z | z <;> simp [z])
 exact Nat.dvd_antisymm (one p q) (one q p)
def Bez (p q:List Int):Prop:=p=[]∨q=[]∨∃(U W:List Int) (m:Int),m≠0∧m.natAbs<=2000∧∀n,val n U * val n p+val n W * val n q=m
theorem Bez.symm {p q:List Int} (h:Bez p q):Bez q p:=by
 rcases h with h | h | ⟨U,W,m,h1,h2,h3⟩
 ·exact .inr (.inl h)
 ·exact .inl h
 ·exact .inr (.inr ⟨W,U,m,h1,h2,fun n=>by rw [← h3 n];omega⟩)
theorem nil_pd (g:List Int):pdL [] g=[]:=nml_val (pd_nml _ _) nml_nil fun n=>by rw [pd_val];simp [val]
theorem k07_is {p q g:List Int} (np:Nml p) (nq:Nml q) (ng:Nml g) (g0:g≠[]) (lp:p.length<=9) (lq:q.length<=9) (lg:g.length<=4) (bp:∀z∈p,Bd 40 z) (bq:∀z∈q,Bd 40 z) (bg:∀z∈g,z.natAbs < 10 ^ 20) (bz:Bez p q):
  CommonIs (pdL p g) (pdL q g) (uprL (dueOf p q g)):=by
 by_cases p0:p=[]
 ·subst p0
  refine .inl ⟨nil_pd g,?_⟩
  unfold dueOf
  rw [if_pos (.inl rfl)]
  have:addT [] q=q:=nml_val (add_nml _ _) nq fun n=>by rw [add_val];simp [val]
  rw [this]
 by_cases q0:q=[]
 ·subst q0
  refine .inr (.inl ⟨pd_ne np ng p0 g0,nil_pd g,?_⟩)
  unfold dueOf
  rw [if_pos (.inr rfl)]
  have:addT p []=p:=nml_val (add_nml _ _) np fun n=>by rw [add_val];simp [val]
  rw [this]
 obtain⟨U,W,m,hm,hm1,hb⟩:=(bz.resolve_left p0).resolve_left q0
 have lA:=pd_len np ng
 have lB:=pd_len nq ng
 have bnd:∀{r:List Int},r.length<=9->(∀z∈r,Bd 40 z)->∀z∈pdL r g,Bd 130 z:=fun {r} lr br=>in_co fun j=>by
  rw [pd_co]
  exact (pm_bd (c:=4) br (fun z hz=>Bd.of_lt (k:=70) (bg z hz) (by decide)) (by omega) j).mono (by decide)
 obtain⟨c1,c2,A0,B0,tw,er⟩:=two_of np nq ng (pd_nml p g) (pd_nml q g) p0 q0 g0 (by omega) (by omega) (by omega) (bnd lp bp) (bnd lq bq) bg hm hm1 hb (fun n=>pd_val n p g) (fun n=>pd_val n q g)
 refine .inr (.inr ⟨A0,B0,c1,c2,bnd lp bp,bnd lq bq,_,_,tw,?_⟩)
 rw [er]
 unfold dueOf
 rw [if_neg (by rintro (z | z);exact p0 z;exact q0 z)]
 congr 1
 refine nml_val (pd_nml _ _) (nml_of_last (.inr ?_)) fun n=>?_
 ·rw [List.length_map,co_mapc]
  refine Int.mul_ne_zero ?_ (co_last ng g0)
  intro z
  have hz:contL (p++q)=0:=by omega
  have h1:=cont_pos np p0
  have h2:contL (p++q)∣contL p:=dvd_cont _ _ fun x hx=>cont_dvd _ x (by simp [hx])
  rw [hz] at h2
  have:=Nat.eq_zero_of_zero_dvd h2
  omega
 ·rw [pd_val,val_map];simp [val]
theorem bez_step {x y t x' U W:List Int} (h:∀n,val n U * val n x+val n W * val n y=1) (hx:∀n,val n x'=val n x * val n t+val n y):∀n,val n W * val n x'+val n (addP U ((mulP W t).map fun z=>-1 * z)) * val n x=1:=fun n=>by
 rw [val_addP,val_map,val_mulP,hx n,← h n];grind
structure D23 (w:Nat) (v q:List (List Int)) (x y:List Int) (u:List (List Int)):Prop where
 w1:1<=w
 w4:w<=4
 lu:u.length=w
 ev:v=u.map (pdL x)
 eq:q=u.map (pdL y)
 nx:Nml x
 ny:Nml y
 lx:x.length<=9
 ly:y.length<=9
 bx:∀z∈x,Bd 39 z
 bY:∀z∈y,Bd 39 z
 nu:∀f∈u,Nml f∧f.length<=4∧∀c∈f,Bd 9 c
 bz:Bez x y
 x0:y=[]->∃c,x=[c]
def due23 (x y:List Int):List (List Int):=[y.map fun n=>(-n).fdiv (if co x (x.length - 1) < 0 then -((contL (x++y):Nat):Int) else ((contL (x++y):Nat):Int)),x.map fun n=>n.fdiv (if co x (x.length - 1) < 0 then -((contL (x++y):Nat):Int) else ((contL (x++y):Nat):Int))]
def Vq23 (v q:List (List Int)) (kept:List (List (List Int))) (p:List (List Int)):Prop:=(kept=[]∧(p=v∨p=q))∨(kept=[v]∧p=q)
def St23 (w:Nat) (v q:List (List Int)) (kept:List (List (List Int))) (cs:List Nat) (pl:Int):Prop:=(kept=[]∧cs=[]∧pl=97)∨(∃p c,(p=v∨p=q)∧kept=[p]∧cs=[c]∧c < w∧97<=pl∧pl<=121∧val pl (p.getD c [])≠0)
def Rl23 (v q:List (List Int)) (x y:List Int) (kept:List (List (List Int))) (p:List (List Int)) (ws:List (List Int)):Prop:=(kept=[]∧ws=[[1]]∧∀f∈p,f=[])∨(kept=[v]∧p=q∧ws=due23 x y)
section
variable {w:Nat} {v q:List (List Int)} {x y:List Int} {u:List (List Int)}
theorem D23.vec (D:D23 w v q x y u) {p:List (List Int)} (hp:p=v∨p=q):p.length=w∧∀f∈p,Nml f∧f.length<=12∧∀c∈f,Bd 60 c:=by
 have one:∀z:List Int,Nml z->z.length<=9->(∀c∈z,Bd 39 c)->(u.map (pdL z)).length=w∧∀f∈u.map (pdL z),Nml f∧f.length<=12∧∀c∈f,Bd 60 c:=fun z nz lz bz=>by
  refine⟨by rw [List.length_map,D.lu],fun f hf=>?_⟩
  obtain⟨g,hg,rfl⟩:=List.mem_map.mp hf
  obtain⟨h1,h2,h3⟩:=D.nu g hg
  refine⟨pd_nml _ _,Nat.le_trans (pd_len nz h1) (by omega),in_co fun j=>?_⟩
  rw [pd_co]
  exact (pm_bd (c:=4) bz h3 (by omega) j).mono (by decide)
 rcases hp with rfl | rfl
 ·rw [D.ev];exact one x D.nx D.lx D.bx
 ·rw [D.eq];exact one y D.ny D.ly D.bY
theorem D23.at (D:D23 w v q x y u) {j:Nat} (hj:j < w) (n:Int):val n (v.getD j [])=val n x * val n (u.getD j [])∧val n (q.getD j [])=val n y * val n (u.getD j []):=by
 have hu:u[j]?=some (u.getD j []):=by rw [List.getD_eq_getElem?_getD,List.getElem?_eq_getElem (by rw [D.lu];exact hj)];rfl
 rw [D.ev,D.eq]
 have e:∀z:List Int,(u.map (pdL z)).getD j []=pdL z (u.getD j []):=fun z=>by rw [List.getD_eq_getElem?_getD,List.getElem?_map,hu];rfl
 rw [e,e,pd_val,pd_val];exact⟨rfl,rfl⟩
theorem tb0 {p:Int} (w4:w<=20) (hp:Bd 8 p):TBd w [] [] p:=⟨w4,hp.mono (by decide),fun n hn=>by simp at hn,fun q hq=>by simp at hq⟩
theorem lo0 {p:Int} {r:List (List Int)} {k:Nat} {cs:List Nat} (w4:w<=20) (lr:r.length=w) (hc:∀c∈cs,c < w):LowOk (rowA w r k p) [] cs:=⟨Nat.zero_le _,by rw [rowA_len lr];omega,fun b hb=>by simp at hb,fun c h=>by rw [rowA_len lr];have:=hc c h;omega,fun b hb=>by simp at hb,fun i hi=>by simp at hi,fun i hi=>by simp at hi⟩
theorem D23.tb1 (D:D23 w v q x y u) {p:List (List Int)} (hp:p=v∨p=q) {c:Nat} (hc:c < w) {n:Int} (hn:Bd 8 n):TBd w [p] [c] n:=by
 have w4:=D.w4
 obtain⟨lv,bv⟩:=D.vec hp
 refine⟨by omega,hn.mono (by decide),fun k hk _=>?_,fun r hr=>?_⟩
 ·have:k=0:=by simpa using hk
  subst this
  exact lo0 (by omega) lv fun c' h=>by rw [List.mem_singleton.mp h];exact hc
 ·rw [List.mem_singleton.mp hr]
  exact⟨by omega,fun f hf=>⟨by have:=(bv f hf).2.1;omega,fun c hc=>((bv f hf).2.2 c hc).mono (by decide)⟩⟩
theorem D23.lo1 (D:D23 w v q x y u) {p r:List (List Int)} (hp:p=v∨p=q) (hr:r=v∨r=q) {c:Nat} (hc:c < w) {n:Int} (hn:Bd 8 n):LowOk (rowA w r 1 n) (tabR w [p] [c] n 1) [c]:=by
 have w4:=D.w4
 obtain⟨lv,bv⟩:=D.vec hp
 obtain⟨lr,br⟩:=D.vec hr
 have e:tabR w [p] [c] n 1=[rowA w p 0 n]:=rfl
 rw [e]
 have bd:∀{p:List (List Int)} {k:Nat},(p=v∨p=q)->∀y∈rowA w p k n,Bd 4000 y:=fun {p k} hp y hy=>by
  obtain⟨lv,bv⟩:=D.vec hp
  exact (rowA_bd hn (fun f hf=>⟨(bv f hf).2.1,(bv f hf).2.2⟩) (by decide) y hy).mono (by decide)
 refine⟨Nat.le_refl _,by rw [rowA_len lr];omega,fun b hb=>?_,fun c' h=>?_,fun b hb=>?_,fun i hi=>?_,fun i hi=>?_⟩
 ·rw [List.mem_singleton.mp hb,rowA_len lv,rowA_len lr]
 ·rw [List.mem_singleton.mp h,rowA_len lr];omega
 ·rw [List.mem_singleton.mp hb];exact bd hp
 ·have:i=0:=by simpa using hi
  subst this
  exact⟨(by decide:(1:Int)≠0),Bd.one (by decide)⟩
 ·have:i=0:=by simpa using hi
  subst this
  exact bd hr
theorem low1 {p r:List (List Int)} {c:Nat} {n:Int} (lp:p.length=w) (lr:r.length=w) (hc:c < w) {j:Nat} (hj:j < w+(w+1)):co (lowV w [p] [c] r n) j=val n (p.getD c []) * co (rowA w r 1 n) j - val n (r.getD c []) * co (rowA w p 0 n) j:=by
 have e:lowV w [p] [c] r n=List.zipWith (fun x y=>(co (rowA w p 0 n) c * x - co (rowA w r 1 n) c * y).fdiv 1) (rowA w r 1 n) (rowA w p 0 n):=rfl
 rw [e,co_zipW (by rw [rowA_len lr];exact hj) (by rw [rowA_len lp];exact hj),Int.fdiv_one,rowA_col (w:=w) (vec:=p) (num:=0) (j:=c) (by omega),rowA_col (w:=w) (vec:=r) (num:=1) (j:=c) (by omega)]
theorem piv1 {p:List (List Int)} {c:Nat} {n:Int} (lp:p.length=w) (hc:c < w):Piv w [p] [c] n 1↔val n (p.getD c [])≠0:=by
 have e:∀i,i < 1->co (tRow w [p] [c] n i) ([c].getD i 0)=val n (p.getD c []):=fun i hi=>by
  have:i=0:=by omega
  subst this
  exact rowA_col (w:=w) (vec:=p) (num:=0) (j:=c) (by omega)
 exact⟨fun h=>by rw [← e 0 (by decide)];exact h 0 (by decide),fun h i hi=>by rw [e i hi];exact h⟩
theorem D23.flat (D:D23 w v q x y u) {c:Nat} (hc:c < w) {n:Int} {j:Nat} (hj:j < w):co (lowV w [v] [c] q n) j=0:=by
 obtain⟨lv,_⟩:=D.vec (.inl rfl)
 obtain⟨lq,_⟩:=D.vec (.inr rfl)
 rw [low1 lv lq hc (by omega),rowA_col (by omega),rowA_col (by omega),(D.at hc n).1,(D.at hc n).2,(D.at hj n).1,(D.at hj n).2]
 grind
theorem isGd1 {p:List Int} {b:Int} (h:IsGd [p] b):b=((p.length - 1:Nat):Int):=by
 rcases h with ⟨z,_⟩ | ⟨z,_⟩
 ·simp at z
 ·simpa [dgL] using z
theorem isGd2 {p r:List Int} {b:Int} (h:IsGd [p,r] b):((p.length - 1:Nat):Int)<=b∧((r.length - 1:Nat):Int)<=b∧(b=((p.length - 1:Nat):Int)∨b=((r.length - 1:Nat):Int)):=by
 rcases h with ⟨z,_⟩ | ⟨z1,z2⟩
 ·simp at z
 ·exact⟨z2 _ (by simp [dgL]),z2 _ (by simp [dgL]),by simpa [dgL] using z1⟩
theorem sumC_nml (qs:List (List (List Int))) (ws:List (List Int)) (c:Nat):∀n,Nml (sumC qs ws c n)
 | 0=>nml_nil
 | n+1=>nml_addL _ _
theorem val_sumC (qs:List (List (List Int))) (ws:List (List Int)) (c:Nat) (m:Int):∀n,val m (sumC qs ws c (n+1))=val m (sumC qs ws c n)+val m ((qs.getD n []).getD c []) * val m (ws.getD n []):=fun n=>by
 rw [sumC,val_addL,val_mulL]
end
def sgn23 (x y:List Int):Int:=if co x (x.length - 1) < 0 then -((contL (x++y):Nat):Int) else ((contL (x++y):Nat):Int)
theorem due23_is (x y:List Int):due23 x y=[y.map fun n=>(-n).fdiv (sgn23 x y),x.map fun n=>n.fdiv (sgn23 x y)]:=rfl
theorem sgn_dvd (x y:List Int):(∀z∈x,sgn23 x y∣z)∧∀z∈y,sgn23 x y∣z:=by
 have h:∀z,z∈x++y->sgn23 x y∣z:=fun z hz=>by
  have:=cont_dvd (x++y) z hz
  unfold sgn23
  split
  ·exact Int.neg_dvd.mpr this
  ·exact this
 exact⟨fun z hz=>h z (by simp [hz]),fun z hz=>h z (by simp [hz])⟩
theorem cont_app_pos {x y:List Int} (nx:Nml x) (x0:x≠[]):0 < contL (x++y):=by
 refine Nat.pos_of_ne_zero fun z=>?_
 have h1:=cont_pos nx x0
 have h2:contL (x++y)∣contL x:=dvd_cont _ _ fun a ha=>cont_dvd _ a (by simp [ha])
 rw [z] at h2
 have:=Nat.eq_zero_of_zero_dvd h2
 omega
theorem sgn_ne {x y:List Int} (nx:Nml x) (x0:x≠[]):sgn23 x y≠0:=by
 have:=cont_app_pos (y:=y) nx x0
 unfold sgn23
 split <;> omega
theorem fdiv_ex {z e:Int} (he:e≠0) (h:e∣z):z.fdiv e * e=z:=by
 obtain⟨k,rfl⟩:=h
 rw [Int.mul_fdiv_cancel_left _ he,Int.mul_comm]
theorem val_fdiv {e:Int} (he:e≠0) (n:Int):∀xs:List Int,(∀z∈xs,e∣z)->val n (xs.map fun z=>z.fdiv e) * e=val n xs
 | [],_=>by simp [val]
 | z :: xs,h=>by
  have i:=val_fdiv he n xs fun a ha=>h a (by simp [ha])
  show (z.fdiv e+n * val n (xs.map fun z=>z.fdiv e)) * e=z+n * val n xs
  rw [Int.add_mul,fdiv_ex he (h z (by simp)),Int.mul_assoc,i]
theorem fdiv_bdE {e z:Int} {k:Nat} (he:e≠0) (h:e∣z) (hb:Bd k z):Bd k (z.fdiv e):=by
 have h1:=fdiv_ex he h
 have h2:z.natAbs=(z.fdiv e).natAbs * e.natAbs:=by rw [← Int.natAbs_mul,h1]
 have h3:(z.fdiv e).natAbs<=(z.fdiv e).natAbs * e.natAbs:=Nat.le_mul_of_pos_right _ (by omega)
 show (z.fdiv e).natAbs < 2 ^ k
 have:z.natAbs < 2 ^ k:=hb
 omega
theorem fdiv_nml {e:Int} (he:e≠0) {xs:List Int} (nx:Nml xs) (h:∀z∈xs,e∣z):Nml (xs.map fun z=>z.fdiv e):=nml_last.mpr fun a ha=>by
 rw [List.getLast?_map] at ha
 obtain⟨z,hz,rfl⟩:=Option.map_eq_some_iff.mp ha
 have h0:=nml_last.mp nx z hz
 have h1:=fdiv_ex he (h z (List.mem_of_getLast? hz))
 intro y
 rw [y] at h1
 simp at h1
 exact h0 h1.symm
theorem neg_map (y:List Int) (e:Int):(y.map fun n=>(-n).fdiv e)=(y.map fun z=>-1 * z).map fun z=>z.fdiv e:=by
 rw [List.map_map]
 refine List.map_congr_left fun a _=>?_
 show _=(-1 * a).fdiv e
 congr 1;omega
theorem val_negL (n:Int) (b:Bool) (R:List Int):val n (negL b R)=(if b then -1 else 1) * val n R:=by
 unfold negL
 cases b
 ·simp
 ·have:(R.map fun z=>-z)=R.map fun z=>-1 * z:=List.map_congr_left fun a _=>by omega
  rw [if_pos rfl,if_pos rfl,this,val_map]
theorem nml_scale {e:Int} (he:e≠0) {y:List Int} (ny:Nml y):Nml (y.map fun z=>e * z):=nml_last.mpr fun a ha=>by
 rw [List.getLast?_map] at ha
 obtain⟨z,hz,rfl⟩:=Option.map_eq_some_iff.mp ha
 exact Int.mul_ne_zero he (nml_last.mp ny z hz)
theorem pd_top {x u:List Int} (nx:Nml x) (nu:Nml u) (x0:x≠[]) (u0:u≠[]):(pdL x u).length=x.length+u.length - 1∧co (pdL x u) ((pdL x u).length - 1)=co x (x.length - 1) * co u (u.length - 1):=by
 have lx:x.length≠0:=fun z=>x0 (List.eq_nil_of_length_eq_zero z)
 have lu:u.length≠0:=fun z=>u0 (List.eq_nil_of_length_eq_zero z)
 have t:co (pdL x u) (x.length+u.length - 2)=co x (x.length - 1) * co u (u.length - 1):=by
  rw [pd_co,show x.length+u.length - 2=u.length - 1+(x.length - 1) by omega,pm_top (fun j hj=>co_over j hj) (fun j hj=>co_over j hj)]
 have l1:=pd_len nx nu
 have l2:x.length+u.length - 1<=(pdL x u).length:=by
  refine Nat.le_of_not_lt fun h=>?_
  rw [co_ge (by omega)] at t
  exact Int.mul_ne_zero (co_last nx x0) (co_last nu u0) t.symm
 have l3:(pdL x u).length=x.length+u.length - 1:=by omega
 exact⟨l3,by rw [l3,show x.length+u.length - 1 - 1=x.length+u.length - 2 by omega];exact t⟩
theorem bez_scale {e:Int} (he:e=1∨e=-1) {x y:List Int} (h:Bez x y):Bez (y.map fun z=>e * z) x:=by
 rcases h with h | h | ⟨U,W,m,h1,h2,h3⟩
 ·exact .inr (.inl h)
 ·exact .inl (by rw [h];rfl)
 ·refine .inr (.inr ⟨W.map fun z=>e * z,U,m,h1,h2,fun n=>?_⟩)
  rw [val_map,val_map,← h3 n]
  rcases he with rfl | rfl <;> grind
theorem cont_scale {e:Int} (he:e=1∨e=-1) (x y:List Int):contL ((y.map fun z=>e * z)++x)=contL (x++y):=by
 rw [cont_comm x y]
 refine cont_sign fun d=>?_
 constructor
 ·intro h z hz
  have:=h (e * z) (List.mem_map.mpr ⟨z,hz,rfl⟩)
  rcases he with rfl | rfl
  ·simpa using this
  ·simpa using this
 ·intro h z hz
  obtain⟨a,ha,rfl⟩:=List.mem_map.mp hz
  exact Int.dvd_trans (h a ha) (Int.dvd_mul_left _ _)
section
variable {w:Nat} {v q:List (List Int)} {x y:List Int} {u:List (List Int)}
theorem D23.due (D:D23 w v q x y u) (x0:x≠[]):(∀f∈due23 x y,Nml f∧f.length<=9∧∀c∈f,Bd 39 c)∧(∀n,val n ((due23 x y).getD 0 []) * sgn23 x y=- val n y)∧∀n,val n ((due23 x y).getD 1 []) * sgn23 x y=val n x:=by
 have he:=sgn_ne (y:=y) D.nx x0
 obtain⟨d1,d2⟩:=sgn_dvd x y
 have d2':∀z∈y.map (fun z=>-1 * z),sgn23 x y∣z:=fun z hz=>by
  obtain⟨a,ha,rfl⟩:=List.mem_map.mp hz
  exact Int.dvd_trans (d2 a ha) (Int.dvd_mul_left _ _)
 rw [due23_is,neg_map]
 refine⟨fun f hf=>?_,fun n=>?_,fun n=>val_fdiv he n x d1⟩
 ·simp only [List.mem_cons,List.not_mem_nil,or_false] at hf
  rcases hf with rfl | rfl
  ·refine⟨fdiv_nml he (nml_scale (by decide) D.ny) d2',by rw [List.length_map,List.length_map];exact D.ly,fun c hc=>?_⟩
   obtain⟨a,ha,rfl⟩:=List.mem_map.mp hc
   refine fdiv_bdE he (d2' a ha) ?_
   obtain⟨b,hb,rfl⟩:=List.mem_map.mp ha
   rw [show -1 * b=-b by omega];exact (D.bY b hb).neg
  ·refine⟨fdiv_nml he D.nx d1,by rw [List.length_map];exact D.lx,fun c hc=>?_⟩
   obtain⟨a,ha,rfl⟩:=List.mem_map.mp hc
   exact fdiv_bdE he (d1 a ha) (D.bx a ha)
 ·show val n (((y.map fun z=>-1 * z).map fun z=>z.fdiv (sgn23 x y))) * sgn23 x y=_
  rw [val_fdiv he n _ d2',val_map];omega
theorem D23.com (D:D23 w v q x y u) {uc:List Int} (hu:uc∈u) (u0:uc≠[]) (x0:x≠[]):∃(f1 f2:List Int) (p0:List Int) (t0:Int),f1=uprL (pdL (y.map fun z=>-1 * z) uc)∧f1.length<=64∧f2.length<=64∧CommonIs f1 (pdL x uc) f2∧pdL x uc=p0++[t0]∧f2≠[]∧Nml f2∧(∀c∈f2,Bd 4000 c)∧∀n,val n (negL (decide (t0 < 0)) f2)=sgn23 x y * val n uc:=by
 obtain⟨nu,lu,bu⟩:=D.nu uc hu
 obtain⟨e,he,hv⟩:=upr_val (pdL (y.map fun z=>-1 * z) uc)
 have he':-e=1∨-e=-1:=by rcases he with rfl | rfl <;> simp
 have e0:-e≠0:=by rcases he' with z | z <;> omega
 have f1e:uprL (pdL (y.map fun z=>-1 * z) uc)=pdL (y.map fun z=>-e * z) uc:=nml_val (upr_nml (pd_nml _ _)) (pd_nml _ _) fun n=>by rw [hv,pd_val,pd_val,val_map,val_map];grind
 have ny':=nml_scale e0 D.ny
 have ly':(y.map fun z=>-e * z).length<=9:=by rw [List.length_map];exact D.ly
 have by':∀z∈y.map (fun z=>-e * z),Bd 40 z:=fun z hz=>by
  obtain⟨a,ha,rfl⟩:=List.mem_map.mp hz
  have:=D.bY a ha
  rcases he' with h | h
  ·rw [h,Int.one_mul];exact this.mono (by decide)
  ·rw [h,show -1 * a=-a by omega];exact this.neg.mono (by decide)
 have com:=k07_is ny' D.nx nu u0 ly' D.lx lu by' (fun z hz=>(D.bx z hz).mono (by decide)) (fun z hz=>by
  have:z.natAbs < 2 ^ 9:=bu z hz
  exact Nat.lt_of_lt_of_le this (by decide)) (bez_scale he' D.bz)
 obtain⟨lt,tt⟩:=pd_top D.nx nu x0 u0
 have v0:=pd_ne D.nx nu x0 u0
 have lx0:x.length≠0:=fun z=>x0 (List.eq_nil_of_length_eq_zero z)
 have lu0:uc.length≠0:=fun z=>u0 (List.eq_nil_of_length_eq_zero z)
 have lx:=D.lx
 obtain⟨p0,t0,ev⟩:∃p0 t0,pdL x uc=p0++[t0]:=by
  cases z:(pdL x uc).getLast? with
  | none=>rw [List.getLast?_eq_none_iff] at z;exact absurd z v0
  | some a=>exact⟨_,a,(List.getLast?_eq_some_iff.mp z).choose_spec⟩
 have et:t0=co x (x.length - 1) * co uc (uc.length - 1):=by
  rw [← tt,ev];unfold co;simp
 have cx:=co_last D.nx x0
 have cu:=co_last nu u0
 have cp:=cont_app_pos (y:=y) D.nx x0
 have big:∀{d:List Int},Nml d->d.length<=9->(∀z∈d,Bd 40 z)->(pdL d uc).length<=12∧∀z∈pdL d uc,Bd 100 z:=fun {d} nd ld bd=>⟨Nat.le_trans (pd_len nd nu) (by omega),in_co fun j=>by
  rw [pd_co];exact (pm_bd (c:=4) bd bu (by omega) j).mono (by decide)⟩
 obtain⟨d,ed,nd,ld,bd,d0,sg⟩:∃d:List Int,dueOf (y.map fun z=>-e * z) x uc=pdL d uc∧Nml d∧d.length=1∧(∀z∈d,Bd 40 z)∧d≠[]∧((d=x∧sgn23 x y=co x (x.length - 1))∨d=[((contL (x++y):Nat):Int)]):=by
  unfold dueOf
  by_cases y0:y=[]
  ·obtain⟨c,hc⟩:=D.x0 y0
   have ea:addT (y.map fun z=>-e * z) x=x:=nml_val (add_nml _ _) D.nx fun n=>by rw [add_val,val_map,y0];simp [val]
   refine⟨x,by rw [if_pos (.inl (by rw [y0];rfl)),ea],D.nx,by rw [hc];rfl,fun z hz=>(D.bx z hz).mono (by decide),x0,.inl ⟨rfl,?_⟩⟩
   have e1:contL ([c]++[])=c.natAbs:=by simp [contL]
   have e2:co [c] ([c].length - 1)=c:=rfl
   unfold sgn23
   rw [y0,hc,e1,e2]
   split <;> omega
  ·refine⟨[((contL (x++y):Nat):Int)],by rw [if_neg (by rintro (z | z);exact y0 (List.map_eq_nil_iff.mp z);exact x0 z),cont_scale he'],nml_c (by omega),rfl,fun z hz=>?_,by simp,.inr rfl⟩
   rw [List.mem_singleton.mp hz]
   have h1:((contL (x++y):Nat):Int)∣co x (x.length - 1):=co_in (P:=fun z=>((contL (x++y):Nat):Int)∣z) (fun z hz=>cont_dvd _ z (by simp [hz])) (Int.dvd_zero _) _
   have h2:Bd 39 (co x (x.length - 1)):=co_in (P:=fun z=>Bd 39 z) D.bx (Bd.zero _) _
   have h3:=Nat.le_of_dvd (by omega) (Int.natAbs_dvd_natAbs.mpr h1)
   show (((contL (x++y):Nat):Int)).natAbs < 2 ^ 40
   have h4:(co x (x.length - 1)).natAbs < 2 ^ 39:=h2
   omega
 obtain⟨ld2,td⟩:=pd_top nd nu d0 u0
 obtain⟨l12,b100⟩:=big nd (by omega) bd
 obtain⟨s,hs,hco⟩:=upr_co (pdL d uc)
 have vs:∀n,val n (uprL (pdL d uc))=s * (val n d * val n uc):=fun n=>by
  rw [← pd_val,← val_map];exact val_of_co (fun j=>by rw [hco j,co_mapc]) n
 have tp:=upr_top (pd_nml d uc) (pd_ne nd nu d0 u0)
 rw [upr_len,hco,td] at tp
 rw [f1e]
 rw [ed] at com
 refine⟨_,_,p0,t0,rfl,by have:=(big ny' ly' by').1;omega,by rw [upr_len];omega,com,ev,upr_ne (pd_ne nd nu d0 u0),upr_nml (pd_nml _ _),in_co fun j=>?_,fun n=>?_⟩
 ·rw [hco j]
  have:=co_in (P:=fun z=>Bd 100 z) b100 (Bd.zero _) j
  rcases hs with rfl | rfl
  ·rw [Int.one_mul];exact this.mono (by decide)
  ·rw [show (-1:Int) * co (pdL d uc) j=- co (pdL d uc) j by omega];exact this.neg.mono (by decide)
 ·rw [val_negL,vs]
  generalize co uc (uc.length - 1)=ul at cu et tp
  generalize hxl:co x (x.length - 1)=xl at cx et sg
  have key:∀dl:Int,val n d=dl->co d (d.length - 1)=dl:=fun dl h=>by
   obtain⟨c,rfl⟩:=List.length_eq_one_iff.mp ld
   rw [← h];simp [val,co]
  have hd:=key _ rfl
  rw [hd] at tp
  generalize val n uc=vu
  have main:(if decide (t0 < 0)=true then -1 else 1) * s * val n d=sgn23 x y:=by
   rcases sg with ⟨z1,z2⟩ | z
   ·have e1:val n d=xl:=by rw [← hd,z1,hxl]
    rw [z2,e1]
    rw [e1] at tp
    rcases hs with rfl | rfl
    ·have:¬t0 < 0:=by rw [et];omega
     simp [this]
    ·have:t0 < 0:=by rw [et];omega
     simp [this]
   ·have e1:val n d=((contL (x++y):Nat):Int):=by rw [z];simp [val]
    unfold sgn23
    rw [hxl]
    rw [e1] at tp ⊢
    have cp':0 < ((contL (x++y):Nat):Int):=by omega
    generalize ((contL (x++y):Nat):Int)=C at tp cp' ⊢
    have sign:∀{a b:Int},0 < a * b->0 < a->0 < b:=fun {a b} h1 h2=>by
     refine Int.lt_of_not_ge fun h=>?_
     have:=Int.mul_nonpos_of_nonneg_of_nonpos (Int.le_of_lt h2) h
     omega
    rcases hs with rfl | rfl
    ·have hu:0 < ul:=sign (by rw [Int.one_mul] at tp;exact tp) cp'
     by_cases hx:xl < 0
     ·have:t0 < 0:=by rw [et];exact Int.mul_neg_of_neg_of_pos hx hu
      simp [this,hx]
     ·have:¬t0 < 0:=by rw [et];have:=Int.mul_nonneg (show 0<=xl by omega) (Int.le_of_lt hu);omega
      simp [this,hx]
    ·have hu:0 < -ul:=sign (a:=C) (by rw [Int.mul_neg];omega) cp'
     by_cases hx:xl < 0
     ·have:¬t0 < 0:=by rw [et];have:=Int.mul_pos (show 0 < -xl by omega) hu;rw [Int.neg_mul_neg] at this;omega
      simp [this,hx]
     ·have:t0 < 0:=by rw [et];have:=Int.mul_pos (show 0 < xl by omega) hu;rw [Int.mul_neg] at this;omega
      simp [this,hx]
  rw [← main];grind
theorem D23.st1 (D:D23 w v q x y u) {p:List (List Int)} (hp:p=v∨p=q) {c:Nat} (hc:c < w) (h0:p.getD c []≠[]) (pl:Int):∃N:Nat,N<=24∧val (pl+(N:Int)) (p.getD c [])≠0:=by
 obtain⟨lp,bp⟩:=D.vec hp
 obtain⟨b1,b2,_⟩:=bp _ (mem_getD (d:=([]:List Int)) (show c < p.length by omega))
 exact root_run b1 h0 pl (by omega)
theorem D23.oc0 (D:D23 w v q x y u) {p:List (List Int)} (hp:p=v∨p=q):∃(gs:List (List Int)) (Pn:Nat) (f:Nat->List Int) (qs:List (List Int)) (p0:List Int) (t0:Int),OcOk w [] [] p gs Pn∧Pn<=24∧(∀N,DbIs ([]++[p]) [] N->0<=N∧N < 60∧(∀g∈gs,(g.length:Int)<=N+1)∧N < ((plc w [] [] Pn).length:Int))∧
  ((∀p∈gs,p.length<=64∧Nml p∧∀c∈p,Bd 130 c)∧(∀i,(f i).length<=64)∧f 0=[]∧(∀i r,gs[i]?=some r->CommonIs (f i) r (f (i+1)))∧gs.getLast?=some (p0++[t0])∧f gs.length≠[]∧Nml (f gs.length)∧(∀c∈f gs.length,Bd 4000 c)∧qs.length=gs.length∧(∀(i:Nat) (p q:List Int),gs[i]?=some p->qs[i]?=some q->Nml q∧Div p (negL (decide (t0 < 0)) (f gs.length)) q))∧
  FcOk w ([]++[p]) qs∧((∀c,c < w->c∉[]->sumC ([]++[p]) qs c (([]:List (List (List Int))).length+1)=[])->Rl23 v q x y [] p qs)∧
  ∀c,c < w->c∉[]->sumC ([]++[p]) qs c (([]:List (List (List Int))).length+1)≠[]->∃N,N<=24∧(∀t:Nat,t<=N->TBd w ([]++[p]) ([]++[c]) (97+(t:Int)))∧Piv w ([]++[p]) ([]++[c]) (97+(N:Int)) (([]:List (List (List Int))).length+1):=by
 have w4:=D.w4
 have w1:=D.w1
 obtain⟨lp,bp⟩:=D.vec hp
 have n1:Nml [1]:=nml_c (by decide)
 have sm:∀c,c < w->sumC [p] [[1]] c 1=p.getD c []:=fun c hc=>by
  refine nml_val (sumC_nml _ _ _ _) (bp _ (mem_getD (by omega))).1 fun n=>?_
  rw [val_sumC];simp [sumC,val]
 refine⟨[[1]],1,fun i=>if i=0 then [] else [1],[[1]],[],1,⟨by simp,by simp,fun r hr=>?_,by simp,by simp,rfl,by decide,fun n hn=>tb0 (by omega) (Bd.of_lt (m:=1) (by omega) (by decide)),fun n hn _=>lo0 (by omega) lp (by simp),⟨by omega,fun f hf=>⟨by have:=(bp f hf).2.1;omega,fun c hc=>((bp f hf).2.2 c hc).mono (by decide)⟩⟩,fun n hn _ i g hg=>?_,fun g hg=>?_⟩,by decide,fun N hN=>?_,⟨fun g hg=>?_,fun i=>by dsimp only;split <;> simp,rfl,fun i r hr=>?_,rfl,by simp,n1,fun c hc=>?_,rfl,fun i g h h1 h2=>?_⟩,⟨rfl,by simp,by omega,fun r hr=>?_,fun r hr=>?_,fun g hg=>?_⟩,fun hall=>?_,fun c hc _ hne=>?_⟩
 ·simp at hr;rw [hr];exact lp
 ·cases i with
  | zero=>
   simp at hg;subst hg
   show co (rowA w p 0 (n:Int)) (w+0)=val (n:Int) [1]
   rw [rowA_mark lp (Nat.zero_le _)];simp [val]
  | succ i=>simp at hg
 ·simp at hg;subst hg
  exact⟨n1,fun n hn=>by simp [val];exact Bd.one (by decide)⟩
 ·obtain⟨bv,bc,m,h1,h2,h3,h4,h5,h6,h7⟩:=hN
  obtain⟨b,rfl⟩:=List.length_eq_one_iff.mp h1
  have hb:b=0:=by
   have:=h3 0 b p rfl rfl
   rcases this with ⟨_,z⟩ | ⟨z,_⟩
   ·exact z
   ·simp [rowC] at z
  have hbc:bc=[]:=List.eq_nil_of_length_eq_zero h2
  have hm:m=b:=by simpa using h5
  have N0:N=0:=by rw [h7,hbc,hm,hb];rfl
  rw [N0]
  refine⟨by decide,by decide,fun g hg=>by simp at hg;subst hg;decide,?_⟩
  have:plc w [] [] 1=[0]:=rfl
  rw [this];decide
 ·simp at hg;subst hg
  exact⟨by decide,n1,fun c hc=>by simp at hc;subst hc;exact Bd.one (by decide)⟩
 ·cases i with
  | zero=>simp at hr;subst hr;exact .inl ⟨rfl,rfl⟩
  | succ i=>simp at hr
 ·have:c=1:=by simpa using hc
  subst this;exact Bd.one (by decide)
 ·cases i with
  | zero=>
   simp at h1 h2;subst h1 h2
   exact⟨n1,div_val.mpr fun n=>by simp [negL,val]⟩
  | succ i=>simp at h1
 ·simp at hr;rw [hr];exact lp
 ·simp at hr;subst hr
  exact fun f hf=>⟨by have:=(bp f hf).2.1;omega,fun c hc=>((bp f hf).2.2 c hc).mono (by decide)⟩
 ·simp at hg;subst hg
  exact⟨by decide,fun c hc=>by simp at hc;subst hc;exact Bd.one (by decide)⟩
 ·refine .inl ⟨rfl,rfl,fun f hf=>?_⟩
  obtain⟨c,hc,rfl⟩:=List.mem_iff_getElem.mp hf
  have:=hall c (by omega) (by simp)
  have h2:=(sm c (by omega)).symm.trans this
  rw [List.getD_eq_getElem?_getD,List.getElem?_eq_getElem hc] at h2
  exact h2
 ·have h0:p.getD c []≠[]:=fun z=>hne ((sm c hc).trans z)
  obtain⟨N,N1,N2⟩:=D.st1 hp hc h0 97
  exact⟨N,N1,fun t ht=>D.tb1 hp hc (Bd.of_lt (m:=122) (by omega) (by decide)),(piv1 lp hc).mpr N2⟩
theorem D23.oc1 (D:D23 w v q x y u) {c:Nat} {pl:Int} (hc:c < w) (hv:val pl (v.getD c [])≠0):∃(gs:List (List Int)) (Pn:Nat) (f:Nat->List Int) (qs:List (List Int)) (p0:List Int) (t0:Int),OcOk w [v] [c] q gs Pn∧Pn<=24∧(∀N,DbIs ([v]++[q]) [c] N->0<=N∧N < 60∧(∀g∈gs,(g.length:Int)<=N+1)∧N < ((plc w [v] [c] Pn).length:Int))∧
  ((∀p∈gs,p.length<=64∧Nml p∧∀c∈p,Bd 130 c)∧(∀i,(f i).length<=64)∧f 0=[]∧(∀i r,gs[i]?=some r->CommonIs (f i) r (f (i+1)))∧gs.getLast?=some (p0++[t0])∧f gs.length≠[]∧Nml (f gs.length)∧(∀c∈f gs.length,Bd 4000 c)∧qs.length=gs.length∧(∀(i:Nat) (p q:List Int),gs[i]?=some p->qs[i]?=some q->Nml q∧Div p (negL (decide (t0 < 0)) (f gs.length)) q))∧
  FcOk w ([v]++[q]) qs∧((∀j,j < w->j∉[c]->sumC ([v]++[q]) qs j ([v].length+1)=[])->Rl23 v q x y [v] q qs)∧
  ∀j,j < w->j∉[c]->sumC ([v]++[q]) qs j ([v].length+1)≠[]->∃N,N<=24∧(∀t:Nat,t<=N->TBd w ([v]++[q]) ([c]++[j]) (pl+(t:Int)))∧Piv w ([v]++[q]) ([c]++[j]) (pl+(N:Int)) ([v].length+1):=by
 have w4:=D.w4
 have w1:=D.w1
 obtain⟨lv,bv⟩:=D.vec (.inl rfl)
 obtain⟨lq,bq⟩:=D.vec (.inr rfl)
 have hu:=mem_getD (d:=([]:List Int)) (show c < u.length by rw [D.lu];exact hc)
 have hvm:=mem_getD (d:=([]:List Int)) (show c < v.length by rw [lv];exact hc)
 have hqm:=mem_getD (d:=([]:List Int)) (show c < q.length by rw [lq];exact hc)
 have a1:=(D.at hc pl).1
 have u0:u.getD c []≠[]:=fun z=>hv (by rw [a1,z];simp [val])
 have x0:x≠[]:=fun z=>hv (by rw [a1,z];simp [val])
 have v0:v.getD c []≠[]:=fun z=>hv (by rw [z];rfl)
 have ev:v.getD c []=pdL x (u.getD c []):=nml_val (bv _ hvm).1 (pd_nml _ _) fun n=>by rw [pd_val];exact (D.at hc n).1
 obtain⟨f1,f2,p0,t0,c1,c2,c3,c4,c5,c6,c7,c8,c9⟩:=D.com hu u0 x0
 obtain⟨d1,d2,d3⟩:=D.due x0
 have he:=sgn_ne (y:=y) D.nx x0
 have g0v:∀n,val n (pdL (y.map fun z=>-1 * z) (u.getD c []))=- val n (q.getD c []):=fun n=>by
  rw [pd_val,val_map,(D.at hc n).2];grind
 have g0e:pdL (y.map fun z=>-1 * z) (u.getD c [])=(q.getD c []).map fun z=>-1 * z:=nml_val (pd_nml _ _) (nml_scale (by decide) (bq _ hqm).1) fun n=>by rw [g0v,val_map];omega
 have g0l:(pdL (y.map fun z=>-1 * z) (u.getD c [])).length=(q.getD c []).length:=by rw [g0e,List.length_map]
 have g0b:∀z∈pdL (y.map fun z=>-1 * z) (u.getD c []),Bd 60 z:=fun z hz=>by
  rw [g0e] at hz
  obtain⟨a,ha,rfl⟩:=List.mem_map.mp hz
  rw [show -1 * a=-a by omega];exact ((bq _ hqm).2.2 a ha).neg
 have lvc:=(bv _ hvm).2.1
 have lqc:=(bq _ hqm).2.1
 have sz:∀j,j < w->sumC [v,q] (due23 x y) j 2=[]:=fun j hj=>nml_val (sumC_nml _ _ _ _) nml_nil fun n=>by
  rw [val_sumC,val_sumC]
  show (0+val n (v.getD j []) * val n ((due23 x y).getD 0 []))+val n (q.getD j []) * val n ((due23 x y).getD 1 [])=0
  rw [(D.at hj n).1,(D.at hj n).2]
  have e1:=d2 n
  have e2:=d3 n
  generalize val n ((due23 x y).getD 0 [])=A at e1 ⊢
  generalize val n ((due23 x y).getD 1 [])=B at e2 ⊢
  have:(0+val n x * val n (u.getD j []) * A+val n y * val n (u.getD j []) * B) * sgn23 x y=0:=by grind
  rcases Int.mul_eq_zero.mp this with h | h
  ·exact h
  ·exact absurd h he
 have bp8:∀n:Nat,n < 24->Bd 8 (n:Int):=fun n hn=>Bd.of_lt (m:=24) (by omega) (by decide)
 have gdv:∀b,IsGd (rowC v [c]) b->b=(((v.getD c []).length - 1:Nat):Int):=fun b h=>isGd1 h
 have gdq:∀b,IsGd (rowC q [c]) b->b=(((q.getD c []).length - 1:Nat):Int):=fun b h=>isGd1 h
 have gdc:∀b,IsGd (colC [v,q] c) b->(((v.getD c []).length - 1:Nat):Int)<=b∧(((q.getD c []).length - 1:Nat):Int)<=b∧(b=(((v.getD c []).length - 1:Nat):Int)∨b=(((q.getD c []).length - 1:Nat):Int)):=fun b h=>isGd2 h
 have mk0:∀n:Int,co (lowV w [v] [c] q n) (w+0)=- val n (q.getD c []):=fun n=>by
  rw [low1 lv lq hc (by omega),rowA_mark lq (Nat.zero_le _),rowA_mark lv (Nat.zero_le _),if_pos rfl,if_neg (by decide)];omega
 have mk1:∀n:Int,co (lowV w [v] [c] q n) (w+1)=val n (v.getD c []):=fun n=>by
  rw [low1 lv lq hc (by omega),rowA_mark lq (by omega),rowA_mark lv (by omega),if_pos rfl,if_neg (by decide)];omega
 have pm:=plc_many (w:=w) (kept:=[v]) (cs:=[c]) (bv _ hvm).1 v0 (Pn:=24) fun n hn hz=>(piv1 lv hc).mpr hz
 have v1:(v.getD c []).length≠0:=fun z=>v0 (List.eq_nil_of_length_eq_zero z)
 have at1:=fun n=>(D.at hc n).1
 have at2:=fun n=>(D.at hc n).2
 have bvc:=bv _ hvm
 have bqc:=bq _ hqm
 have nG:=pd_nml (y.map fun z=>-1 * z) (u.getD c [])
 rw [← ev] at c4 c5
 generalize pdL (y.map fun z=>-1 * z) (u.getD c [])=G at *
 generalize v.getD c []=vc at *
 generalize q.getD c []=qc at *
 generalize u.getD c []=uc at *
 refine⟨[G,vc],24,fun i=>if i=0 then [] else if i=1 then f1 else f2,due23 x y,p0,t0,⟨by simp,by simpa using w1,fun r hr=>?_,fun j hj=>by rw [List.mem_singleton.mp hj];exact hc,by simp,rfl,by decide,fun n hn=>D.tb1 (.inl rfl) hc (bp8 n hn),fun n hn _=>D.lo1 (.inl rfl) (.inr rfl) hc (bp8 n hn),⟨by omega,fun f hf=>⟨by have:=(bq f hf).2.1;omega,fun c hc=>((bq f hf).2.2 c hc).mono (by decide)⟩⟩,fun n hn _ i g hg=>?_,fun g hg=>?_⟩,by decide,fun N hN=>?_,⟨fun g hg=>?_,fun i=>?_,rfl,fun i r hr=>?_,?_,c6,c7,c8,rfl,fun i g h h1 h2=>?_⟩,⟨rfl,by simp,by omega,fun r hr=>?_,fun r hr=>?_,fun g hg=>?_⟩,fun hall=>.inr ⟨rfl,rfl,rfl⟩,fun j hj _ hne=>absurd (sz j hj) hne⟩
 ·simp at hr;rcases hr with rfl | rfl
  ·exact lv
  ·exact lq
 ·cases i with
  | zero=>
   obtain rfl:G=g:=Option.some.inj hg
   rw [mk0,g0v]
  | succ i=>
   cases i with
   | zero=>
    obtain rfl:vc=g:=Option.some.inj hg
    exact mk1 _
   | succ i=>simp at hg
 ·simp only [List.mem_cons,List.not_mem_nil,or_false] at hg
  rcases hg with rfl | rfl
  ·exact⟨nG,fun n hn=>(val_bd (bp8 n hn) _ g0b).mono (by rw [g0l];omega)⟩
  ·exact⟨bvc.1,fun n hn=>(val_bd (bp8 n hn) _ bvc.2.2).mono (by omega)⟩
 ·obtain⟨bv',bc,m,h1,h2,h3,h4,h5,h6,h7⟩:=hN
  obtain⟨b0,b1,rfl⟩:∃b0 b1,bv'=[b0,b1]:=by
   match bv',h1 with
   | [b0,b1],_=>exact⟨b0,b1,rfl⟩
  obtain⟨k0,rfl⟩:=List.length_eq_one_iff.mp h2
  have g0:=gdv b0 (h3 0 b0 v rfl rfl)
  have g1:=gdq b1 (h3 1 b1 q rfl rfl)
  obtain⟨k1,k2,k3⟩:=gdc k0 (h4 0 k0 c rfl rfl)
  have m0:=h6 b0 (by simp)
  have m1:=h6 b1 (by simp)
  have mm:m=b0∨m=b1:=by simpa using h5
  have s1:([b0,b1]:List Int).sum=b0+b1:=by simp
  have s2:([k0]:List Int).sum=k0:=by simp
  rw [s1,s2] at h7
  have Nk:N=k0:=by
   rw [h7];split <;> omega
  refine⟨by omega,by omega,fun g hg=>?_,by omega⟩
  simp only [List.mem_cons,List.not_mem_nil,or_false] at hg
  rcases hg with rfl | rfl
  ·rw [g0l];omega
  ·omega
 ·simp only [List.mem_cons,List.not_mem_nil,or_false] at hg
  rcases hg with rfl | rfl
  ·exact⟨by rw [g0l];omega,nG,fun z hz=>(g0b z hz).mono (by decide)⟩
  ·exact⟨by omega,bvc.1,fun z hz=>(bvc.2.2 z hz).mono (by decide)⟩
 ·dsimp only
  split
  ·simp
  ·split
   ·exact c2
   ·exact c3
 ·cases i with
  | zero=>obtain rfl:G=r:=Option.some.inj hr;exact .inl ⟨rfl,c1⟩
  | succ i=>
   cases i with
   | zero=>obtain rfl:vc=r:=Option.some.inj hr;exact c4
   | succ i=>simp at hr
 ·show some vc=_;rw [c5]
 ·have hd:∀f∈due23 x y,Nml f:=fun f hf=>(d1 f hf).1
  show Nml h∧Div g (negL (decide (t0 < 0)) f2) h
  refine⟨hd h (List.mem_of_getElem? h2),div_val.mpr fun n=>?_⟩
  rw [c9]
  cases i with
  | zero=>
   obtain rfl:G=g:=Option.some.inj h1
   have:h=(due23 x y).getD 0 []:=by rw [List.getD_eq_getElem?_getD,h2];rfl
   rw [this,g0v,at2]
   have:=d2 n
   grind
  | succ i=>
   cases i with
   | zero=>
    obtain rfl:vc=g:=Option.some.inj h1
    have:h=(due23 x y).getD 1 []:=by rw [List.getD_eq_getElem?_getD,h2];rfl
    rw [this,at1]
    have:=d3 n
    grind
   | succ i=>simp at h1
 ·simp at hr;rcases hr with rfl | rfl
  ·exact lv
  ·exact lq
 ·simp at hr;rcases hr with rfl | rfl
  ·exact fun f hf=>⟨by have:=(bv f hf).2.1;omega,fun c hc=>((bv f hf).2.2 c hc).mono (by decide)⟩
  ·exact fun f hf=>⟨by have:=(bq f hf).2.1;omega,fun c hc=>((bq f hf).2.2 c hc).mono (by decide)⟩
 ·obtain⟨_,z1,z2⟩:=d1 g hg
  exact⟨by omega,fun c hc=>(z2 c hc).mono (by decide)⟩
theorem D23.th (D:D23 w v q x y u):SpTh w 24 1 (St23 w v q) (Vq23 v q) (Rl23 v q x y) where
 b3:=by decide
 k18:=by decide
 st0:=.inl ⟨rfl,rfl,rfl⟩
 stS:=fun kept cs pl p c t hS hV hc hn ht pv=>by
  have w4:=D.w4
  rcases hV with ⟨rfl,hp⟩ | ⟨rfl,rfl⟩
  ·obtain⟨lp,_⟩:=D.vec hp
   rcases hS with ⟨_,rfl,rfl⟩ | ⟨_,_,_,z,_⟩
   ·exact .inr ⟨p,c,hp,rfl,rfl,hc,by omega,by omega,(piv1 lp hc).mp pv⟩
   ·simp at z
  ·rcases hS with ⟨z,_⟩ | ⟨p',c',hp',ek,rfl,hc',p1,p2,hv⟩
   ·simp at z
   ·exfalso
    have e:=D.flat hc' (n:=pl+(t:Int)) hc
    exact pv 1 (Nat.lt_succ_self _) e
 bd:=fun kept cs pl p hS hV=>by
  have w4:=D.w4
  have hp:(p=v∨p=q)∧kept.length<=1:=by
   rcases hV with ⟨rfl,hp⟩ | ⟨rfl,rfl⟩
   ·exact⟨hp,by simp⟩
   ·exact⟨.inr rfl,by simp⟩
  obtain⟨lp,bp⟩:=D.vec hp.1
  exact⟨hp.2,lp,fun f hf=>⟨by have:=(bp f hf).2.1;omega,fun c hc=>((bp f hf).2.2 c hc).mono (by decide)⟩⟩
 tb:=fun kept cs pl p hS hV=>by
  have w4:=D.w4
  rcases hV with ⟨rfl,hp⟩ | ⟨rfl,rfl⟩
  ·rcases hS with ⟨_,rfl,rfl⟩ | ⟨_,_,_,z,_⟩
   ·exact⟨tb0 (by omega) (Bd.of_lt (m:=98) (by decide) (by decide)),fun i hi=>by simp at hi,lo0 (by omega) (D.vec hp).1 (by simp)⟩
   ·simp at z
  ·rcases hS with ⟨z,_⟩ | ⟨p',c',hp',ek,rfl,hc',p1,p2,hv⟩
   ·simp at z
   ·have ep:v=p':=by simpa using ek
    subst ep
    have bpl:Bd 8 pl:=Bd.of_lt (m:=122) (by omega) (by decide)
    exact⟨D.tb1 (.inl rfl) hc' bpl,(piv1 (D.vec (.inl rfl)).1 hc').mpr hv,D.lo1 (.inl rfl) (.inr rfl) hc' bpl⟩
 hit:=fun kept cs pl p c hS hV hc h0=>by
  have w4:=D.w4
  rcases hV with ⟨rfl,hp⟩ | ⟨rfl,rfl⟩
  ·rcases hS with ⟨_,rfl,rfl⟩ | ⟨_,_,_,z,_⟩
   ·exact⟨by simp,D.tb1 hp hc (Bd.of_lt (m:=98) (by decide) (by decide))⟩
   ·simp at z
  ·rcases hS with ⟨z,_⟩ | ⟨p',c',hp',ek,rfl,hc',p1,p2,hv⟩
   ·simp at z
   ·exact absurd (D.flat hc' hc) h0
 oc:=fun kept cs pl p hS hV hz=>by
  have w4:=D.w4
  have w1:=D.w1
  rcases hV with ⟨rfl,hp⟩ | ⟨rfl,rfl⟩
  ·rcases hS with ⟨_,rfl,rfl⟩ | ⟨_,_,_,z,_⟩
   ·exact D.oc0 hp
   ·simp at z
  ·rcases hS with ⟨z,_⟩ | ⟨p',c,hp',ek,rfl,hc,p1,p2,hv⟩
   ·simp at z
   ·have ep:v=p':=by simpa using ek
    subst ep
    exact D.oc1 hc hv
 sub:=fun kept cs pl p few hS hV fp fk fl=>by
  rcases hV with ⟨rfl,hp⟩ | ⟨rfl,rfl⟩
  ·simp at fl
  ·have:few=[]:=List.eq_nil_of_length_eq_zero (by simpa using fl)
   subst this
   exact⟨.inl ⟨rfl,.inr rfl⟩,fun i j h=>by simp at h⟩
 len:=fun kept p ws h=>by
  rcases h with ⟨rfl,rfl,_⟩ | ⟨rfl,_,rfl⟩ <;> rfl
 up:=fun kept cs pl p few ws hS hV fp fk fl h=>by
  rcases hV with ⟨rfl,hp⟩ | ⟨rfl,rfl⟩
  ·simp at fl
  ·have:few=[]:=List.eq_nil_of_length_eq_zero (by simpa using fl)
   subst this
   rcases h with ⟨_,rfl,hz⟩ | ⟨z,_⟩
   ·refine .inr ⟨rfl,rfl,?_⟩
    rcases hS with ⟨z,_⟩ | ⟨p',c,hp',ek,rfl,hc,p1,p2,hv⟩
    ·simp at z
    ·have ep:v=p':=by simpa using ek
     subst ep
     have hq:p.getD c []=[]:=hz _ (mem_getD (by rw [(D.vec (.inr rfl)).1];exact hc))
     have a1:=(D.at hc pl).1
     rw [a1] at hv
     have ux:∀n,val n y * val n (u.getD c [])=0:=fun n=>by rw [← (D.at hc n).2,hq];rfl
     have hu:=mem_getD (d:=([]:List Int)) (show c < u.length by rw [D.lu];exact hc)
     have u0:u.getD c []≠[]:=fun z=>hv (by rw [z];simp [val])
     have y0:y=[]:=by
      by_cases z:y=[]
      ·exact z
      ·exact absurd (nml_val (pd_nml _ _) nml_nil fun n=>by rw [pd_val,ux n];rfl) (pd_ne D.ny (D.nu _ hu).1 z u0)
     obtain⟨k,hk⟩:=D.x0 y0
     have k0:k≠0:=fun z=>by rw [hk,z] at hv;simp [val] at hv
     rw [hk,y0]
     have e1:sgn23 [k] []=k:=by
      have e1:contL ([k]++[])=k.natAbs:=by simp [contL]
      have e2:co [k] ([k].length - 1)=k:=rfl
      unfold sgn23
      rw [e1,e2]
      split <;> omega
     rw [due23_is,e1]
     show [[],[1]]=[[],[k.fdiv k]]
     rw [Int.fdiv_self k0]
   ·simp at z
end
def cell (ns:List Int) (k:Nat):Int:=ns.getD k 0
def spCellAt (K:PySem.W.Frag):Sp:=fun vs H Q _=>∃(a:Addr) (ns:List Int) (k:Nat),vs=[.ref a,.int (k:Int)]∧SqL K H a (ns.map V.int)∧Q (.int (cell ns k)) H
theorem ok__law_cell_at {P:Program} {w:World} {K:PySem.W.Frag} {mg:Str->Option Value} {base:Heap} (T:Tx K mg):FnOk P w K mg base CX0 1 T.a__law_cell_at T.fd__law_cell_at ["_law_script","_law_k"] (spCellAt K):=by
 refine T.F__law_cell_at.ok sc__law_cell_at (fun vs H Q E h=>?_) (fun cdv A outer s H vs Q E hr h=>?_)
 ·obtain⟨a,ns,k,rfl,_⟩:=h
  rfl
 obtain⟨a,ns,k,rfl,hS,q⟩:=h
 refine⟨_,((pss_cons (ps_if (pt_cmpR op_lt (pv 1) (pe_callB call_len_seq rfl T.z_len bt_len (pa_cons (pv 0) pa_nil)) (nomark _)) (pss_one (ps_ret (pe_ix ix_list (pv 0) (pv 1) (fun _ _=>rfl)))) pss_nil)
  (pss_one (ps_ret pe_int)))),?_⟩
 k_units
 refine⟨_,.inl hS,?_⟩
 rw [List.length_map]
 unfold cell at q
 refine ite2 (fun h=>?_) (fun h=>?_)
 ·have h':k < ns.length:=by omega
  rw [List.getD_eq_getElem?_getD,List.getElem?_eq_getElem h'] at q
  exact⟨_,hS,_,at_int h',q⟩
 ·rw [List.getD_eq_getElem?_getD,List.getElem?_eq_none (by omega)] at q
  exact q
theorem trim_drop {xs:List Int} (h:xs≠[]) (h0:xs.getLast h=0):trim xs.dropLast=trim xs:=by
 have e:=List.dropLast_concat_getLast h
 rw [h0] at e
 conv=>rhs;rw [← e]
 rw [trim_zero]
theorem ok__law_cut {P:Program} {w:World} {K:PySem.W.Frag} {mg:Str->Option Value} {base:Heap} (T:Tx K mg):FnOk P w K mg base CX0 1 T.a__law_cut T.fd__law_cut ["_law_numbers"] (spTrim K):=by
 refine T.F__law_cut.ok sc__law_cut (fun vs H Q E h=>?_) (fun cdv A outer s H vs Q E hr h=>?_)
 ·obtain⟨a,xs,rfl,_⟩:=h
  rfl
 obtain⟨a,xs,rfl,hS,hl,q⟩:=h
 refine⟨_,((pss_cons (ps_set (i:=1) sc__law_cut.nd rfl (Or.inl rfl) (pe_callTy call_list_of rfl T.z_list bt_list (pa_cons (pv 0) pa_nil)))
  (pss_cons (ps_while PassesOwn.never (PW.pt (pw_and (pt_cmpR op_gt (pe_callB call_len_seq rfl T.z_len bt_len (pa_cons (pv 1) pa_nil)) pe_int (nomark _)) (pw_and1 (pt_cmpR op_eq (pe_ix ix_list (pv 1) (pe_un un_neg pe_int) (fun _ _=>rfl)) pe_int (nomark _))))) (pss_one (ps_expr (pe_bm0 PySem.F.plainAttrs_list PySem.F.slot_list_pop PySem.F.type_list_pop mt_pop (pv 1)))))
  (pss_one (ps_ret (pv 1)))))),?_⟩
 k_units
 refine⟨_,.inl hS,fun L hL=>?_⟩
 refine while_of (fun m σ H'=>∃ys:List Int,ys.length=m∧σ=[some (.ref a),some (.ref L)]∧H'=upd H L (.lst (ys.map V.int))∧trim ys=trim xs) xs.length ⟨xs,rfl,rfl,rfl,rfl⟩ ?_
 rintro m σ H' ⟨ys,hm,rfl,rfl,he⟩
 k_units
 refine⟨_,.inl (SqL.of upd_same),?_⟩
 rw [List.length_map]
 have fin:Nml ys->Q (.ref L) (upd H L (.lst (ys.map V.int))):=fun hn=>by
  refine q L _ (same_upd hL _) hL ?_
  rw [upd_same,← he,nml_trim hn]
 refine ite2 (fun h=>?_) (fun h=>?_)
 ·have hne:ys≠[]:=by intro z;rw [z] at h;simp at h
  refine⟨_,SqL.of upd_same,_,at_last hne,?_⟩
  k_units
  refine ite2 (fun h0=>?_) (fun h0=>?_)
  ·refine⟨fun σ' H1=>σ'=[some (V.ref a),some (V.ref L)]∧H1=upd H L (.lst (ys.dropLast.map V.int)),?_,a_tyL (SqL.of upd_same),_,upd_same,V.int (ys.getLast hne),?_,rfl,?_⟩
   ·rintro σ' H1 ⟨rfl,rfl⟩
    exact⟨ys.length - 1,by omega,ys.dropLast,List.length_dropLast,rfl,rfl,by rw [trim_drop hne h0];exact he⟩
   ·rw [List.getElem?_map,List.length_map,← List.getLast?_eq_getElem?,List.getLast?_eq_some_getLast hne];rfl
   ·rw [upd_upd,← List.map_dropLast]
  ·refine fin (nml_last.mpr fun x hx=>?_)
   rw [List.getLast?_eq_some_getLast hne] at hx
   rw [← Option.some.inj hx];exact h0
 ·have hn:ys=[]:=List.eq_nil_of_length_eq_zero (by omega)
  exact fin (by rw [hn];exact nml_nil)
def spProd7 (K:PySem.W.Frag):Sp:=fun vs H Q _=>∃(a b:Addr) (xs ys:List Int) (k l:Nat),vs=[.ref a,.ref b]∧SqL K H a (xs.map V.int)∧SqL K H b (ys.map V.int)∧xs.length<=40∧ys.length<=40∧(∀x∈xs,Bd k x)∧(∀y∈ys,Bd l y)∧k+l<=5000∧
 ∀ws:List Int,Nml ws->ws.length<=xs.length+ys.length->(∀j,co ws j=pm (co xs) (co ys) j)->newL H Q (ws.map V.int)
theorem ok__law_product {P:Program} {w:World} {K:PySem.W.Frag} {mg:Str->Option Value} {base:Heap} (T:Tx K mg):FnOk P w K mg base CX0 2 T.a__law_product T.fd__law_product ["_law_one","_law_other"] (spProd7 K):=by
 refine T.F__law_product.ok sc__law_product (fun vs H Q E h=>?_) (fun cdv A outer s H vs Q E hr h=>?_)
 ·obtain⟨a,b,xs,ys,k0,l0,rfl,_⟩:=h
  rfl
 obtain⟨a,b,xs,ys,k0,l0,rfl,hA,hB,la,lb,ba,bb,hkl,q⟩:=h
 refine⟨_,((pss_cons (ps_set (i:=2) sc__law_product.nd rfl (Or.inl rfl) (pe_op op_rep (pe_lst (pa_cons pe_int pa_nil)) (pe_op op_add (pe_callB call_len_seq rfl T.z_len bt_len (pa_cons (pv 0) pa_nil)) (pe_callB call_len_seq rfl T.z_len bt_len (pa_cons (pv 1) pa_nil)))))
  (pss_cons (ps_for PassesOwn.never rfl (pi_range1 rfl T.z_range (pa_cons (pe_callB call_len_seq rfl T.z_len bt_len (pa_cons (pv 0) pa_nil)) pa_nil)) (pg_name (i:=3) sc__law_product.nd rfl (Or.inl rfl)) (pss_one (ps_for PassesOwn.never rfl (pi_range1 rfl T.z_range (pa_cons (pe_callB call_len_seq rfl T.z_len bt_len (pa_cons (pv 1) pa_nil)) pa_nil)) (pg_name (i:=4) sc__law_product.nd rfl (Or.inl rfl)) (pss_one (ps_asg (pe_op op_add (pe_ix ix_list (pv 2) (pe_op op_add (pv 3) (pv 4)) (fun _ _=>rfl)) (pe_op op_mulZ (pe_ix ix_list (pv 0) (pv 3) (fun _ _=>rfl)) (pe_ix ix_list (pv 1) (pv 4) (fun _ _=>rfl)))) (pg_sub (pv 2) (pe_op op_add (pv 3) (pv 4)) set_list))))))
  (pss_one (ps_ret (pe_call (FnOk.mono (ok__law_cut T) (by decide)) hr rfl T.m__law_cut T.F__law_cut.kp T.b__law_cut .nil pass0 (pa_cons (pv 2) pa_nil))))))),?_⟩
 k_units
 refine⟨by decide,fun p hp=>?_⟩
 have s1:=same_upd hp (.lst [V.int 0])
 refine⟨_,.inl (s1.seq hA),_,.inl (s1.seq hB),_,upd_same,?_⟩
 rw [List.length_map,List.length_map,rep_zero]
 obtain⟨k,hk⟩:∃k:Nat,(xs.length:Int)+(ys.length:Int)=(k:Int):=⟨xs.length+ys.length,by omega⟩
 have hk1:k=xs.length+ys.length:=by omega
 rw [hk,Int.toNat_natCast]
 refine⟨by omega,by omega,Nat.le_of_lt (small1000 (by simp;omega)),fun F hF=>?_⟩
 have s4:=s1.trans (same_upd hF (.lst ((List.replicate k (0:Int)).map V.int)))
 have f0:=s1.free hF
 have h4:upd (upd H p (.lst [V.int 0])) F (.lst ((List.replicate k (0:Int)).map V.int)) F=_:=upd_same
 generalize upd (upd H p (.lst [V.int 0])) F (.lst ((List.replicate k (0:Int)).map V.int))=H4 at s4 h4 ⊢
 refine⟨_,.inl (s4.seq hA),?_⟩
 rw [List.length_map,Int.toNat_natCast]
 refine⟨by omega,by omega,?_⟩
 obtain⟨Pv,hPv⟩:∃Pv:Nat->L2.St->Hp->Prop,∀l σ H',Pv l σ H'↔∃(zs:List Int) (r1 r2:Option V),σ=[some (V.ref a),some (V.ref b),some (V.ref F),r1,r2]∧H' F=some (.lst (zs.map V.int))∧zs.length=k∧
  (∀j,co zs j=cv xs ys l j)∧Same H H':=⟨_,fun _ _ _=>Iff.rfl⟩
 refine lp_range Pv ((hPv _ _ _).mpr ⟨_,none,none,rfl,h4,by simp,fun j=>by rw [co_rep];rfl,s4⟩) ?_ ?_
 ·intro l σ H' hi hp'
  obtain⟨zs,r1,r2,rfl,hz,lz,cz',sz⟩:=(hPv _ _ _).mp hp'
  have e1:(0:Int)+(l:Int)=(l:Int):=Int.zero_add _
  (iterate 3 (k_units;(try simp only [e1]));k_units)
  refine⟨_,.inl (sz.seq hB),?_⟩
  rw [List.length_map,Int.toNat_natCast]
  refine⟨by omega,by omega,?_⟩
  obtain⟨Pw,hPw⟩:∃Pw:Nat->L2.St->Hp->Prop,∀j σ H',Pw j σ H'↔∃(zs:List Int) (r2:Option V),σ=[some (V.ref a),some (V.ref b),some (V.ref F),some (V.int l),r2]∧H' F=some (.lst (zs.map V.int))∧zs.length=k∧
   (∀t,co zs t=cv xs ys l t+if l<=t∧t < l+j then xs[l] * co ys (t - l) else 0)∧Same H H':=⟨_,fun _ _ _=>Iff.rfl⟩
  refine lp_range Pw ((hPw _ _ _).mpr ⟨zs,_,rfl,hz,lz,fun t=>by rw [cz' t,if_neg (show ¬(l<=t∧t < l+0) by omega)];omega,sz⟩) ?_ ?_
  ·intro j σ H' hj hp'
   obtain⟨zs,r2,rfl,hz,lz,cz',sz⟩:=(hPw _ _ _).mp hp'
   have e2:(0:Int)+(j:Int)=(j:Int):=Int.zero_add _
   have eij:(l:Int)+(j:Int)=((l+j:Nat):Int):=rfl
   (iterate 3 (k_units;(try simp only [e2,eij]));k_units)
   have hiz:l+j < zs.length:=by omega
   refine⟨_,SqL.of hz,_,at_int hiz,_,sz.seq hA,_,at_int hi,_,sz.seq hB,_,at_int hj,?_⟩
   k_units
   refine⟨(ba _ (List.getElem_mem hi)).fits (bb _ (List.getElem_mem hj)) (by omega),_,hz,l+j,ixN_nat (by rw [List.length_map];exact hiz),(hPw _ _ _).mpr ⟨zs.set (l+j) (zs[l+j]+xs[l] * ys[j]),_,rfl,by rw [upd_same,map_set],by rw [List.length_set];exact lz,fun t=>?_,sz.more f0⟩⟩
   rw [co_set _ _ _ _ hiz]
   by_cases e:t=l+j
   ·subst e
    have:=cz' (l+j)
    rw [if_neg (show ¬(l<=l+j∧l+j < l+j) by omega),co_lt hiz] at this
    rw [if_pos (show l+j=l+j from rfl),if_pos (show l<=l+j∧l+j < l+(j+1) by omega),show l+j - l=j by omega,co_lt hj];omega
   ·rw [if_neg e,cz' t]
    by_cases h3:l<=t∧t < l+j
    ·rw [if_pos h3,if_pos (show l<=t∧t < l+(j+1) by omega)]
    ·rw [if_neg h3,if_neg (show ¬(l<=t∧t < l+(j+1)) by omega)]
  ·intro σ H' hp'
   obtain⟨zs,r2,rfl,hz,lz,cz',sz⟩:=(hPw _ _ _).mp hp'
   refine (hPv _ _ _).mpr ⟨zs,_,_,rfl,hz,lz,fun t=>?_,sz⟩
   rw [cz' t]
   have e:cv xs ys (l+1) t=cv xs ys l t+co xs l * cz ys t l:=rfl
   rw [e,co_lt hi]
   unfold cz
   by_cases h2:l<=t
   ·rw [if_pos h2]
    by_cases h3:t < l+ys.length
    ·rw [if_pos ⟨h2,h3⟩]
    ·rw [if_neg (by omega),co_ge (xs:=ys) (by omega),Int.mul_zero]
   ·rw [if_neg (by omega),if_neg h2,Int.mul_zero]
 ·intro σ H' hp'
  obtain⟨zs,r1,r2,rfl,hz,lz,cz',sz⟩:=(hPv _ _ _).mp hp'
  k_units
  refine⟨F,zs,rfl,SqL.of hz,by omega,fun R H2 s2 nR eR=>q (trim zs) (trim_nml _) (Nat.le_trans (trim_len _) (by omega)) (fun j=>?_) R _ (sz.trans s2) (sz.free nR) eR⟩
  rw [trim_co,cz' j,pm_cv]
def spSum7 (K:PySem.W.Frag):Sp:=fun vs H Q _=>∃(a b:Addr) (xs ys:List Int),vs=[.ref a,.ref b]∧SqL K H a (xs.map V.int)∧SqL K H b (ys.map V.int)∧xs.length<=40∧ys.length<=40∧
 ∀ws:List Int,Nml ws->ws.length<=40->(∀j,co ws j=co xs j+co ys j)->newL H Q (ws.map V.int)
theorem ok__law_sum {P:Program} {w:World} {K:PySem.W.Frag} {mg:Str->Option Value} {base:Heap} (T:Tx K mg):FnOk P w K mg base CX0 2 T.a__law_sum T.fd__law_sum ["_law_one","_law_other"] (spSum7 K):=by
 refine T.F__law_sum.ok sc__law_sum (fun vs H Q E h=>?_) (fun cdv A outer s H vs Q E hr h=>?_)
 ·obtain⟨a,b,xs,ys,rfl,_⟩:=h
  rfl
 obtain⟨a,b,xs,ys,rfl,hA,hB,la,lb,q⟩:=h
 refine⟨_,((pss_cons (ps_set (i:=2) sc__law_sum.nd rfl (Or.inl rfl) (pe_op op_rep (pe_lst (pa_cons pe_int pa_nil)) (pe_callB (call_max2 rfl) rfl T.z_max bt_max (pa_cons (pe_callB call_len_seq rfl T.z_len bt_len (pa_cons (pv 0) pa_nil)) (pa_cons (pe_callB call_len_seq rfl T.z_len bt_len (pa_cons (pv 1) pa_nil)) pa_nil)))))
  (pss_cons (ps_for PassesOwn.never rfl (pi_range1 rfl T.z_range (pa_cons (pe_callB call_len_seq rfl T.z_len bt_len (pa_cons (pv 0) pa_nil)) pa_nil)) (pg_name (i:=3) sc__law_sum.nd rfl (Or.inl rfl)) (pss_one (ps_asg (pe_ix ix_list (pv 0) (pv 3) (fun _ _=>rfl)) (pg_sub (pv 2) (pv 3) set_list))))
  (pss_cons (ps_for PassesOwn.never rfl (pi_range1 rfl T.z_range (pa_cons (pe_callB call_len_seq rfl T.z_len bt_len (pa_cons (pv 1) pa_nil)) pa_nil)) (pg_name (i:=3) sc__law_sum.nd rfl (Or.inl rfl)) (pss_one (ps_asg (pe_op op_add (pe_ix ix_list (pv 2) (pv 3) (fun _ _=>rfl)) (pe_ix ix_list (pv 1) (pv 3) (fun _ _=>rfl))) (pg_sub (pv 2) (pv 3) set_list))))
  (pss_one (ps_ret (pe_call (FnOk.mono (ok__law_cut T) (by decide)) hr rfl T.m__law_cut T.F__law_cut.kp T.b__law_cut .nil pass0 (pa_cons (pv 2) pa_nil)))))))),?_⟩
 k_units
 refine⟨by decide,fun p hp=>?_⟩
 have s1:=same_upd hp (.lst [V.int 0])
 refine⟨_,.inl (s1.seq hA),_,.inl (s1.seq hB),_,upd_same,?_⟩
 rw [List.length_map,List.length_map,rep_zero]
 obtain⟨k,hk⟩:∃k:Nat,(if (ys.length:Int) > (xs.length:Int) then (ys.length:Int) else (xs.length:Int))=(k:Int):=⟨max xs.length ys.length,by split <;> omega⟩
 have hk1:xs.length<=k∧ys.length<=k∧k<=40:=by split at hk <;> omega
 obtain⟨k1,k2,k3⟩:=hk1
 rw [hk,Int.toNat_natCast]
 refine⟨by omega,by omega,Nat.le_of_lt (small1000 (by simp;omega)),fun F hF=>?_⟩
 have s4:=s1.trans (same_upd hF (.lst ((List.replicate k (0:Int)).map V.int)))
 have f0:=s1.free hF
 have h4:upd (upd H p (.lst [V.int 0])) F (.lst ((List.replicate k (0:Int)).map V.int)) F=_:=upd_same
 generalize upd (upd H p (.lst [V.int 0])) F (.lst ((List.replicate k (0:Int)).map V.int))=H4 at s4 h4 ⊢
 refine⟨_,.inl (s4.seq hA),?_⟩
 rw [List.length_map,Int.toNat_natCast]
 refine⟨by omega,by omega,?_⟩
 obtain⟨Pv,hPv⟩:∃Pv:Nat->L2.St->Hp->Prop,∀l σ H',Pv l σ H'↔∃(zs:List Int) (r1:Option V),σ=[some (V.ref a),some (V.ref b),some (V.ref F),r1]∧H' F=some (.lst (zs.map V.int))∧zs.length=k∧(∀j,co zs j=if j < l then co xs j else 0)∧Same H H':=⟨_,fun _ _ _=>Iff.rfl⟩
 refine lp_range Pv ((hPv _ _ _).mpr ⟨_,none,rfl,h4,by simp,fun j=>by rw [co_rep,if_neg (by omega)],s4⟩) ?_ ?_
 ·intro j σ H' hj hp'
  obtain⟨zs,r1,rfl,hz,lz,cz',sz⟩:=(hPv _ _ _).mp hp'
  have e2:(0:Int)+(j:Int)=(j:Int):=Int.zero_add _
  (iterate 3 (k_units;(try simp only [e2]));k_units)
  have hiz:j < zs.length:=by omega
  refine⟨_,sz.seq hA,_,at_int hj,_,hz,j,ixN_nat (by rw [List.length_map];exact hiz),(hPv _ _ _).mpr ⟨zs.set j xs[j],_,rfl,by rw [upd_same,map_set],by rw [List.length_set];exact lz,fun t=>?_,sz.more f0⟩⟩
  rw [co_set _ _ _ _ hiz]
  by_cases e:t=j
  ·subst e
   rw [if_pos rfl,if_pos (by omega),co_lt hj]
  ·rw [if_neg e,cz' t]
   by_cases h3:t < j
   ·rw [if_pos h3,if_pos (by omega)]
   ·rw [if_neg h3,if_neg (by omega)]
 ·intro σ H' hp'
  obtain⟨zs,r1,rfl,hz,lz,cz',sz⟩:=(hPv _ _ _).mp hp'
  k_units
  refine⟨_,.inl (sz.seq hB),?_⟩
  rw [List.length_map,Int.toNat_natCast]
  refine⟨by omega,by omega,?_⟩
  obtain⟨Pw,hPw⟩:∃Pw:Nat->L2.St->Hp->Prop,∀l σ H',Pw l σ H'↔∃(zs:List Int) (r1:Option V),σ=[some (V.ref a),some (V.ref b),some (V.ref F),r1]∧H' F=some (.lst (zs.map V.int))∧zs.length=k∧(∀j,co zs j=co xs j+if j < l then co ys j else 0)∧Same H H':=⟨_,fun _ _ _=>Iff.rfl⟩
  refine lp_range Pw ((hPw _ _ _).mpr ⟨zs,_,rfl,hz,lz,fun t=>?_,sz⟩) ?_ ?_
  ·rw [cz' t,if_neg (show ¬t < 0 by omega)]
   by_cases h3:t < xs.length
   ·rw [if_pos h3];omega
   ·rw [if_neg h3,co_ge (xs:=xs) (by omega)];rfl
  ·intro j σ H' hj hp'
   obtain⟨zs,r1,rfl,hz,lz,cz',sz⟩:=(hPw _ _ _).mp hp'
   have e2:(0:Int)+(j:Int)=(j:Int):=Int.zero_add _
   (iterate 3 (k_units;(try simp only [e2]));k_units)
   have hiz:j < zs.length:=by omega
   refine⟨_,SqL.of hz,_,at_int hiz,_,sz.seq hB,_,at_int hj,?_⟩
   k_units
   refine⟨_,hz,j,ixN_nat (by rw [List.length_map];exact hiz),(hPw _ _ _).mpr ⟨zs.set j (zs[j]+ys[j]),_,rfl,by rw [upd_same,map_set],by rw [List.length_set];exact lz,fun t=>?_,sz.more f0⟩⟩
   rw [co_set _ _ _ _ hiz]
   by_cases e:t=j
   ·subst e
    have:=cz' t
    rw [if_neg (by omega),co_lt hiz] at this
    rw [if_pos rfl,if_pos (by omega),co_lt hj];omega
   ·rw [if_neg e,cz' t]
    by_cases h3:t < j
    ·rw [if_pos h3,if_pos (by omega)]
    ·rw [if_neg h3,if_neg (by omega)]
  ·intro σ H' hp'
   obtain⟨zs,r1,rfl,hz,lz,cz',sz⟩:=(hPw _ _ _).mp hp'
   k_units
   refine⟨F,zs,rfl,SqL.of hz,by omega,fun R H2 s2 nR eR=>q (trim zs) (trim_nml _) (Nat.le_trans (trim_len _) (by omega)) (fun j=>?_) R _ (sz.trans s2) (sz.free nR) eR⟩
   rw [trim_co,cz' j]
   by_cases h3:j < ys.length
   ·rw [if_pos h3]
   ·rw [if_neg h3,co_ge (xs:=ys) (by omega)]
def spIs35 (K:PySem.W.Frag):Sp:=fun vs H Q _=>∃(a b:Addr) (as bs:List Addr) (ds:List (List Int)),vs=[.ref a,.ref b]∧H a=some (.lst (as.map V.ref))∧LH H as ds∧SqL K H b (bs.map V.ref)∧LL K H bs ds∧ds.length<=900∧(∀d∈ds,d.length<=900)∧∀H',Same H H'->Q (.bl true) H'
theorem ok__law_is {P:Program} {w:World} {K:PySem.W.Frag} {mg:Str->Option Value} {base:Heap} (T:Tx K mg):FnOk P w K mg base CX0 1 T.a__law_is T.fd__law_is ["_law_found","_law_due_here"] (spIs35 K):=by
 refine T.F__law_is.ok sc__law_is (fun vs H Q E h=>?_) (fun cdv A outer s H vs Q E hr h=>?_)
 ·obtain⟨a,b,as,bs,ds,rfl,_⟩:=h
  rfl
 obtain⟨a,b,as,bs,ds,rfl,hA,la,hB,lb,l1,l2,q⟩:=h
 refine⟨_,((pss_cons (ps_if (PW.pt (pw_or (pt_not (pt_val (pe_callB call_isinst rfl T.z_isinstance bt_isinstance (pa_cons (pv 0) (pa_cons (pe_bltn (v:=.ty "list") rfl T.z_list bt_list rfl) pa_nil))))) (pw_or1 (pt_cmpR op_ne (pe_callB call_len_seq rfl T.z_len bt_len (pa_cons (pv 0) pa_nil)) (pe_callB call_len_seq rfl T.z_len bt_len (pa_cons (pv 1) pa_nil)) (nomark _))))) (pss_one (ps_ret pe_bl)) pss_nil)
  (pss_cons (ps_for PassesOwn.never rfl (pi_zip rfl T.z_zip (pa_cons (pv 0) (pa_cons (pv 1) pa_nil))) (pg_tup rfl (pgs_cons (pg_name (i:=2) sc__law_is.nd rfl (Or.inl rfl)) (pgs_cons (pg_name (i:=3) sc__law_is.nd rfl (Or.inl rfl)) pgs_nil))) (pss_cons (ps_if (PW.pt (pw_or (pt_not (pt_val (pe_callB call_isinst rfl T.z_isinstance bt_isinstance (pa_cons (pv 2) (pa_cons (pe_bltn (v:=.ty "list") rfl T.z_list bt_list rfl) pa_nil))))) (pw_or1 (pt_cmpR op_ne (pe_callB call_len_seq rfl T.z_len bt_len (pa_cons (pv 2) pa_nil)) (pe_callB call_len_seq rfl T.z_len bt_len (pa_cons (pv 3) pa_nil)) (nomark _))))) (pss_one (ps_ret pe_bl)) pss_nil)
  (pss_one (ps_for PassesOwn.never rfl (pi_range1 rfl T.z_range (pa_cons (pe_callB call_len_seq rfl T.z_len bt_len (pa_cons (pv 3) pa_nil)) pa_nil)) (pg_name (i:=4) sc__law_is.nd rfl (Or.inl rfl)) (pss_one (ps_if (PW.pt (pw_or (pt_not (pt_val (pe_callB call_isinst rfl T.z_isinstance bt_isinstance (pa_cons (pe_ix ix_list (pv 2) (pv 4) (fun _ _=>rfl)) (pa_cons (pe_bltn (v:=.ty "int") rfl T.z_int bt_int rfl) pa_nil))))) (pw_or (pt_val (pe_callB call_isinst rfl T.z_isinstance bt_isinstance (pa_cons (pe_ix ix_list (pv 2) (pv 4) (fun _ _=>rfl)) (pa_cons (pe_bltn (v:=.ty "bool") rfl T.z_bool bt_bool rfl) pa_nil)))) (pw_or1 (pt_cmpR op_ne (pe_ix ix_list (pv 2) (pv 4) (fun _ _=>rfl)) (pe_ix ix_list (pv 3) (pv 4) (fun _ _=>rfl)) (nomark _)))))) (pss_one (ps_ret pe_bl)) pss_nil))))))
  (pss_one (ps_ret pe_bl))))),?_⟩
 k_units
 refine⟨_,.lst hA,true,rfl,?_⟩
 rw [if_neg (by decide)]
 refine⟨_,.inl (SqL.of hA),_,.inl hB,?_⟩
 have e1:=la.len
 have e2:=lb.len
 rw [List.length_map,List.length_map,e1,e2,if_neg (by simp)]
 refine⟨_,SqL.of hA,_,hB,?_⟩
 obtain⟨Pv,hPv⟩:∃Pv:Nat->L2.St->Hp->Prop,∀i σ H',Pv i σ H'↔∃r2 r3 r4:Option V,σ=[some (V.ref a),some (V.ref b),r2,r3,r4]∧Same H H':=⟨_,fun _ _ _=>Iff.rfl⟩
 refine lp_zip (xs:=as.map V.ref) (ys:=bs.map V.ref) Pv ((hPv _ _ _).mpr ⟨none,none,none,rfl,Same.refl _⟩) (fun i σ H' _ _ z=>by obtain⟨_,_,_,_,z⟩:=(hPv i σ H').mp z;exact⟨SqL.of (z _ _ hA),z.seq hB⟩) ?_ ?_
 ·intro i v1 v2 p σ H' hv1 hv2 hp np
  obtain⟨r2,r3,r4,rfl,sP⟩:=(hPv _ _ _).mp hp
  obtain⟨a1,d,rfl,ha1,hd1,_⟩:=(la.ll (K:=K)).nth hv1
  have ea:=la.get i a1 d ha1 hd1
  obtain⟨b1,d',rfl,hb1,hd2,hB1⟩:=lb.nth hv2
  obtain rfl:d'=d:=by rw [hd1] at hd2;exact (Option.some.inj hd2).symm
  have ld:=l2 d' (List.mem_of_getElem? hd1)
  have u1:=sP.trans (same_upd np (.tup [V.ref a1,V.ref b1]))
  k_units
  refine⟨_,SqT.of upd_same,rfl,?_⟩
  k_units
  have ea1:=u1 _ _ ea
  have eb1:=u1.seq hB1
  generalize upd H' p (.tup [V.ref a1,V.ref b1])=G at u1 ea1 eb1 ⊢
  refine⟨_,.lst ea1,true,rfl,?_⟩
  rw [if_neg (by decide)]
  refine⟨_,.inl (SqL.of ea1),_,.inl eb1,?_⟩
  rw [if_neg (by simp)]
  refine⟨_,.inl eb1,by rw [List.length_map];omega,by rw [List.length_map];omega,?_⟩
  rw [List.length_map,Int.toNat_natCast]
  refine lp_range (fun i σ H'=>(∃r,σ=[some (V.ref a),some (V.ref b),some (V.ref a1),some (V.ref b1),r])∧H'=G) ⟨⟨_,rfl⟩,rfl⟩ ?_ ?_
  ·rintro j σ H2 hj ⟨⟨r,rfl⟩,rfl⟩
   have e0:(0:Int)+(j:Int)=(j:Int):=Int.zero_add _
   (iterate 3 (k_units;(try simp only [e0]));k_units)
   refine⟨_,SqL.of ea1,_,at_int hj,_,.int _,true,rfl,?_⟩
   rw [if_neg (by decide)]
   refine⟨_,SqL.of ea1,_,at_int hj,_,.int _,false,rfl,?_⟩
   rw [if_neg (by decide)]
   refine⟨_,SqL.of ea1,_,at_int hj,_,eb1,_,at_int hj,?_⟩
   k_units
   rw [if_neg (by simp)]
   exact⟨_,rfl⟩
  ·rintro σ H2 ⟨⟨r,rfl⟩,rfl⟩
   exact (hPv _ _ _).mpr ⟨_,_,_,rfl,u1⟩
 ·intro σ H' hp
  obtain⟨r2,r3,r4,rfl,sP⟩:=(hPv _ _ _).mp hp
  k_units
  exact q _ sP
theorem unit_one {xs W:List Int} (nx:Nml xs) (h:∀n,val n W * val n xs=1):∃c,xs=[c]:=by
 have x0:xs≠[]:=fun z=>by have:=h 0;rw [z] at this;simp [val] at this
 have w0:trim W≠[]:=fun z=>by
  have:=h 0
  rw [← val_trim,z] at this;simp [val] at this
 have e:pdL (trim W) xs=[1]:=nml_val (pd_nml _ _) (nml_c (by decide)) fun n=>by rw [pd_val,val_trim,h n];simp [val]
 have l:=(pd_top (trim_nml W) nx w0 x0).1
 rw [e] at l
 simp only [List.length_singleton] at l
 have l1:(trim W).length≠0:=fun z=>w0 (List.eq_nil_of_length_eq_zero z)
 have l2:xs.length≠0:=fun z=>x0 (List.eq_nil_of_length_eq_zero z)
 exact List.length_eq_one_iff.mp (by omega)
theorem eqv_self (xs ys:List Int):PyData.eqv (.list (xs.map PyData.int)) (.list (ys.map PyData.int))=decide (xs=ys):=by simp [PyData.eqv,eqvAll_ints]
theorem lay_self (xs:List Int):PyData.canLay0 (.list (xs.map PyData.int))=true:=by simp [PyData.canLay0,lay_ints]
theorem dep_self (xs:List Int):PyData.depth (.list (xs.map PyData.int))<=64:=by simp [PyData.depth,depth_ints]
def spPair23 (K:PySem.W.Frag):Sp:=fun vs H Q _=>∃(a:Addr) (ns:List Int),vs=[.ref a]∧SqL K H a (ns.map V.int)∧
 ∀(ps qs:List Int),Nml ps->Nml qs->ps.length<=9->qs.length<=9->(∀z∈ps,Bd 39 z)->(∀z∈qs,Bd 39 z)->Bez ps qs->ps≠[]->(qs=[]->∃c,ps=[c])->
  ∀(R A B:Addr) H',Same H H'->H' R=some (.lst [.ref A,.ref B])->H' A=some (.lst (ps.map V.int))->H' B=some (.lst (qs.map V.int))->Q (.ref R) H'
theorem ok__law_pair {P:Program} {w:World} {K:PySem.W.Frag} {mg:Str->Option Value} {base:Heap} (T:Tx K mg):FnOk P w K mg base CX0 3 T.a__law_pair T.fd__law_pair ["_law_script"] (spPair23 K):=by
 refine T.F__law_pair.ok sc__law_pair (fun vs H Q E h=>?_) (fun cdv A outer s H vs Q E hr h=>?_)
 ·obtain⟨a,ns,rfl,_⟩:=h
  rfl
 obtain⟨a,ns,rfl,hS,q⟩:=h
 refine⟨_,((pss_cons (ps_set (i:=1) sc__law_pair.nd rfl (Or.inl rfl) (pe_lst (pa_cons pe_int pa_nil)))
  (pss_cons (ps_set (i:=2) sc__law_pair.nd rfl (Or.inl rfl) (pe_lst pa_nil))
  (pss_cons (ps_for PassesOwn.never rfl (pi_range1 rfl T.z_range (pa_cons (pe_op op_mod (pe_call (FnOk.mono (ok__law_cell_at T) (by decide)) hr rfl T.m__law_cell_at T.F__law_cell_at.kp T.b__law_cell_at .nil pass0 (pa_cons (pv 0) (pa_cons pe_int pa_nil))) pe_int) pa_nil)) (pg_name (i:=3) sc__law_pair.nd rfl (Or.inl rfl)) (pss_cons (ps_set (i:=4) sc__law_pair.nd rfl (Or.inl rfl) (pe_call (FnOk.mono (ok__law_cell_at T) (by decide)) hr rfl T.m__law_cell_at T.F__law_cell_at.kp T.b__law_cell_at .nil pass0 (pa_cons (pv 0) (pa_cons (pe_op op_add pe_int (pv 3)) pa_nil))))
  (pss_cons (ps_set (i:=5) sc__law_pair.nd rfl (Or.inl rfl) (pe_call (FnOk.mono (ok__law_cut T) (by decide)) hr rfl T.m__law_cut T.F__law_cut.kp T.b__law_cut .nil pass0 (pa_cons (pe_lst (pa_cons (pe_op op_sub (pe_op op_mod (pv 4) pe_int) pe_int) (pa_cons (pe_op op_sub (pe_op op_mod (pe_op op_fdiv (pv 4) pe_int) pe_int) pe_int) pa_nil))) pa_nil)))
  (pss_cons (ps_set (i:=6) sc__law_pair.nd rfl (Or.inl rfl) (pe_call (FnOk.mono (ok__law_sum T) (by decide)) hr rfl T.m__law_sum T.F__law_sum.kp T.b__law_sum .nil pass0 (pa_cons (pe_call (FnOk.mono (ok__law_product T) (by decide)) hr rfl T.m__law_product T.F__law_product.kp T.b__law_product .nil pass0 (pa_cons (pv 1) (pa_cons (pv 5) pa_nil))) (pa_cons (pv 2) pa_nil))))
  (pss_cons (ps_set (i:=2) sc__law_pair.nd rfl (Or.inl rfl) (pv 1))
  (pss_one (ps_set (i:=1) sc__law_pair.nd rfl (Or.inl rfl) (pv 6))))))))
  (pss_mid (ps_if (pt_cmpR (op_eqD hr.units) (pv 1) (pe_lst pa_nil) (nomark _)) (pss_cons (ps_set (i:=1) sc__law_pair.nd rfl (Or.inl rfl) (pv 2))
  (pss_one (ps_set (i:=2) sc__law_pair.nd rfl (Or.inl rfl) (pe_lst pa_nil)))) pss_nil)
  (pss_cons (ps_set (i:=7) sc__law_pair.nd rfl (Or.inl rfl) (pe_lst (pa_cons (pe_op op_add (pe_op op_mod (pe_call (FnOk.mono (ok__law_cell_at T) (by decide)) hr rfl T.m__law_cell_at T.F__law_cell_at.kp T.b__law_cell_at .nil pass0 (pa_cons (pv 0) (pa_cons pe_int pa_nil))) pe_int) pe_int) (pa_cons (pe_op op_sub (pe_op op_mod (pe_call (FnOk.mono (ok__law_cell_at T) (by decide)) hr rfl T.m__law_cell_at T.F__law_cell_at.kp T.b__law_cell_at .nil pass0 (pa_cons (pv 0) (pa_cons pe_int pa_nil))) pe_int) pe_int) pa_nil))))
  (pss_mid (ps_if (pt_cmpR op_eq (pe_ix ix_list (pv 7) pe_int (fun _ _=>rfl)) pe_int (nomark _)) (pss_one (ps_asg (pe_un un_neg pe_int) (pg_sub (pv 7) pe_int set_list))) pss_nil)
  (pss_one (ps_ret (pe_lst (pa_cons (pe_call (FnOk.mono (ok__law_product T) (by decide)) hr rfl T.m__law_product T.F__law_product.kp T.b__law_product .nil pass0 (pa_cons (pv 1) (pa_cons (pe_lst (pa_cons (pe_ix ix_list (pv 7) pe_int (fun _ _=>rfl)) pa_nil)) pa_nil))) (pa_cons (pe_call (FnOk.mono (ok__law_product T) (by decide)) hr rfl T.m__law_product T.F__law_product.kp T.b__law_product .nil pass0 (pa_cons (pv 2) (pa_cons (pe_lst (pa_cons (pe_ix ix_list (pv 7) pe_int (fun _ _=>rfl)) pa_nil)) pa_nil))) pa_nil)))))))))))),?_⟩
 k_units
 refine⟨by decide,fun X0 hX=>⟨Nat.zero_le _,fun Y0 hY=>?_⟩⟩
 have s1:=same_upd hX (.lst [V.int 1])
 have s2:=same_upd hY (.lst [])
 have sA:=s1.trans s2
 have eX:=s2 _ _ (upd_same (H:=H) (a:=X0) (o:=.lst [V.int 1]))
 have eY:upd (upd H X0 (.lst [V.int 1])) Y0 (.lst []) Y0=_:=upd_same
 generalize upd (upd H X0 (.lst [V.int 1])) Y0 (.lst [])=G at sA eX eY ⊢
 refine⟨a,ns,0,rfl,sA.seq hS,_,rfl,by decide,by omega,by omega,?_⟩
 obtain⟨n,hn⟩:∃n:Nat,(cell ns 0 % 5).toNat=n:=⟨_,rfl⟩
 have hn4:n<=4:=by omega
 rw [hn]
 obtain⟨Pv,hPv⟩:∃Pv:Nat->L2.St->Hp->Prop,∀i σ H',Pv i σ H'↔∃(X Y:Addr) (xs ys U W:List Int) (r3 r4 r5 r6:Option V),σ=[some (V.ref a),some (V.ref X),some (V.ref Y),r3,r4,r5,r6,none]∧H' X=some (.lst (xs.map V.int))∧H' Y=some (.lst (ys.map V.int))∧Nml xs∧Nml ys∧xs.length<=1+i∧ys.length<=1+i∧
  (∀z∈xs,Bd (1+7 * i) z)∧(∀z∈ys,Bd (1+7 * i) z)∧(∀n,val n U * val n xs+val n W * val n ys=1)∧Same H H':=⟨_,fun _ _ _=>Iff.rfl⟩
 refine lp_range Pv ((hPv _ _ _).mpr ⟨X0,Y0,[1],[],[1],[],none,none,none,none,rfl,eX,eY,nml_one1 [],nml_nil,by simp,by simp,by simp [Bd.one],by simp,fun n=>by simp [val],sA⟩) ?_ ?_
 ·intro i σ H' hi hp
  obtain⟨X,Y,xs,ys,U,W,r3,r4,r5,r6,rfl,eX,eY,nx,ny,lx,ly,bx,bY,bz,sP⟩:=(hPv _ _ _).mp hp
  have e1:(2:Int)+(0+(i:Int))=((2+i:Nat):Int):=by omega
  (iterate 3 (k_units;(try simp only [e1]));k_units)
  refine⟨a,ns,2+i,rfl,sP.seq hS,_,rfl,by decide,_,rfl,⟨by decide,by decide⟩,by decide,by decide,fun p hp1=>?_⟩
  obtain⟨t1,ht1,l1⟩:∃t1:Int,cell ns (2+i) % 7 - 3=t1∧t1.natAbs < 4:=⟨_,rfl,by omega⟩
  obtain⟨t2,ht2,l2⟩:∃t2:Int,cell ns (2+i) / 7 % 7 - 3=t2∧t2.natAbs < 4:=⟨_,rfl,by omega⟩
  rw [ht1,ht2]
  have w1:=same_upd hp1 (.lst [V.int t1,V.int t2])
  refine⟨p,[t1,t2],rfl,SqL.of upd_same,by simp,fun St H2 s2 nS eS=>?_⟩
  have bt:∀z∈trim [t1,t2],Bd 2 z:=fun z hz=>by
   have:=in_co (xs:=trim [t1,t2]) (P:=fun z=>Bd 2 z) (fun j=>by rw [trim_co];exact co_in (P:=fun z=>Bd 2 z) (fun z hz=>by simp at hz;rcases hz with rfl | rfl;exact l1;exact l2) (Bd.zero _) j) z hz
   exact this
  have lt:(trim [t1,t2]).length<=2:=trim_len _
  have nt:Nml (trim [t1,t2]):=trim_nml _
  generalize trim [t1,t2]=ts at eS bt lt nt
  have u2:=w1.trans s2
  refine⟨X,St,xs,ts,1+7 * i,2,rfl,SqL.of (u2 _ _ eX),SqL.of eS,by omega,by omega,bx,bt,by omega,fun ws nw lw cw Pr H3 s3 nP eP=>?_⟩
  have u3:=u2.trans s3
  have lw2:=prod_len nx nt nw cw
  refine⟨Pr,Y,ws,ys,rfl,SqL.of eP,SqL.of (u3 _ _ eY),by omega,by omega,fun vs nv lv cv' Z H4 s4 nZ eZ=>?_⟩
  have u4:=u3.trans s4
  have vv:∀n,val n vs=val n xs * val n ts+val n ys:=fun n=>by
   rw [← val_mulP,← val_addP]
   exact val_of_co (fun k=>by rw [cv' k,cw k,co_addP,co_mulP]) n
  refine (hPv _ _ _).mpr ⟨Z,X,vs,xs,W,_,_,_,_,_,rfl,eZ,u4 _ _ eX,nv,nx,nml_len nv fun k hk=>by rw [cv' k,co_ge (xs:=ws) (by omega),co_ge (xs:=ys) (by omega)];rfl,by omega,in_co fun k=>?_,fun z hz=>(bx z hz).mono (by omega),bez_step bz vv,sP.trans u4⟩
  rw [cv' k,cw k]
  have h1:=pm_bd (c:=3) bx bt (by omega) k
  have h2:Bd (1+7 * i+2+3) (co ys k):=co_in (P:=fun z=>Bd (1+7 * i+2+3) z) (fun z hz=>(bY z hz).mono (by omega)) (Bd.zero _) k
  exact (h1.add h2).mono (by omega)
 ·intro σ H' hp
  obtain⟨X,Y,xs,ys,U,W,r3,r4,r5,r6,rfl,eX,eY,nx,ny,lx,ly,bx,bY,bz,sP⟩:=(hPv _ _ _).mp hp
  k_units
  obtain⟨M,hM⟩:∃M:L2.St->Hp->Prop,∀σ Hx,M σ Hx↔∃(X Y:Addr) (xs ys U W:List Int),σ=[some (V.ref a),some (V.ref X),some (V.ref Y),r3,r4,r5,r6,none]∧Hx X=some (.lst (xs.map V.int))∧Hx Y=some (.lst (ys.map V.int))∧Nml xs∧Nml ys∧xs.length<=5∧ys.length<=5∧(∀z∈xs,Bd 29 z)∧(∀z∈ys,Bd 29 z)∧xs≠[]∧(ys=[]->∃c,xs=[c])∧(∀n,val n U * val n xs+val n W * val n ys=1)∧Same H Hx:=⟨_,fun _ _=>Iff.rfl⟩
  refine mid_of M ?_ ?_
  ·k_units
   refine⟨Nat.zero_le _,fun E0 nE0=>?_⟩
   have w1:=same_upd nE0 (.lst [])
   refine⟨_,DV.ints (SqL.of (w1 _ _ eX)),_,DV.ints (ns:=[]) (SqL.of upd_same),lay_self _,lay_self _,dep_self _,?_⟩
   rw [eqv_self]
   refine ite2 (fun z=>?_) (fun z=>(hM _ _).mpr ⟨X,Y,xs,ys,U,W,rfl,w1 _ _ eX,w1 _ _ eY,nx,ny,by omega,by omega,fun z hz=>(bx z hz).mono (by omega),fun z hz=>(bY z hz).mono (by omega),by simpa using z,fun y0=>?_,bz,sP.trans w1⟩)
   ·have x0:xs=[]:=by simpa using z
    refine⟨Nat.zero_le _,fun E1 nE1=>?_⟩
    have w2:=same_upd nE1 (.lst [])
    have h1:∀n,val n W * val n ys=1:=fun n=>by rw [← bz n,x0];simp [val]
    obtain⟨c,hc⟩:=unit_one ny h1
    exact (hM _ _).mpr ⟨Y,E1,ys,[],W,[],rfl,w2 _ _ (w1 _ _ eY),upd_same,ny,nml_nil,by omega,by simp,fun z hz=>(bY z hz).mono (by omega),by simp,by rw [hc];simp,fun _=>⟨c,hc⟩,fun n=>by rw [h1 n];simp [val],sP.trans (w1.trans w2)⟩
   ·exact unit_one (W:=U) nx fun n=>by rw [← bz n,y0];simp [val]
  intro σ H2 hm
  obtain⟨X,Y,xs,ys,U,W,rfl,eX,eY,nx,ny,lx,ly,bx,bY,x0,y0,bz,sP⟩:=(hM _ _).mp hm
  clear hm hM M
  dsimp only [a_seq]
  k_typeOf
  refine⟨a,ns,6,rfl,sP.seq hS,_,rfl,by decide,a,ns,7,rfl,sP.seq hS,_,rfl,by decide,by decide,fun p hp1=>?_⟩
  have w1:=same_upd hp1 (.lst [V.int (cell ns 6 % 12+1),V.int (cell ns 7 % 24 - 12)])
  have ep:=upd_same (H:=H2) (a:=p) (o:=.lst [V.int (cell ns 6 % 12+1),V.int (cell ns 7 % 24 - 12)])
  obtain⟨M,hM⟩:∃M:L2.St->Hp->Prop,∀σ Hx,M σ Hx↔∃(c0 c1:Int),σ=[some (V.ref a),some (V.ref X),some (V.ref Y),r3,r4,r5,r6,some (V.ref p)]∧Hx p=some (.lst [V.int c0,V.int c1])∧c0≠0∧c1≠0∧c0.natAbs<=12∧c1.natAbs<=12∧Same H2 Hx:=⟨_,fun _ _=>Iff.rfl⟩
  refine mid_of M ?_ ?_
  ·k_units
   refine⟨_,SqL.of ep,_,rfl,?_⟩
   k_units
   refine ite2 (fun z=>⟨_,ep,1,rfl,(hM _ _).mpr ⟨_,-5,rfl,upd_same,?_,by decide,?_,by decide,w1.more hp1⟩⟩) (fun z=>(hM _ _).mpr ⟨_,_,rfl,ep,?_,z,?_,?_,w1⟩)
   all_goals omega
  intro σ H3 hm
  obtain⟨c0,c1,rfl,ep3,hc0,hc1,b0,b1,sW⟩:=(hM _ _).mp hm
  k_units
  refine⟨_,SqL.of ep3,_,rfl,by decide,fun q1 hq1=>?_⟩
  have w1:=same_upd hq1 (.lst [V.int c0])
  refine⟨X,q1,xs,[c0],29,4,rfl,SqL.of (w1 _ _ (sW _ _ eX)),SqL.of upd_same,by omega,by simp,bx,fun z hz=>?_,by decide,fun ps np lp cp Pa H4 s3 nP eP=>?_⟩
  ·rw [List.mem_singleton.mp hz];exact Bd.of_lt (m:=13) (by omega) (by decide)
  have u3:=w1.trans s3
  refine⟨_,SqL.of (u3 _ _ ep3),_,rfl,by decide,fun q2 hq2=>?_⟩
  have w2:=same_upd hq2 (.lst [V.int c1])
  refine⟨Y,q2,ys,[c1],29,4,rfl,SqL.of (w2 _ _ (u3 _ _ (sW _ _ eY))),SqL.of upd_same,by omega,by simp,bY,fun z hz=>?_,by decide,fun qs nq lq cq Qa H5 s4 nQ eQ=>⟨by decide,fun R hR=>?_⟩⟩
  ·rw [List.mem_singleton.mp hz];exact Bd.of_lt (m:=13) (by omega) (by decide)
  have u4:=w2.trans s4
  have w5:=same_upd hR (.lst [V.ref Pa,V.ref Qa])
  have lp2:=prod_len nx (nml_c hc0) np cp
  have lq2:=prod_len ny (nml_c hc1) nq cq
  rw [List.length_singleton] at lp2 lq2
  have sz:∀{zs:List Int} {c:Int} {ws:List Int},zs.length<=5->c.natAbs<=12->(∀z∈zs,Bd 29 z)->(∀j,co ws j=pm (co zs) (co [c]) j)->∀z∈ws,Bd 39 z:=fun {zs c ws} h1 h2 h3 h4=>in_co fun j=>by
   rw [h4 j]
   exact (pm_bd (k:=29) (l:=4) (c:=3) h3 (fun z hz=>by rw [List.mem_singleton.mp hz];exact Bd.of_lt (m:=13) (by omega) (by decide)) (by omega) j).mono (by decide)
  have vl:∀{zs:List Int} {c:Int} {ws:List Int},(∀j,co ws j=pm (co zs) (co [c]) j)->∀n,val n ws=val n zs * c:=fun {zs c ws} h n=>by
   have e:val n ws=val n (mulP zs [c]):=val_of_co (fun k=>by rw [h k,co_mulP]) n
   rw [e,val_mulP];simp [val]
  have e1:ps=pdL xs [c0]:=nml_val np (pd_nml _ _) fun n=>by rw [vl cp,pd_val];simp [val]
  have e2:qs=pdL ys [c1]:=nml_val nq (pd_nml _ _) fun n=>by rw [vl cq,pd_val];simp [val]
  refine q ps qs np nq (by omega) (by omega) (sz (by omega) b0 bx cp) (sz (by omega) b1 bY cq) ?_ ?_ (fun z=>?_) R Pa Qa _ (sP.trans (sW.trans (u3.trans (u4.trans w5)))) upd_same (w5 _ _ (u4 _ _ eP)) (w5 _ _ eQ)
  ·refine .inr (.inr ⟨U.map fun z=>c1 * z,W.map fun z=>c0 * z,c0 * c1,Int.mul_ne_zero hc0 hc1,?_,fun n=>?_⟩)
   ·rw [Int.natAbs_mul];exact Nat.le_trans (Nat.mul_le_mul b0 b1) (by decide)
   ·rw [val_map,val_map,vl cp,vl cq]
    have:=bz n
    grind
  ·rw [e1];exact pd_ne nx (nml_c hc0) x0 (by simp)
  ·have hy:ys=[]:=by
    by_cases y:ys=[]
    ·exact y
    ·rw [e2] at z;exact absurd z (pd_ne ny (nml_c hc1) y (by simp))
   obtain⟨c,hc⟩:=y0 hy
   refine⟨c * c0,?_⟩
   rw [e1,hc]
   exact nml_val (pd_nml _ _) (nml_c (Int.mul_ne_zero (fun h=>by rw [hc,h] at nx;exact nml_last.mp nx 0 rfl rfl) hc0)) fun n=>by rw [pd_val];simp [val]
theorem rep_refs (n:Nat) (a:Addr):(List.replicate n [V.ref a]).flatten=(List.replicate n a).map V.ref:=by
 induction n with
 | zero=>rfl
 | succ n ih=>rw [List.replicate_succ,List.flatten_cons,ih,List.replicate_succ];rfl
def spSh23 (K:PySem.W.Frag):Sp:=fun vs H Q _=>∃(a:Addr) (ns:List Int),vs=[.ref a]∧SqL K H a (ns.map V.int)∧∀ps:List Int,ps≠[]->ps.length<=3->Nml ps->(∀x∈ps,Bd 4 x)->newL H Q (ps.map V.int)
theorem ok__law_shared {P:Program} {w:World} {K:PySem.W.Frag} {mg:Str->Option Value} {base:Heap} (T:Tx K mg):FnOk P w K mg base CX0 2 T.a__law_shared T.fd__law_shared ["_law_script"] (spSh23 K):=by
 refine T.F__law_shared.ok sc__law_shared (fun vs H Q E h=>?_) (fun cdv A outer s H vs Q E hr h=>?_)
 ·obtain⟨a,ns,rfl,_⟩:=h
  rfl
 obtain⟨a,ns,rfl,hS,q⟩:=h
 refine⟨_,((pss_cons (ps_set (i:=1) sc__law_shared.nd rfl (Or.inl rfl) (pe_lst pa_nil))
  (pss_cons (ps_set (i:=2) sc__law_shared.nd rfl (Or.inl rfl) (pe_op op_mod (pe_op op_fdiv (pe_call (FnOk.mono (ok__law_cell_at T) (by decide)) hr rfl T.m__law_cell_at T.F__law_cell_at.kp T.b__law_cell_at .nil pass0 (pa_cons (pv 0) (pa_cons pe_int pa_nil))) pe_int) pe_int))
  (pss_cons (ps_for PassesOwn.never rfl (pi_range1 rfl T.z_range (pa_cons (pe_op op_add pe_int (pe_op op_mod (pe_call (FnOk.mono (ok__law_cell_at T) (by decide)) hr rfl T.m__law_cell_at T.F__law_cell_at.kp T.b__law_cell_at .nil pass0 (pa_cons (pv 0) (pa_cons pe_int pa_nil))) pe_int)) pa_nil)) (pg_name (i:=3) sc__law_shared.nd rfl (Or.inl rfl)) (pss_one (ps_expr (pe_bm PySem.F.plainAttrs_list PySem.F.slot_list_append PySem.F.type_list_append mt_append (pv 1) (pa_cons (pe_op op_sub (pe_op op_mod (pe_op op_fdivB (pe_op op_add (pe_op op_mul (pe_op op_mulZ (pv 2) (pv 2)) pe_int) (pe_op op_mul pe_int (pv 2))) (pe_op op_add pe_int (pe_op op_mul pe_int (pv 3)))) pe_int) pe_int) pa_nil)))))
  (pss_mid (ps_if (pt_cmpR op_eq (pe_ix ix_list (pv 1) (pe_un un_neg pe_int) (fun _ _=>rfl)) pe_int (nomark _)) (pss_one (ps_asg (pe_un un_neg pe_int) (pg_sub (pv 1) (pe_un un_neg pe_int) set_list))) pss_nil)
  (pss_one (ps_ret (pv 1)))))))),?_⟩
 dsimp only [a_seq]
 k_typeOf
 refine⟨Nat.zero_le _,fun D nD=>?_⟩
 have u1:=same_upd nD (.lst [])
 have e1:=upd_same (H:=H) (a:=D) (o:=.lst [])
 generalize L2.upd H D (.lst [])=H1 at u1 e1 ⊢
 dsimp only [a_seq]
 k_typeOf
 refine⟨a,ns,1,rfl,u1.seq hS,_,rfl,⟨by decide,by decide⟩,by decide,?_⟩
 obtain⟨m,hm,bm⟩:∃m:Int,cell ns 1 / 3 % 1000003=m∧Bd 20 m:=⟨_,rfl,Bd.of_lt (m:=1000003) (by omega) (by decide)⟩
 rw [hm]
 dsimp only [a_seq]
 k_typeOf
 refine⟨a,ns,1,rfl,u1.seq hS,_,rfl,by decide,by omega,by omega,?_⟩
 obtain⟨n,hn⟩:∃n:Nat,(1+cell ns 1 % 3).toNat=n:=⟨_,rfl⟩
 have hn3:1<=n∧n<=3:=by omega
 rw [hn]
 obtain⟨Pv,hPv⟩:∃Pv:Nat->L2.St->Hp->Prop,∀i σ H',Pv i σ H'↔∃(ys:List Int) (r3:Option V),σ=[some (V.ref a),some (V.ref D),some (V.int m),r3]∧ys.length=i∧(∀y∈ys,Bd 4 y)∧H' D=some (.lst (ys.map V.int))∧Same H H':=⟨_,fun _ _ _=>Iff.rfl⟩
 refine lp_range Pv ((hPv _ _ _).mpr ⟨[],none,rfl,rfl,by simp,e1,u1⟩) ?_ ?_
 ·intro i σ H2 hi hp
  obtain⟨ys,r3,rfl,ly,by',eD,s2⟩:=(hPv _ _ _).mp hp
  have e0:(0:Int)+(i:Int)=(i:Int):=Int.zero_add _
  (iterate 3 (k_units;(try simp only [e0]));k_units)
  refine⟨a_tyL (SqL.of eD),bm.fits bm (by decide),.inr ⟨by decide,by decide⟩,.inl ⟨by decide,by decide⟩,.inl ⟨by decide,by decide⟩,by omega,?_,by decide,_,eD,by rw [List.length_map];exact small1000 (by omega),(hPv _ _ _).mpr ⟨ys++[_],_,rfl,by simp [ly],fun y hy=>?_,by rw [upd_same,List.map_append];rfl,s2.more nD⟩⟩
  ·exact Nat.lt_of_lt_of_le (show (11+6 * (i:Int)).natAbs < 2 ^ 9 by omega) (Nat.pow_le_pow_right (by decide) (by decide))
  ·rcases List.mem_append.mp hy with z | z
   ·exact by' y z
   ·rw [List.mem_singleton.mp z]
    generalize (m * m * 48271+7907 * m).fdiv (11+6 * (i:Int))=g
    exact Bd.of_lt (m:=10) (by omega) (by decide)
 intro σ H2 hp
 obtain⟨ys,r3,rfl,ly,by',eD,s2⟩:=(hPv _ _ _).mp hp
 clear hp hPv Pv
 have hne:ys≠[]:=by intro z;rw [z] at ly;simp at ly;omega
 obtain⟨M,hM⟩:∃M:L2.St->Hp->Prop,∀σ Hx,M σ Hx↔∃ys:List Int,σ=[some (V.ref a),some (V.ref D),some (V.int m),r3]∧ys≠[]∧ys.length<=3∧Nml ys∧(∀y∈ys,Bd 4 y)∧Hx D=some (.lst (ys.map V.int))∧Same H Hx:=⟨_,fun _ _=>Iff.rfl⟩
 refine mid_of M ?_ ?_
 ·k_units
  refine⟨_,SqL.of eD,_,at_last hne,?_⟩
  k_units
  refine ite2 (fun h0=>?_) (fun h0=>?_)
  ·refine⟨_,eD,_,ixN_neg (i:=1) (by decide) (by rw [List.length_map];omega),?_⟩
   rw [List.length_map,map_set]
   refine (hM _ _).mpr ⟨ys.set (ys.length - 1) (-9),rfl,by simpa using hne,by rw [List.length_set];omega,nml_last.mpr fun x hx=>?_,fun x hx=>?_,upd_same,s2.more nD⟩
   ·rw [List.getLast?_eq_getElem?,List.length_set,List.getElem?_set_self (by omega)] at hx
    rw [← Option.some.inj hx];decide
   ·rcases List.mem_or_eq_of_mem_set hx with z | z
    ·exact by' x z
    ·rw [z];exact Bd.of_lt (m:=10) (by decide) (by decide)
  ·refine (hM _ _).mpr ⟨ys,rfl,hne,by omega,nml_last.mpr fun x hx=>?_,by',eD,s2⟩
   rw [List.getLast?_eq_some_getLast hne] at hx
   rw [← Option.some.inj hx];exact h0
 intro σ H3 hm3
 obtain⟨ys,rfl,y0,l3,ny,by',eD,s3⟩:=(hM _ _).mp hm3
 k_units
 exact q ys y0 l3 ny by' D H3 s3 nD eD
def spLine23 (K:PySem.W.Frag):Sp:=fun vs H Q _=>∃(a:Addr) (ns:List Int),vs=[.ref a]∧SqL K H a (ns.map V.int)∧∀(D:Addr) (bs:List Addr) (zs:List (List Int)) (H':Hp),Same H H'->H D=none->H' D=some (.lst (bs.map V.ref))->LH H' bs zs->D∉bs->1<=zs.length->zs.length<=4->(∀f∈zs,Nml f∧f.length<=2∧∀c∈f,Bd 3 c)->zs.getD 0 []≠[]->Q (.ref D) H'
theorem ok__law_line {P:Program} {w:World} {K:PySem.W.Frag} {mg:Str->Option Value} {base:Heap} (T:Tx K mg):FnOk P w K mg base CX0 2 T.a__law_line T.fd__law_line ["_law_script"] (spLine23 K):=by
 refine T.F__law_line.ok sc__law_line (fun vs H Q E h=>?_) (fun cdv A outer s H vs Q E hr h=>?_)
 ·obtain⟨a,ns,rfl,_⟩:=h
  rfl
 obtain⟨a,ns,rfl,hS,q⟩:=h
 refine⟨_,((pss_cons (ps_set (i:=1) sc__law_line.nd rfl (Or.inl rfl) (pe_op op_rep (pe_lst (pa_cons (pe_lst pa_nil) pa_nil)) (pe_op op_add pe_int (pe_op op_mod (pe_op op_fdiv (pe_call (FnOk.mono (ok__law_cell_at T) (by decide)) hr rfl T.m__law_cell_at T.F__law_cell_at.kp T.b__law_cell_at .nil pass0 (pa_cons (pv 0) (pa_cons pe_int pa_nil))) pe_int) pe_int))))
  (pss_cons (ps_for PassesOwn.never rfl (pi_enum rfl T.z_enumerate (pa_cons (pe_slice sl_list (pv 0) (po_some pe_int) (po_some pe_int)) pa_nil)) (pg_tup rfl (pgs_cons (pg_name (i:=2) sc__law_line.nd rfl (Or.inl rfl)) (pgs_cons (pg_name (i:=3) sc__law_line.nd rfl (Or.inl rfl)) pgs_nil))) (pss_cons (ps_set (i:=4) sc__law_line.nd rfl (Or.inl rfl) (pe_call (FnOk.mono (ok__law_cut T) (by decide)) hr rfl T.m__law_cut T.F__law_cut.kp T.b__law_cut .nil pass0 (pa_cons (pe_lst (pa_cons (pe_op op_sub (pe_op op_mod (pv 3) pe_int) pe_int) (pa_cons (pe_op op_sub (pe_op op_mod (pe_op op_fdiv (pv 3) pe_int) pe_int) pe_int) pa_nil))) pa_nil)))
  (pss_one (ps_asg (pv 4) (pg_sub (pv 1) (pe_op op_mod (pv 2) (pe_callB call_len_seq rfl T.z_len bt_len (pa_cons (pv 1) pa_nil))) set_list)))))
  (pss_mid (ps_if (pt_cmpR (op_eqD hr.units) (pe_ix ix_list (pv 1) pe_int (fun _ _=>rfl)) (pe_lst pa_nil) (nomark _)) (pss_one (ps_asg (pe_lst (pa_cons pe_int pa_nil)) (pg_sub (pv 1) pe_int set_list))) pss_nil)
  (pss_one (ps_ret (pv 1))))))),?_⟩
 dsimp only [a_seq]
 k_typeOf
 refine⟨Nat.zero_le _,fun E1 n1=>⟨by decide,fun E2 n2=>?_⟩⟩
 have u1:=same_upd n1 (.lst [])
 have u2:=same_upd n2 (.lst [V.ref E1])
 have e2:=upd_same (H:=L2.upd H E1 (.lst [])) (a:=E2) (o:=.lst [V.ref E1])
 have e1:=u2 _ _ (upd_same (H:=H) (a:=E1) (o:=.lst []))
 have s2:=u1.trans u2
 generalize L2.upd (L2.upd H E1 (.lst [])) E2 (.lst [V.ref E1])=H2 at e1 e2 s2 ⊢
 obtain⟨w,hw,w1,w4⟩:∃w:Nat,(1+cell ns 0 / 5 % 4).toNat=w∧1<=w∧w<=4:=⟨_,rfl,by omega,by omega⟩
 refine⟨a,ns,0,rfl,s2.seq hS,_,rfl,⟨by decide,by decide⟩,by decide,_,e2,by omega,by omega,?_,fun D nD=>?_⟩
 ·rw [hw];exact Nat.le_of_lt (small1000 (by simp;omega))
 rw [hw,rep_refs]
 have u3:=same_upd nD (.lst ((List.replicate w E1).map V.ref))
 have e3:=upd_same (H:=H2) (a:=D) (o:=.lst ((List.replicate w E1).map V.ref))
 have s3:=s2.trans u3
 have f1:=u3 _ _ e1
 have nD0:=s2.free nD
 have nDE:D≠E1:=fun z=>by rw [z,e1] at nD;cases nD
 generalize L2.upd H2 D (.lst ((List.replicate w E1).map V.ref))=H3 at e3 s3 f1 ⊢
 dsimp only [a_seq]
 k_typeOf
 refine⟨_,s3.seq hS,fun Sc nSc=>?_⟩
 obtain⟨es,hes⟩:∃es:List Int,cutV (ns.map V.int) (some 8) (some 63)=es.map V.int:=by
  unfold cutV;rw [← List.map_drop,← List.map_take];exact⟨_,rfl⟩
 rw [hes]
 have u4:=same_upd nSc (.lst (es.map V.int))
 have e4:=upd_same (H:=H3) (a:=Sc) (o:=.lst (es.map V.int))
 have s4:=s3.trans u4
 have f4:=u4 _ _ f1
 have g4:=u4 _ _ e3
 have nSD:Sc≠D:=fun z=>by rw [z,e3] at nSc;cases nSc
 generalize L2.upd H3 Sc (.lst (es.map V.int))=H4 at e4 s4 f4 g4 ⊢
 obtain⟨Pv,hPv⟩:∃Pv:Nat->L2.St->Hp->Prop,∀i σ H',Pv i σ H'↔∃(bs:List Addr) (zs:List (List Int)) (r2 r3 r4:Option V),σ=[some (V.ref a),some (V.ref D),r2,r3,r4]∧H' D=some (.lst (bs.map V.ref))∧LH H' bs zs∧D∉bs∧zs.length=w∧(∀f∈zs,Nml f∧f.length<=2∧∀c∈f,Bd 3 c)∧KB D H4 H':=⟨_,fun _ _ _=>Iff.rfl⟩
 have keep:∀{H':Hp},KB D H4 H'->SqL K H' Sc (es.map V.int):=fun {H'} k=>SqL.of (k _ _ nSD e4)
 refine⟨_,SqL.of e4,lp_enum (xs:=es.map V.int) Pv ((hPv _ _ _).mpr ⟨List.replicate w E1,List.replicate w [],none,none,none,rfl,g4,⟨by simp,fun i b p h1 h2=>?_⟩,fun z=>nDE (List.eq_of_mem_replicate z),by simp,fun f hf=>by rw [List.eq_of_mem_replicate hf];exact⟨nml_nil,by simp,by simp⟩,KB.of (Same.refl _)⟩) (fun i σ H' _ z=>by obtain⟨_,_,_,_,_,_,_,_,_,_,_,z⟩:=(hPv i σ H').mp z;exact keep z) ?_ ?_⟩
 ·have hb:=List.eq_of_mem_replicate (List.mem_of_getElem? h1)
  have hp:=List.eq_of_mem_replicate (List.mem_of_getElem? h2)
  rw [hb,hp];exact f4
 ·intro i v p σ H5 hv hp np
  obtain⟨bs,zs,r2,r3,r4,rfl,eD,lD,Db,lz,bz,kb⟩:=(hPv _ _ _).mp hp
  rw [List.getElem?_map] at hv
  obtain⟨c,hc,rfl⟩:=Option.map_eq_some_iff.mp hv
  have v1:=same_upd np (.tup [V.int (i:Int),V.int c])
  have lb:=lD.len
  k_units
  refine⟨_,SqT.of upd_same,rfl,_,_,rfl,_,_,rfl,rfl,_,rfl,by decide,_,rfl,⟨by decide,by decide⟩,by decide,by decide,fun p2 np2=>?_⟩
  obtain⟨t1,ht1,l1⟩:∃t1:Int,c % 9 - 4=t1∧Bd 3 t1:=⟨_,rfl,Bd.of_lt (m:=5) (by omega) (by decide)⟩
  obtain⟨t2,ht2,l2⟩:∃t2:Int,c / 9 % 9 - 4=t2∧Bd 3 t2:=⟨_,rfl,Bd.of_lt (m:=5) (by omega) (by decide)⟩
  rw [ht1,ht2]
  have v2:=same_upd np2 (.lst [V.int t1,V.int t2])
  refine⟨p2,[t1,t2],rfl,SqL.of upd_same,by simp,fun R H6 s6 nR eR=>?_⟩
  have s56:=v1.trans (v2.trans s6)
  have nRD:R≠D:=fun z=>by
   have:=v2 _ _ (v1 _ _ eD)
   rw [z,this] at nR;cases nR
  have hj:(i:Int) % (w:Int)=((i % w:Nat):Int):=by omega
  have hjw:i % w < w:=Nat.mod_lt _ (by omega)
  refine⟨_,.inl (SqL.of (s56 _ _ eD)),?_⟩
  rw [List.length_map,lb,lz]
  refine⟨_,rfl,by omega,_,s56 _ _ eD,i % w,by rw [hj];exact ixN_nat (by rw [List.length_map];omega),(hPv _ _ _).mpr ⟨bs.set (i % w) R,zs.set (i % w) (trim [t1,t2]),_,_,_,rfl,by rw [upd_same,List.map_set],?_,fun z=>?_,by rw [List.length_set];exact lz,fun f hf=>?_,(kb.on s56).set⟩⟩
  ·exact ((lD.same s56).upd Db).set (by rw [upd_ne nRD];exact eR) _
  ·rcases List.mem_or_eq_of_mem_set z with h | h
   ·exact Db h
   ·exact nRD h.symm
  ·rcases List.mem_or_eq_of_mem_set hf with h | h
   ·exact bz f h
   ·rw [h]
    refine⟨trim_nml _,trim_len _,in_co fun k=>?_⟩
    rw [trim_co]
    exact co_in (P:=fun z=>Bd 3 z) (fun z hz=>by simp at hz;rcases hz with rfl | rfl;exact l1;exact l2) (Bd.zero _) k
 intro σ H5 hp
 obtain⟨bs,zs,r2,r3,r4,rfl,eD,lD,Db,lz,bz,kb⟩:=(hPv _ _ _).mp hp
 clear hp hPv Pv
 have lb:=lD.len
 have s5:Same H H5:=fun y o e=>kb y o (fun z=>by rw [z,nD0] at e;cases e) (s4 y o e)
 have hb0:bs[0]?=some bs[0]:=List.getElem?_eq_getElem (by omega)
 have hz0:zs[0]?=some zs[0]:=List.getElem?_eq_getElem (by omega)
 have e0:=lD.get 0 _ _ hb0 hz0
 obtain⟨M,hM⟩:∃M:L2.St->Hp->Prop,∀σ Hx,M σ Hx↔∃(bs:List Addr) (zs:List (List Int)),σ=[some (V.ref a),some (V.ref D),r2,r3,r4]∧Hx D=some (.lst (bs.map V.ref))∧LH Hx bs zs∧D∉bs∧zs.length=w∧(∀f∈zs,Nml f∧f.length<=2∧∀c∈f,Bd 3 c)∧zs.getD 0 []≠[]∧Same H Hx:=⟨_,fun _ _=>Iff.rfl⟩
 refine mid_of M ?_ ?_
 ·k_units
  refine⟨_,SqL.of eD,_,atI_nat (j:=0) (by rw [List.getElem?_map,hb0];rfl),Nat.zero_le _,fun p np=>?_⟩
  have v1:=same_upd np (.lst [])
  refine⟨_,DV.ints (SqL.of (v1 _ _ e0)),_,DV.ints (ns:=[]) (SqL.of upd_same),lay_self _,lay_self _,dep_self _,?_⟩
  rw [eqv_self]
  refine ite2 (fun z=>?_) (fun z=>(hM _ _).mpr ⟨bs,zs,rfl,v1 _ _ eD,lD.same v1,Db,lz,bz,?_,s5.trans v1⟩)
  ·refine⟨by decide,fun p2 np2=>?_⟩
   have v2:=same_upd np2 (.lst [V.int 1])
   have n2D:p2≠D:=fun z=>by rw [z,v1 _ _ eD] at np2;cases np2
   refine⟨_,v2 _ _ (v1 _ _ eD),0,ixN_nat (i:=0) (by rw [List.length_map];omega),(hM _ _).mpr ⟨bs.set 0 p2,zs.set 0 [1],rfl,by rw [upd_same,List.map_set],(((lD.same v1).same v2).upd Db).set (by rw [upd_ne n2D];exact upd_same) 0,fun z=>?_,by rw [List.length_set];exact lz,fun f hf=>?_,?_,fun y o e=>?_⟩⟩
   ·rcases List.mem_or_eq_of_mem_set z with h | h
    ·exact Db h
    ·exact n2D h.symm
   ·rcases List.mem_or_eq_of_mem_set hf with h | h
    ·exact bz f h
    ·rw [h];exact⟨nml_c (by decide),by decide,fun c hc=>by rw [List.mem_singleton.mp hc];exact Bd.one (by decide)⟩
   ·rw [List.getD_eq_getElem?_getD,List.getElem?_set_self (by omega)];simp
   ·rw [upd_ne (fun z=>by rw [z,nD0] at e;cases e)];exact v2 _ _ (v1 _ _ (s5 _ _ e))
  ·rw [List.getD_eq_getElem?_getD,hz0]
   exact fun y=>z (by simpa using y)
 intro σ H6 hm
 obtain⟨bs,zs,rfl,eD,lD,Db,lz,bz,z0,s6⟩:=(hM _ _).mp hm
 k_units
 exact q D bs zs H6 s6 nD0 eD lD Db (by omega) (by omega) bz z0
theorem cl_ints {K:PySem.W.Frag} {a:Addr} {xs:List Int} {g:Int->Int} {fv:List (Nat×Str)} {te:TE} {Q:VK} {σ:L2.St} {H1:Hp} {D:Addr} (nD:H1 D=none) (hA:SqL K H1 a (xs.map V.int)) (hl:xs.length<=900)
  (hs:∀x∈xs,∀Hx R,Same H1 Hx->R (.int (g x)) Hx->te (bst fv σ (some (V.int x))) Hx R) (he:newL H1 Q ((xs.map g).map V.int)):CLoop (Itl K a) fv te Q σ H1 D:=by
 obtain⟨Pc,hPc⟩:∃Pc:Nat->Hp->Prop,∀i H',Pc i H'↔H' D=some (.lst (((xs.take i).map g).map V.int))∧Same H1 H':=⟨_,fun _ _=>Iff.rfl⟩
 refine cl_list (xs:=xs.map V.int) Pc ((hPc _ _).mpr ⟨by rw [upd_same];rfl,same_upd nD _⟩) (fun i Hx _ z=>((hPc i Hx).mp z).2.seq hA) ?_ ?_
 ·intro i v Hx hv hc
  obtain⟨k1,k2⟩:=(hPc _ _).mp hc
  have hi:i < xs.length:=by have:=(List.getElem?_eq_some_iff.mp hv).1;rw [List.length_map] at this;exact this
  rw [List.getElem?_map,List.getElem?_eq_getElem hi] at hv
  obtain rfl:V.int xs[i]=v:=Option.some.inj hv
  have et:xs.take (i+1)=xs.take i++[xs[i]]:=by rw [List.take_succ,List.getElem?_eq_getElem hi];rfl
  refine hs _ (List.getElem_mem hi) Hx _ k2 ⟨_,k1,small1000 (by simp;omega),(hPc _ _).mpr ⟨?_,k2.more nD⟩⟩
  rw [upd_same,et,List.map_append,List.map_append];rfl
 intro H' hc
 obtain⟨k1,k2⟩:=(hPc _ _).mp hc
 rw [List.length_map,List.take_length] at k1
 exact he D H' k2 nD k1
def spDue23 (K:PySem.W.Frag):Sp:=fun vs H Q _=>∃(a b:Addr) (x y:List Int),vs=[.ref a,.ref b]∧H a=some (.lst (x.map V.int))∧H b=some (.lst (y.map V.int))∧Nml x∧x≠[]∧x.length<=9∧y.length<=9∧(∀z∈x,Bd 39 z)∧(∀z∈y,Bd 39 z)∧∀(D:Addr) (bs:List Addr) (H':Hp),Same H H'->H' D=some (.lst (bs.map V.ref))->LH H' bs (due23 x y)->Q (.ref D) H'
theorem ok__law_due {P:Program} {w:World} {K:PySem.W.Frag} {mg:Str->Option Value} {base:Heap} (T:Tx K mg):FnOk P w K mg base CX0 2 T.a__law_due T.fd__law_due ["_law_x","_law_y"] (spDue23 K):=by
 refine T.F__law_due.ok sc__law_due (fun vs H Q E h=>?_) (fun cdv A outer s H vs Q E hr h=>?_)
 ·obtain⟨a,b,x,y,rfl,_⟩:=h
  rfl
 obtain⟨a,b,x,y,rfl,hA,hB,nx,x0,lx,ly,bx,bY,q⟩:=h
 refine⟨_,((pss_cons (ps_set (i:=2) sc__law_due.nd rfl (Or.inr rfl) pe_int)
  (pss_cons (ps_for PassesOwn.never rfl (pi_list (pe_op op_cat (pv 0) (pv 1))) (pg_name (i:=3) sc__law_due.nd rfl (Or.inl rfl)) (pss_one (ps_set (i:=2) sc__law_due.nd rfl (Or.inr rfl) (pe_call (FnOk.mono (ok__law_divisor T) (by decide)) hr rfl T.m__law_divisor T.F__law_divisor.kp T.b__law_divisor .nil pass0 (pa_cons (pv 2) (pa_cons (pv 3) pa_nil))))))
  (pss_mid (ps_if (pt_cmpR op_lt (pe_ix ix_list (pv 0) (pe_un un_neg pe_int) (fun _ _=>rfl)) pe_int (nomark _)) (pss_one (ps_set (i:=2) sc__law_due.nd rfl (Or.inr rfl) (pe_un un_neg (pv 2)))) pss_nil)
  (pss_one (ps_ret (pe_lst (pa_cons (pe_lcomp rfl (blkok rfl (sub_cons rfl sub_nil) (fv_cons 2 "_law_every" (by decide) rfl (Or.inl rfl) (Or.inl rfl) ⟨_,rfl⟩ fv_nil)) (pi_list (pv 1)) (fun _ _ _ _=>(pe_op op_fdivB (pe_un un_neg (pv 0)) (pv 1)))) (pa_cons (pe_lcomp rfl (blkok rfl (sub_cons rfl sub_nil) (fv_cons 2 "_law_every" (by decide) rfl (Or.inl rfl) (Or.inl rfl) ⟨_,rfl⟩ fv_nil)) (pi_list (pv 0)) (fun _ _ _ _=>(pe_op op_fdivB (pv 0) (pv 1)))) pa_nil))))))))),?_⟩
 dsimp only [a_seq]
 k_typeOf
 dsimp only [a_seq]
 k_typeOf
 have cp:=cont_app_pos (y:=y) nx x0
 have cb:contL (x++y) < 2 ^ 39:=cont_lt (Nat.two_pow_pos _) _ fun z hz=>by
  rcases List.mem_append.mp hz with h | h
  ·exact bx z h
  ·exact bY z h
 refine⟨_,hA,_,hB,by rw [List.length_map,List.length_map];exact Nat.le_of_lt (small1000 (by omega)),fun p np=>?_⟩
 rw [← List.map_append]
 have u1:=same_upd np (.lst ((x++y).map V.int))
 have e1:=upd_same (H:=H) (a:=p) (o:=.lst ((x++y).map V.int))
 generalize L2.upd H p (.lst ((x++y).map V.int))=H1 at u1 e1 ⊢
 obtain⟨Pv,hPv⟩:∃Pv:Nat->L2.St->Hp->Prop,∀i σ H',Pv i σ H'↔∃r:Option V,σ=[some (V.ref a),some (V.ref b),some (V.int (contL ((x++y).take i):Nat)),r]∧H'=H1:=⟨_,fun _ _ _=>Iff.rfl⟩
 refine⟨⟨_,SqL.of e1⟩,lp_list (xs:=(x++y).map V.int) Pv ((hPv _ _ _).mpr ⟨none,rfl,rfl⟩) (fun i σ H' _ z=>by obtain⟨_,_,rfl⟩:=(hPv i σ H').mp z;exact SqL.of e1) ?_ ?_⟩
 ·intro i v σ H2 hv hp
  obtain⟨r,rfl,rfl⟩:=(hPv _ _ _).mp hp
  rw [List.getElem?_map] at hv
  obtain⟨z,hz,rfl⟩:=Option.map_eq_some_iff.mp hv
  k_units
  refine⟨_,z,rfl,(hPv _ _ _).mpr ⟨some (V.int z),?_,rfl⟩⟩
  rw [List.take_succ,hz,Option.toList_some,cont_snoc,Int.natAbs_natCast,Nat.gcd_comm]
 intro σ H2 hp
 obtain⟨r,rfl,rfl⟩:=(hPv _ _ _).mp hp
 rw [List.length_map,List.take_length]
 clear hp hPv Pv
 obtain⟨M,hM⟩:∃M:L2.St->Hp->Prop,∀σ Hx,M σ Hx↔σ=[some (V.ref a),some (V.ref b),some (V.int (sgn23 x y)),r]∧Hx=H2:=⟨_,fun _ _=>Iff.rfl⟩
 have el:atI (x.map V.int) (-1)=some (V.int (co x (x.length - 1))):=by
  have l0:x.length≠0:=fun z=>x0 (List.eq_nil_of_length_eq_zero z)
  rw [at_last x0,co_lt (show x.length - 1 < x.length by omega),List.getLast_eq_getElem]
 refine mid_of M ?_ ?_
 ·k_units
  refine⟨_,SqL.of (u1 _ _ hA),_,el,_,rfl,ite2 (fun z=>(hM _ _).mpr ⟨?_,rfl⟩) (fun z=>(hM _ _).mpr ⟨?_,rfl⟩)⟩
  ·unfold sgn23;rw [if_pos z]
  ·unfold sgn23;rw [if_neg z]
 intro σ H3 hm
 obtain⟨rfl,rfl⟩:=(hM _ _).mp hm
 have he:=sgn_ne (y:=y) nx x0
 have be:(sgn23 x y).natAbs < 2 ^ 9000:=by
  have:(sgn23 x y).natAbs=contL (x++y):=by unfold sgn23;split <;> omega
  rw [this];exact Nat.lt_of_lt_of_le cb (Nat.pow_le_pow_right (by decide) (by decide))
 k_units
 refine⟨⟨_,SqL.of (u1 _ _ hB)⟩,fun D1 n1=>cl_ints (g:=fun n=>(-n).fdiv (sgn23 x y)) n1 (SqL.of (u1 _ _ hB)) (by omega) (fun z hz Hx R sx hR=>?_) (fun D H4 s4 nD eD=>?_)⟩
 ·(iterate 3 (k_units;(try simp only [bst,Option.getD_some]));k_units)
  exact⟨he,be,hR⟩
 have hA4:=s4 _ _ (u1 _ _ hA)
 refine⟨⟨_,SqL.of hA4⟩,fun D2 n2=>cl_ints (g:=fun n=>n.fdiv (sgn23 x y)) n2 (SqL.of hA4) (by omega) (fun z hz Hx R sx hR=>?_) (fun F H5 s5 nF eF=>?_)⟩
 ·(iterate 3 (k_units;(try simp only [bst,Option.getD_some]));k_units)
  exact⟨he,be,hR⟩
 refine⟨by decide,fun R nR=>?_⟩
 have u6:=same_upd nR (.lst [V.ref D,V.ref F])
 refine q R [D,F] _ (u1.trans (s4.trans (s5.trans u6))) upd_same ?_
 rw [due23_is]
 exact ((LH.nil _).snoc (u6 _ _ (s5 _ _ eD))).snoc (u6 _ _ eF)
section
variable {w:Nat} {v q:List (List Int)} {x y:List Int} {u:List (List Int)} {K:PySem.W.Frag} {H:Hp} {A a1 a2:Addr} {b1 b2:List Addr} {Q:VK} {E:XK}
theorem vl2 (h1:SqL K H a1 (b1.map V.ref)) (l1:LL K H b1 v) (h2:SqL K H a2 (b2.map V.ref)) (l2:LL K H b2 q):VL K H [a1,a2] [v,q]:=⟨rfl,fun i a p e1 e2=>by
 match i,e1,e2 with
 | 0,e1,e2=>cases e1;cases e2;exact⟨b1,h1,l1⟩
 | 1,e1,e2=>cases e1;cases e2;exact⟨b2,h2,l2⟩⟩
theorem vq2 {i:Nat} {p:List (List Int)} (h:[v,q][i]?=some p):Vq23 v q ([v,q].take i) p:=by
 match i,h with
 | 0,h=>cases h;exact .inl ⟨rfl,.inl rfl⟩
 | 1,h=>cases h;exact .inr ⟨rfl,rfl⟩
theorem rel_due (D:D23 w v q x y u) (hv:∃f∈v,f≠[]) (hA:SqL K H A [.ref a1,.ref a2]) (h1:SqL K H a1 (b1.map V.ref)) (l1:LL K H b1 v) (h2:SqL K H a2 (b2.map V.ref)) (l2:LL K H b2 q)
  (k:∀(D:Addr) (bs:List Addr) (H':Hp),Same H H'->H' D=some (.lst (bs.map V.ref))->LH H' bs (due23 x y)->Q (.ref D) H'):spRelX K [.ref A] H Q E:=by
 refine⟨w,24,1,_,_,_,D.th,by decide,A,[a1,a2],[v,q],rfl,hA,vl2 h1 l1 h2 l2,fun p hp=>?_,by simp,by simp,fun i p cs pl hp _=>vq2 hp,fun H' i p D' bs ws cs pl hp hS hR s nD eD lD _ _=>?_,fun H' cs pl hS _=>?_⟩
 ·cases hp;exact (D.vec (.inl rfl)).1
 ·match i,hp with
  | 0,hp=>
   cases hp
   rcases hR with ⟨_,_,z⟩ | ⟨z,_⟩
   ·obtain⟨f,hf,h0⟩:=hv
    exact absurd (z f hf) h0
   ·simp at z
  | 1,hp=>
   cases hp
   rcases hR with ⟨z,_⟩ | ⟨_,_,rfl⟩
   ·simp at z
   ·exact k D' bs H' s eD lD
 ·rcases hS with ⟨z,_⟩ | ⟨p,c,_,z,_⟩ <;> simp at z
theorem rel_one (D:D23 w v q [] y u) (hA:SqL K H A [.ref a1,.ref a2]) (h1:SqL K H a1 (b1.map V.ref)) (l1:LL K H b1 v) (h2:SqL K H a2 (b2.map V.ref)) (l2:LL K H b2 q)
  (k:∀(D:Addr) (bs:List Addr) (H':Hp),Same H H'->H' D=some (.lst (bs.map V.ref))->LH H' bs [[1]]->Q (.ref D) H'):spRelX K [.ref A] H Q E:=by
 have hz:∀j n,j < w->val n (v.getD j [])=0:=fun j n hj=>by rw [(D.at hj n).1];simp [val]
 refine⟨w,24,1,_,_,_,D.th,by decide,A,[a1,a2],[v,q],rfl,hA,vl2 h1 l1 h2 l2,fun p hp=>?_,by simp,by simp,fun i p cs pl hp _=>vq2 hp,fun H' i p D' bs ws cs pl hp hS hR s nD eD lD _ _=>?_,fun H' cs pl hS _=>?_⟩
 ·cases hp;exact (D.vec (.inl rfl)).1
 ·match i,hp with
  | 0,hp=>
   cases hp
   rcases hR with ⟨_,rfl,z⟩ | ⟨z,_⟩
   ·exact k D' bs H' s eD lD
   ·simp at z
  | 1,hp=>
   cases hp
   rcases hS with ⟨z,_⟩ | ⟨p',c,hp',ek,rfl,hc,p1,p2,hv⟩
   ·simp at z
   ·have ep:v=p':=by simpa using ek
    subst ep
    exact absurd (hz c pl hc) hv
 ·rcases hS with ⟨z,_⟩ | ⟨p,c,_,z,_⟩ <;> simp at z
end
def spLaw (K:PySem.W.Frag):Sp:=fun vs H Q _=>∃(a:Addr) (ns:List Int),vs=[.ref a]∧SqL K H a (ns.map V.int)∧ns.length<=63∧∀H',Q (.bl true) H'
theorem ok_law {P:Program} {w:World} {K:PySem.W.Frag} {mg:Str->Option Value} {base:Heap} (T:Tx K mg):FnOk P w K mg base CX0 24 T.a_law T.fd_law ["_law_script"] (spLaw K):=by
 refine T.F_law.ok sc_law (fun vs H Q E h=>?_) (fun cdv A outer s H vs Q E hr h=>?_)
 ·obtain⟨a,ns,rfl,_⟩:=h
  rfl
 obtain⟨a,ns,rfl,hS,_,q⟩:=h
 refine⟨_,((pss_cons (ps_asg (pe_call (FnOk.mono (ok__law_pair T) (by decide)) hr rfl T.m__law_pair T.F__law_pair.kp T.b__law_pair .nil pass0 (pa_cons (pv 0) pa_nil)) (pg_lst2 rfl (pgs_cons (pg_name (i:=1) sc_law.nd rfl (Or.inr rfl)) (pgs_cons (pg_name (i:=2) sc_law.nd rfl (Or.inr rfl)) pgs_nil))))
  (pss_cons (ps_set (i:=3) sc_law.nd rfl (Or.inr rfl) (pe_call (FnOk.mono (ok__law_shared T) (by decide)) hr rfl T.m__law_shared T.F__law_shared.kp T.b__law_shared .nil pass0 (pa_cons (pv 0) pa_nil)))
  (pss_cons (ps_set (i:=4) sc_law.nd rfl (Or.inl rfl) (pe_call (FnOk.mono (ok__law_line T) (by decide)) hr rfl T.m__law_line T.F__law_line.kp T.b__law_line .nil pass0 (pa_cons (pv 0) pa_nil)))
  (pss_cons (ps_setC (i:=5) rfl (blkok rfl (sub_cons rfl (sub_cons rfl sub_nil)) (fv_cons 3 "_law_shared_here" (by decide) rfl (Or.inl rfl) (Or.inl rfl) ⟨_,rfl⟩ (fv_cons 1 "_law_x" (by decide) rfl (Or.inl rfl) (Or.inl rfl) ⟨_,rfl⟩ fv_nil))) (pi_list (pv 4)) (fun _ _ _ _=>(pe_call (FnOk.mono (ok__law_product T) (by decide)) hr rfl T.m__law_product T.F__law_product.kp T.b__law_product .nil pass0 (pa_cons (pe_call (FnOk.mono (ok__law_product T) (by decide)) hr rfl T.m__law_product T.F__law_product.kp T.b__law_product .nil pass0 (pa_cons (pv 1) (pa_cons (pv 2) pa_nil))) (pa_cons (pv 0) pa_nil)))) sc_law.nd rfl rfl)
  (pss_cons (ps_setC (i:=6) rfl (blkok rfl (sub_cons rfl (sub_cons rfl sub_nil)) (fv_cons 3 "_law_shared_here" (by decide) rfl (Or.inl rfl) (Or.inl rfl) ⟨_,rfl⟩ (fv_cons 2 "_law_y" (by decide) rfl (Or.inl rfl) (Or.inl rfl) ⟨_,rfl⟩ fv_nil))) (pi_list (pv 4)) (fun _ _ _ _=>(pe_call (FnOk.mono (ok__law_product T) (by decide)) hr rfl T.m__law_product T.F__law_product.kp T.b__law_product .nil pass0 (pa_cons (pe_call (FnOk.mono (ok__law_product T) (by decide)) hr rfl T.m__law_product T.F__law_product.kp T.b__law_product .nil pass0 (pa_cons (pv 1) (pa_cons (pv 2) pa_nil))) (pa_cons (pv 0) pa_nil)))) sc_law.nd rfl rfl)
  (pss_cons (ps_set (i:=7) sc_law.nd rfl (Or.inl rfl) (pe_lst (pa_cons (pe_lcomp rfl (blkok rfl sub_nil fv_nil) (pi_list (pv 5)) (fun _ _ _ _=>(pe_callTy (call_list_ofK (K:=K) rfl) rfl T.z_list bt_list (pa_cons (pv 0) pa_nil)))) (pa_cons (pe_lcomp rfl (blkok rfl sub_nil fv_nil) (pi_list (pv 6)) (fun _ _ _ _=>(pe_callTy (call_list_ofK (K:=K) rfl) rfl T.z_list bt_list (pa_cons (pv 0) pa_nil)))) pa_nil))))
  (pss_cons (ps_if (PW.pt (pw_or (pt_not (pt_val (pe_call (FnOk.mono (ok__law_is T) (by decide)) hr rfl T.m__law_is T.F__law_is.kp T.b__law_is .nil pass0 (pa_cons (pe_call (FnOk.mono (ok_relation T) (by decide)) hr rfl T.m_relation T.F_relation.kp T.b_relation .nil pass0 (pa_cons (pv 7) pa_nil)) (pa_cons (pe_call (FnOk.mono (ok__law_due T) (by decide)) hr rfl T.m__law_due T.F__law_due.kp T.b__law_due .nil pass0 (pa_cons (pv 1) (pa_cons (pv 2) pa_nil))) pa_nil))))) (pw_or1 (pt_cmpR (op_neD hr.units) (pv 7) (pe_lst (pa_cons (pv 5) (pa_cons (pv 6) pa_nil))) (nomark _))))) (pss_one (ps_ret pe_bl)) pss_nil)
  (pss_cons (ps_if (pt_cmpR (op_eqD hr.units) (pv 2) (pe_lst pa_nil) (nomark _)) (pss_one (ps_ret (pe_call (FnOk.mono (ok__law_is T) (by decide)) hr rfl T.m__law_is T.F__law_is.kp T.b__law_is .nil pass0 (pa_cons (pe_call (FnOk.mono (ok_relation T) (by decide)) hr rfl T.m_relation T.F_relation.kp T.b_relation .nil pass0 (pa_cons (pe_lst (pa_cons (pv 6) (pa_cons (pv 5) pa_nil))) pa_nil)) (pa_cons (pe_lst (pa_cons (pe_lst (pa_cons pe_int pa_nil)) pa_nil)) pa_nil))))) pss_nil)
  (pss_one (ps_ret (pe_and (pe_call (FnOk.mono (ok__law_is T) (by decide)) hr rfl T.m__law_is T.F__law_is.kp T.b__law_is .nil pass0 (pa_cons (pe_call (FnOk.mono (ok_relation T) (by decide)) hr rfl T.m_relation T.F_relation.kp T.b_relation .nil pass0 (pa_cons (pe_lst (pa_cons (pv 6) (pa_cons (pv 5) pa_nil))) pa_nil)) (pa_cons (pe_call (FnOk.mono (ok__law_due T) (by decide)) hr rfl T.m__law_due T.F__law_due.kp T.b__law_due .nil pass0 (pa_cons (pv 2) (pa_cons (pv 1) pa_nil))) pa_nil))) (pe_one (pe_call (FnOk.mono (ok__law_is T) (by decide)) hr rfl T.m__law_is T.F__law_is.kp T.b__law_is .nil pass0 (pa_cons (pe_call (FnOk.mono (ok_relation T) (by decide)) hr rfl T.m_relation T.F_relation.kp T.b_relation .nil pass0 (pa_cons (pe_lst (pa_cons (pe_op op_rep (pe_lst (pa_cons (pe_lst pa_nil) pa_nil)) (pe_callB call_len_seq rfl T.z_len bt_len (pa_cons (pv 4) pa_nil))) (pa_cons (pv 5) pa_nil))) pa_nil)) (pa_cons (pe_lst (pa_cons (pe_lst (pa_cons pe_int pa_nil)) pa_nil)) pa_nil)))))))))))))))),?_⟩
 dsimp only [a_seq]
 k_typeOf
 refine⟨a,ns,rfl,hS,fun x y nx ny lx ly bx bY bz x0 y1 R X Y H1 s1 eR eX eY=>?_⟩
 refine⟨R,rfl,_,_,SqL.of eR,?_⟩
 dsimp only [a_seq]
 k_typeOf
 refine⟨a,ns,rfl,s1.seq hS,fun g g0 lg ng bg Gs H2 s2 nG eG=>?_⟩
 dsimp only [a_seq]
 k_typeOf
 refine⟨a,ns,rfl,(s1.trans s2).seq hS,fun Ln bs zs H3 s3 nL eL lL nLb w1 w4 bzs z0=>?_⟩
 have eX3:=s3 _ _ (s2 _ _ eX)
 have eY3:=s3 _ _ (s2 _ _ eY)
 have eG3:=s3 _ _ eG
 have lb:=lL.len
 obtain⟨vec,hvec⟩:∃vec:List Int->List (List Int),∀x,vec x=(zs.map (pdL g)).map (pdL x):=⟨_,fun _=>rfl⟩
 have D1:D23 zs.length (vec x) (vec y) x y (zs.map (pdL g)):=by
  refine⟨w1,w4,List.length_map ..,hvec x,hvec y,nx,ny,lx,ly,bx,bY,fun f hf=>?_,bz,y1⟩
  obtain⟨z,hz,rfl⟩:=List.mem_map.mp hf
  obtain⟨b1,b2,b3⟩:=bzs z hz
  refine⟨pd_nml _ _,Nat.le_trans (pd_len ng b1) (by omega),in_co fun j=>?_⟩
  rw [pd_co]
  exact (pm_bd (c:=2) bg b3 (by omega) j).mono (by decide)
 have one:∀{t:List Int} {Tt b:Addr} {p d:List Int} {i:Nat} {Hx:Hp} {R:VK},Nml t->t.length<=9->(∀z∈t,Bd 39 z)->Hx Gs=some (.lst (g.map V.int))->Hx Tt=some (.lst (t.map V.int))->SqL K Hx b (p.map V.int)->zs[i]?=some p->(vec t)[i]?=some d->newL Hx R (d.map V.int)->
   spProd7 K [.ref Gs,.ref Tt] Hx (fun v H'=>spProd7 K [v,.ref b] H' R E0) E0:=fun {t Tt b p d i Hx R} nt lt bt hG hT hb hp hd hR=>by
  obtain⟨b1,b2,b3⟩:=bzs p (List.mem_of_getElem? hp)
  refine⟨Gs,Tt,g,t,4,39,rfl,SqL.of hG,SqL.of hT,by omega,by omega,bg,bt,by decide,fun ws nw lw cw Q1 Hy sy nQ1 eQ1=>?_⟩
  have lw2:=prod_len ng nt nw cw
  have bw:∀z∈ws,Bd 45 z:=in_co fun j=>by rw [cw j];exact (pm_bd (c:=2) bg bt (by omega) j).mono (by decide)
  refine⟨Q1,b,ws,p,45,3,rfl,SqL.of eQ1,sy.seq hb,by omega,by omega,bw,b3,by decide,fun us nu lu cu Q2 Hz sz nQ2 eQ2=>?_⟩
  have ed:d=us:=by
   rw [hvec,List.map_map,List.getElem?_map,hp] at hd
   rw [← Option.some.inj hd]
   refine nml_val (pd_nml _ _) nu fun n=>?_
   have e1:val n us=val n (mulP ws p):=val_of_co (fun k=>by rw [cu k,co_mulP]) n
   have e2:val n ws=val n (mulP g t):=val_of_co (fun k=>by rw [cw k,co_mulP]) n
   rw [e1,val_mulP,e2,val_mulP]
   show val n (pdL t (pdL g p))=_
   rw [pd_val,pd_val];grind
  rw [← ed] at eQ2
  exact hR Q2 Hz (sy.trans sz) (sy.free nQ2) eQ2
 have lvec:∀t,(vec t).length=zs.length:=fun t=>by rw [hvec,List.length_map,List.length_map]
 dsimp only [a_seq]
 k_typeOf
 refine⟨⟨_,SqL.of eL⟩,fun Da nDa=>cl_ll (ps:=zs) (ds:=vec x) nDa (SqL.of eL) lL.ll (lvec x) (by omega) (fun i b p d Hx R' hp hd sx hb hR'=>?_) (fun O1 ob1 H4 s4 nO1 eO1 lO1 _ _ _=>?_)⟩
 ·(iterate 3 (k_units;(try simp only [bst2,bst,Option.getD_some]));k_units)
  exact one nx lx bx (sx _ _ eG3) (sx _ _ eX3) hb hp hd hR'
 have eL4:=s4 _ _ eL
 have lL4:=lL.same s4
 have eG4:=s4 _ _ eG3
 have eX4:=s4 _ _ eX3
 have eY4:=s4 _ _ eY3
 dsimp only [a_seq]
 k_typeOf
 refine⟨⟨_,SqL.of eL4⟩,fun Da nDa=>cl_ll (ps:=zs) (ds:=vec y) nDa (SqL.of eL4) lL4.ll (lvec y) (by omega) (fun i b p d Hx R' hp hd sx hb hR'=>?_) (fun O2 ob2 H5 s5 nO2 eO2 lO2 _ _ _=>?_)⟩
 ·(iterate 3 (k_units;(try simp only [bst2,bst,Option.getD_some]));k_units)
  exact one ny ly bY (sx _ _ eG4) (sx _ _ eY4) hb hp hd hR'
 have eO15:=s5 _ _ eO1
 have lO15:=lO1.same s5
 have cp:∀{i:Nat} {b:Addr} {p d:List Int} {Hx:Hp} {R:VK} {ps:List (List Int)},ps[i]?=some p->ps[i]?=some d->SqL K Hx b (p.map V.int)->newL Hx R (d.map V.int)->∃xs,(SqL K Hx b xs∨SqT K Hx b xs)∧∀l,Hx l=none->R (.ref l) (L2.upd Hx l (.lst xs)):=fun {i b p d Hx R ps} hp hd hb hR=>by
  have e:d=p:=by rw [hp] at hd;exact (Option.some.inj hd).symm
  subst e
  exact⟨_,.inl hb,fun l hl=>hR l _ (same_upd hl _) hl upd_same⟩
 dsimp only [a_seq]
 k_typeOf
 refine⟨⟨_,SqL.of eO15⟩,fun Da nDa=>cl_ll (ps:=vec x) (ds:=vec x) nDa (SqL.of eO15) lO15.ll rfl (by rw [lvec];omega) (fun i b p d Hx R' hp hd sx hb hR'=>?_) (fun C1 cb1 H6 s6 nC1 eC1 lC1 _ _ _=>?_)⟩
 ·(iterate 3 (k_units;(try simp only [bst]));k_units)
  exact cp hp hd hb hR'
 have eO26:=s6 _ _ eO2
 have lO26:=lO2.same s6
 refine⟨⟨_,SqL.of eO26⟩,fun Da nDa=>cl_ll (ps:=vec y) (ds:=vec y) nDa (SqL.of eO26) lO26.ll rfl (by rw [lvec];omega) (fun i b p d Hx R' hp hd sx hb hR'=>?_) (fun C2 cb2 H7 s7 nC2 eC2 lC2 _ _ _=>?_)⟩
 ·(iterate 3 (k_units;(try simp only [bst]));k_units)
  exact cp hp hd hb hR'
 refine⟨by decide,fun Hd nHd=>?_⟩
 have u8:=same_upd nHd (.lst [V.ref C1,V.ref C2])
 have eHd:=upd_same (H:=H7) (a:=Hd) (o:=.lst [V.ref C1,V.ref C2])
 have s68:=s7.trans u8
 have s58:=s6.trans s68
 have eC18:=s68 _ _ eC1
 have lC18:=lC1.same s68
 have eC28:=u8 _ _ eC2
 have lC28:=lC2.same u8
 have eO18:=s58 _ _ eO15
 have lO18:=lO15.same s58
 have eO28:=s68 _ _ eO26
 have lO28:=lO26.same s68
 have eX8:=s58 _ _ (s5 _ _ eX4)
 have eY8:=s58 _ _ (s5 _ _ eY4)
 have eL8:=s58 _ _ (s5 _ _ eL4)
 generalize L2.upd H7 Hd (.lst [V.ref C1,V.ref C2])=H8 at eHd eC18 lC18 eC28 lC28 eO18 lO18 eO28 lO28 eX8 eY8 eL8 ⊢
 clear eO26 lO26 eO15 lO15 eX4 eY4 eL4 lL4 eG4 eX3 eY3 eG3 eL lL u8 s68 s58 eC1 lC1 eC2 lC2 eO1 lO1 eO2 lO2
 have hne:∀t:List Int,Nml t->t≠[]->∃f∈vec t,f≠[]:=fun t nt t0=>by
  have hz:zs[0]?=some (zs.getD 0 []):=by rw [List.getD_eq_getElem?_getD,List.getElem?_eq_getElem (by omega)];rfl
  refine⟨pdL t (pdL g (zs.getD 0 [])),?_,pd_ne nt (pd_nml _ _) t0 (pd_ne ng (bzs _ (List.mem_of_getElem? hz)).1 g0 z0)⟩
  rw [hvec]
  exact List.mem_map.mpr ⟨_,List.mem_map.mpr ⟨_,List.mem_of_getElem? hz,rfl⟩,rfl⟩
 have ldu:∀t r:List Int,t.length<=9->r.length<=9->∀d∈due23 t r,d.length<=900:=fun t r ht hr d hd=>by
  rw [due23_is] at hd
  simp only [List.mem_cons,List.not_mem_nil,or_false] at hd
  rcases hd with rfl | rfl <;> rw [List.length_map] <;> omega
 dsimp only [a_seq]
 k_typeOf
 refine rel_due D1 (hne x nx x0) (SqL.of eHd) (SqL.of eC18) lC18.ll (SqL.of eC28) lC28.ll fun F1 fb1 H9 s9 eF1 lF1=>?_
 refine⟨X,Y,x,y,rfl,s9 _ _ eX8,s9 _ _ eY8,nx,x0,lx,ly,bx,bY,fun U1 ub1 H10 s10 eU1 lU1=>?_⟩
 refine⟨F1,U1,fb1,ub1,due23 x y,rfl,s10 _ _ eF1,lF1.same s10,SqL.of eU1,lU1.ll,by rw [due23_is];simp,ldu x y lx ly,fun H11 s11=>?_⟩
 have s811:=s9.trans (s10.trans s11)
 refine⟨true,rfl,?_⟩
 rw [if_neg (by decide)]
 refine⟨by decide,fun P1 nP1=>?_⟩
 have v1:=same_upd nP1 (.lst [V.ref O1,V.ref O2])
 have eP1:=upd_same (H:=H11) (a:=P1) (o:=.lst [V.ref O1,V.ref O2])
 have s12:=s811.trans v1
 generalize L2.upd H11 P1 (.lst [V.ref O1,V.ref O2])=H12 at v1 eP1 s12 ⊢
 refine⟨_,DV.lst (SqL.of (s12 _ _ eHd)) (.cons (dv_ll (SqL.of (s12 _ _ eC18)) (lC18.same s12).ll) (.cons (dv_ll (SqL.of (s12 _ _ eC28)) (lC28.same s12).ll) .nil)),_,DV.lst (SqL.of eP1) (.cons (dv_ll (SqL.of (s12 _ _ eO18)) (lO18.same s12).ll) (.cons (dv_ll (SqL.of (s12 _ _ eO28)) (lO28.same s12).ll) .nil)),?_,?_,?_,?_⟩
 ·simp [PyData.canLay0,PyData.canLayAll0,layAll_ll]
 ·simp [PyData.canLay0,PyData.canLayAll0,layAll_ll]
 ·have h1:=depAll_ll (vec x)
  have h2:=depAll_ll (vec y)
  simp [PyData.depth,PyData.depthAll];omega
 rw [if_neg (by simp [PyData.eqv,PyData.eqvAll,eqvAll_ll])]
 have D2:D23 zs.length (vec y) (vec x) y x (zs.map (pdL g)):=⟨D1.w1,D1.w4,D1.lu,D1.eq,D1.ev,ny,nx,ly,lx,bY,bx,D1.nu,D1.bz.symm,fun z=>absurd z x0⟩
 have eX12:=s12 _ _ eX8
 have eY12:=s12 _ _ eY8
 have eO1:=s12 _ _ eO18
 have lO1:=lO18.same s12
 have eO2:=s12 _ _ eO28
 have lO2:=lO28.same s12
 have eL12:=s12 _ _ eL8
 clear eX8 eY8 eO18 lO18 eO28 lO28 eL8 eHd eC18 lC18 eC28 lC28 v1 eP1 s12 s811
 dsimp only [a_seq]
 k_typeOf
 refine⟨Nat.zero_le _,fun P2 nP2=>?_⟩
 have v2:=same_upd nP2 (.lst [])
 refine⟨_,DV.ints (SqL.of (v2 _ _ eY12)),_,DV.ints (ns:=[]) (SqL.of upd_same),lay_self _,lay_self _,dep_self _,?_⟩
 rw [eqv_self]
 generalize L2.upd H12 P2 (.lst [])=H13 at v2 ⊢
 have fin1:∀{F:Addr} {fb:List Addr} {Hx:Hp} {Qx:VK},Hx F=some (.lst (fb.map V.ref))->LH Hx fb [[1]]->(∀H',Same Hx H'->Qx (.bl true) H')->0+1<=sizeLine∧∀p,Hx p=none->0+1<=sizeLine∧∀p2,L2.upd Hx p (.lst [V.int 1]) p2=none->spIs35 K [.ref F,.ref p2] (L2.upd (L2.upd Hx p (.lst [V.int 1])) p2 (.lst [V.ref p])) Qx E0:=fun {F fb Hx Qx} eF lF k=>by
  refine⟨by decide,fun p np=>⟨by decide,fun p2 np2=>?_⟩⟩
  have t1:=same_upd np (.lst [V.int 1])
  have t2:=same_upd np2 (.lst [V.ref p])
  have t:=t1.trans t2
  exact⟨F,p2,fb,[p],[[1]],rfl,t _ _ eF,lF.same t,SqL.of upd_same,((LH.nil _).snoc (p:=[1]) (t2 _ _ upd_same)).ll,by simp,by simp,fun H' s'=>k H' (t.trans s')⟩
 refine ite2 (fun z=>?_) (fun z=>?_)
 ·have y0:y=[]:=by simpa using z
  refine⟨by decide,fun P3 nP3=>?_⟩
  have v3:=v2.trans (same_upd nP3 (.lst [V.ref O2,V.ref O1]))
  subst y0
  refine rel_one D2 (SqL.of upd_same) (SqL.of (v3 _ _ eO2)) (lO2.same v3).ll (SqL.of (v3 _ _ eO1)) (lO1.same v3).ll fun F fb Hx sx eF lF=>?_
  exact fin1 eF lF fun H' _=>q H'
 have y0:y≠[]:=by simpa using z
 refine⟨by decide,fun P3 nP3=>?_⟩
 have v3:=v2.trans (same_upd nP3 (.lst [V.ref O2,V.ref O1]))
 refine rel_due D2 (hne y ny y0) (SqL.of upd_same) (SqL.of (v3 _ _ eO2)) (lO2.same v3).ll (SqL.of (v3 _ _ eO1)) (lO1.same v3).ll fun F2 fb2 H14 s14 eF2 lF2=>?_
 have v4:=v3.trans s14
 refine⟨Y,X,y,x,rfl,v4 _ _ eY12,v4 _ _ eX12,ny,y0,ly,lx,bY,bx,fun U2 ub2 H15 s15 eU2 lU2=>?_⟩
 refine⟨F2,U2,fb2,ub2,due23 y x,rfl,s15 _ _ eF2,lF2.same s15,SqL.of eU2,lU2.ll,by rw [due23_is];simp,ldu y x ly lx,fun H16 s16=>?_⟩
 have v5:=v4.trans (s15.trans s16)
 refine⟨true,rfl,?_⟩
 rw [if_pos rfl]
 refine⟨Nat.zero_le _,fun P4 n4=>⟨by decide,fun P5 n5=>?_⟩⟩
 have w4':=same_upd n4 (.lst [])
 have w5:=same_upd n5 (.lst [V.ref P4])
 have e4:=w5 _ _ (upd_same (H:=H16) (a:=P4) (o:=.lst []))
 have v6:=v5.trans (w4'.trans w5)
 refine⟨_,.inl (SqL.of (v6 _ _ eL12)),_,upd_same,?_⟩
 rw [List.length_map,lb]
 generalize L2.upd (L2.upd H16 P4 (.lst [])) P5 (.lst [V.ref P4])=H17 at e4 v6 ⊢
 refine⟨by omega,by omega,by rw [Int.toNat_natCast];exact Nat.le_of_lt (small1000 (by simp;omega)),fun P6 n6=>⟨by decide,fun P7 n7=>?_⟩⟩
 rw [Int.toNat_natCast,rep_refs] at n7 ⊢
 have w6:=same_upd n6 (.lst ((List.replicate zs.length P4).map V.ref))
 have e6:=upd_same (H:=H17) (a:=P6) (o:=.lst ((List.replicate zs.length P4).map V.ref))
 have w7:=same_upd n7 (.lst [V.ref P6,V.ref O1])
 have w67:=w6.trans w7
 have v7:=v6.trans w67
 have D3:D23 zs.length (vec []) (vec x) [] x (zs.map (pdL g)):=⟨D1.w1,D1.w4,D1.lu,hvec [],D1.ev,nml_nil,nx,by simp,lx,by simp,bx,D1.nu,.inl rfl,fun z=>absurd z x0⟩
 have l0:LL K (L2.upd (L2.upd H17 P6 (.lst ((List.replicate zs.length P4).map V.ref))) P7 (.lst [V.ref P6,V.ref O1])) (List.replicate zs.length P4) (vec []):=by
  refine⟨by rw [lvec];simp,fun i b p h1 h2=>?_⟩
  have hb:=List.eq_of_mem_replicate (List.mem_of_getElem? h1)
  have hp:p=[]:=by
   have:=List.mem_of_getElem? h2
   rw [hvec] at this
   obtain⟨f,_,rfl⟩:=List.mem_map.mp this
   exact nil_pd f
  rw [hb,hp];exact SqL.of (w67 _ _ e4)
 refine rel_one D3 (SqL.of upd_same) (SqL.of (w7 _ _ e6)) l0 (SqL.of (v7 _ _ eO1)) (lO1.same v7).ll fun F fb Hx sx eF lF=>?_
 exact fin1 eF lF fun H' _=>q H'
theorem ln_1 {us:List Value} (h:us.length=1):∃x0,us=[x0]:=by
 match us,h with
 | [x0],_=>exact⟨x0,rfl⟩
theorem ln_2 {us:List Value} (h:us.length=2):∃x0 x1,us=[x0,x1]:=by
 match us,h with
 | [x0,x1],_=>exact⟨x0,x1,rfl⟩
theorem ln_3 {us:List Value} (h:us.length=3):∃x0 x1 x2,us=[x0,x1,x2]:=by
 match us,h with
 | [x0,x1,x2],_=>exact⟨x0,x1,x2,rfl⟩
theorem ln_4 {us:List Value} (h:us.length=4):∃x0 x1 x2 x3,us=[x0,x1,x2,x3]:=by
 match us,h with
 | [x0,x1,x2,x3],_=>exact⟨x0,x1,x2,x3,rfl⟩
local macro_rules | `(tactic| o_law)=>`(tactic| (intro _ _ _ _ _ _ us hl;first | (obtain⟨x0,e⟩:=ln_1 hl;subst e;rfl) | (obtain⟨x0,x1,e⟩:=ln_2 hl;subst e;rfl) | (obtain⟨x0,x1,x2,e⟩:=ln_3 hl;subst e;rfl) | (obtain⟨x0,x1,x2,x3,e⟩:=ln_4 hl;subst e;rfl)))
abbrev fdK (x q:Str) (st:Stmt) (pm:Value) (c:Nat):FuncData:=PySem.W.fnOf x q (defArgs st) (defBody st) (defScope st) .none .none .none pm none (.ref c) .none
abbrev FU (P:Params) (x q:Str) (st:Stmt) (f:Addr) (pm:Value) (c:Nat):Prop:=Fun (KK P) x q st f (fdK x q st pm c)
theorem fuk {P:Params} {x q:Str} {st:Stmt} {f:Addr} {pm:Value} {c:Nat} (l:(KK P).lookup f=some ⟨.type "function",none,.func (fdK x q st pm c),#[]⟩) (h:PySem.W.codeIn (KK P) (.ref c) q=true) (k:PySem.W.keepIn (KK P) (.ref f)=true):FU P x q st f pm c:=fun_mk l h k
abbrev pm0:Value:=.str "sumcraft.polys" 223
abbrev pm1:Value:=.str "sumcraft.ratios" 283
abbrev pm2:Value:=.str "sumcraft.reaches" 318
abbrev pm3:Value:=.str "sumcraft.spans" 382
abbrev pm4:Value:=.str "law_sumcraft_k23_two_of_one_line" 539
theorem kf0 (P:Params):FU P "trimmed" "trimmed" s_trimmed 46 pm0 45:=fuk (by kernel_rfl) (by kernel_rfl) (by kernel_rfl)
theorem kf1 (P:Params):FU P "poly_plus" "poly_plus" s_poly_plus 53 pm0 52:=fuk (by kernel_rfl) (by kernel_rfl) (by kernel_rfl)
theorem kf2 (P:Params):FU P "poly_times" "poly_times" s_poly_times 60 pm0 59:=fuk (by kernel_rfl) (by kernel_rfl) (by kernel_rfl)
theorem kf3 (P:Params):FU P "poly_value" "poly_value" s_poly_value 67 pm0 66:=fuk (by kernel_rfl) (by kernel_rfl) (by kernel_rfl)
theorem kf4 (P:Params):FU P "quotient" "quotient" s_quotient 74 pm0 73:=fuk (by kernel_rfl) (by kernel_rfl) (by kernel_rfl)
theorem kf5 (P:Params):FU P "divisor" "divisor" s_divisor 88 pm1 87:=fuk (by kernel_rfl) (by kernel_rfl) (by kernel_rfl)
theorem kf6 (P:Params):FU P "content" "content" s_content 95 pm2 94:=fuk (by kernel_rfl) (by kernel_rfl) (by kernel_rfl)
theorem kf7 (P:Params):FU P "over" "over" s_over 100 pm2 99:=fuk (by kernel_rfl) (by kernel_rfl) (by kernel_rfl)
theorem kf8 (P:Params):FU P "upright" "upright" s_upright 105 pm2 104:=fuk (by kernel_rfl) (by kernel_rfl) (by kernel_rfl)
theorem kf9 (P:Params):FU P "spread" "spread" s_spread 112 pm2 111:=fuk (by kernel_rfl) (by kernel_rfl) (by kernel_rfl)
theorem kf10 (P:Params):FU P "greatest_size" "greatest_size" s_greatest_size 117 pm2 116:=fuk (by kernel_rfl) (by kernel_rfl) (by kernel_rfl)
theorem kf11 (P:Params):FU P "bare_common" "bare_common" s_bare_common 124 pm2 123:=fuk (by kernel_rfl) (by kernel_rfl) (by kernel_rfl)
theorem kf12 (P:Params):FU P "common" "common" s_common 129 pm2 128:=fuk (by kernel_rfl) (by kernel_rfl) (by kernel_rfl)
theorem kf13 (P:Params):FU P "common_of" "common_of" s_common_of 136 pm2 135:=fuk (by kernel_rfl) (by kernel_rfl) (by kernel_rfl)
theorem kf14 (P:Params):FU P "lowered" "lowered" s_lowered 141 pm3 140:=fuk (by kernel_rfl) (by kernel_rfl) (by kernel_rfl)
theorem kf15 (P:Params):FU P "through" "through" s_through 148 pm3 147:=fuk (by kernel_rfl) (by kernel_rfl) (by kernel_rfl)
theorem kf16 (P:Params):FU P "greatest_degree" "greatest_degree" s_greatest_degree 153 pm3 152:=fuk (by kernel_rfl) (by kernel_rfl) (by kernel_rfl)
theorem kf17 (P:Params):FU P "degree_bound" "degree_bound" s_degree_bound 158 pm3 157:=fuk (by kernel_rfl) (by kernel_rfl) (by kernel_rfl)
theorem kf18 (P:Params):FU P "cleared" "cleared" s_cleared 163 pm3 162:=fuk (by kernel_rfl) (by kernel_rfl) (by kernel_rfl)
theorem kf19 (P:Params):FU P "relation" "relation" s_relation 246 pm3 245:=fuk (by kernel_rfl) (by kernel_rfl) (by kernel_rfl)
theorem kf20 (P:Params):FU P "_law_cell_at" "_law_cell_at" s__law_cell_at 253 pm4 252:=fuk (by kernel_rfl) (by kernel_rfl) (by kernel_rfl)
theorem kf21 (P:Params):FU P "_law_cut" "_law_cut" s__law_cut 260 pm4 259:=fuk (by kernel_rfl) (by kernel_rfl) (by kernel_rfl)
theorem kf22 (P:Params):FU P "_law_product" "_law_product" s__law_product 267 pm4 266:=fuk (by kernel_rfl) (by kernel_rfl) (by kernel_rfl)
theorem kf23 (P:Params):FU P "_law_sum" "_law_sum" s__law_sum 274 pm4 273:=fuk (by kernel_rfl) (by kernel_rfl) (by kernel_rfl)
theorem kf24 (P:Params):FU P "_law_divisor" "_law_divisor" s__law_divisor 281 pm4 280:=fuk (by kernel_rfl) (by kernel_rfl) (by kernel_rfl)
theorem kf25 (P:Params):FU P "_law_pair" "_law_pair" s__law_pair 288 pm4 287:=fuk (by kernel_rfl) (by kernel_rfl) (by kernel_rfl)
theorem kf26 (P:Params):FU P "_law_shared" "_law_shared" s__law_shared 295 pm4 294:=fuk (by kernel_rfl) (by kernel_rfl) (by kernel_rfl)
theorem kf27 (P:Params):FU P "_law_line" "_law_line" s__law_line 302 pm4 301:=fuk (by kernel_rfl) (by kernel_rfl) (by kernel_rfl)
theorem kf28 (P:Params):FU P "_law_due" "_law_due" s__law_due 307 pm4 306:=fuk (by kernel_rfl) (by kernel_rfl) (by kernel_rfl)
theorem kf29 (P:Params):FU P "_law_is" "_law_is" s__law_is 314 pm4 313:=fuk (by kernel_rfl) (by kernel_rfl) (by kernel_rfl)
theorem kf30 (P:Params):FU P "law" "law" s_law 319 pm4 318:=fuk (by kernel_rfl) (by kernel_rfl) (by kernel_rfl)
theorem kf31 (P:Params):FU P "__init__" "Span.__init__" s_Span___init__ 177 pm3 176:=fuk (by kernel_rfl) (by kernel_rfl) (by kernel_rfl)
theorem kf32 (P:Params):FU P "row_at" "Span.row_at" s_Span_row_at 182 pm3 181:=fuk (by kernel_rfl) (by kernel_rfl) (by kernel_rfl)
theorem kf33 (P:Params):FU P "table_at" "Span.table_at" s_Span_table_at 189 pm3 188:=fuk (by kernel_rfl) (by kernel_rfl) (by kernel_rfl)
theorem kf34 (P:Params):FU P "lowered_at" "Span.lowered_at" s_Span_lowered_at 196 pm3 195:=fuk (by kernel_rfl) (by kernel_rfl) (by kernel_rfl)
theorem kf35 (P:Params):FU P "only_choice" "Span.only_choice" s_Span_only_choice 201 pm3 200:=fuk (by kernel_rfl) (by kernel_rfl) (by kernel_rfl)
theorem kf36 (P:Params):FU P "failing_column" "Span.failing_column" s_Span_failing_column 208 pm3 207:=fuk (by kernel_rfl) (by kernel_rfl) (by kernel_rfl)
theorem kf37 (P:Params):FU P "keep" "Span.keep" s_Span_keep 215 pm3 214:=fuk (by kernel_rfl) (by kernel_rfl) (by kernel_rfl)
theorem kf38 (P:Params):FU P "by_few" "Span.by_few" s_Span_by_few 220 pm3 219:=fuk (by kernel_rfl) (by kernel_rfl) (by kernel_rfl)
theorem kf39 (P:Params):FU P "take" "Span.take" s_Span_take 225 pm3 224:=fuk (by kernel_rfl) (by kernel_rfl) (by kernel_rfl)
theorem walk {l:PySem.W.OpenLaw} {q:Program} {loose:List Str} {XP:(Str->Option Value)->Heap->Prop} {YP:World->Heap->Prop} {d:DefRec} {K:Params->PySem.W.Frag} (hn:l.most=some 63) (hdf:d.params.defaults=[])
  (hY:∀(w:World) (h:Heap),YP w h->(K w.params).In h)
  (F:∀(w:World) (mg:Str->Option Value) (fa:Addr) (h:Heap),(K w.params).In h->h.Ns mainGlobals mg->mg d.name=some (.ref fa)->
   ∃T:Tx (K w.params) mg,T.a_law=fa∧∀(s:Shared) (v:Value),BindsTo s T.fd_law ⟨[v],[]⟩ [("_law_script",v)]):
  PySem.W.WalkO q loose XP YP l.row.toRowW d [] (fun f vs=>PySem.call f vs):=
 L2.walk_of (n:=63) (k:=30) (x := "_law_script") (CX:=fun _=>CX0) (sp:=fun w=>spLaw (K w.params)) hn (by decide) hdf ⟨rfl,by decide,by decide⟩ hY
  (fun w mg fa h KX G hmg=>by
   obtain⟨T,e,hb⟩:=F w mg fa h KX G hmg
   subst e
   exact⟨T.fd_law,hb,fun base _ _=>FnOk.mono (ok_law T) (by decide)⟩)
  (fun _ H a ns hl _ hS=>⟨a,ns,rfl,hS,hl,fun _=>rfl⟩) fun _ _ _ _ _ z=>z
theorem facts (w:World) (mg:Str->Option Value) (fa:Addr) (h:Heap) (KX:(KK w.params).In h) (G:h.Ns mainGlobals mg) (hmg:mg "law" = some (.ref fa)):
  ∃T:Tx (KK w.params) mg,T.a_law=fa∧∀(s:Shared) (v:Value),BindsTo s T.fd_law ⟨[v],[]⟩ [("_law_script",v)]:=by
 have ma:∀{x:Str} {f:Addr},PySem.W.nsIn (KK w.params) mainGlobals x=some (some (.ref f))->mg x=some (.ref f):=fun e=>PySem.W.mg_of KX G e
 have mi:∀{x:Str} {i:Int} {t:Tok},PySem.W.nsIn (KK w.params) mainGlobals x=some (some (.int i t))->mg x=some (.int i t):=fun e=>PySem.W.mg_of KX G e
 have mz:∀{x:Str},PySem.W.nsIn (KK w.params) mainGlobals x=some none->mg x=none:=fun e=>PySem.W.mg_none_of KX G e
 have e:=hmg.symm.trans (ma (f:=319) (by kernel_rfl))
 cases e
 exact⟨⟨_,_,kf0 _,ma (by kernel_rfl),(kf0 _).binds (by o_law),_,_,kf1 _,ma (by kernel_rfl),(kf1 _).binds (by o_law),_,_,kf2 _,ma (by kernel_rfl),(kf2 _).binds (by o_law),_,_,kf3 _,ma (by kernel_rfl),(kf3 _).binds (by o_law),_,_,kf4 _,ma (by kernel_rfl),(kf4 _).binds (by o_law),_,_,kf5 _,ma (by kernel_rfl),(kf5 _).binds (by o_law),_,_,kf6 _,ma (by kernel_rfl),(kf6 _).binds (by o_law),_,_,kf7 _,ma (by kernel_rfl),(kf7 _).binds (by o_law),_,_,kf8 _,ma (by kernel_rfl),(kf8 _).binds (by o_law),_,_,kf9 _,ma (by kernel_rfl),(kf9 _).binds (by o_law),_,_,kf10 _,ma (by kernel_rfl),(kf10 _).binds (by o_law),_,_,kf11 _,ma (by kernel_rfl),(kf11 _).binds (by o_law),_,_,kf12 _,ma (by kernel_rfl),(kf12 _).binds (by o_law),_,_,kf13 _,ma (by kernel_rfl),(kf13 _).binds (by o_law),_,_,kf14 _,ma (by kernel_rfl),(kf14 _).binds (by o_law),_,_,kf15 _,ma (by kernel_rfl),(kf15 _).binds (by o_law),_,_,kf16 _,ma (by kernel_rfl),(kf16 _).binds (by o_law),_,_,kf17 _,ma (by kernel_rfl),(kf17 _).binds (by o_law),_,_,kf18 _,ma (by kernel_rfl),(kf18 _).binds (by o_law),_,_,kf19 _,ma (by kernel_rfl),(kf19 _).binds (by o_law),_,_,kf20 _,ma (by kernel_rfl),(kf20 _).binds (by o_law),_,_,kf21 _,ma (by kernel_rfl),(kf21 _).binds (by o_law),_,_,kf22 _,ma (by kernel_rfl),(kf22 _).binds (by o_law),_,_,kf23 _,ma (by kernel_rfl),(kf23 _).binds (by o_law),_,_,kf24 _,ma (by kernel_rfl),(kf24 _).binds (by o_law),_,_,kf25 _,ma (by kernel_rfl),(kf25 _).binds (by o_law),_,_,kf26 _,ma (by kernel_rfl),(kf26 _).binds (by o_law),_,_,kf27 _,ma (by kernel_rfl),(kf27 _).binds (by o_law),_,_,kf28 _,ma (by kernel_rfl),(kf28 _).binds (by o_law),_,_,kf29 _,ma (by kernel_rfl),(kf29 _).binds (by o_law),_,_,kf30 _,ma (by kernel_rfl),(kf30 _).binds (by o_law),_,_,kf31 _,(kf31 _).binds (by o_law),_,_,kf32 _,(kf32 _).binds (by o_law),_,_,kf33 _,(kf33 _).binds (by o_law),_,_,kf34 _,(kf34 _).binds (by o_law),_,_,kf35 _,(kf35 _).binds (by o_law),_,_,kf36 _,(kf36 _).binds (by o_law),_,_,kf37 _,(kf37 _).binds (by o_law),_,_,kf38 _,(kf38 _).binds (by o_law),_,_,kf39 _,(kf39 _).binds (by o_law),37,ma (by kernel_rfl),by kernel_rfl,235,ma (by kernel_rfl),⟨by kernel_rfl,by kernel_rfl,by kernel_rfl,by kernel_rfl⟩,⟨by kernel_rfl,by kernel_rfl,by kernel_rfl,by kernel_rfl⟩,⟨by kernel_rfl,by kernel_rfl,by kernel_rfl⟩,⟨by kernel_rfl,by kernel_rfl,by kernel_rfl⟩,⟨by kernel_rfl,by kernel_rfl,by kernel_rfl⟩,⟨by kernel_rfl,by kernel_rfl,by kernel_rfl⟩,⟨by kernel_rfl,by kernel_rfl,by kernel_rfl⟩,⟨by kernel_rfl,by kernel_rfl,by kernel_rfl⟩,⟨by kernel_rfl,by kernel_rfl,by kernel_rfl⟩,⟨by kernel_rfl,by kernel_rfl,by kernel_rfl⟩,by show PySem.W.findIn _ _ _=_;kernel_rfl,by show PySem.W.findIn _ _ _=_;kernel_rfl,by show PySem.W.findIn _ _ _=_;kernel_rfl,by show PySem.W.findIn _ _ _=_;kernel_rfl,by show PySem.W.findIn _ _ _=_;kernel_rfl,mz (by kernel_rfl),mz (by kernel_rfl),mz (by kernel_rfl),mz (by kernel_rfl),mz (by kernel_rfl),mz (by kernel_rfl),mz (by kernel_rfl),mz (by kernel_rfl),mz (by kernel_rfl),mz (by kernel_rfl),mz (by kernel_rfl),mz (by kernel_rfl),mz (by kernel_rfl),⟨285,mi (by kernel_rfl)⟩,⟨384,mi (by kernel_rfl)⟩⟩,rfl,fun s v=>.of_eq rfl⟩
end My
open PySem PySem.W PyProof.Rows
set_option maxRecDepth 100000 in
set_option maxHeartbeats 0 in
theorem PySem.Challenge.cw_sumcraft_k23_two_of_one_line_holds : PySem.Challenge.rw_sumcraft_k23_two_of_one_line.Holds := by
 refine holds_law My.h_well fun said=>?_
 refine holds_open (r:=PySem.Challenge.rw_sumcraft_k23_two_of_one_line.row)
  (q:=My.qv) (loose:=[]) (Xt:=My.xt)
  (XP:=XL My.qv []) (Yf:=My.hk.obs) (Ya:=My.hk.val)
  (YP:=My.hk.says) (N:=4068)
  My.left My.hk.of My.hk.keeps
  (fun s e=>xl_of s (Bool.and_eq_true_iff.mp e).1)
  XL.keeps (by rfl) (by rfl) (by rfl)
  (fun s e=>recFacts_of (Bool.and_eq_true_iff.mp e).2)
  (by rfl) said (by decide +kernel)
  My.h_bare ?wit ?go
 case wit=>w_witness2
 case go=>exact My.walk (l:=PySem.Challenge.rw_sumcraft_k23_two_of_one_line) rfl rfl (fun w h Y=>kIn_of Y) My.facts
