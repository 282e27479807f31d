import PyProof.Rows.All
import Wide.All
import OpenK.AllK
import Wide.FinOn
import Lean
import PyProof.EqAt
import PyProof.EqKinds
import PyProof.TupleCall
import PySem.Challenge.RW_sumcraft_k61_ends_and_sizes
set_option Elab.async false
set_option linter.all false
set_option maxRecDepth 100000
set_option maxHeartbeats 4000000
namespace My
open PySem PySem.Spec PyProof.Rows PySem.W
def top (i : Nat) : Stmt := PySem.Challenge.pw_sumcraft_k61_ends_and_sizes.main.body.getD i (.Pass ⟨0, 0, 0, 0⟩)
def inCls (s : Stmt) (j : Nat) : Stmt := match s with
 | .ClassDef _ _ _ b _ _ _ _ _ _ _ => b.getD j (.Pass ⟨0, 0, 0, 0⟩)
 | _ => .Pass ⟨0, 0, 0, 0⟩
abbrev s_bare : Stmt := top 5
abbrev s_pair_times : Stmt := top 6
abbrev s_pair_of_form : Stmt := top 7
abbrev s_degree_in_k : Stmt := top 8
abbrev s_pair_product : Stmt := top 9
abbrev s_raised : Stmt := top 19
abbrev s_raised_from : Stmt := top 20
abbrev s_low_forms : Stmt := top 21
abbrev s_power_of : Stmt := top 22
abbrev s_has_ends : Stmt := top 31
abbrev s_degree_in_n : Stmt := top 32
abbrev s_product_degree : Stmt := top 33
abbrev s_steps_degree : Stmt := top 34
abbrev s_ends_degree : Stmt := top 35
abbrev s_breadth_of : Stmt := top 36
abbrev s_height_of : Stmt := top 37
abbrev s_length_of : Stmt := top 38
abbrev s_within : Stmt := top 44
abbrev s_check_choose : Stmt := top 45
abbrev s_check_base : Stmt := top 46
abbrev s_piece_of : Stmt := top 47
abbrev s__law_cell_at : Stmt := top 51
abbrev s__law_less : Stmt := top 52
abbrev s__law_any : Stmt := top 53
abbrev s__law_choose : Stmt := top 54
abbrev s__law_fraction : Stmt := top 55
abbrev s__law_parts : Stmt := top 56
abbrev s__law_lows : Stmt := top 57
abbrev s__law_ends : Stmt := top 58
abbrev s__law_up_and_down : Stmt := top 59
abbrev s__law_step : Stmt := top 60
abbrev s__law_is : Stmt := top 61
abbrev s__law_for : Stmt := top 62
abbrev s_law : Stmt := top 63
abbrev s_Part_step : Stmt := inCls (top 25) 1
abbrev s_Part_up : Stmt := inCls (top 25) 2
abbrev s_Part_down : Stmt := inCls (top 25) 3
abbrev s_Choose___init__ : Stmt := inCls (top 26) 0
abbrev s_Choose_lifted : Stmt := inCls (top 26) 1
abbrev s_Choose_step : Stmt := inCls (top 26) 3
abbrev s_Choose_up : Stmt := inCls (top 26) 4
abbrev s_Choose_down : Stmt := inCls (top 26) 5
abbrev s_Weight___init__ : Stmt := inCls (top 27) 0
abbrev s_Weight_step : Stmt := inCls (top 27) 2
abbrev s_Power___init__ : Stmt := inCls (top 28) 0
abbrev s_Power_up : Stmt := inCls (top 28) 2
abbrev s_Power_down : Stmt := inCls (top 28) 3
abbrev s_Growth___init__ : Stmt := inCls (top 29) 0
abbrev s_Growth_step : Stmt := inCls (top 29) 2
abbrev s_Term___init__ : Stmt := inCls (top 49) 0
abbrev s_Term_told : Stmt := inCls (top 49) 1
def kE (P : Params) (x : String) (n : Nat) (v : Value) : DictEntry := ⟨PyData.keyHash P (Str.ofString x), .str (Str.ofString x) n, v⟩
def kM (x q : Str) (s : Stmt) (m : Str) (k c : Nat) : Obj := match s with
 | .FunctionDef _ a b _ _ _ sc _ _ _ => ⟨.type "function", none, .func (fnOf x q a b sc .none .none .none (.str m k) none (.ref c) .none), #[]⟩
 | _ => ⟨.none, none, .plain, #[]⟩
def kN (x q : Str) (s : Stmt) : Obj := match s with
 | .FunctionDef _ a b _ _ _ sc _ _ _ => ⟨.none, none, .func { name := x, qualname := q, params := a, body := .stmts b, scope := sc, globals := 0, closure := [], defaults := .none, kwdefaults := .none }, #[]⟩
 | _ => ⟨.none, none, .plain, #[]⟩
def oT (x : Array Value) : Obj := { cls := .type "tuple", data := Data.seq x }
def oF (x : Array Value) : Obj := { cls := .none, data := Data.fields x }
def oK (x : Array Value) : Obj := { cls := .type "code", data := Data.fields x }
def oB (x : Array Value) : Obj := { cls := .type "builtin_function_or_method", data := Data.fields x }
def cp (n : Nat) : Value := .str "/claim/cut.py" n
def ob11 : Obj := oT #[]
def ob12 : Obj := oF #[]
def ob13 : Obj := oK #[.str "<module>" 182, .str "<module>" 183, cp 184, .int 1 0, .int 0 0, .int 0 0, .int 0 0, .int 0 0, .ref 11, .bool false, .int 181 0, .ref 12, .none, .none, .none, .none, .int 185 0, .int 1 0, cp 186]
def ob14 : Obj := { cls := .type "frame", slots := #[some (.ref 13), some (.ref 3), some (.ref 3), none, some (.str "__main__" 164), none, some (.ref 0)] }
def ob3 (P : Params) : Obj := { cls := .type "dict", data := Data.dict #[kE P "__name__" 165 (.str "sumcraft.parts" 327), kE P "__doc__" 166 (.none), kE P "__package__" 167 (.none), kE P "__loader__" 168 (.builtin "__main__.__loader__#opaque"), kE P "__spec__" 169 (.none), kE P "__annotations__" 170 (.ref 6), kE P "__builtins__" 171 (.ref 4), kE P "__file__" 173 (cp 172), kE P "__cached__" 174 (.none), kE P "SumError" 206 (.ref 24), kE P "NoNumber" 222 (.ref 37), kE P "NoTerm" 238 (.ref 49), kE P "bare" 246 (.ref 56), kE P "pair_times" 260 (.ref 63), kE P "pair_of_form" 267 (.ref 70), kE P "degree_in_k" 273 (.ref 75), kE P "pair_product" 282 (.ref 82), kE P "LONG" 286 (.int 4000 285), kE P "WINDOW" 288 (.int 300 287), kE P "shortened" 305 (.ref 89), kE P "divisor" 317 (.ref 96), kE P "ratio" 326 (.ref 103), kE P "FEW" 330 (.int 16 329), kE P "form_value" 339 (.ref 110), kE P "raised" 347 (.ref 117), kE P "raised_from" 353 (.ref 122), kE P "low_forms" 361 (.ref 129), kE P "power_of" 371 (.ref 136), kE P "run_product" 382 (.ref 143), kE P "choices" 391 (.ref 150), kE P "Part" 455 (.ref 195)] 31 }
def ob12' : Obj := oF #[.int 2 0, .int 0 0, .ref 20, .int 4 0, .int 0 0, .ref 33, .int 6 0, .int 0 0, .ref 45, .int 9 0, .int 0 0, .ref 55, .int 11 0, .int 0 0, .ref 62, .int 18 0, .int 0 0, .ref 69, .int 20 0, .int 0 0, .ref 74, .int 22 0, .int 0 0, .ref 81, .int 30 0, .int 0 0, .ref 88, .int 46 0, .int 0 0, .ref 95, .int 58 0, .int 0 0, .ref 102, .int 67 0, .int 0 0, .ref 109, .int 69 0, .int 0 0, .ref 116, .int 71 0, .int 0 0, .ref 121, .int 73 0, .int 0 0, .ref 128, .int 75 0, .int 0 0, .ref 135, .int 80 0, .int 0 0, .ref 142, .int 88 0, .int 0 0, .ref 149, .int 91 0, .int 0 0, .ref 156]
def ob15 : Obj := oT #[.type "ValueError"]
def ob16 : Obj := oB #[.builtin "type.__prepare__", .type "type"]
def ob17 (P : Params) : Obj := { cls := .type "dict", data := Data.dict #[kE P "__module__" 196 (.str "sumcraft.errors" 187), kE P "__qualname__" 198 (.str "SumError" 197), kE P "__firstlineno__" 200 (.int 2 199), kE P "__static_attributes__" 201 (.ref 22)] 4 }
def ob18 : Obj := oT #[]
def ob19 : Obj := oF #[]
def ob20 : Obj := oK #[.str "SumError" 191, .str "SumError" 192, cp 193, .int 2 0, .int 0 0, .int 0 0, .int 0 0, .int 0 0, .ref 18, .bool false, .int 181 0, .ref 19, .none, .none, .none, .none, .int 194 0, .int 2 0, cp 195]
def ob21 : Obj := { cls := .type "frame", slots := #[some (.ref 20), some (.ref 3), some (.ref 17), none, some (.str "sumcraft.errors" 187), none, some (.ref 0)] }
def ob22 : Obj := oT #[]
def ob23 (P : Params) : Obj := { cls := .type "dict", data := Data.dict #[kE P "__module__" 196 (.str "sumcraft.errors" 187), kE P "__firstlineno__" 200 (.int 2 199), kE P "__static_attributes__" 201 (.ref 22), kE P "__weakref__" 203 (.ref 25), kE P "__doc__" 204 (.none)] 3 }
def ob24 : Obj := { cls := .type "type", data := Data.cls { name := "SumError", bases := [.type "ValueError"], mro := [.ref 24, .type "ValueError", .type "Exception", .type "BaseException", .type "object"], ns := 23, qualname := "SumError", subclasses := [.ref 37, .ref 49] }, slots := #[some (.ref 15), none, some (.str "SumError" 189), some (.str "SumError" 197), some (.builtin "ValueError.__new__"), some (.bool true)] }
def ob25 : Obj := { cls := .type "getset_descriptor", data := Data.fields #[.str "__weakref__" 202, .ref 24, .builtin "ExceptionGroup.__weakref__", .none] }
def ob26 : Obj := { cls := .type "super", data := Data.fields #[.ref 24, .ref 24, .ref 24] }
def ob27 : Obj := oB #[.builtin "object.__init_subclass__", .ref 24]
def ob28 : Obj := oT #[.ref 24]
def ob29 : Obj := oB #[.builtin "type.__prepare__", .type "type"]
def ob30 (P : Params) : Obj := { cls := .type "dict", data := Data.dict #[kE P "__module__" 214 (.str "sumcraft.errors" 187), kE P "__qualname__" 216 (.str "NoNumber" 215), kE P "__firstlineno__" 218 (.int 4 217), kE P "__static_attributes__" 219 (.ref 35)] 4 }
def ob31 : Obj := oT #[]
def ob32 : Obj := oF #[]
def ob33 : Obj := oK #[.str "NoNumber" 209, .str "NoNumber" 210, cp 211, .int 4 0, .int 0 0, .int 0 0, .int 0 0, .int 0 0, .ref 31, .bool false, .int 181 0, .ref 32, .none, .none, .none, .none, .int 212 0, .int 4 0, cp 213]
def ob34 : Obj := { cls := .type "frame", slots := #[some (.ref 33), some (.ref 3), some (.ref 30), none, some (.str "sumcraft.errors" 187), none, some (.ref 0)] }
def ob35 : Obj := oT #[]
def ob36 (P : Params) : Obj := { cls := .type "dict", data := Data.dict #[kE P "__module__" 214 (.str "sumcraft.errors" 187), kE P "__firstlineno__" 218 (.int 4 217), kE P "__static_attributes__" 219 (.ref 35), kE P "__doc__" 220 (.none)] 2 }
def ob37 : Obj := { cls := .type "type", data := Data.cls { name := "NoNumber", bases := [.ref 24], mro := [.ref 37, .ref 24, .type "ValueError", .type "Exception", .type "BaseException", .type "object"], ns := 36, qualname := "NoNumber" }, slots := #[some (.ref 28), none, some (.str "NoNumber" 207), some (.str "NoNumber" 215), some (.builtin "ValueError.__new__"), some (.bool true)] }
def ob38 : Obj := { cls := .type "super", data := Data.fields #[.ref 37, .ref 37, .ref 37] }
def ob39 : Obj := oB #[.builtin "object.__init_subclass__", .ref 37]
def ob40 : Obj := oT #[.ref 24]
def ob41 : Obj := oB #[.builtin "type.__prepare__", .type "type"]
def ob42 (P : Params) : Obj := { cls := .type "dict", data := Data.dict #[kE P "__module__" 230 (.str "sumcraft.errors" 187), kE P "__qualname__" 232 (.str "NoTerm" 231), kE P "__firstlineno__" 234 (.int 6 233), kE P "__static_attributes__" 235 (.ref 47)] 4 }
def ob43 : Obj := oT #[]
def ob44 : Obj := oF #[]
def ob45 : Obj := oK #[.str "NoTerm" 225, .str "NoTerm" 226, cp 227, .int 6 0, .int 0 0, .int 0 0, .int 0 0, .int 0 0, .ref 43, .bool false, .int 181 0, .ref 44, .none, .none, .none, .none, .int 228 0, .int 6 0, cp 229]
def ob46 : Obj := { cls := .type "frame", slots := #[some (.ref 45), some (.ref 3), some (.ref 42), none, some (.str "sumcraft.errors" 187), none, some (.ref 0)] }
def ob47 : Obj := oT #[]
def ob48 (P : Params) : Obj := { cls := .type "dict", data := Data.dict #[kE P "__module__" 230 (.str "sumcraft.errors" 187), kE P "__firstlineno__" 234 (.int 6 233), kE P "__static_attributes__" 235 (.ref 47), kE P "__doc__" 236 (.none)] 2 }
def ob49 : Obj := { cls := .type "type", data := Data.cls { name := "NoTerm", bases := [.ref 24], mro := [.ref 49, .ref 24, .type "ValueError", .type "Exception", .type "BaseException", .type "object"], ns := 48, qualname := "NoTerm" }, slots := #[some (.ref 40), none, some (.str "NoTerm" 223), some (.str "NoTerm" 231), some (.builtin "ValueError.__new__"), some (.bool true)] }
def ob50 : Obj := { cls := .type "super", data := Data.fields #[.ref 49, .ref 49, .ref 49] }
def ob51 : Obj := oB #[.builtin "object.__init_subclass__", .ref 49]
def ob52 : Obj := oT #[]
def ob53 : Obj := oF #[]
def ob54 : Obj := kN "bare" "bare" (top 5)
def ob55 : Obj := oK #[.str "bare" 241, .str "bare" 242, cp 243, .int 9 0, .int 1 0, .int 0 0, .int 0 0, .int 3 0, .ref 52, .bool true, .int 181 0, .ref 53, .none, .none, .none, .ref 54, .int 244 0, .int 9 0, cp 245]
def ob56 : Obj := kM "bare" "bare" (top 5) "sumcraft.pairs" 239 55
def ob57 : Obj := oT #[]
def ob58 : Obj := oF #[]
def ob59 : Obj := oT #[.str "one" 250, .str "other" 251, .str "answer" 252, .str "low" 253, .str "number" 254, .str "high" 255, .str "factor" 256, .str "powers" 257]
def ob60 : Obj := oT #[]
def ob61 : Obj := kN "pair_times" "pair_times" (top 6)
def ob62 : Obj := oK #[.str "pair_times" 247, .str "pair_times" 248, cp 249, .int 11 0, .int 2 0, .int 0 0, .int 0 0, .int 3 0, .ref 57, .bool true, .int 181 0, .ref 58, .none, .ref 59, .ref 60, .ref 61, .int 258 0, .int 11 0, cp 259]
def ob63 : Obj := kM "pair_times" "pair_times" (top 6) "sumcraft.pairs" 239 62
def ob64 : Obj := oT #[]
def ob65 : Obj := oF #[]
def ob66 : Obj := oT #[.str "form" 264]
def ob67 : Obj := oT #[]
def ob68 : Obj := kN "pair_of_form" "pair_of_form" (top 7)
def ob69 : Obj := oK #[.str "pair_of_form" 261, .str "pair_of_form" 262, cp 263, .int 18 0, .int 1 0, .int 0 0, .int 0 0, .int 3 0, .ref 64, .bool true, .int 181 0, .ref 65, .none, .ref 66, .ref 67, .ref 68, .int 265 0, .int 18 0, cp 266]
def ob70 : Obj := kM "pair_of_form" "pair_of_form" (top 7) "sumcraft.pairs" 239 69
def ob71 : Obj := oT #[]
def ob72 : Obj := oF #[]
def ob73 : Obj := kN "degree_in_k" "degree_in_k" (top 8)
def ob74 : Obj := oK #[.str "degree_in_k" 268, .str "degree_in_k" 269, cp 270, .int 20 0, .int 1 0, .int 0 0, .int 0 0, .int 3 0, .ref 71, .bool true, .int 181 0, .ref 72, .none, .none, .none, .ref 73, .int 271 0, .int 20 0, cp 272]
def ob75 : Obj := kM "degree_in_k" "degree_in_k" (top 8) "sumcraft.pairs" 239 74
def ob76 : Obj := oT #[]
def ob77 : Obj := oF #[]
def ob78 : Obj := oT #[.str "pairs" 277, .str "answer" 278, .str "pair" 279]
def ob79 : Obj := oT #[]
def ob80 : Obj := kN "pair_product" "pair_product" (top 9)
def ob81 : Obj := oK #[.str "pair_product" 274, .str "pair_product" 275, cp 276, .int 22 0, .int 1 0, .int 0 0, .int 0 0, .int 3 0, .ref 76, .bool true, .int 181 0, .ref 77, .none, .ref 78, .ref 79, .ref 80, .int 280 0, .int 22 0, cp 281]
def ob82 : Obj := kM "pair_product" "pair_product" (top 9) "sumcraft.pairs" 239 81
def ob83 : Obj := oT #[]
def ob84 : Obj := oF #[]
def ob85 : Obj := oT #[.str "big" 292, .str "small" 293, .str "cut" 294, .str "ahead" 295, .str "behind" 296, .str "half" 297, .str "upper" 298, .str "lower" 299, .str "times" 300, .str "rest" 301, .str "further" 302]
def ob86 : Obj := oT #[]
def ob87 : Obj := kN "shortened" "shortened" (top 13)
def ob88 : Obj := oK #[.str "shortened" 289, .str "shortened" 290, cp 291, .int 30 0, .int 2 0, .int 0 0, .int 0 0, .int 3 0, .ref 83, .bool true, .int 181 0, .ref 84, .none, .ref 85, .ref 86, .ref 87, .int 303 0, .int 30 0, cp 304]
def ob89 : Obj := kM "shortened" "shortened" (top 13) "sumcraft.ratios" 283 88
def ob90 : Obj := oT #[]
def ob91 : Obj := oF #[]
def ob92 : Obj := oT #[.str "one" 309, .str "other" 310, .str "big" 311, .str "small" 312, .str "pair" 313, .str "rest" 314]
def ob93 : Obj := oT #[]
def ob94 : Obj := kN "divisor" "divisor" (top 14)
def ob95 : Obj := oK #[.str "divisor" 306, .str "divisor" 307, cp 308, .int 46 0, .int 2 0, .int 0 0, .int 0 0, .int 3 0, .ref 90, .bool true, .int 181 0, .ref 91, .none, .ref 92, .ref 93, .ref 94, .int 315 0, .int 46 0, cp 316]
def ob96 : Obj := kM "divisor" "divisor" (top 14) "sumcraft.ratios" 283 95
def ob97 : Obj := oT #[]
def ob98 : Obj := oF #[]
def ob99 : Obj := oT #[.str "top" 321, .str "bottom" 322, .str "shared" 323]
def ob100 : Obj := oT #[]
def ob101 : Obj := kN "ratio" "ratio" (top 15)
def ob102 : Obj := oK #[.str "ratio" 318, .str "ratio" 319, cp 320, .int 58 0, .int 2 0, .int 0 0, .int 0 0, .int 3 0, .ref 97, .bool true, .int 181 0, .ref 98, .none, .ref 99, .ref 100, .ref 101, .int 324 0, .int 58 0, cp 325]
def ob103 : Obj := kM "ratio" "ratio" (top 15) "sumcraft.ratios" 283 102
def ob104 : Obj := oT #[]
def ob105 : Obj := oF #[]
def ob106 : Obj := oT #[.str "form" 334, .str "n" 335, .str "k" 336]
def ob107 : Obj := oT #[]
def ob108 : Obj := kN "form_value" "form_value" (top 18)
def ob109 : Obj := oK #[.str "form_value" 331, .str "form_value" 332, cp 333, .int 67 0, .int 3 0, .int 0 0, .int 0 0, .int 3 0, .ref 104, .bool true, .int 181 0, .ref 105, .none, .ref 106, .ref 107, .ref 108, .int 337 0, .int 67 0, cp 338]
def ob110 : Obj := kM "form_value" "form_value" (top 18) "sumcraft.parts" 327 109
def ob111 : Obj := oT #[]
def ob112 : Obj := oF #[]
def ob113 : Obj := oT #[.str "form" 343, .str "by" 344]
def ob114 : Obj := oT #[]
def ob115 : Obj := kN "raised" "raised" (top 19)
def ob116 : Obj := oK #[.str "raised" 340, .str "raised" 341, cp 342, .int 69 0, .int 2 0, .int 0 0, .int 0 0, .int 3 0, .ref 111, .bool true, .int 181 0, .ref 112, .none, .ref 113, .ref 114, .ref 115, .int 345 0, .int 69 0, cp 346]
def ob117 : Obj := kM "raised" "raised" (top 19) "sumcraft.parts" 327 116
def ob118 : Obj := oT #[]
def ob119 : Obj := oF #[]
def ob120 : Obj := kN "raised_from" "raised_from" (top 20)
def ob121 : Obj := oK #[.str "raised_from" 348, .str "raised_from" 349, cp 350, .int 71 0, .int 3 0, .int 0 0, .int 0 0, .int 3 0, .ref 118, .bool true, .int 181 0, .ref 119, .none, .none, .none, .ref 120, .int 351 0, .int 71 0, cp 352]
def ob122 : Obj := kM "raised_from" "raised_from" (top 20) "sumcraft.parts" 327 121
def ob123 : Obj := oT #[]
def ob124 : Obj := oF #[]
def ob125 : Obj := oT #[.str "upper" 357, .str "lower" 358]
def ob126 : Obj := oT #[]
def ob127 : Obj := kN "low_forms" "low_forms" (top 21)
def ob128 : Obj := oK #[.str "low_forms" 354, .str "low_forms" 355, cp 356, .int 73 0, .int 2 0, .int 0 0, .int 0 0, .int 3 0, .ref 123, .bool true, .int 181 0, .ref 124, .none, .ref 125, .ref 126, .ref 127, .int 359 0, .int 73 0, cp 360]
def ob129 : Obj := kM "low_forms" "low_forms" (top 21) "sumcraft.parts" 327 128
def ob130 : Obj := oT #[]
def ob131 : Obj := oF #[]
def ob132 : Obj := oT #[.str "number" 365, .str "exponent" 366, .str "answer" 367, .str "step" 368]
def ob133 : Obj := oT #[]
def ob134 : Obj := kN "power_of" "power_of" (top 22)
def ob135 : Obj := oK #[.str "power_of" 362, .str "power_of" 363, cp 364, .int 75 0, .int 2 0, .int 0 0, .int 0 0, .int 3 0, .ref 130, .bool true, .int 181 0, .ref 131, .none, .ref 132, .ref 133, .ref 134, .int 369 0, .int 75 0, cp 370]
def ob136 : Obj := kM "power_of" "power_of" (top 22) "sumcraft.parts" 327 135
def ob137 : Obj := oT #[]
def ob138 : Obj := oF #[]
def ob139 : Obj := oT #[.str "low" 375, .str "high" 376, .str "answer" 377, .str "number" 378, .str "middle" 379]
def ob140 : Obj := oT #[]
def ob141 : Obj := kN "run_product" "run_product" (top 23)
def ob142 : Obj := oK #[.str "run_product" 372, .str "run_product" 373, cp 374, .int 80 0, .int 2 0, .int 0 0, .int 0 0, .int 3 0, .ref 137, .bool true, .int 181 0, .ref 138, .none, .ref 139, .ref 140, .ref 141, .int 380 0, .int 80 0, cp 381]
def ob143 : Obj := kM "run_product" "run_product" (top 23) "sumcraft.parts" 327 142
def ob144 : Obj := oT #[]
def ob145 : Obj := oF #[]
def ob146 : Obj := oT #[.str "one" 386, .str "other" 387, .str "few" 388]
def ob147 : Obj := oT #[]
def ob148 : Obj := kN "choices" "choices" (top 24)
def ob149 : Obj := oK #[.str "choices" 383, .str "choices" 384, cp 385, .int 88 0, .int 2 0, .int 0 0, .int 0 0, .int 3 0, .ref 144, .bool true, .int 181 0, .ref 145, .none, .ref 146, .ref 147, .ref 148, .int 389 0, .int 88 0, cp 390]
def ob150 : Obj := kM "choices" "choices" (top 24) "sumcraft.parts" 327 149
def ob151 : Obj := oT #[]
def ob152 : Obj := oB #[.builtin "type.__prepare__", .type "type"]
def ob153 (P : Params) : Obj := { cls := .type "dict", data := Data.dict #[kE P "__module__" 399 (.str "sumcraft.parts" 327), kE P "__qualname__" 401 (.str "Part" 400), kE P "__firstlineno__" 403 (.int 91 402), kE P "worth" 412 (.ref 164), kE P "step" 421 (.ref 171), kE P "up" 429 (.ref 178), kE P "down" 437 (.ref 185), kE P "floor" 447 (.ref 192), kE P "__static_attributes__" 448 (.ref 193)] 9 }
def ob154 : Obj := oT #[]
def ob155 : Obj := oF #[.int 93 0, .int 4 0, .ref 163, .int 96 0, .int 4 0, .ref 170, .int 99 0, .int 4 0, .ref 177, .int 102 0, .int 4 0, .ref 184, .int 105 0, .int 4 0, .ref 191]
def ob156 : Obj := oK #[.str "Part" 394, .str "Part" 395, cp 396, .int 91 0, .int 0 0, .int 0 0, .int 0 0, .int 0 0, .ref 154, .bool false, .int 181 0, .ref 155, .none, .none, .none, .none, .int 397 0, .int 91 0, cp 398]
def ob157 : Obj := { cls := .type "frame", slots := #[some (.ref 156), some (.ref 3), some (.ref 153), none, some (.str "sumcraft.parts" 327), none, some (.ref 0)] }
def ob158 : Obj := oT #[]
def ob159 : Obj := oF #[]
def ob160 : Obj := oT #[.str "self" 407, .str "n" 408, .str "k" 409]
def ob161 : Obj := oT #[]
def ob162 : Obj := kN "worth" "Part.worth" (inCls (top 25) 0)
def ob163 : Obj := oK #[.str "worth" 404, .str "Part.worth" 405, cp 406, .int 93 0, .int 3 0, .int 0 0, .int 0 0, .int 3 0, .ref 158, .bool true, .int 181 0, .ref 159, .none, .ref 160, .ref 161, .ref 162, .int 410 0, .int 93 0, cp 411]
def ob164 : Obj := kM "worth" "Part.worth" (inCls (top 25) 0) "sumcraft.parts" 327 163
def ob165 : Obj := oT #[]
def ob166 : Obj := oF #[]
def ob167 : Obj := oT #[.str "self" 416, .str "i" 417, .str "far" 418]
def ob168 : Obj := oT #[]
def ob169 : Obj := kN "step" "Part.step" (inCls (top 25) 1)
def ob170 : Obj := oK #[.str "step" 413, .str "Part.step" 414, cp 415, .int 96 0, .int 3 0, .int 0 0, .int 0 0, .int 3 0, .ref 165, .bool true, .int 181 0, .ref 166, .none, .ref 167, .ref 168, .ref 169, .int 419 0, .int 96 0, cp 420]
def ob171 : Obj := kM "step" "Part.step" (inCls (top 25) 1) "sumcraft.parts" 327 170
def ob172 : Obj := oT #[]
def ob173 : Obj := oF #[]
def ob174 : Obj := oT #[.str "self" 425, .str "far" 426]
def ob175 : Obj := oT #[]
def ob176 : Obj := kN "up" "Part.up" (inCls (top 25) 2)
def ob177 : Obj := oK #[.str "up" 422, .str "Part.up" 423, cp 424, .int 99 0, .int 2 0, .int 0 0, .int 0 0, .int 3 0, .ref 172, .bool true, .int 181 0, .ref 173, .none, .ref 174, .ref 175, .ref 176, .int 427 0, .int 99 0, cp 428]
def ob178 : Obj := kM "up" "Part.up" (inCls (top 25) 2) "sumcraft.parts" 327 177
def ob179 : Obj := oT #[]
def ob180 : Obj := oF #[]
def ob181 : Obj := oT #[.str "self" 433, .str "far" 434]
def ob182 : Obj := oT #[]
def ob183 : Obj := kN "down" "Part.down" (inCls (top 25) 3)
def ob184 : Obj := oK #[.str "down" 430, .str "Part.down" 431, cp 432, .int 102 0, .int 2 0, .int 0 0, .int 0 0, .int 3 0, .ref 179, .bool true, .int 181 0, .ref 180, .none, .ref 181, .ref 182, .ref 183, .int 435 0, .int 102 0, cp 436]
def ob185 : Obj := kM "down" "Part.down" (inCls (top 25) 3) "sumcraft.parts" 327 184
def ob186 : Obj := oT #[]
def ob187 : Obj := oF #[]
def ob188 : Obj := oT #[.str "self" 441, .str "n" 442, .str "k" 443, .str "far" 444]
def ob189 : Obj := oT #[]
def ob190 : Obj := kN "floor" "Part.floor" (inCls (top 25) 4)
def ob191 : Obj := oK #[.str "floor" 438, .str "Part.floor" 439, cp 440, .int 105 0, .int 4 0, .int 0 0, .int 0 0, .int 3 0, .ref 186, .bool true, .int 181 0, .ref 187, .none, .ref 188, .ref 189, .ref 190, .int 445 0, .int 105 0, cp 446]
def ob192 : Obj := kM "floor" "Part.floor" (inCls (top 25) 4) "sumcraft.parts" 327 191
def ob193 : Obj := oT #[]
def ob194 (P : Params) : Obj := { cls := .type "dict", data := Data.dict #[kE P "__module__" 399 (.str "sumcraft.parts" 327), kE P "__firstlineno__" 403 (.int 91 402), kE P "worth" 412 (.ref 164), kE P "step" 421 (.ref 171), kE P "up" 429 (.ref 178), kE P "down" 437 (.ref 185), kE P "floor" 447 (.ref 192), kE P "__static_attributes__" 448 (.ref 193), kE P "__dict__" 450 (.ref 196), kE P "__weakref__" 452 (.ref 197), kE P "__doc__" 453 (.none)] 4 }
def ob195 : Obj := { cls := .type "type", data := Data.cls { name := "Part", bases := [.type "object"], mro := [.ref 195, .type "object"], ns := 194, qualname := "Part" }, slots := #[none, none, some (.str "Part" 392), some (.str "Part" 400), some (.builtin "object.__new__"), some (.bool true)] }
def ob196 : Obj := { cls := .type "getset_descriptor", data := Data.fields #[.str "__dict__" 449, .ref 195, .builtin "function.__dict__", .builtin "function.__dict__#set"] }
def ob197 : Obj := { cls := .type "getset_descriptor", data := Data.fields #[.str "__weakref__" 451, .ref 195, .builtin "ExceptionGroup.__weakref__", .none] }
def ob198 : Obj := { cls := .type "super", data := Data.fields #[.ref 195, .ref 195, .ref 195] }
def ob199 : Obj := oB #[.builtin "object.__init_subclass__", .ref 195]
def ob3' (P : Params) : Obj := { cls := .type "dict", data := Data.dict #[kE P "__name__" 165 (.str "sumcraft.parts" 327), kE P "__doc__" 166 (.none), kE P "__package__" 167 (.none), kE P "__loader__" 168 (.builtin "__main__.__loader__#opaque"), kE P "__spec__" 169 (.none), kE P "__annotations__" 170 (.ref 6), kE P "__builtins__" 171 (.ref 4), kE P "__file__" 173 (cp 172), kE P "__cached__" 174 (.none), kE P "SumError" 206 (.ref 24), kE P "NoNumber" 222 (.ref 37), kE P "NoTerm" 238 (.ref 49), kE P "bare" 246 (.ref 56), kE P "pair_times" 260 (.ref 63), kE P "pair_of_form" 267 (.ref 70), kE P "degree_in_k" 273 (.ref 75), kE P "pair_product" 282 (.ref 82), kE P "LONG" 286 (.int 4000 285), kE P "WINDOW" 288 (.int 300 287), kE P "shortened" 305 (.ref 89), kE P "divisor" 317 (.ref 96), kE P "ratio" 326 (.ref 103), kE P "FEW" 330 (.int 16 329), kE P "form_value" 339 (.ref 110), kE P "raised" 347 (.ref 117), kE P "raised_from" 353 (.ref 122), kE P "low_forms" 361 (.ref 129), kE P "power_of" 371 (.ref 136), kE P "run_product" 382 (.ref 143), kE P "choices" 391 (.ref 150), kE P "Part" 455 (.ref 195), kE P "Choose" 534 (.ref 254), kE P "Weight" 577 (.ref 287), kE P "Power" 637 (.ref 334), kE P "Growth" 690 (.ref 374)] 35 }
def ob12'' : Obj := oF #[.int 2 0, .int 0 0, .ref 20, .int 4 0, .int 0 0, .ref 33, .int 6 0, .int 0 0, .ref 45, .int 9 0, .int 0 0, .ref 55, .int 11 0, .int 0 0, .ref 62, .int 18 0, .int 0 0, .ref 69, .int 20 0, .int 0 0, .ref 74, .int 22 0, .int 0 0, .ref 81, .int 30 0, .int 0 0, .ref 88, .int 46 0, .int 0 0, .ref 95, .int 58 0, .int 0 0, .ref 102, .int 67 0, .int 0 0, .ref 109, .int 69 0, .int 0 0, .ref 116, .int 71 0, .int 0 0, .ref 121, .int 73 0, .int 0 0, .ref 128, .int 75 0, .int 0 0, .ref 135, .int 80 0, .int 0 0, .ref 142, .int 88 0, .int 0 0, .ref 149, .int 91 0, .int 0 0, .ref 156, .int 107 0, .int 0 0, .ref 205, .int 143 0, .int 0 0, .ref 262, .int 153 0, .int 0 0, .ref 295, .int 169 0, .int 0 0, .ref 342]
def ob195' : Obj := { cls := .type "type", data := Data.cls { name := "Part", bases := [.type "object"], mro := [.ref 195, .type "object"], ns := 194, qualname := "Part", subclasses := [.ref 254, .ref 287, .ref 334, .ref 374] }, slots := #[none, none, some (.str "Part" 392), some (.str "Part" 400), some (.builtin "object.__new__"), some (.bool true)] }
def ob200 : Obj := oT #[.ref 195]
def ob201 : Obj := oB #[.builtin "type.__prepare__", .type "type"]
def ob202 (P : Params) : Obj := { cls := .type "dict", data := Data.dict #[kE P "__module__" 463 (.str "sumcraft.parts" 327), kE P "__qualname__" 465 (.str "Choose" 464), kE P "__firstlineno__" 467 (.int 107 466), kE P "__init__" 476 (.ref 213), kE P "lifted" 482 (.ref 218), kE P "worth" 491 (.ref 225), kE P "step" 502 (.ref 232), kE P "up" 512 (.ref 239), kE P "down" 522 (.ref 246), kE P "floor" 528 (.ref 251), kE P "__static_attributes__" 531 (.ref 252)] 11 }
def ob203 : Obj := oT #[]
def ob204 : Obj := oF #[.int 109 0, .int 4 0, .ref 212, .int 113 0, .int 4 0, .ref 217, .int 116 0, .int 4 0, .ref 224, .int 119 0, .int 4 0, .ref 231, .int 125 0, .int 4 0, .ref 238, .int 131 0, .int 4 0, .ref 245, .int 137 0, .int 4 0, .ref 250]
def ob205 : Obj := oK #[.str "Choose" 458, .str "Choose" 459, cp 460, .int 107 0, .int 0 0, .int 0 0, .int 0 0, .int 0 0, .ref 203, .bool false, .int 181 0, .ref 204, .none, .none, .none, .none, .int 461 0, .int 107 0, cp 462]
def ob206 : Obj := { cls := .type "frame", slots := #[some (.ref 205), some (.ref 3), some (.ref 202), none, some (.str "sumcraft.parts" 327), none, some (.ref 0)] }
def ob207 : Obj := oT #[]
def ob208 : Obj := oF #[]
def ob209 : Obj := oT #[.str "self" 471, .str "upper" 472, .str "lower" 473]
def ob210 : Obj := oT #[]
def ob211 : Obj := kN "__init__" "Choose.__init__" (inCls (top 26) 0)
def ob212 : Obj := oK #[.str "__init__" 468, .str "Choose.__init__" 469, cp 470, .int 109 0, .int 3 0, .int 0 0, .int 0 0, .int 3 0, .ref 207, .bool true, .int 181 0, .ref 208, .none, .ref 209, .ref 210, .ref 211, .int 474 0, .int 109 0, cp 475]
def ob213 : Obj := kM "__init__" "Choose.__init__" (inCls (top 26) 0) "sumcraft.parts" 327 212
def ob214 : Obj := oT #[]
def ob215 : Obj := oF #[]
def ob216 : Obj := kN "lifted" "Choose.lifted" (inCls (top 26) 1)
def ob217 : Obj := oK #[.str "lifted" 477, .str "Choose.lifted" 478, cp 479, .int 113 0, .int 2 0, .int 0 0, .int 0 0, .int 3 0, .ref 214, .bool true, .int 181 0, .ref 215, .none, .none, .none, .ref 216, .int 480 0, .int 113 0, cp 481]
def ob218 : Obj := kM "lifted" "Choose.lifted" (inCls (top 26) 1) "sumcraft.parts" 327 217
def ob219 : Obj := oT #[]
def ob220 : Obj := oF #[]
def ob221 : Obj := oT #[.str "self" 486, .str "n" 487, .str "k" 488]
def ob222 : Obj := oT #[]
def ob223 : Obj := kN "worth" "Choose.worth" (inCls (top 26) 2)
def ob224 : Obj := oK #[.str "worth" 483, .str "Choose.worth" 484, cp 485, .int 116 0, .int 3 0, .int 0 0, .int 0 0, .int 3 0, .ref 219, .bool true, .int 181 0, .ref 220, .none, .ref 221, .ref 222, .ref 223, .int 489 0, .int 116 0, cp 490]
def ob225 : Obj := kM "worth" "Choose.worth" (inCls (top 26) 2) "sumcraft.parts" 327 224
def ob226 : Obj := oT #[]
def ob227 : Obj := oF #[]
def ob228 : Obj := oT #[.str "self" 495, .str "i" 496, .str "far" 497, .str "factors" 498, .str "low" 499]
def ob229 : Obj := oT #[]
def ob230 : Obj := kN "step" "Choose.step" (inCls (top 26) 3)
def ob231 : Obj := oK #[.str "step" 492, .str "Choose.step" 493, cp 494, .int 119 0, .int 3 0, .int 0 0, .int 0 0, .int 3 0, .ref 226, .bool true, .int 181 0, .ref 227, .none, .ref 228, .ref 229, .ref 230, .int 500 0, .int 119 0, cp 501]
def ob232 : Obj := kM "step" "Choose.step" (inCls (top 26) 3) "sumcraft.parts" 327 231
def ob233 : Obj := oT #[]
def ob234 : Obj := oF #[]
def ob235 : Obj := oT #[.str "self" 506, .str "far" 507, .str "factors" 508, .str "low" 509]
def ob236 : Obj := oT #[]
def ob237 : Obj := kN "up" "Choose.up" (inCls (top 26) 4)
def ob238 : Obj := oK #[.str "up" 503, .str "Choose.up" 504, cp 505, .int 125 0, .int 2 0, .int 0 0, .int 0 0, .int 3 0, .ref 233, .bool true, .int 181 0, .ref 234, .none, .ref 235, .ref 236, .ref 237, .int 510 0, .int 125 0, cp 511]
def ob239 : Obj := kM "up" "Choose.up" (inCls (top 26) 4) "sumcraft.parts" 327 238
def ob240 : Obj := oT #[]
def ob241 : Obj := oF #[]
def ob242 : Obj := oT #[.str "self" 516, .str "far" 517, .str "factors" 518, .str "low" 519]
def ob243 : Obj := oT #[]
def ob244 : Obj := kN "down" "Choose.down" (inCls (top 26) 5)
def ob245 : Obj := oK #[.str "down" 513, .str "Choose.down" 514, cp 515, .int 131 0, .int 2 0, .int 0 0, .int 0 0, .int 3 0, .ref 240, .bool true, .int 181 0, .ref 241, .none, .ref 242, .ref 243, .ref 244, .int 520 0, .int 131 0, cp 521]
def ob246 : Obj := kM "down" "Choose.down" (inCls (top 26) 5) "sumcraft.parts" 327 245
def ob247 : Obj := oT #[]
def ob248 : Obj := oF #[]
def ob249 : Obj := kN "floor" "Choose.floor" (inCls (top 26) 6)
def ob250 : Obj := oK #[.str "floor" 523, .str "Choose.floor" 524, cp 525, .int 137 0, .int 4 0, .int 0 0, .int 0 0, .int 3 0, .ref 247, .bool true, .int 181 0, .ref 248, .none, .none, .none, .ref 249, .int 526 0, .int 137 0, cp 527]
def ob251 : Obj := kM "floor" "Choose.floor" (inCls (top 26) 6) "sumcraft.parts" 327 250
def ob252 : Obj := oT #[.str "above" 529, .str "lows" 530]
def ob253 (P : Params) : Obj := { cls := .type "dict", data := Data.dict #[kE P "__module__" 463 (.str "sumcraft.parts" 327), kE P "__firstlineno__" 467 (.int 107 466), kE P "__init__" 476 (.ref 213), kE P "lifted" 482 (.ref 218), kE P "worth" 491 (.ref 225), kE P "step" 502 (.ref 232), kE P "up" 512 (.ref 239), kE P "down" 522 (.ref 246), kE P "floor" 528 (.ref 251), kE P "__static_attributes__" 531 (.ref 252), kE P "__doc__" 532 (.none)] 2 }
def ob254 : Obj := { cls := .type "type", data := Data.cls { name := "Choose", bases := [.ref 195], mro := [.ref 254, .ref 195, .type "object"], ns := 253, qualname := "Choose" }, slots := #[some (.ref 200), none, some (.str "Choose" 456), some (.str "Choose" 464), some (.builtin "object.__new__"), some (.bool true)] }
def ob255 : Obj := { cls := .type "super", data := Data.fields #[.ref 254, .ref 254, .ref 254] }
def ob256 : Obj := oB #[.builtin "object.__init_subclass__", .ref 254]
def ob257 : Obj := oT #[.ref 195]
def ob258 : Obj := oB #[.builtin "type.__prepare__", .type "type"]
def ob259 (P : Params) : Obj := { cls := .type "dict", data := Data.dict #[kE P "__module__" 542 (.str "sumcraft.parts" 327), kE P "__qualname__" 544 (.str "Weight" 543), kE P "__firstlineno__" 546 (.int 143 545), kE P "__init__" 554 (.ref 270), kE P "worth" 563 (.ref 277), kE P "step" 572 (.ref 284), kE P "__static_attributes__" 574 (.ref 285)] 7 }
def ob260 : Obj := oT #[]
def ob261 : Obj := oF #[.int 145 0, .int 4 0, .ref 269, .int 148 0, .int 4 0, .ref 276, .int 151 0, .int 4 0, .ref 283]
def ob262 : Obj := oK #[.str "Weight" 537, .str "Weight" 538, cp 539, .int 143 0, .int 0 0, .int 0 0, .int 0 0, .int 0 0, .ref 260, .bool false, .int 181 0, .ref 261, .none, .none, .none, .none, .int 540 0, .int 143 0, cp 541]
def ob263 : Obj := { cls := .type "frame", slots := #[some (.ref 262), some (.ref 3), some (.ref 259), none, some (.str "sumcraft.parts" 327), none, some (.ref 0)] }
def ob264 : Obj := oT #[]
def ob265 : Obj := oF #[]
def ob266 : Obj := oT #[.str "self" 550, .str "form" 551]
def ob267 : Obj := oT #[]
def ob268 : Obj := kN "__init__" "Weight.__init__" (inCls (top 27) 0)
def ob269 : Obj := oK #[.str "__init__" 547, .str "Weight.__init__" 548, cp 549, .int 145 0, .int 2 0, .int 0 0, .int 0 0, .int 3 0, .ref 264, .bool true, .int 181 0, .ref 265, .none, .ref 266, .ref 267, .ref 268, .int 552 0, .int 145 0, cp 553]
def ob270 : Obj := kM "__init__" "Weight.__init__" (inCls (top 27) 0) "sumcraft.parts" 327 269
def ob271 : Obj := oT #[]
def ob272 : Obj := oF #[]
def ob273 : Obj := oT #[.str "self" 558, .str "n" 559, .str "k" 560]
def ob274 : Obj := oT #[]
def ob275 : Obj := kN "worth" "Weight.worth" (inCls (top 27) 1)
def ob276 : Obj := oK #[.str "worth" 555, .str "Weight.worth" 556, cp 557, .int 148 0, .int 3 0, .int 0 0, .int 0 0, .int 3 0, .ref 271, .bool true, .int 181 0, .ref 272, .none, .ref 273, .ref 274, .ref 275, .int 561 0, .int 148 0, cp 562]
def ob277 : Obj := kM "worth" "Weight.worth" (inCls (top 27) 1) "sumcraft.parts" 327 276
def ob278 : Obj := oT #[]
def ob279 : Obj := oF #[]
def ob280 : Obj := oT #[.str "self" 567, .str "i" 568, .str "far" 569]
def ob281 : Obj := oT #[]
def ob282 : Obj := kN "step" "Weight.step" (inCls (top 27) 2)
def ob283 : Obj := oK #[.str "step" 564, .str "Weight.step" 565, cp 566, .int 151 0, .int 3 0, .int 0 0, .int 0 0, .int 3 0, .ref 278, .bool true, .int 181 0, .ref 279, .none, .ref 280, .ref 281, .ref 282, .int 570 0, .int 151 0, cp 571]
def ob284 : Obj := kM "step" "Weight.step" (inCls (top 27) 2) "sumcraft.parts" 327 283
def ob285 : Obj := oT #[.str "form" 573]
def ob286 (P : Params) : Obj := { cls := .type "dict", data := Data.dict #[kE P "__module__" 542 (.str "sumcraft.parts" 327), kE P "__firstlineno__" 546 (.int 143 545), kE P "__init__" 554 (.ref 270), kE P "worth" 563 (.ref 277), kE P "step" 572 (.ref 284), kE P "__static_attributes__" 574 (.ref 285), kE P "__doc__" 575 (.none)] 2 }
def ob287 : Obj := { cls := .type "type", data := Data.cls { name := "Weight", bases := [.ref 195], mro := [.ref 287, .ref 195, .type "object"], ns := 286, qualname := "Weight" }, slots := #[some (.ref 257), none, some (.str "Weight" 535), some (.str "Weight" 543), some (.builtin "object.__new__"), some (.bool true)] }
def ob288 : Obj := { cls := .type "super", data := Data.fields #[.ref 287, .ref 287, .ref 287] }
def ob289 : Obj := oB #[.builtin "object.__init_subclass__", .ref 287]
def ob290 : Obj := oT #[.ref 195]
def ob291 : Obj := oB #[.builtin "type.__prepare__", .type "type"]
def ob292 (P : Params) : Obj := { cls := .type "dict", data := Data.dict #[kE P "__module__" 585 (.str "sumcraft.parts" 327), kE P "__qualname__" 587 (.str "Power" 586), kE P "__firstlineno__" 589 (.int 153 588), kE P "__init__" 597 (.ref 303), kE P "worth" 606 (.ref 310), kE P "up" 614 (.ref 317), kE P "down" 622 (.ref 324), kE P "floor" 632 (.ref 331), kE P "__static_attributes__" 634 (.ref 332)] 9 }
def ob293 : Obj := oT #[]
def ob294 : Obj := oF #[.int 155 0, .int 4 0, .ref 302, .int 158 0, .int 4 0, .ref 309, .int 161 0, .int 4 0, .ref 316, .int 164 0, .int 4 0, .ref 323, .int 167 0, .int 4 0, .ref 330]
def ob295 : Obj := oK #[.str "Power" 580, .str "Power" 581, cp 582, .int 153 0, .int 0 0, .int 0 0, .int 0 0, .int 0 0, .ref 293, .bool false, .int 181 0, .ref 294, .none, .none, .none, .none, .int 583 0, .int 153 0, cp 584]
def ob296 : Obj := { cls := .type "frame", slots := #[some (.ref 295), some (.ref 3), some (.ref 292), none, some (.str "sumcraft.parts" 327), none, some (.ref 0)] }
def ob297 : Obj := oT #[]
def ob298 : Obj := oF #[]
def ob299 : Obj := oT #[.str "self" 593, .str "fraction" 594]
def ob300 : Obj := oT #[]
def ob301 : Obj := kN "__init__" "Power.__init__" (inCls (top 28) 0)
def ob302 : Obj := oK #[.str "__init__" 590, .str "Power.__init__" 591, cp 592, .int 155 0, .int 2 0, .int 0 0, .int 0 0, .int 3 0, .ref 297, .bool true, .int 181 0, .ref 298, .none, .ref 299, .ref 300, .ref 301, .int 595 0, .int 155 0, cp 596]
def ob303 : Obj := kM "__init__" "Power.__init__" (inCls (top 28) 0) "sumcraft.parts" 327 302
def ob304 : Obj := oT #[]
def ob305 : Obj := oF #[]
def ob306 : Obj := oT #[.str "self" 601, .str "n" 602, .str "k" 603]
def ob307 : Obj := oT #[]
def ob308 : Obj := kN "worth" "Power.worth" (inCls (top 28) 1)
def ob309 : Obj := oK #[.str "worth" 598, .str "Power.worth" 599, cp 600, .int 158 0, .int 3 0, .int 0 0, .int 0 0, .int 3 0, .ref 304, .bool true, .int 181 0, .ref 305, .none, .ref 306, .ref 307, .ref 308, .int 604 0, .int 158 0, cp 605]
def ob310 : Obj := kM "worth" "Power.worth" (inCls (top 28) 1) "sumcraft.parts" 327 309
def ob311 : Obj := oT #[]
def ob312 : Obj := oF #[]
def ob313 : Obj := oT #[.str "self" 610, .str "far" 611]
def ob314 : Obj := oT #[]
def ob315 : Obj := kN "up" "Power.up" (inCls (top 28) 2)
def ob316 : Obj := oK #[.str "up" 607, .str "Power.up" 608, cp 609, .int 161 0, .int 2 0, .int 0 0, .int 0 0, .int 3 0, .ref 311, .bool true, .int 181 0, .ref 312, .none, .ref 313, .ref 314, .ref 315, .int 612 0, .int 161 0, cp 613]
def ob317 : Obj := kM "up" "Power.up" (inCls (top 28) 2) "sumcraft.parts" 327 316
def ob318 : Obj := oT #[]
def ob319 : Obj := oF #[]
def ob320 : Obj := oT #[.str "self" 618, .str "far" 619]
def ob321 : Obj := oT #[]
def ob322 : Obj := kN "down" "Power.down" (inCls (top 28) 3)
def ob323 : Obj := oK #[.str "down" 615, .str "Power.down" 616, cp 617, .int 164 0, .int 2 0, .int 0 0, .int 0 0, .int 3 0, .ref 318, .bool true, .int 181 0, .ref 319, .none, .ref 320, .ref 321, .ref 322, .int 620 0, .int 164 0, cp 621]
def ob324 : Obj := kM "down" "Power.down" (inCls (top 28) 3) "sumcraft.parts" 327 323
def ob325 : Obj := oT #[]
def ob326 : Obj := oF #[]
def ob327 : Obj := oT #[.str "self" 626, .str "n" 627, .str "k" 628, .str "far" 629]
def ob328 : Obj := oT #[]
def ob329 : Obj := kN "floor" "Power.floor" (inCls (top 28) 4)
def ob330 : Obj := oK #[.str "floor" 623, .str "Power.floor" 624, cp 625, .int 167 0, .int 4 0, .int 0 0, .int 0 0, .int 3 0, .ref 325, .bool true, .int 181 0, .ref 326, .none, .ref 327, .ref 328, .ref 329, .int 630 0, .int 167 0, cp 631]
def ob331 : Obj := kM "floor" "Power.floor" (inCls (top 28) 4) "sumcraft.parts" 327 330
def ob332 : Obj := oT #[.str "fraction" 633]
def ob333 (P : Params) : Obj := { cls := .type "dict", data := Data.dict #[kE P "__module__" 585 (.str "sumcraft.parts" 327), kE P "__firstlineno__" 589 (.int 153 588), kE P "__init__" 597 (.ref 303), kE P "worth" 606 (.ref 310), kE P "up" 614 (.ref 317), kE P "down" 622 (.ref 324), kE P "floor" 632 (.ref 331), kE P "__static_attributes__" 634 (.ref 332), kE P "__doc__" 635 (.none)] 2 }
def ob334 : Obj := { cls := .type "type", data := Data.cls { name := "Power", bases := [.ref 195], mro := [.ref 334, .ref 195, .type "object"], ns := 333, qualname := "Power" }, slots := #[some (.ref 290), none, some (.str "Power" 578), some (.str "Power" 586), some (.builtin "object.__new__"), some (.bool true)] }
def ob335 : Obj := { cls := .type "super", data := Data.fields #[.ref 334, .ref 334, .ref 334] }
def ob336 : Obj := oB #[.builtin "object.__init_subclass__", .ref 334]
def ob337 : Obj := oT #[.ref 195]
def ob338 : Obj := oB #[.builtin "type.__prepare__", .type "type"]
def ob339 (P : Params) : Obj := { cls := .type "dict", data := Data.dict #[kE P "__module__" 645 (.str "sumcraft.parts" 327), kE P "__qualname__" 647 (.str "Growth" 646), kE P "__firstlineno__" 649 (.int 169 648), kE P "__init__" 657 (.ref 350), kE P "worth" 666 (.ref 357), kE P "step" 675 (.ref 364), kE P "floor" 685 (.ref 371), kE P "__static_attributes__" 687 (.ref 372)] 8 }
def ob340 : Obj := oT #[]
def ob341 : Obj := oF #[.int 171 0, .int 4 0, .ref 349, .int 174 0, .int 4 0, .ref 356, .int 177 0, .int 4 0, .ref 363, .int 180 0, .int 4 0, .ref 370]
def ob342 : Obj := oK #[.str "Growth" 640, .str "Growth" 641, cp 642, .int 169 0, .int 0 0, .int 0 0, .int 0 0, .int 0 0, .ref 340, .bool false, .int 181 0, .ref 341, .none, .none, .none, .none, .int 643 0, .int 169 0, cp 644]
def ob343 : Obj := { cls := .type "frame", slots := #[some (.ref 342), some (.ref 3), some (.ref 339), none, some (.str "sumcraft.parts" 327), none, some (.ref 0)] }
def ob344 : Obj := oT #[]
def ob345 : Obj := oF #[]
def ob346 : Obj := oT #[.str "self" 653, .str "fraction" 654]
def ob347 : Obj := oT #[]
def ob348 : Obj := kN "__init__" "Growth.__init__" (inCls (top 29) 0)
def ob349 : Obj := oK #[.str "__init__" 650, .str "Growth.__init__" 651, cp 652, .int 171 0, .int 2 0, .int 0 0, .int 0 0, .int 3 0, .ref 344, .bool true, .int 181 0, .ref 345, .none, .ref 346, .ref 347, .ref 348, .int 655 0, .int 171 0, cp 656]
def ob350 : Obj := kM "__init__" "Growth.__init__" (inCls (top 29) 0) "sumcraft.parts" 327 349
def ob351 : Obj := oT #[]
def ob352 : Obj := oF #[]
def ob353 : Obj := oT #[.str "self" 661, .str "n" 662, .str "k" 663]
def ob354 : Obj := oT #[]
def ob355 : Obj := kN "worth" "Growth.worth" (inCls (top 29) 1)
def ob356 : Obj := oK #[.str "worth" 658, .str "Growth.worth" 659, cp 660, .int 174 0, .int 3 0, .int 0 0, .int 0 0, .int 3 0, .ref 351, .bool true, .int 181 0, .ref 352, .none, .ref 353, .ref 354, .ref 355, .int 664 0, .int 174 0, cp 665]
def ob357 : Obj := kM "worth" "Growth.worth" (inCls (top 29) 1) "sumcraft.parts" 327 356
def ob358 : Obj := oT #[]
def ob359 : Obj := oF #[]
def ob360 : Obj := oT #[.str "self" 670, .str "i" 671, .str "far" 672]
def ob361 : Obj := oT #[]
def ob362 : Obj := kN "step" "Growth.step" (inCls (top 29) 2)
def ob363 : Obj := oK #[.str "step" 667, .str "Growth.step" 668, cp 669, .int 177 0, .int 3 0, .int 0 0, .int 0 0, .int 3 0, .ref 358, .bool true, .int 181 0, .ref 359, .none, .ref 360, .ref 361, .ref 362, .int 673 0, .int 177 0, cp 674]
def ob364 : Obj := kM "step" "Growth.step" (inCls (top 29) 2) "sumcraft.parts" 327 363
def ob365 : Obj := oT #[]
def ob366 : Obj := oF #[]
def ob367 : Obj := oT #[.str "self" 679, .str "n" 680, .str "k" 681, .str "far" 682]
def ob368 : Obj := oT #[]
def ob369 : Obj := kN "floor" "Growth.floor" (inCls (top 29) 3)
def ob370 : Obj := oK #[.str "floor" 676, .str "Growth.floor" 677, cp 678, .int 180 0, .int 4 0, .int 0 0, .int 0 0, .int 3 0, .ref 365, .bool true, .int 181 0, .ref 366, .none, .ref 367, .ref 368, .ref 369, .int 683 0, .int 180 0, cp 684]
def ob371 : Obj := kM "floor" "Growth.floor" (inCls (top 29) 3) "sumcraft.parts" 327 370
def ob372 : Obj := oT #[.str "fraction" 686]
def ob373 (P : Params) : Obj := { cls := .type "dict", data := Data.dict #[kE P "__module__" 645 (.str "sumcraft.parts" 327), kE P "__firstlineno__" 649 (.int 169 648), kE P "__init__" 657 (.ref 350), kE P "worth" 666 (.ref 357), kE P "step" 675 (.ref 364), kE P "floor" 685 (.ref 371), kE P "__static_attributes__" 687 (.ref 372), kE P "__doc__" 688 (.none)] 2 }
def ob374 : Obj := { cls := .type "type", data := Data.cls { name := "Growth", bases := [.ref 195], mro := [.ref 374, .ref 195, .type "object"], ns := 373, qualname := "Growth" }, slots := #[some (.ref 337), none, some (.str "Growth" 638), some (.str "Growth" 646), some (.builtin "object.__new__"), some (.bool true)] }
def ob375 : Obj := { cls := .type "super", data := Data.fields #[.ref 374, .ref 374, .ref 374] }
def ob376 : Obj := oB #[.builtin "object.__init_subclass__", .ref 374]
def ob3'' (P : Params) : Obj := { cls := .type "dict", data := Data.dict #[kE P "__name__" 165 (.str "law_sumcraft_k61_ends_and_sizes" 859), kE P "__doc__" 166 (.none), kE P "__package__" 167 (.none), kE P "__loader__" 168 (.builtin "__main__.__loader__#opaque"), kE P "__spec__" 169 (.none), kE P "__annotations__" 170 (.ref 6), kE P "__builtins__" 171 (.ref 4), kE P "__file__" 173 (cp 172), kE P "__cached__" 174 (.none), kE P "SumError" 206 (.ref 24), kE P "NoNumber" 222 (.ref 37), kE P "NoTerm" 238 (.ref 49), kE P "bare" 246 (.ref 56), kE P "pair_times" 260 (.ref 63), kE P "pair_of_form" 267 (.ref 70), kE P "degree_in_k" 273 (.ref 75), kE P "pair_product" 282 (.ref 82), kE P "LONG" 286 (.int 4000 285), kE P "WINDOW" 288 (.int 300 287), kE P "shortened" 305 (.ref 89), kE P "divisor" 317 (.ref 96), kE P "ratio" 326 (.ref 103), kE P "FEW" 330 (.int 16 329), kE P "form_value" 339 (.ref 110), kE P "raised" 347 (.ref 117), kE P "raised_from" 353 (.ref 122), kE P "low_forms" 361 (.ref 129), kE P "power_of" 371 (.ref 136), kE P "run_product" 382 (.ref 143), kE P "choices" 391 (.ref 150), kE P "Part" 455 (.ref 195), kE P "Choose" 534 (.ref 254), kE P "Weight" 577 (.ref 287), kE P "Power" 637 (.ref 334), kE P "Growth" 690 (.ref 374), kE P "has_ends" 698 (.ref 381), kE P "degree_in_n" 704 (.ref 386), kE P "product_degree" 710 (.ref 391), kE P "steps_degree" 716 (.ref 396), kE P "ends_degree" 722 (.ref 401), kE P "breadth_of" 729 (.ref 408), kE P "height_of" 737 (.ref 415), kE P "length_of" 745 (.ref 422), kE P "MOST_PARTS" 749 (.int 6 748), kE P "UPPER_LEAST" 753 (.ref 423), kE P "LOWER_LEAST" 760 (.ref 424), kE P "GREATEST" 764 (.ref 425), kE P "within" 770 (.ref 430), kE P "check_choose" 779 (.ref 437), kE P "check_base" 786 (.ref 444), kE P "piece_of" 793 (.ref 451), kE P "product" 805 (.ref 458), kE P "Term" 858 (.ref 495), kE P "_law_cell_at" 868 (.ref 506), kE P "_law_less" 876 (.ref 513), kE P "_law_any" 887 (.ref 520), kE P "_law_choose" 898 (.ref 527), kE P "_law_fraction" 905 (.ref 534), kE P "_law_parts" 917 (.ref 541), kE P "_law_lows" 924 (.ref 548), kE P "_law_ends" 935 (.ref 555), kE P "_law_up_and_down" 947 (.ref 562), kE P "_law_step" 960 (.ref 569), kE P "_law_is" 968 (.ref 576), kE P "_law_for" 974 (.ref 581), kE P "law" 987 (.ref 588)] 66 }
def ob12''' : Obj := oF #[.int 2 0, .int 0 0, .ref 20, .int 4 0, .int 0 0, .ref 33, .int 6 0, .int 0 0, .ref 45, .int 9 0, .int 0 0, .ref 55, .int 11 0, .int 0 0, .ref 62, .int 18 0, .int 0 0, .ref 69, .int 20 0, .int 0 0, .ref 74, .int 22 0, .int 0 0, .ref 81, .int 30 0, .int 0 0, .ref 88, .int 46 0, .int 0 0, .ref 95, .int 58 0, .int 0 0, .ref 102, .int 67 0, .int 0 0, .ref 109, .int 69 0, .int 0 0, .ref 116, .int 71 0, .int 0 0, .ref 121, .int 73 0, .int 0 0, .ref 128, .int 75 0, .int 0 0, .ref 135, .int 80 0, .int 0 0, .ref 142, .int 88 0, .int 0 0, .ref 149, .int 91 0, .int 0 0, .ref 156, .int 107 0, .int 0 0, .ref 205, .int 143 0, .int 0 0, .ref 262, .int 153 0, .int 0 0, .ref 295, .int 169 0, .int 0 0, .ref 342, .int 183 0, .int 0 0, .ref 380, .int 191 0, .int 0 0, .ref 385, .int 193 0, .int 0 0, .ref 390, .int 197 0, .int 0 0, .ref 395, .int 199 0, .int 0 0, .ref 400, .int 203 0, .int 0 0, .ref 407, .int 205 0, .int 0 0, .ref 414, .int 207 0, .int 0 0, .ref 421, .int 214 0, .int 0 0, .ref 429, .int 216 0, .int 0 0, .ref 436, .int 222 0, .int 0 0, .ref 443, .int 225 0, .int 0 0, .ref 450, .int 238 0, .int 0 0, .ref 457, .int 247 0, .int 0 0, .ref 464, .int 270 0, .int 0 0, .ref 505, .int 274 0, .int 0 0, .ref 512, .int 276 0, .int 0 0, .ref 519, .int 283 0, .int 0 0, .ref 526, .int 298 0, .int 0 0, .ref 533, .int 300 0, .int 0 0, .ref 540, .int 314 0, .int 0 0, .ref 547, .int 316 0, .int 0 0, .ref 554, .int 325 0, .int 0 0, .ref 561, .int 338 0, .int 0 0, .ref 568, .int 352 0, .int 0 0, .ref 575, .int 354 0, .int 0 0, .ref 580, .int 359 0, .int 0 0, .ref 587]
def ob377 : Obj := oT #[]
def ob378 : Obj := oF #[]
def ob379 : Obj := kN "has_ends" "has_ends" (top 31)
def ob380 : Obj := oK #[.str "has_ends" 693, .str "has_ends" 694, cp 695, .int 183 0, .int 1 0, .int 0 0, .int 0 0, .int 3 0, .ref 377, .bool true, .int 181 0, .ref 378, .none, .none, .none, .ref 379, .int 696 0, .int 183 0, cp 697]
def ob381 : Obj := kM "has_ends" "has_ends" (top 31) "sumcraft.finder" 691 380
def ob382 : Obj := oT #[]
def ob383 : Obj := oF #[]
def ob384 : Obj := kN "degree_in_n" "degree_in_n" (top 32)
def ob385 : Obj := oK #[.str "degree_in_n" 699, .str "degree_in_n" 700, cp 701, .int 191 0, .int 1 0, .int 0 0, .int 0 0, .int 3 0, .ref 382, .bool true, .int 181 0, .ref 383, .none, .none, .none, .ref 384, .int 702 0, .int 191 0, cp 703]
def ob386 : Obj := kM "degree_in_n" "degree_in_n" (top 32) "sumcraft.finder" 691 385
def ob387 : Obj := oT #[]
def ob388 : Obj := oF #[]
def ob389 : Obj := kN "product_degree" "product_degree" (top 33)
def ob390 : Obj := oK #[.str "product_degree" 705, .str "product_degree" 706, cp 707, .int 193 0, .int 2 0, .int 0 0, .int 0 0, .int 3 0, .ref 387, .bool true, .int 181 0, .ref 388, .none, .none, .none, .ref 389, .int 708 0, .int 193 0, cp 709]
def ob391 : Obj := kM "product_degree" "product_degree" (top 33) "sumcraft.finder" 691 390
def ob392 : Obj := oT #[]
def ob393 : Obj := oF #[]
def ob394 : Obj := kN "steps_degree" "steps_degree" (top 34)
def ob395 : Obj := oK #[.str "steps_degree" 711, .str "steps_degree" 712, cp 713, .int 197 0, .int 3 0, .int 0 0, .int 0 0, .int 3 0, .ref 392, .bool true, .int 181 0, .ref 393, .none, .none, .none, .ref 394, .int 714 0, .int 197 0, cp 715]
def ob396 : Obj := kM "steps_degree" "steps_degree" (top 34) "sumcraft.finder" 691 395
def ob397 : Obj := oT #[]
def ob398 : Obj := oF #[]
def ob399 : Obj := kN "ends_degree" "ends_degree" (top 35)
def ob400 : Obj := oK #[.str "ends_degree" 717, .str "ends_degree" 718, cp 719, .int 199 0, .int 3 0, .int 0 0, .int 0 0, .int 3 0, .ref 397, .bool true, .int 181 0, .ref 398, .none, .none, .none, .ref 399, .int 720 0, .int 199 0, cp 721]
def ob401 : Obj := kM "ends_degree" "ends_degree" (top 35) "sumcraft.finder" 691 400
def ob402 : Obj := oT #[]
def ob403 : Obj := oF #[]
def ob404 : Obj := oT #[.str "term" 726]
def ob405 : Obj := oT #[]
def ob406 : Obj := kN "breadth_of" "breadth_of" (top 36)
def ob407 : Obj := oK #[.str "breadth_of" 723, .str "breadth_of" 724, cp 725, .int 203 0, .int 1 0, .int 0 0, .int 0 0, .int 3 0, .ref 402, .bool true, .int 181 0, .ref 403, .none, .ref 404, .ref 405, .ref 406, .int 727 0, .int 203 0, cp 728]
def ob408 : Obj := kM "breadth_of" "breadth_of" (top 36) "sumcraft.finder" 691 407
def ob409 : Obj := oT #[]
def ob410 : Obj := oF #[]
def ob411 : Obj := oT #[.str "term" 733, .str "far" 734]
def ob412 : Obj := oT #[]
def ob413 : Obj := kN "height_of" "height_of" (top 37)
def ob414 : Obj := oK #[.str "height_of" 730, .str "height_of" 731, cp 732, .int 205 0, .int 2 0, .int 0 0, .int 0 0, .int 3 0, .ref 409, .bool true, .int 181 0, .ref 410, .none, .ref 411, .ref 412, .ref 413, .int 735 0, .int 205 0, cp 736]
def ob415 : Obj := kM "height_of" "height_of" (top 37) "sumcraft.finder" 691 414
def ob416 : Obj := oT #[]
def ob417 : Obj := oF #[]
def ob418 : Obj := oT #[.str "term" 741, .str "far" 742]
def ob419 : Obj := oT #[]
def ob420 : Obj := kN "length_of" "length_of" (top 38)
def ob421 : Obj := oK #[.str "length_of" 738, .str "length_of" 739, cp 740, .int 207 0, .int 2 0, .int 0 0, .int 0 0, .int 3 0, .ref 416, .bool true, .int 181 0, .ref 417, .none, .ref 418, .ref 419, .ref 420, .int 743 0, .int 207 0, cp 744]
def ob422 : Obj := kM "length_of" "length_of" (top 38) "sumcraft.finder" 691 421
def ob423 : Obj := oT #[.int 0 750, .int 0 751, .int 0 752]
def ob424 : Obj := oT #[.int (-3) 755, .int (-3) 757, .int (-9) 759]
def ob425 : Obj := oT #[.int 3 761, .int 3 762, .int 9 763]
def ob426 : Obj := oT #[]
def ob427 : Obj := oF #[]
def ob428 : Obj := kN "within" "within" (top 44)
def ob429 : Obj := oK #[.str "within" 765, .str "within" 766, cp 767, .int 214 0, .int 2 0, .int 0 0, .int 0 0, .int 3 0, .ref 426, .bool true, .int 181 0, .ref 427, .none, .none, .none, .ref 428, .int 768 0, .int 214 0, cp 769]
def ob430 : Obj := kM "within" "within" (top 44) "sumcraft.terms" 746 429
def ob431 : Obj := oT #[]
def ob432 : Obj := oF #[]
def ob433 : Obj := oT #[.str "upper" 774, .str "lower" 775, .str "low" 776]
def ob434 : Obj := oT #[]
def ob435 : Obj := kN "check_choose" "check_choose" (top 45)
def ob436 : Obj := oK #[.str "check_choose" 771, .str "check_choose" 772, cp 773, .int 216 0, .int 2 0, .int 0 0, .int 0 0, .int 3 0, .ref 431, .bool true, .int 181 0, .ref 432, .none, .ref 433, .ref 434, .ref 435, .int 777 0, .int 216 0, cp 778]
def ob437 : Obj := kM "check_choose" "check_choose" (top 45) "sumcraft.terms" 746 436
def ob438 : Obj := oT #[]
def ob439 : Obj := oF #[]
def ob440 : Obj := oT #[.str "fraction" 783]
def ob441 : Obj := oT #[]
def ob442 : Obj := kN "check_base" "check_base" (top 46)
def ob443 : Obj := oK #[.str "check_base" 780, .str "check_base" 781, cp 782, .int 222 0, .int 1 0, .int 0 0, .int 0 0, .int 3 0, .ref 438, .bool true, .int 181 0, .ref 439, .none, .ref 440, .ref 441, .ref 442, .int 784 0, .int 222 0, cp 785]
def ob444 : Obj := kM "check_base" "check_base" (top 46) "sumcraft.terms" 746 443
def ob445 : Obj := oT #[]
def ob446 : Obj := oF #[]
def ob447 : Obj := oT #[.str "part" 790]
def ob448 : Obj := oT #[]
def ob449 : Obj := kN "piece_of" "piece_of" (top 47)
def ob450 : Obj := oK #[.str "piece_of" 787, .str "piece_of" 788, cp 789, .int 225 0, .int 1 0, .int 0 0, .int 0 0, .int 3 0, .ref 445, .bool true, .int 181 0, .ref 446, .none, .ref 447, .ref 448, .ref 449, .int 791 0, .int 225 0, cp 792]
def ob451 : Obj := kM "piece_of" "piece_of" (top 47) "sumcraft.terms" 746 450
def ob452 : Obj := oT #[]
def ob453 : Obj := oF #[]
def ob454 : Obj := oT #[.str "fractions" 797, .str "top" 798, .str "bottom" 799, .str "fraction" 800, .str "left" 801, .str "right" 802]
def ob455 : Obj := oT #[]
def ob456 : Obj := kN "product" "product" (top 48)
def ob457 : Obj := oK #[.str "product" 794, .str "product" 795, cp 796, .int 238 0, .int 1 0, .int 0 0, .int 0 0, .int 3 0, .ref 452, .bool true, .int 181 0, .ref 453, .none, .ref 454, .ref 455, .ref 456, .int 803 0, .int 238 0, cp 804]
def ob458 : Obj := kM "product" "product" (top 48) "sumcraft.terms" 746 457
def ob459 : Obj := oT #[]
def ob460 : Obj := oB #[.builtin "type.__prepare__", .type "type"]
def ob461 (P : Params) : Obj := { cls := .type "dict", data := Data.dict #[kE P "__module__" 813 (.str "sumcraft.terms" 746), kE P "__qualname__" 815 (.str "Term" 814), kE P "__firstlineno__" 817 (.int 247 816), kE P "__init__" 823 (.ref 470), kE P "told" 830 (.ref 477), kE P "worth" 836 (.ref 482), kE P "floor" 842 (.ref 487), kE P "frame" 848 (.ref 492), kE P "__static_attributes__" 851 (.ref 493)] 9 }
def ob462 : Obj := oT #[]
def ob463 : Obj := oF #[.int 249 0, .int 4 0, .ref 469, .int 255 0, .int 4 0, .ref 476, .int 258 0, .int 4 0, .ref 481, .int 261 0, .int 4 0, .ref 486, .int 264 0, .int 4 0, .ref 491]
def ob464 : Obj := oK #[.str "Term" 808, .str "Term" 809, cp 810, .int 247 0, .int 0 0, .int 0 0, .int 0 0, .int 0 0, .ref 462, .bool false, .int 181 0, .ref 463, .none, .none, .none, .none, .int 811 0, .int 247 0, cp 812]
def ob465 : Obj := { cls := .type "frame", slots := #[some (.ref 464), some (.ref 3), some (.ref 461), none, some (.str "sumcraft.terms" 746), none, some (.ref 0)] }
def ob466 : Obj := oT #[]
def ob467 : Obj := oF #[]
def ob468 : Obj := kN "__init__" "Term.__init__" (inCls (top 49) 0)
def ob469 : Obj := oK #[.str "__init__" 818, .str "Term.__init__" 819, cp 820, .int 249 0, .int 2 0, .int 0 0, .int 0 0, .int 3 0, .ref 466, .bool true, .int 181 0, .ref 467, .none, .none, .none, .ref 468, .int 821 0, .int 249 0, cp 822]
def ob470 : Obj := kM "__init__" "Term.__init__" (inCls (top 49) 0) "sumcraft.terms" 746 469
def ob471 : Obj := oT #[]
def ob472 : Obj := oF #[]
def ob473 : Obj := oT #[.str "self" 827]
def ob474 : Obj := oT #[]
def ob475 : Obj := kN "told" "Term.told" (inCls (top 49) 1)
def ob476 : Obj := oK #[.str "told" 824, .str "Term.told" 825, cp 826, .int 255 0, .int 1 0, .int 0 0, .int 0 0, .int 3 0, .ref 471, .bool true, .int 181 0, .ref 472, .none, .ref 473, .ref 474, .ref 475, .int 828 0, .int 255 0, cp 829]
def ob477 : Obj := kM "told" "Term.told" (inCls (top 49) 1) "sumcraft.terms" 746 476
def ob478 : Obj := oT #[]
def ob479 : Obj := oF #[]
def ob480 : Obj := kN "worth" "Term.worth" (inCls (top 49) 2)
def ob481 : Obj := oK #[.str "worth" 831, .str "Term.worth" 832, cp 833, .int 258 0, .int 3 0, .int 0 0, .int 0 0, .int 3 0, .ref 478, .bool true, .int 181 0, .ref 479, .none, .none, .none, .ref 480, .int 834 0, .int 258 0, cp 835]
def ob482 : Obj := kM "worth" "Term.worth" (inCls (top 49) 2) "sumcraft.terms" 746 481
def ob483 : Obj := oT #[]
def ob484 : Obj := oF #[]
def ob485 : Obj := kN "floor" "Term.floor" (inCls (top 49) 3)
def ob486 : Obj := oK #[.str "floor" 837, .str "Term.floor" 838, cp 839, .int 261 0, .int 4 0, .int 0 0, .int 0 0, .int 3 0, .ref 483, .bool true, .int 181 0, .ref 484, .none, .none, .none, .ref 485, .int 840 0, .int 261 0, cp 841]
def ob487 : Obj := kM "floor" "Term.floor" (inCls (top 49) 3) "sumcraft.terms" 746 486
def ob488 : Obj := oT #[]
def ob489 : Obj := oF #[]
def ob490 : Obj := kN "frame" "Term.frame" (inCls (top 49) 4)
def ob491 : Obj := oK #[.str "frame" 843, .str "Term.frame" 844, cp 845, .int 264 0, .int 2 0, .int 0 0, .int 0 0, .int 3 0, .ref 488, .bool true, .int 181 0, .ref 489, .none, .none, .none, .ref 490, .int 846 0, .int 264 0, cp 847]
def ob492 : Obj := kM "frame" "Term.frame" (inCls (top 49) 4) "sumcraft.terms" 746 491
def ob493 : Obj := oT #[.str "parts" 849, .str "pieces" 850]
def ob494 (P : Params) : Obj := { cls := .type "dict", data := Data.dict #[kE P "__module__" 813 (.str "sumcraft.terms" 746), kE P "__firstlineno__" 817 (.int 247 816), kE P "__init__" 823 (.ref 470), kE P "told" 830 (.ref 477), kE P "worth" 836 (.ref 482), kE P "floor" 842 (.ref 487), kE P "frame" 848 (.ref 492), kE P "__static_attributes__" 851 (.ref 493), kE P "__dict__" 853 (.ref 496), kE P "__weakref__" 855 (.ref 497), kE P "__doc__" 856 (.none)] 4 }
def ob495 : Obj := { cls := .type "type", data := Data.cls { name := "Term", bases := [.type "object"], mro := [.ref 495, .type "object"], ns := 494, qualname := "Term" }, slots := #[none, none, some (.str "Term" 806), some (.str "Term" 814), some (.builtin "object.__new__"), some (.bool true)] }
def ob496 : Obj := { cls := .type "getset_descriptor", data := Data.fields #[.str "__dict__" 852, .ref 495, .builtin "function.__dict__", .builtin "function.__dict__#set"] }
def ob497 : Obj := { cls := .type "getset_descriptor", data := Data.fields #[.str "__weakref__" 854, .ref 495, .builtin "ExceptionGroup.__weakref__", .none] }
def ob498 : Obj := { cls := .type "super", data := Data.fields #[.ref 495, .ref 495, .ref 495] }
def ob499 : Obj := oB #[.builtin "object.__init_subclass__", .ref 495]
def ob500 : Obj := oT #[]
def ob501 : Obj := oF #[]
def ob502 : Obj := oT #[.str "_law_script" 864, .str "_law_k" 865]
def ob503 : Obj := oT #[]
def ob504 : Obj := kN "_law_cell_at" "_law_cell_at" (top 51)
def ob505 : Obj := oK #[.str "_law_cell_at" 861, .str "_law_cell_at" 862, cp 863, .int 270 0, .int 2 0, .int 0 0, .int 0 0, .int 3 0, .ref 500, .bool true, .int 181 0, .ref 501, .none, .ref 502, .ref 503, .ref 504, .int 866 0, .int 270 0, cp 867]
def ob506 : Obj := kM "_law_cell_at" "_law_cell_at" (top 51) "law_sumcraft_k61_ends_and_sizes" 859 505
def ob507 : Obj := oT #[]
def ob508 : Obj := oF #[]
def ob509 : Obj := oT #[.str "_law_one" 872, .str "_law_other" 873]
def ob510 : Obj := oT #[]
def ob511 : Obj := kN "_law_less" "_law_less" (top 52)
def ob512 : Obj := oK #[.str "_law_less" 869, .str "_law_less" 870, cp 871, .int 274 0, .int 2 0, .int 0 0, .int 0 0, .int 3 0, .ref 507, .bool true, .int 181 0, .ref 508, .none, .ref 509, .ref 510, .ref 511, .int 874 0, .int 274 0, cp 875]
def ob513 : Obj := kM "_law_less" "_law_less" (top 52) "law_sumcraft_k61_ends_and_sizes" 859 512
def ob514 : Obj := oT #[]
def ob515 : Obj := oF #[]
def ob516 : Obj := oT #[.str "_law_cell" 880, .str "_law_more" 881, .str "_law_upper" 882, .str "_law_lower" 883, .str "_law_low" 884]
def ob517 : Obj := oT #[]
def ob518 : Obj := kN "_law_any" "_law_any" (top 53)
def ob519 : Obj := oK #[.str "_law_any" 877, .str "_law_any" 878, cp 879, .int 276 0, .int 2 0, .int 0 0, .int 0 0, .int 3 0, .ref 514, .bool true, .int 181 0, .ref 515, .none, .ref 516, .ref 517, .ref 518, .int 885 0, .int 276 0, cp 886]
def ob520 : Obj := kM "_law_any" "_law_any" (top 53) "law_sumcraft_k61_ends_and_sizes" 859 519
def ob521 : Obj := oT #[]
def ob522 : Obj := oF #[]
def ob523 : Obj := oT #[.str "_law_script" 891, .str "_law_at" 892, .str "_law_cell" 893, .str "_law_kind" 894, .str "_law_j" 895]
def ob524 : Obj := oT #[]
def ob525 : Obj := kN "_law_choose" "_law_choose" (top 54)
def ob526 : Obj := oK #[.str "_law_choose" 888, .str "_law_choose" 889, cp 890, .int 283 0, .int 2 0, .int 0 0, .int 0 0, .int 3 0, .ref 521, .bool true, .int 181 0, .ref 522, .none, .ref 523, .ref 524, .ref 525, .int 896 0, .int 283 0, cp 897]
def ob527 : Obj := kM "_law_choose" "_law_choose" (top 54) "law_sumcraft_k61_ends_and_sizes" 859 526
def ob528 : Obj := oT #[]
def ob529 : Obj := oF #[]
def ob530 : Obj := oT #[.str "_law_cell" 902]
def ob531 : Obj := oT #[]
def ob532 : Obj := kN "_law_fraction" "_law_fraction" (top 55)
def ob533 : Obj := oK #[.str "_law_fraction" 899, .str "_law_fraction" 900, cp 901, .int 298 0, .int 1 0, .int 0 0, .int 0 0, .int 3 0, .ref 528, .bool true, .int 181 0, .ref 529, .none, .ref 530, .ref 531, .ref 532, .int 903 0, .int 298 0, cp 904]
def ob534 : Obj := kM "_law_fraction" "_law_fraction" (top 55) "law_sumcraft_k61_ends_and_sizes" 859 533
def ob535 : Obj := oT #[]
def ob536 : Obj := oF #[]
def ob537 : Obj := oT #[.str "_law_script" 909, .str "_law_first" 910, .str "_law_found" 911, .str "_law_k" 912, .str "_law_cell" 913, .str "_law_turn" 914]
def ob538 : Obj := oT #[]
def ob539 : Obj := kN "_law_parts" "_law_parts" (top 56)
def ob540 : Obj := oK #[.str "_law_parts" 906, .str "_law_parts" 907, cp 908, .int 300 0, .int 1 0, .int 0 0, .int 0 0, .int 3 0, .ref 535, .bool true, .int 181 0, .ref 536, .none, .ref 537, .ref 538, .ref 539, .int 915 0, .int 300 0, cp 916]
def ob541 : Obj := kM "_law_parts" "_law_parts" (top 56) "law_sumcraft_k61_ends_and_sizes" 859 540
def ob542 : Obj := oT #[]
def ob543 : Obj := oF #[]
def ob544 : Obj := oT #[.str "_law_part" 921]
def ob545 : Obj := oT #[]
def ob546 : Obj := kN "_law_lows" "_law_lows" (top 57)
def ob547 : Obj := oK #[.str "_law_lows" 918, .str "_law_lows" 919, cp 920, .int 314 0, .int 1 0, .int 0 0, .int 0 0, .int 3 0, .ref 542, .bool true, .int 181 0, .ref 543, .none, .ref 544, .ref 545, .ref 546, .int 922 0, .int 314 0, cp 923]
def ob548 : Obj := kM "_law_lows" "_law_lows" (top 57) "law_sumcraft_k61_ends_and_sizes" 859 547
def ob549 : Obj := oT #[]
def ob550 : Obj := oF #[]
def ob551 : Obj := oT #[.str "_law_parts_here" 928, .str "_law_behind" 929, .str "_law_before" 930, .str "_law_part" 931, .str "_law_x" 932]
def ob552 : Obj := oT #[]
def ob553 : Obj := kN "_law_ends" "_law_ends" (top 58)
def ob554 : Obj := oK #[.str "_law_ends" 925, .str "_law_ends" 926, cp 927, .int 316 0, .int 1 0, .int 0 0, .int 0 0, .int 3 0, .ref 549, .bool true, .int 181 0, .ref 550, .none, .ref 551, .ref 552, .ref 553, .int 933 0, .int 316 0, cp 934]
def ob555 : Obj := kM "_law_ends" "_law_ends" (top 58) "law_sumcraft_k61_ends_and_sizes" 859 554
def ob556 : Obj := oT #[]
def ob557 : Obj := oF #[]
def ob558 : Obj := oT #[.str "_law_parts_here" 939, .str "_law_place" 940, .str "_law_up" 941, .str "_law_down" 942, .str "_law_part" 943, .str "_law_x" 944]
def ob559 : Obj := oT #[]
def ob560 : Obj := kN "_law_up_and_down" "_law_up_and_down" (top 59)
def ob561 : Obj := oK #[.str "_law_up_and_down" 936, .str "_law_up_and_down" 937, cp 938, .int 325 0, .int 2 0, .int 0 0, .int 0 0, .int 3 0, .ref 556, .bool true, .int 181 0, .ref 557, .none, .ref 558, .ref 559, .ref 560, .int 945 0, .int 325 0, cp 946]
def ob562 : Obj := kM "_law_up_and_down" "_law_up_and_down" (top 59) "law_sumcraft_k61_ends_and_sizes" 859 561
def ob563 : Obj := oT #[]
def ob564 : Obj := oF #[]
def ob565 : Obj := oT #[.str "_law_parts_here" 951, .str "_law_i" 952, .str "_law_far" 953, .str "_law_place" 954, .str "_law_found" 955, .str "_law_part" 956, .str "_law_x" 957]
def ob566 : Obj := oT #[]
def ob567 : Obj := kN "_law_step" "_law_step" (top 60)
def ob568 : Obj := oK #[.str "_law_step" 948, .str "_law_step" 949, cp 950, .int 338 0, .int 4 0, .int 0 0, .int 0 0, .int 3 0, .ref 563, .bool true, .int 181 0, .ref 564, .none, .ref 565, .ref 566, .ref 567, .int 958 0, .int 338 0, cp 959]
def ob569 : Obj := kM "_law_step" "_law_step" (top 60) "law_sumcraft_k61_ends_and_sizes" 859 568
def ob570 : Obj := oT #[]
def ob571 : Obj := oF #[]
def ob572 : Obj := oT #[.str "_law_found" 964, .str "_law_due" 965]
def ob573 : Obj := oT #[]
def ob574 : Obj := kN "_law_is" "_law_is" (top 61)
def ob575 : Obj := oK #[.str "_law_is" 961, .str "_law_is" 962, cp 963, .int 352 0, .int 2 0, .int 0 0, .int 0 0, .int 3 0, .ref 570, .bool true, .int 181 0, .ref 571, .none, .ref 572, .ref 573, .ref 574, .int 966 0, .int 352 0, cp 967]
def ob576 : Obj := kM "_law_is" "_law_is" (top 61) "law_sumcraft_k61_ends_and_sizes" 859 575
def ob577 : Obj := oT #[]
def ob578 : Obj := oF #[]
def ob579 : Obj := kN "_law_for" "_law_for" (top 62)
def ob580 : Obj := oK #[.str "_law_for" 969, .str "_law_for" 970, cp 971, .int 354 0, .int 3 0, .int 0 0, .int 0 0, .int 3 0, .ref 577, .bool true, .int 181 0, .ref 578, .none, .none, .none, .ref 579, .int 972 0, .int 354 0, cp 973]
def ob581 : Obj := kM "_law_for" "_law_for" (top 62) "law_sumcraft_k61_ends_and_sizes" 859 580
def ob582 : Obj := oT #[]
def ob583 : Obj := oF #[]
def ob584 : Obj := oT #[.str "_law_script" 978, .str "_law_parts_here" 979, .str "_law_handed" 980, .str "_law_term" 981, .str "_law_told" 982, .str "_law_start" 983, .str "_law_k" 984]
def ob585 : Obj := oT #[]
def ob586 : Obj := kN "law" "law" (top 63)
def ob587 : Obj := oK #[.str "law" 975, .str "law" 976, cp 977, .int 359 0, .int 1 0, .int 0 0, .int 0 0, .int 3 0, .ref 582, .bool true, .int 181 0, .ref 583, .none, .ref 584, .ref 585, .ref 586, .int 985 0, .int 359 0, cp 986]
def ob588 : Obj := kM "law" "law" (top 63) "law_sumcraft_k61_ends_and_sizes" 859 587
def env0 : Env := { scope := PySem.Challenge.pw_sumcraft_k61_ends_and_sizes.main.scope, locals := mainNs, globals := mainNs, cells := [], code := .ref 13, frame := some 14 }
def cd0 : Code := .body (behindTheImports PySem.Challenge.pw_sumcraft_k61_ends_and_sizes) env0
def fr0 : List Frame := [topFrame { line := 0, col := 0, endLine := 0, endCol := 0 }]
noncomputable def hp1 (P : Params) : Heap := ⟨⟨[boot_o_0 P, boot_o_1 P, boot_o_2 P, boot_o_3 P, boot_o_4 P, boot_o_5 P, boot_o_6 P, boot_o_7 P, boot_o_8 P, boot_o_9 P, boot_o_10 P, ob11, ob12, ob13, ob14]⟩, {}⟩
noncomputable def hp3 (P : Params) : Heap := ⟨⟨[boot_o_0 P, boot_o_1 P, boot_o_2 P, ob3 P, boot_o_4 P, boot_o_5 P, boot_o_6 P, boot_o_7 P, boot_o_8 P, boot_o_9 P, boot_o_10 P, ob11, ob12', ob13, ob14, ob15, ob16, ob17 P, ob18, ob19, ob20, ob21, ob22, ob23 P, ob24, ob25, ob26, ob27, ob28, ob29, ob30 P, ob31, ob32, ob33, ob34, ob35, ob36 P, ob37, ob38, ob39, ob40, ob41, ob42 P, ob43, ob44, ob45, ob46, ob47, ob48 P, ob49, ob50, ob51, ob52, ob53, ob54, ob55, ob56, ob57, ob58, ob59, ob60, ob61, ob62, ob63, ob64, ob65, ob66, ob67, ob68, ob69, ob70, ob71, ob72, ob73, ob74, ob75, ob76, ob77, ob78, ob79, ob80, ob81, ob82, ob83, ob84, ob85, ob86, ob87, ob88, ob89, ob90, ob91, ob92, ob93, ob94, ob95, ob96, ob97, ob98, ob99, ob100, ob101, ob102, ob103, ob104, ob105, ob106, ob107, ob108, ob109, ob110, ob111, ob112, ob113, ob114, ob115, ob116, ob117, ob118, ob119, ob120, ob121, ob122, ob123, ob124, ob125, ob126, ob127, ob128, ob129, ob130, ob131, ob132, ob133, ob134, ob135, ob136, ob137, ob138, ob139, ob140, ob141, ob142, ob143, ob144, ob145, ob146, ob147, ob148, ob149, ob150, ob151, ob152, ob153 P, ob154, ob155, ob156, ob157, ob158, ob159, ob160, ob161, ob162, ob163, ob164, ob165, ob166, ob167, ob168, ob169, ob170, ob171, ob172, ob173, ob174, ob175, ob176, ob177, ob178, ob179, ob180, ob181, ob182, ob183, ob184, ob185, ob186, ob187, ob188, ob189, ob190, ob191, ob192, ob193, ob194 P, ob195, ob196, ob197, ob198, ob199]⟩, {}⟩
noncomputable def hp4 (P : Params) : Heap := ⟨⟨[boot_o_0 P, boot_o_1 P, boot_o_2 P, ob3' P, boot_o_4 P, boot_o_5 P, boot_o_6 P, boot_o_7 P, boot_o_8 P, boot_o_9 P, boot_o_10 P, ob11, ob12'', ob13, ob14, ob15, ob16, ob17 P, ob18, ob19, ob20, ob21, ob22, ob23 P, ob24, ob25, ob26, ob27, ob28, ob29, ob30 P, ob31, ob32, ob33, ob34, ob35, ob36 P, ob37, ob38, ob39, ob40, ob41, ob42 P, ob43, ob44, ob45, ob46, ob47, ob48 P, ob49, ob50, ob51, ob52, ob53, ob54, ob55, ob56, ob57, ob58, ob59, ob60, ob61, ob62, ob63, ob64, ob65, ob66, ob67, ob68, ob69, ob70, ob71, ob72, ob73, ob74, ob75, ob76, ob77, ob78, ob79, ob80, ob81, ob82, ob83, ob84, ob85, ob86, ob87, ob88, ob89, ob90, ob91, ob92, ob93, ob94, ob95, ob96, ob97, ob98, ob99, ob100, ob101, ob102, ob103, ob104, ob105, ob106, ob107, ob108, ob109, ob110, ob111, ob112, ob113, ob114, ob115, ob116, ob117, ob118, ob119, ob120, ob121, ob122, ob123, ob124, ob125, ob126, ob127, ob128, ob129, ob130, ob131, ob132, ob133, ob134, ob135, ob136, ob137, ob138, ob139, ob140, ob141, ob142, ob143, ob144, ob145, ob146, ob147, ob148, ob149, ob150, ob151, ob152, ob153 P, ob154, ob155, ob156, ob157, ob158, ob159, ob160, ob161, ob162, ob163, ob164, ob165, ob166, ob167, ob168, ob169, ob170, ob171, ob172, ob173, ob174, ob175, ob176, ob177, ob178, ob179, ob180, ob181, ob182, ob183, ob184, ob185, ob186, ob187, ob188, ob189, ob190, ob191, ob192, ob193, ob194 P, ob195', ob196, ob197, ob198, ob199, ob200, ob201, ob202 P, ob203, ob204, ob205, ob206, ob207, ob208, ob209, ob210, ob211, ob212, ob213, ob214, ob215, ob216, ob217, ob218, ob219, ob220, ob221, ob222, ob223, ob224, ob225, ob226, ob227, ob228, ob229, ob230, ob231, ob232, ob233, ob234, ob235, ob236, ob237, ob238, ob239, ob240, ob241, ob242, ob243, ob244, ob245, ob246, ob247, ob248, ob249, ob250, ob251, ob252, ob253 P, ob254, ob255, ob256, ob257, ob258, ob259 P, ob260, ob261, ob262, ob263, ob264, ob265, ob266, ob267, ob268, ob269, ob270, ob271, ob272, ob273, ob274, ob275, ob276, ob277, ob278, ob279, ob280, ob281, ob282, ob283, ob284, ob285, ob286 P, ob287, ob288, ob289, ob290, ob291, ob292 P, ob293, ob294, ob295, ob296, ob297, ob298, ob299, ob300, ob301, ob302, ob303, ob304, ob305, ob306, ob307, ob308, ob309, ob310, ob311, ob312, ob313, ob314, ob315, ob316, ob317, ob318, ob319, ob320, ob321, ob322, ob323, ob324, ob325, ob326, ob327, ob328, ob329, ob330, ob331, ob332, ob333 P, ob334, ob335, ob336, ob337, ob338, ob339 P, ob340, ob341, ob342, ob343, ob344, ob345, ob346, ob347, ob348, ob349, ob350, ob351, ob352, ob353, ob354, ob355, ob356, ob357, ob358, ob359, ob360, ob361, ob362, ob363, ob364, ob365, ob366, ob367, ob368, ob369, ob370, ob371, ob372, ob373 P, ob374, ob375, ob376]⟩, {}⟩
noncomputable def hp5 (P : Params) : Heap := ⟨⟨[boot_o_0 P, boot_o_1 P, boot_o_2 P, ob3'' P, boot_o_4 P, boot_o_5 P, boot_o_6 P, boot_o_7 P, boot_o_8 P, boot_o_9 P, boot_o_10 P, ob11, ob12''', ob13, ob14, ob15, ob16, ob17 P, ob18, ob19, ob20, ob21, ob22, ob23 P, ob24, ob25, ob26, ob27, ob28, ob29, ob30 P, ob31, ob32, ob33, ob34, ob35, ob36 P, ob37, ob38, ob39, ob40, ob41, ob42 P, ob43, ob44, ob45, ob46, ob47, ob48 P, ob49, ob50, ob51, ob52, ob53, ob54, ob55, ob56, ob57, ob58, ob59, ob60, ob61, ob62, ob63, ob64, ob65, ob66, ob67, ob68, ob69, ob70, ob71, ob72, ob73, ob74, ob75, ob76, ob77, ob78, ob79, ob80, ob81, ob82, ob83, ob84, ob85, ob86, ob87, ob88, ob89, ob90, ob91, ob92, ob93, ob94, ob95, ob96, ob97, ob98, ob99, ob100, ob101, ob102, ob103, ob104, ob105, ob106, ob107, ob108, ob109, ob110, ob111, ob112, ob113, ob114, ob115, ob116, ob117, ob118, ob119, ob120, ob121, ob122, ob123, ob124, ob125, ob126, ob127, ob128, ob129, ob130, ob131, ob132, ob133, ob134, ob135, ob136, ob137, ob138, ob139, ob140, ob141, ob142, ob143, ob144, ob145, ob146, ob147, ob148, ob149, ob150, ob151, ob152, ob153 P, ob154, ob155, ob156, ob157, ob158, ob159, ob160, ob161, ob162, ob163, ob164, ob165, ob166, ob167, ob168, ob169, ob170, ob171, ob172, ob173, ob174, ob175, ob176, ob177, ob178, ob179, ob180, ob181, ob182, ob183, ob184, ob185, ob186, ob187, ob188, ob189, ob190, ob191, ob192, ob193, ob194 P, ob195', ob196, ob197, ob198, ob199, ob200, ob201, ob202 P, ob203, ob204, ob205, ob206, ob207, ob208, ob209, ob210, ob211, ob212, ob213, ob214, ob215, ob216, ob217, ob218, ob219, ob220, ob221, ob222, ob223, ob224, ob225, ob226, ob227, ob228, ob229, ob230, ob231, ob232, ob233, ob234, ob235, ob236, ob237, ob238, ob239, ob240, ob241, ob242, ob243, ob244, ob245, ob246, ob247, ob248, ob249, ob250, ob251, ob252, ob253 P, ob254, ob255, ob256, ob257, ob258, ob259 P, ob260, ob261, ob262, ob263, ob264, ob265, ob266, ob267, ob268, ob269, ob270, ob271, ob272, ob273, ob274, ob275, ob276, ob277, ob278, ob279, ob280, ob281, ob282, ob283, ob284, ob285, ob286 P, ob287, ob288, ob289, ob290, ob291, ob292 P, ob293, ob294, ob295, ob296, ob297, ob298, ob299, ob300, ob301, ob302, ob303, ob304, ob305, ob306, ob307, ob308, ob309, ob310, ob311, ob312, ob313, ob314, ob315, ob316, ob317, ob318, ob319, ob320, ob321, ob322, ob323, ob324, ob325, ob326, ob327, ob328, ob329, ob330, ob331, ob332, ob333 P, ob334, ob335, ob336, ob337, ob338, ob339 P, ob340, ob341, ob342, ob343, ob344, ob345, ob346, ob347, ob348, ob349, ob350, ob351, ob352, ob353, ob354, ob355, ob356, ob357, ob358, ob359, ob360, ob361, ob362, ob363, ob364, ob365, ob366, ob367, ob368, ob369, ob370, ob371, ob372, ob373 P, ob374, ob375, ob376, ob377, ob378, ob379, ob380, ob381, ob382, ob383, ob384, ob385, ob386, ob387, ob388, ob389, ob390, ob391, ob392, ob393, ob394, ob395, ob396, ob397, ob398, ob399, ob400, ob401, ob402, ob403, ob404, ob405, ob406, ob407, ob408, ob409, ob410, ob411, ob412, ob413, ob414, ob415, ob416, ob417, ob418, ob419, ob420, ob421, ob422, ob423, ob424, ob425, ob426, ob427, ob428, ob429, ob430, ob431, ob432, ob433, ob434, ob435, ob436, ob437, ob438, ob439, ob440, ob441, ob442, ob443, ob444, ob445, ob446, ob447, ob448, ob449, ob450, ob451, ob452, ob453, ob454, ob455, ob456, ob457, ob458, ob459, ob460, ob461 P, ob462, ob463, ob464, ob465, ob466, ob467, ob468, ob469, ob470, ob471, ob472, ob473, ob474, ob475, ob476, ob477, ob478, ob479, ob480, ob481, ob482, ob483, ob484, ob485, ob486, ob487, ob488, ob489, ob490, ob491, ob492, ob493, ob494 P, ob495, ob496, ob497, ob498, ob499, ob500, ob501, ob502, ob503, ob504, ob505, ob506, ob507, ob508, ob509, ob510, ob511, ob512, ob513, ob514, ob515, ob516, ob517, ob518, ob519, ob520, ob521, ob522, ob523, ob524, ob525, ob526, ob527, ob528, ob529, ob530, ob531, ob532, ob533, ob534, ob535, ob536, ob537, ob538, ob539, ob540, ob541, ob542, ob543, ob544, ob545, ob546, ob547, ob548, ob549, ob550, ob551, ob552, ob553, ob554, ob555, ob556, ob557, ob558, ob559, ob560, ob561, ob562, ob563, ob564, ob565, ob566, ob567, ob568, ob569, ob570, ob571, ob572, ob573, ob574, ob575, ob576, ob577, ob578, ob579, ob580, ob581, ob582, ob583, ob584, ob585, ob586, ob587, ob588]⟩, {}⟩
set_option maxHeartbeats 0 in
theorem pc_pre (w : World) (os : OsState) : topGo treeTable PySem.Challenge.pw_sumcraft_k61_ends_and_sizes w 11 (some (.ref 6)) 12 (⟨boot_heap w.params, Array.mk [], boot_drawn, boot_toks, os⟩ : Shared) (topStub PySem.Challenge.pw_sumcraft_k61_ends_and_sizes) = some ((⟨hp1 w.params, #[], {}, 187, os⟩ : Shared), ⟨denote treeTable cd0, cd0, { line := 0, col := 0, endLine := 0, endCol := 0 }, fr0⟩) := by kernel_rfl
set_option maxHeartbeats 0 in
theorem pc_blk (w : World) (os : OsState) : segRun treeTable PySem.Challenge.pw_sumcraft_k61_ends_and_sizes w 11 (some (.ref 6)) 1 1 (⟨hp1 w.params, #[], {}, 187, os⟩ : Shared) (blockOf (behindTheImports PySem.Challenge.pw_sumcraft_k61_ends_and_sizes) env0 cd0 { line := 0, col := 0, endLine := 0, endCol := 0 } fr0) = some (.next, (⟨hp1 w.params, #[], {}, 187, os⟩ : Shared), cd0, { line := 0, col := 0, endLine := 0, endCol := 0 }) := by kernel_rfl
def gl3 : List Stmt := [top 0, top 1, top 2, top 3, top 4, top 5, top 6, top 7, top 8, top 9, top 10, top 11, top 12, top 13, top 14, top 15, top 16, top 17, top 18, top 19, top 20, top 21, top 22, top 23, top 24, top 25]
set_option maxHeartbeats 0 in
theorem pc3 (w : World) (os : OsState) : segRun treeTable PySem.Challenge.pw_sumcraft_k61_ends_and_sizes w 11 (some (.ref 6)) 1 1494 (⟨hp1 w.params, #[], {}, 187, os⟩ : Shared) (piecesOf gl3 env0 cd0 { line := 0, col := 0, endLine := 0, endCol := 0 } fr0) = some (.next, (⟨hp3 w.params, #[], {}, 456, os⟩ : Shared), cd0, { line := 91, col := 0, endLine := 106, endCol := 21 }) := by kernel_rfl
def gl4 : List Stmt := [top 26, top 27, top 28, top 29]
set_option maxHeartbeats 0 in
theorem pc4 (w : World) (os : OsState) : segRun treeTable PySem.Challenge.pw_sumcraft_k61_ends_and_sizes w 11 (some (.ref 6)) 1 1472 (⟨hp3 w.params, #[], {}, 456, os⟩ : Shared) (piecesOf gl4 env0 cd0 { line := 91, col := 0, endLine := 106, endCol := 21 } fr0) = some (.next, (⟨hp4 w.params, #[], {}, 691, os⟩ : Shared), cd0, { line := 169, col := 0, endLine := 181, endCol := 83 }) := by kernel_rfl
def gl5 : List Stmt := [top 30, top 31, top 32, top 33, top 34, top 35, top 36, top 37, top 38, top 39, top 40, top 41, top 42, top 43, top 44, top 45, top 46, top 47, top 48, top 49, top 50, top 51, top 52, top 53, top 54, top 55, top 56, top 57, top 58, top 59, top 60, top 61, top 62, top 63]
set_option maxHeartbeats 0 in
theorem pc5 (w : World) (os : OsState) : segRun treeTable PySem.Challenge.pw_sumcraft_k61_ends_and_sizes w 11 (some (.ref 6)) 1 1204 (⟨hp4 w.params, #[], {}, 691, os⟩ : Shared) (piecesOf gl5 env0 cd0 { line := 169, col := 0, endLine := 181, endCol := 83 } fr0) = some (.next, (⟨hp5 w.params, #[], {}, 988, os⟩ : Shared), cd0, { line := 359, col := 0, endLine := 372, endCol := 120 }) := by kernel_rfl
set_option maxHeartbeats 0 in
theorem pc_fin (w : World) (os : OsState) : topRun treeTable PySem.Challenge.pw_sumcraft_k61_ends_and_sizes w 11 (some (.ref 6)) 2 (⟨hp5 w.params, #[], {}, 988, os⟩ : Shared) ⟨doneF .next, cd0, { line := 359, col := 0, endLine := 372, endCol := 120 }, fr0⟩ = some (⟨hp5 w.params, #[], {}, 988, os⟩ : Shared) := by kernel_rfl
theorem body_is : behindTheImports PySem.Challenge.pw_sumcraft_k61_ends_and_sizes = gl3 ++ (gl4 ++ (gl5 ++ [])) := by kernel_rfl
theorem run0 (w : World) (os : OsState) : topRun treeTable PySem.Challenge.pw_sumcraft_k61_ends_and_sizes w 11 (some (.ref 6)) (12 + (1 + (1494 + (1472 + (1204 + 2))))) (⟨boot_heap w.params, Array.mk [], boot_drawn, boot_toks, os⟩ : Shared) (topStub PySem.Challenge.pw_sumcraft_k61_ends_and_sizes) = some (⟨hp5 w.params, #[], {}, 988, os⟩ : Shared) :=
 go_top (pc_pre w os) (piece_block (pc_blk w os) (by
  rw [body_is]
  exact piece_app (pc3 w os) (piece_app (pc4 w os) (piece_app (pc5 w os) (piece_nil (pc_fin w os))))))
def KK (P : Params) : Frag := [(3, ob3'' P), (17, ob17 P), (23, ob23 P), (24, ob24), (30, ob30 P), (36, ob36 P), (37, ob37), (42, ob42 P), (48, ob48 P), (49, ob49), (55, ob55), (56, ob56), (62, ob62), (63, ob63), (69, ob69), (70, ob70), (74, ob74), (75, ob75), (81, ob81), (82, ob82), (116, ob116), (117, ob117), (121, ob121), (122, ob122), (128, ob128), (129, ob129), (135, ob135), (136, ob136), (153, ob153 P), (170, ob170), (171, ob171), (177, ob177), (178, ob178), (184, ob184), (185, ob185), (194, ob194 P), (195, ob195'), (202, ob202 P), (212, ob212), (213, ob213), (217, ob217), (218, ob218), (231, ob231), (232, ob232), (238, ob238), (239, ob239), (245, ob245), (246, ob246), (253, ob253 P), (254, ob254), (259, ob259 P), (269, ob269), (270, ob270), (283, ob283), (284, ob284), (286, ob286 P), (287, ob287), (292, ob292 P), (302, ob302), (303, ob303), (316, ob316), (317, ob317), (323, ob323), (324, ob324), (333, ob333 P), (334, ob334), (339, ob339 P), (349, ob349), (350, ob350), (363, ob363), (364, ob364), (373, ob373 P), (374, ob374), (380, ob380), (381, ob381), (385, ob385), (386, ob386), (390, ob390), (391, ob391), (395, ob395), (396, ob396), (400, ob400), (401, ob401), (407, ob407), (408, ob408), (414, ob414), (415, ob415), (421, ob421), (422, ob422), (423, ob423), (424, ob424), (425, ob425), (429, ob429), (430, ob430), (436, ob436), (437, ob437), (443, ob443), (444, ob444), (450, ob450), (451, ob451), (461, ob461 P), (469, ob469), (470, ob470), (476, ob476), (477, ob477), (494, ob494 P), (495, ob495), (505, ob505), (506, ob506), (512, ob512), (513, ob513), (519, ob519), (520, ob520), (526, ob526), (527, ob527), (533, ob533), (534, ob534), (540, ob540), (541, ob541), (547, ob547), (548, ob548), (554, ob554), (555, ob555), (561, ob561), (562, ob562), (568, ob568), (569, ob569), (575, ob575), (576, ob576), (580, ob580), (581, ob581), (587, ob587), (588, ob588)]
def KA : List Addr := [3, 17, 23, 24, 30, 36, 37, 42, 48, 49, 55, 56, 62, 63, 69, 70, 74, 75, 81, 82, 116, 117, 121, 122, 128, 129, 135, 136, 153, 170, 171, 177, 178, 184, 185, 194, 195, 202, 212, 213, 217, 218, 231, 232, 238, 239, 245, 246, 253, 254, 259, 269, 270, 283, 284, 286, 287, 292, 302, 303, 316, 317, 323, 324, 333, 334, 339, 349, 350, 363, 364, 373, 374, 380, 381, 385, 386, 390, 391, 395, 396, 400, 401, 407, 408, 414, 415, 421, 422, 423, 424, 425, 429, 430, 436, 437, 443, 444, 450, 451, 461, 469, 470, 476, 477, 494, 495, 505, 506, 512, 513, 519, 520, 526, 527, 533, 534, 540, 541, 547, 548, 554, 555, 561, 562, 568, 569, 575, 576, 580, 581, 587, 588]
def qv : Program := view PySem.Challenge.pw_sumcraft_k61_ends_and_sizes [1, 2, 3, 5, 6, 7, 8, 9, 11, 12, 13, 14, 15, 17, 18, 19, 20, 21, 22, 23, 24, 25, 26, 27, 28, 29, 31, 32, 33, 34, 35, 36, 37, 38, 40, 41, 42, 43, 44, 45, 46, 47, 48, 49, 51, 52, 53, 54, 55, 56, 57, 58, 59, 60, 61, 62, 63]
def xt (s : Shared) : Bool := xlAt qv [] s && recOk (PySem.Challenge.rw_sumcraft_k61_ends_and_sizes.row.toRowW).records s
def hk : Hook := kHook KK KA fun _ => rfl
set_option maxHeartbeats 0 in
theorem left : LeftO PySem.Challenge.pw_sumcraft_k61_ends_and_sizes qv [] xt hk.obs hk.val 8460 :=
 LeftO.of_pieces (H₀ := boot_heap) (H₁ := hp5) (gs₁ := #[]) (d₁ := {}) (k₁ := 988)
  (boot_open (by kernel_rfl) rfl fun s => by kernel_rfl)
  (fun w => by kernel_rfl) run0 (by kernel_rfl)
  fun w => by kernel_rfl
set_option maxHeartbeats 0 in
theorem h_well : PySem.Challenge.rw_sumcraft_k61_ends_and_sizes.wellSaid = true := by kernel_rfl
set_option maxHeartbeats 0 in
theorem h_bare : PySem.Challenge.rw_sumcraft_k61_ends_and_sizes.row.prog.bare := ⟨rfl, rfl, rfl, rfl, rfl, by decide +kernel⟩
end My
namespace L2
open PySem PySem.Spec PyProof.Rows
abbrev Key := Sum Int Str
def keyIs : Key -> Value -> Bool
 | .inl k, v => Value.isInt k v
 | .inr x, v => Value.isStrOf x v
def keyH (w : World) : Key -> Int
 | .inl k => hashInt k
 | .inr x => hashStr w x
theorem keyIs_shape : ∀ {k : Key} {v : Value}, keyIs k v = true -> (∃ i t, k = Sum.inl i ∧ v = Value.int i t) ∨ (∃ x t, k = Sum.inr x ∧ v = Value.str x t)
 | .inl i, v, h => by
  obtain ⟨t, e⟩ := Value.isInt_shape (k := i) (v := v) h
  exact .inl ⟨i, t, rfl, e⟩
 | .inr x, v, h => by
  obtain ⟨t, e⟩ := Value.isStrOf_shape (x := x) (v := v) h
  exact .inr ⟨x, t, rfl, e⟩
theorem keyIs_int (i : Int) (t : Tok) : keyIs (.inl i) (.int i t) = true := by simp [keyIs, Value.isInt]
theorem keyIs_str (x : Str) (t : Tok) : keyIs (.inr x) (.str x t) = true := by simp [keyIs, Value.isStrOf]
theorem key_ll (a b : Int) : decide ((Sum.inl a : Key) = Sum.inl b) = (a == b) := by
 by_cases e : a = b
 ·subst e; simp
 ·have h : ¬ (Sum.inl a : Key) = Sum.inl b := fun q => e (Sum.inl.inj q)
  rw [decide_eq_false h]
  exact (beq_eq_false_iff_ne.mpr e).symm
theorem key_rr (a b : Str) : decide ((Sum.inr a : Key) = Sum.inr b) = decide (a = b) := by
 by_cases e : a = b
 ·subst e; simp
 ·have h : ¬ (Sum.inr a : Key) = Sum.inr b := fun q => e (Sum.inr.inj q)
  rw [decide_eq_false h, decide_eq_false e]
theorem key_lr (a : Int) (b : Str) : decide ((Sum.inl a : Key) = Sum.inr b) = false := decide_eq_false (fun q => nomatch q)
theorem key_rl (a : Str) (b : Int) : decide ((Sum.inr a : Key) = Sum.inl b) = false := decide_eq_false (fun q => nomatch q)
def mixKind (prog : Program) (w : World) : PySem.KeyKind prog w Key where
 is := keyIs
 hash := keyH w
 inj := fun v a b ha hb => by
  rcases keyIs_shape ha with ⟨i, t, rfl, rfl⟩ | ⟨x, t, rfl, rfl⟩
  ·rcases keyIs_shape hb with ⟨j, u, rfl, e⟩ | ⟨y, u, rfl, e⟩
   ·injection e with e1 _; rw [e1]
   ·exact nomatch e
  ·rcases keyIs_shape hb with ⟨j, u, rfl, e⟩ | ⟨y, u, rfl, e⟩
   ·exact nomatch e
   ·injection e with e1 _; rw [e1]
 byValue := fun k v h => by
  rcases keyIs_shape h with ⟨i, t, rfl, rfl⟩ | ⟨x, t, rfl, rfl⟩ <;> rfl
 pyHash := fun hv h => by
  rcases keyIs_shape hv with ⟨i, t, rfl, rfl⟩ | ⟨x, t, rfl, rfl⟩
  ·exact wpAny_pyHash_int h
  ·exact wpAny_pyHash_str h
 eqBool := fun hu hv h => by
  rcases keyIs_shape hu with ⟨i, t, rfl, rfl⟩ | ⟨x, t, rfl, rfl⟩
  ·rcases keyIs_shape hv with ⟨j, u, rfl, rfl⟩ | ⟨y, u, rfl, rfl⟩
   ·rw [key_ll] at h; exact wpAny_eqBool_int h
   ·rw [key_lr] at h; exact SeqAt.EqAt.int_str i t y u _ _ _ _ h
  ·rcases keyIs_shape hv with ⟨j, u, rfl, rfl⟩ | ⟨y, u, rfl, rfl⟩
   ·rw [key_rl] at h; exact SeqAt.EqAt.str_int x t j u _ _ _ _ h
   ·rw [key_rr] at h; exact wpAny_eqBool_str h
 «strs» := fun k x t v h => by
  rcases keyIs_shape h with ⟨i, u, rfl, e⟩ | ⟨y, u, rfl, e⟩
  ·exact nomatch e
  ·injection e with e1 _
   subst e1
   cases v <;> rfl
theorem mixKind_int (prog : Program) (w : World) (i : Int) (t : Tok) : (mixKind prog w).is (.inl i) (.int i t) = true := keyIs_int i t
theorem mixKind_str (prog : Program) (w : World) (x : Str) (t : Tok) : (mixKind prog w).is (.inr x) (.str x t) = true := keyIs_str x t
end L2
namespace L2
open PySem PySem.Spec PyProof.Rows
inductive V where
 | non | bl (b : Bool) | int (i : Int) | str (x : Str) | byt (b : Array UInt8) | flt (b : UInt64) | ref (a : Addr) | ty (n : String)
 deriving DecidableEq
def RelV : V -> Value -> Prop
 | .non, u => u = Value.none
 | .bl b, u => u = Value.bool b
 | .int i, u => ∃ t, u = Value.int i t
 | .str x, u => ∃ t, u = Value.str x t
 | .byt b, u => ∃ t, u = Value.bytes b t
 | .flt b, u => ∃ t, u = Value.float b t
 | .ref a, u => u = Value.ref a
 | .ty n, u => u = Value.type n
abbrev Vals : List V -> List Value -> Prop := Paired RelV
theorem Vals.length {xs : List V} {us : List Value} (r : Vals xs us) : xs.length = us.length := Paired.length r
theorem Vals.get : ∀ {xs : List V} {us : List Value} {i : Nat} {x : V}, Vals xs us -> xs[i]? = some x -> ∃ u, us[i]? = some u ∧ RelV x u
 | _, _, _, _, .nil, e => by simp at e
 | _, _, 0, _, .cons r _, e => by simp at e; subst e; exact ⟨_, rfl, r⟩
 | _, _, i + 1, x, .cons _ t, e => by
  obtain ⟨u, h1, h2⟩ := Vals.get (i := i) (x := x) t (by simpa using e)
  exact ⟨u, by simpa using h1, h2⟩
theorem Vals.append : ∀ {xs ys : List V} {us ws : List Value}, Vals xs us -> Vals ys ws -> Vals (xs ++ ys) (us ++ ws)
 | _, _, _, _, .nil, s => s
 | _, _, _, _, .cons r t, s => .cons r (Vals.append t s)
theorem Vals.take : ∀ {xs : List V} {us : List Value} (n : Nat), Vals xs us -> Vals (xs.take n) (us.take n)
 | _, _, 0, _ => .nil
 | _, _, _ + 1, .nil => .nil
 | _, _, n + 1, .cons r t => .cons r (Vals.take n t)
theorem Vals.drop : ∀ {xs : List V} {us : List Value} (n : Nat), Vals xs us -> Vals (xs.drop n) (us.drop n)
 | _, _, 0, r => r
 | _, _, _ + 1, .nil => .nil
 | _, _, n + 1, .cons _ t => Vals.drop n t
def RelO : Option V -> Option Value -> Prop
 | some v, some u => RelV v u
 | none, none => True
 | _, _ => False
def KV {κ : Type} : List (κ × V) -> List (κ × Value) -> Prop := Paired fun (p : κ × V) (q : κ × Value) => p.1 = q.1 ∧ RelV p.2 q.2
def kV : Key -> V
 | .inl i => .int i
 | .inr x => .str x
inductive HO where
  | lst (xs : List V)
  | tup (xs : List V)
  | dK (kvs : List (Key × V)) | dT (kvs : List (List Key × V))
  | set (S : Int -> Bool) (n : Nat)
  | ins (C dx : Addr) (fs : List (Str × V))
  | own (x : Addr)
  | xd (fs : List (Str × V))
  | met (f x : Addr)
  | rng (lo hi : Int)
  | frz (o : Obj) (u : HO)
  | tbl (ps : Array Value)
  | ext (φ : Heap -> Prop)
abbrev Hp := Addr -> Option HO
def upd (H : Hp) (a : Addr) (o : HO) : Hp := fun b => if b = a then some o else H b
theorem upd_same {H : Hp} {a : Addr} {o : HO} : upd H a o a = some o := by unfold upd; rw [if_pos rfl]
theorem upd_ne {H : Hp} {a b : Addr} {o : HO} (h : b ≠ a) : upd H a o b = H b := by unfold upd; rw [if_neg h]
theorem upd_upd {H : Hp} {a : Addr} {o u : HO} : upd (upd H a o) a u = upd H a u := by
 funext b; unfold upd; split <;> rfl
theorem ne_of {H : Hp} {a b : Addr} {o u : HO} (h : H a = some o) (h' : H b = some u) (d : o ≠ u) : a ≠ b := by
 intro e; subst e; rw [h] at h'; exact d (Option.some.inj h')
theorem ne_of_none {H : Hp} {a b : Addr} {o : HO} (h : H a = some o) (h' : H b = none) : a ≠ b := by
 intro e; subst e; rw [h] at h'; cases h'
section
variable (P : Program) (w : World)
def ObjOk (H : Hp) (h : Heap) (a : Addr) : HO -> Prop
 | .lst xs => xs.length <= sizeLine ∧ ∃ (its : List Value) (n : Nat), Vals xs its ∧ h.get? a = some { cls := .type "list", data := .seq its.toArray n }
 | .tup xs => xs.length <= sizeLine ∧ ∃ its : List Value, Vals xs its ∧ IsTup h a its.toArray
 | .dK kvs => kvs.length <= sizeLine ∧ (a == sysModules) = false ∧ ∃ vs, KV kvs vs ∧ h.DictOf (mixKind P w) a vs
 | .dT kvs => kvs.length <= sizeLine ∧ (a == sysModules) = false ∧ ∃ xs : List (List Key × Addr × Value),
   Paired (fun (p : List Key × V) (q : List Key × Addr × Value) => p.1 = q.1 ∧ H q.2.1 = some (.tup (p.1.map kV)) ∧ RelV p.2 q.2.2) kvs xs ∧
   ∃ o es ep, h.get? a = some o ∧ o.ExactDict ∧ o.data = .dict es ep ∧ es.toList = xs.map (entryOfKey (tupleKind (mixKind P w))) ∧ (xs.map (·.1)).Nodup
 | .set S n => h.SetOf (intKind P w) a S n
 | .ins C dx fs => H dx = some (.own a) ∧ fs.length <= 1000 ∧ dx ≠ a ∧ h.get? a = some (PySem.W.instObj C dx) ∧
   ∃ mA, h.Ns1 dx mA ∧ (∀ f, RelO (fs.lookup f) (mA f)) ∧ PySem.Within mA (fs.map (·.1))
 | .own _ => ∃ o, h.get? a = some o
 | .xd fs => ∃ mA, h.Ns1 a mA ∧ ∀ f, RelO (fs.lookup f) (mA f)
 | .rng lo hi => ∃ t u v, h.get? a = some { cls := .type "range", data := .fields #[.int lo t, .int hi u, .int 1 v] }
 | .frz o u => h.get? a = some o ∧ ObjOk H h a u
 | .tbl ps => h.get? a = some { cls := .none, data := .fields ps }
 | .met f x => h.get? a = some (PySem.W.methodObj (.ref f) (.ref x))
 | .ext φ => φ h ∧ (∃ o, h.get? a = some o) ∧ ∀ h1 h2 : Heap, φ h1 -> (∀ o, h1.get? a = some o -> h2.get? a = some o) -> φ h2
def HOk (H : Hp) (h : Heap) : Prop := ∀ a o, H a = some o -> ObjOk P w H h a o
end
section
variable {P : Program} {w : World} {H H' : Hp} {h h' : Heap} {a : Addr} {o : HO}
theorem ObjOk.lt (x : ObjOk P w H h a o) : a < h.objs.size := by
 cases o with
 | lst xs => obtain ⟨_, _, _, _, e⟩ := x; exact Heap.lt_size e
 | tup xs => obtain ⟨_, _, _, p⟩ := x; exact p.lt
 | dK kvs => obtain ⟨_, _, _, _, o, _, _, e, _⟩ := x; exact Heap.lt_size e
 | dT kvs => obtain ⟨_, _, _, _, o, _, _, e, _⟩ := x; exact Heap.lt_size e
 | set S n => obtain ⟨o, _, _, _, e, _⟩ := x; exact Heap.lt_size e
 | ins C dx fs => obtain ⟨_, _, _, e, _⟩ := x; exact Heap.lt_size e
 | own y => obtain ⟨_, e⟩ := x; exact Heap.lt_size e
 | xd fs => obtain ⟨_, ⟨_, _, _, e, _⟩, _⟩ := x; exact Heap.lt_size e
 | rng lo hi => obtain ⟨_, _, _, e⟩ := x; exact Heap.lt_size e
 | frz ob u => obtain ⟨e, _⟩ := x; exact Heap.lt_size e
 | tbl ps => exact Heap.lt_size (show h.get? a = some _ from x)
 | met f y => exact Heap.lt_size (show h.get? a = some _ from x)
 | ext φ => obtain ⟨_, ⟨_, e⟩, _⟩ := x; exact Heap.lt_size e
theorem Paired.mapP {α β : Type} {F G : α -> β -> Prop} : ∀ {l₁ : List α} {l₂ : List β}, Paired F l₁ l₂ -> (∀ a b, F a b -> G a b) -> Paired G l₁ l₂
 | _, _, .nil, _ => .nil
 | _, _, .cons r t, f => .cons (f _ _ r) (Paired.mapP t f)
theorem ObjOk.stay (x : ObjOk P w H h a o) (k : ∀ b u, (b = a ∨ H b = some (.own a)) -> h.get? b = some u -> h'.get? b = some u)
  (ho : ∀ b, H b = some (.own a) -> H' b = some (.own a)) (ht : ∀ b xs, H b = some (.tup xs) -> H' b = some (.tup xs)) : ObjOk P w H' h' a o := by
 induction o with
 | lst xs => obtain ⟨z, its, n, r, e⟩ := x; exact ⟨z, its, n, r, k _ _ (.inl rfl) e⟩
 | tup xs => obtain ⟨z, its, r, ob, e, c⟩ := x; exact ⟨z, its, r, ob, k _ _ (.inl rfl) e, c⟩
 | dK kvs => obtain ⟨z, y, vs, r, ob, es, ep, e, c⟩ := x; exact ⟨z, y, vs, r, ob, es, ep, k _ _ (.inl rfl) e, c⟩
 | dT kvs =>
  obtain ⟨z, y, xs, r, ob, es, ep, e, c⟩ := x
  exact ⟨z, y, xs, Paired.mapP r fun p q z => ⟨z.1, ht _ _ z.2.1, z.2.2⟩, ob, es, ep, k _ _ (.inl rfl) e, c⟩
 | set S n => obtain ⟨ob, es, ep, t, e, c⟩ := x; exact ⟨ob, es, ep, t, k _ _ (.inl rfl) e, c⟩
 | ins C dx fs =>
  obtain ⟨d, z, ne, e, mA, ⟨od, es, ep, e2, c⟩, r⟩ := x
  exact ⟨ho _ d, z, ne, k _ _ (.inl rfl) e, mA, ⟨od, es, ep, k _ _ (.inr d) e2, c⟩, r⟩
 | own y => obtain ⟨ob, e⟩ := x; exact ⟨ob, k _ _ (.inl rfl) e⟩
 | xd fs => obtain ⟨mA, ⟨od, es, ep, e, c⟩, r⟩ := x; exact ⟨mA, ⟨od, es, ep, k _ _ (.inl rfl) e, c⟩, r⟩
 | rng lo hi => obtain ⟨t, u, v, e⟩ := x; exact ⟨t, u, v, k _ _ (.inl rfl) e⟩
 | frz ob u ih => obtain ⟨e, q⟩ := x; exact ⟨k _ _ (.inl rfl) e, ih q⟩
 | tbl ps =>
  have e : h.get? a = some { cls := .none, data := .fields ps } := x
  show h'.get? a = some { cls := .none, data := .fields ps }
  exact k a _ (.inl rfl) e
 | met f y =>
  have e : h.get? a = some (PySem.W.methodObj (.ref f) (.ref y)) := x
  show h'.get? a = some (PySem.W.methodObj (.ref f) (.ref y))
  exact k a _ (.inl rfl) e
 | ext φ => obtain ⟨p, ⟨o, e⟩, st⟩ := x; exact ⟨st _ _ p fun o q => k _ _ (.inl rfl) q, ⟨o, k _ _ (.inl rfl) e⟩, st⟩
theorem HOk.lt (x : HOk P w H h) (e : H a = some o) : a < h.objs.size := (x a o e).lt
theorem HOk.fresh (x : HOk P w H h) (e : h.objs.size <= a) : H a = none := by
 cases q : H a with
 | none => rfl
 | some u => exact absurd (Nat.lt_of_lt_of_le (x.lt q) e) (Nat.lt_irrefl _)
theorem HOk.kept (x : HOk P w H h) (k : ∀ b u, h.get? b = some u -> h'.get? b = some u) : HOk P w H h' := fun a o e =>
 (x a o e).stay (fun b u _ q => k b u q) (fun _ q => q) fun _ _ q => q
theorem HOk.laid (x : HOk P w H h) (k : ∀ b u, h.get? b = some u -> h'.get? b = some u) (hp : h.objs.size <= a) (new : ObjOk P w (upd H a o) h' a o) : HOk P w (upd H a o) h' := fun b u e => by
 have hn := x.fresh hp
 by_cases hb : b = a
 ·subst hb; rw [upd_same] at e; cases e; exact new
 ·rw [upd_ne hb] at e
  exact (x b u e).stay (fun c v _ q => k c v q) (fun c q => by rw [upd_ne (ne_of_none q hn)]; exact q) fun c xs q => by rw [upd_ne (ne_of_none q hn)]; exact q
end
def Rd (H : Hp) (a : Addr) (u : HO) : Prop := H a = some u ∨ ∃ o, H a = some (.frz o u)
theorem Rd.ok {P : Program} {w : World} {H : Hp} {h : Heap} {a : Addr} {u : HO} (r : Rd H a u) (x : HOk P w H h) : ObjOk P w H h a u := by
 rcases r with r | ⟨o, r⟩
 ·exact x a u r
 ·obtain ⟨_, q⟩ := x a _ r
  exact q
def Mut : Option HO -> Prop
 | some (.lst _) => True
 | some (.dK _) => True
 | some (.dT _) => True
 | some (.set _ _) => True
 | some (.ins _ _ _) => True
 | some (.ext _) => True
 | _ => False
section
variable {P : Program} {w : World} {H : Hp} {h h' : Heap} {x e : Addr} {o' : HO}
theorem HOk.write (ok : HOk P w H h) (mu : Mut (H x)) (he : e = x ∨ H e = some (.own x)) (k : ∀ b u, b ≠ e -> h.get? b = some u -> h'.get? b = some u) (heo : ∃ u, h'.get? e = some u)
  (new : ObjOk P w (upd H x o') h' x o') : HOk P w (upd H x o') h' := fun b u q => by
 have nown : ∀ c y, H c = some (.own y) -> c ≠ x := fun c y r z => by subst z; rw [r] at mu; exact mu
 have ntup : ∀ c xs, H c = some (.tup xs) -> c ≠ x := fun c xs r z => by subst z; rw [r] at mu; exact mu
 by_cases hb : b = x
 ·subst hb; rw [upd_same] at q; cases q; exact new
 ·rw [upd_ne hb] at q
  by_cases hbe : b = e
  ·have q' : H b = some (.own x) := by
    rcases he with z | z
    ·exact absurd (hbe.trans z) hb
    ·rw [hbe]; exact z
   rw [q] at q'; cases q'
   obtain ⟨v, hv⟩ := heo
   exact ⟨v, by rw [hbe]; exact hv⟩
  ·refine (ok b u q).stay (fun c v hc r => k c v ?_ r) (fun c r => by rw [upd_ne (nown c b r)]; exact r) fun c xs r => by rw [upd_ne (ntup c xs r)]; exact r
   rcases hc with rfl | hc
   ·exact hbe
   ·rintro rfl
    rcases he with z | z
    ·exact nown c b hc z
    ·rw [hc] at z; cases z; exact hb rfl
end
structure Un (fs ex : List Addr) (H H' : Hp) (h h' : Heap) : Prop where
 keep : ∀ b o, h.get? b = some o -> H b = none -> b ∉ fs -> b ∉ ex -> h'.get? b = some o
 slot : ∀ b o, h.get? b = some o -> H b = none -> b ∈ fs -> b ∉ ex -> ∃ sl, h'.get? b = some { o with slots := sl }
 free : ∀ b o, h.get? b = some o -> H b = none -> b ∉ ex -> H' b = none
 there : ∀ b o, h.get? b = some o -> b ∉ ex -> ∃ o', h'.get? b = some o'
 tups : ∀ b xs, H b = some (.tup xs) -> H' b = some (.tup xs)
 frzs : ∀ b o u, H b = some (.frz o u) -> H' b = some (.frz o u)
 tbls : ∀ b ps, H b = some (.tbl ps) -> ∃ more, H' b = some (.tbl (ps ++ more))
section
variable {fs fs' ex ex' : List Addr} {H H1 H2 : Hp} {h h1 h2 h' : Heap} {a x e : Addr} {o : HO}
theorem Un.any (u : Un fs ex H H1 h h1) {b : Addr} {ob : Obj} (q : h.get? b = some ob) (n : H b = none) (hx : b ∉ ex) : ∃ sl, h1.get? b = some { ob with slots := sl } := by
 by_cases hb : b ∈ fs
 ·exact u.slot b ob q n hb hx
 ·exact ⟨ob.slots, u.keep b ob q n hb hx⟩
theorem Un.trans (a : Un fs ex H H1 h h1) (b : Un fs ex H1 H2 h1 h2) : Un fs ex H H2 h h2 where
 keep := fun c ob q n hc hx => b.keep c ob (a.keep c ob q n hc hx) (a.free c ob q n hx) hc hx
 slot := fun c ob q n hc hx => by
  obtain ⟨sl, e1⟩ := a.slot c ob q n hc hx
  obtain ⟨sl', e2⟩ := b.slot c _ e1 (a.free c ob q n hx) hc hx
  exact ⟨sl', e2⟩
 free := fun c ob q n hx => by
  obtain ⟨o', e1⟩ := a.there c ob q hx
  exact b.free c o' e1 (a.free c ob q n hx) hx
 there := fun c ob q hx => by
  obtain ⟨o', e1⟩ := a.there c ob q hx
  exact b.there c o' e1 hx
 tups := fun c xs q => b.tups c xs (a.tups c xs q)
 frzs := fun c ob xs q => b.frzs c ob xs (a.frzs c ob xs q)
 tbls := fun c ps q => by
  obtain ⟨m1, e1⟩ := a.tbls c ps q
  obtain ⟨m2, e2⟩ := b.tbls c _ e1
  exact ⟨m1 ++ m2, by rw [e2, Array.append_assoc]⟩
theorem Un.kept (k : ∀ b u, h.get? b = some u -> h'.get? b = some u) : Un fs ex H H h h' :=
 ⟨fun b ob q _ _ _ => k b ob q, fun b ob q _ _ _ => ⟨ob.slots, k b ob q⟩, fun _ _ _ n _ => n, fun b ob q _ => ⟨ob, k b ob q⟩, fun _ _ q => q, fun _ _ _ q => q, fun _ ps q => ⟨#[], by rw [q]; simp⟩⟩
theorem Un.refl : Un fs ex H H h h := Un.kept fun _ _ q => q
theorem Un.laid (k : ∀ b u, h.get? b = some u -> h'.get? b = some u) (hp : h.objs.size <= a) (hn : H a = none) : Un fs ex H (upd H a o) h h' where
 keep := fun b u q _ _ _ => k b u q
 slot := fun b u q _ _ _ => ⟨u.slots, k b u q⟩
 free := fun b u q n _ => by rw [upd_ne (Nat.ne_of_lt (Nat.lt_of_lt_of_le (Heap.lt_size q) hp))]; exact n
 there := fun b u q _ => ⟨u, k b u q⟩
 tups := fun b xs q => by rw [upd_ne (ne_of_none q hn)]; exact q
 frzs := fun b u xs q => by rw [upd_ne (ne_of_none q hn)]; exact q
 tbls := fun b ps q => ⟨#[], by rw [upd_ne (ne_of_none q hn), q]; simp⟩
theorem Un.write (mu : Mut (H x)) (he : e = x ∨ H e = some (.own x)) (k : ∀ b u, b ≠ e -> h.get? b = some u -> h'.get? b = some u) (heo : ∃ u, h'.get? e = some u) : Un fs ex H (upd H x o) h h' := by
 have hx : ∀ b, H b = none -> b ≠ x := fun b n z => by subst z; rw [n] at mu; exact mu
 have hb : ∀ b, H b = none -> b ≠ e := fun b n z => by
  subst z
  rcases he with r | r
  ·exact hx b n r
  ·rw [n] at r; cases r
 have hm : ∀ b u, H b = some u -> ¬ Mut (some u) -> b ≠ x := fun b u q nm z => by subst z; rw [q] at mu; exact nm mu
 refine ⟨fun b u q n _ _ => k b u (hb b n) q, fun b u q n _ _ => ⟨u.slots, k b u (hb b n) q⟩, fun b u q n _ => by rw [upd_ne (hx b n)]; exact n, fun b u q _ => ?_,
  fun b xs q => by rw [upd_ne (hm b _ q fun z => z)]; exact q, fun b u xs q => by rw [upd_ne (hm b _ q fun z => z)]; exact q, fun b ps q => ⟨#[], by rw [upd_ne (hm b _ q fun z => z), q]; simp⟩⟩
 by_cases hbe : b = e
 ·subst hbe; exact heo
 ·exact ⟨u, k b u hbe q⟩
end
def trk (h : Heap) (H : Hp) : List Addr := (List.range h.objs.size).filter fun a => (H a).isSome
def hidT (h : Heap) (H : Hp) : Heap := PySem.W.hideAll h (trk h H)
theorem hidT_size (h : Heap) (H : Hp) : (hidT h H).objs.size = h.objs.size := PySem.W.hideAll_size _ _
theorem hidT_get {h : Heap} {H : Hp} {b : Addr} {o : Obj} (e : h.get? b = some o) (n : H b = none) : (hidT h H).get? b = some o :=
 PySem.W.hideAll_get _ e fun hm => by
  have q : (H b).isSome = true := (List.mem_filter.mp hm).2
  rw [n] at q; simp at q
theorem of_hidT {h : Heap} {H : Hp} {b : Addr} {o : Obj} (e : (hidT h H).get? b = some o) : h.get? b = some o ∧ H b = none := by
 have e' : h.get? b = some o := PySem.W.of_hideAll (trk h H) e
 refine ⟨e', ?_⟩
 cases q : H b with
 | none => rfl
 | some x =>
  have hm : b ∈ trk h H := List.mem_filter.mpr ⟨List.mem_range.mpr (Heap.lt_size e'), by simp [q]⟩
  have z : (hidT h H).get? b = none := PySem.W.hideAll_none (trk h H) hm
  rw [z] at e; cases e
def allNews (g h : Heap) (L : Addr) : List (Addr × Obj) := (List.range h.objs.size).filterMap fun a => if a = L ∨ (g.get? a).isSome = true then none else (h.get? a).map fun o => (a, o)
def rest (g h : Heap) (L d : Addr) : List (Addr × Obj) := (allNews g h L).filter fun p => decide (p.1 ≠ d)
end L2
namespace L2
open PySem PySem.Spec PyProof.Rows
structure Mod (K : PySem.W.Frag) (mg : Str -> Option Value) (base : Heap) : Prop where
 kin : K.In base
 glob : base.Ns mainGlobals mg
 blt : ∃ mb, base.Ns builtinsNs mb ∧ ∀ x : Str, x ≠ "__name__" -> mb x = bootBuiltins x
 nolimit : base.NoLimit
structure Cx where
 prog : Program
 w : World
 K : PySem.W.Frag
 mg : Str -> Option Value
 base : Heap
 A : Around
 N : List Str
 s₀ : Shared
 H₀ : Hp
 env : Env
 outer : List Env
 stack : List Env
 ex : List Addr
 fn : Str -> Bool
 calm : Bool
 pn : List (Addr × Obj)
 xe : Value -> Shared -> Prop
def frs (l : List Env) : List Addr := l.filterMap (·.frame)
abbrev Cx.fs (X : Cx) : List Addr := frs X.outer
def Vis (sc : Scope) (x : Str) : Prop := sc.names.lookup x = some .local ∨ sc.names.lookup x = some .cell ∨ sc.names.lookup x = some .free
def Loc (sc : Scope) (x : Str) : Prop := sc.names.lookup x = some .local ∨ sc.names.lookup x = some .cell
def Look (env : Env) (h : Heap) (m : Str -> Option Value) (x : Str) (u : Value) : Prop :=
 (env.kindOf x = some .local ∧ m x = some u) ∨ ((env.kindOf x = some .cell ∨ env.kindOf x = some .free) ∧ ∃ c, env.cells.lookup x = some c ∧ h.IsCell c (some u))
structure Cx.Ok (X : Cx) : Prop where
 mod : Mod X.K X.mg X.base
 kind : X.env.scope.kind = .function
 glob : X.env.globals = mainGlobals
 blt : X.env.builtins = builtinsNs
 above : X.s₀.heap.objs.size <= X.env.locals
 inj : ∀ x y c, X.env.cells.lookup x = some c -> X.env.cells.lookup y = some c -> x = y
 has : ∀ x, (X.env.kindOf x = some .cell ∨ X.env.kindOf x = some .free) -> ∃ c, X.env.cells.lookup x = some c
 cab : ∀ x c, X.fn x = true -> X.env.cells.lookup x = some c -> X.s₀.heap.objs.size <= c
 hd : X.calm = true -> X.A.handled = none
 frames : X.A.frames = some X.stack
 stk : X.stack = X.outer ∨ (X.stack = X.env :: X.outer ∧ X.env.frame = some X.env.locals)
 exf : ∀ b ∈ X.ex, b ≠ X.env.locals ∧ ∀ x c, X.env.cells.lookup x = some c -> c ≠ b
 bs : ∀ b o, X.base.get? b = some o -> X.s₀.heap.get? b = some o ∧ X.H₀ b = none
 bsz : X.base.objs.size <= X.s₀.heap.objs.size
 noex : ∀ b o, X.base.get? b = some o -> b ∉ X.ex
 exfs : ∀ b ∈ X.ex, b ∉ X.fs
 funs : X.s₀.heap.FunFrames X.base X.outer
 frf : ∀ b ∈ X.fs, X.H₀ b = none
structure Inv (X : Cx) (pins : List (Addr × Obj)) (σ : List (Option V)) (H : Hp) (s : Shared) : Prop where
 ok : X.Ok
 os : s.os = X.s₀.os
 bare : AllBare s.gens
 base : Un X.fs X.ex X.H₀ H X.s₀.heap s.heap
 loc : ∃ m, s.heap.Ns X.env.locals m ∧ ∀ (i : Nat) (x : Str) (v : V), X.N[i]? = some x -> σ[i]? = some (some v) -> Vis X.env.scope x -> ∃ u, RelV v u ∧ Look X.env s.heap m x u
 cell : ∀ x c, X.env.cells.lookup x = some c -> ∃ v, s.heap.IsCell c v
 free : H X.env.locals = none
 freeC : ∀ x c, X.env.cells.lookup x = some c -> H c = none
 pin : ∀ p ∈ X.pn ++ pins, s.heap.get? p.1 = some p.2 ∧ H p.1 = none ∧ p.1 ≠ X.env.locals ∧ p.1 ∉ X.fs ∧ ∀ v, p.2.data ≠ .cell v
 hok : HOk X.prog X.w H s.heap
 len : σ.length = X.N.length
section
variable {X : Cx} {pins : List (Addr × Obj)} {σ : List (Option V)} {H H' : Hp} {s : Shared} {h' : Heap}
theorem Cx.Ok.nofr (ok : X.Ok) {b : Addr} {o : Obj} (e : X.base.get? b = some o) : b ∉ X.fs := fun hb => by
 have := (ok.funs.mem hb).1
 rw [e] at this; cases this
theorem Inv.bs (I : Inv X pins σ H s) : ∀ b o, X.base.get? b = some o -> s.heap.get? b = some o ∧ H b = none := fun b o e =>
 ⟨I.base.keep b o (I.ok.bs b o e).1 (I.ok.bs b o e).2 (I.ok.nofr e) (I.ok.noex b o e), I.base.free b o (I.ok.bs b o e).1 (I.ok.bs b o e).2 (I.ok.noex b o e)⟩
theorem Inv.bk (I : Inv X pins σ H s) : ∀ b o, X.base.get? b = some o -> s.heap.get? b = some o := fun b o e => (I.bs b o e).1
theorem Inv.mod (I : Inv X pins σ H s) : Mod X.K X.mg X.base := I.ok.mod
theorem Inv.kIn (I : Inv X pins σ H s) : X.K.In s.heap := I.ok.mod.kin.keeps I.bk
theorem Inv.lt (I : Inv X pins σ H s) : X.env.locals < s.heap.objs.size := let ⟨_, hn, _⟩ := I.loc; hn.lt
theorem Inv.sz (I : Inv X pins σ H s) : X.s₀.heap.objs.size <= s.heap.objs.size := Nat.le_trans I.ok.above (Nat.le_of_lt I.lt)
theorem Inv.nofs (I : Inv X pins σ H s) {a : Addr} (h : s.heap.objs.size <= a) : a ∉ X.fs := fun hb => by
 obtain ⟨_, o, ho, _⟩ := I.ok.funs.mem hb
 exact absurd (Nat.lt_of_lt_of_le (Heap.lt_size ho) (Nat.le_trans I.sz h)) (Nat.lt_irrefl _)
theorem Inv.cne (I : Inv X pins σ H s) : ∀ x c, X.env.cells.lookup x = some c -> c ≠ X.env.locals := fun x c e z => by
 obtain ⟨v, o, ho, hd⟩ := I.cell x c e
 obtain ⟨m, ⟨o', es, ep, ho', hd', _⟩, _⟩ := I.loc
 rw [z, ho'] at ho; cases ho; rw [hd'] at hd; cases hd
theorem Inv.funs (I : Inv X pins σ H s) : s.heap.FunFrames X.base X.outer := by
 have all : ∀ (l : List Env), (∀ b ∈ frs l, b ∈ X.fs) -> X.s₀.heap.FunFrames X.base l -> s.heap.FunFrames X.base l := by
  intro l
  induction l with
  | nil => intro _ _; trivial
  | cons env r ih =>
   intro hs hl
   obtain ⟨hk, ⟨L, o, hf, hn, ho, hd⟩, hr⟩ := hl
   have hL : L ∈ X.fs := hs L (by unfold frs; rw [List.filterMap_cons, hf]; exact List.mem_cons_self)
   obtain ⟨sl, e⟩ := I.base.slot L o ho (I.ok.frf L hL) hL fun z => I.ok.exfs L z hL
   exact ⟨hk, ⟨L, _, hf, hn, e, hd⟩, ih (fun b hb => hs b (by unfold frs; rw [List.filterMap_cons, hf]; exact List.mem_cons_of_mem _ hb)) hr⟩
 exact all X.outer (fun _ hb => hb) I.ok.funs
theorem Inv.stack (I : Inv X pins σ H s) : s.heap.FunFrames X.base X.stack := by
 rcases I.ok.stk with e | ⟨e, hf⟩
 ·rw [e]; exact I.funs
 ·rw [e]
  obtain ⟨m, hn, _⟩ := I.loc
  refine .cons (by rw [I.ok.kind]; decide) hf hn ?_ I.funs
  exact Heap.get?_none_of_le (Nat.le_trans I.ok.bsz I.ok.above)
theorem Inv.stkSub (I : Inv X pins σ H s) : ∀ b ∈ frs X.stack, b ∈ X.env.locals :: X.fs := fun b hb => by
 rcases I.ok.stk with e | ⟨e, hf⟩
 ·rw [e] at hb; exact List.mem_cons_of_mem _ hb
 ·rw [e] at hb
  unfold frs at hb
  rw [List.filterMap_cons, hf] at hb
  exact hb
theorem Inv.stkFree (I : Inv X pins σ H s) : ∀ b ∈ frs X.stack, H b = none := fun b hb => by
 rcases List.mem_cons.mp (I.stkSub b hb) with e | hb
 ·rw [e]; exact I.free
 ·obtain ⟨_, o, ho, _⟩ := I.ok.funs.mem hb
  exact I.base.free b o ho (I.ok.frf b hb) fun z => I.ok.exfs b z hb
theorem Inv.step {g' : Array GenState} {t' : Nat} {d' : Drawn} {ch : List Addr} (I : Inv X pins σ H s)
  (hch : ∀ b ∈ ch, (b ∈ X.ex ∨ X.s₀.heap.objs.size <= b) ∧ b ≠ X.env.locals ∧ (∀ x c, X.env.cells.lookup x = some c -> c ≠ b) ∧ ∀ p ∈ X.pn ++ pins, p.1 ≠ b)
  (keep : ∀ b o, b ≠ X.env.locals -> b ∉ X.fs -> b ∉ ch -> s.heap.get? b = some o -> H b = none -> h'.get? b = some o)
  (slot : ∀ b o, b ≠ X.env.locals -> b ∈ X.fs -> b ∉ ch -> s.heap.get? b = some o -> H b = none -> ∃ sl, h'.get? b = some { o with slots := sl }) (free : ∀ b o, b ∉ ch -> s.heap.get? b = some o -> H b = none -> H' b = none)
  (there : ∀ b o, b ∉ ch -> s.heap.get? b = some o -> ∃ o', h'.get? b = some o')
  (tups : ∀ b xs, H b = some (.tup xs) -> H' b = some (.tup xs)) (frzs : ∀ b o u, H b = some (.frz o u) -> H' b = some (.frz o u)) (tbls : ∀ b ps, H b = some (.tbl ps) -> ∃ more, H' b = some (.tbl (ps ++ more)))
  (ns : ∀ m, s.heap.Ns X.env.locals m -> h'.Ns X.env.locals m) (hok : HOk X.prog X.w H' h') (hg : AllBare g') :
  Inv X pins σ H' { s with heap := h', gens := g', drawn := d', toks := t' } := by
 have neL : ∀ b o, X.s₀.heap.get? b = some o -> b ≠ X.env.locals := fun b o e => Nat.ne_of_lt (Nat.lt_of_lt_of_le (Heap.lt_size e) I.ok.above)
 have neC : ∀ b o, X.s₀.heap.get? b = some o -> b ∉ X.ex -> b ∉ ch := fun b o e hx hb => by
  rcases (hch b hb).1 with z | z
  ·exact hx z
  ·exact absurd (Nat.lt_of_lt_of_le (Heap.lt_size e) z) (Nat.lt_irrefl _)
 have cellK : ∀ x c, X.env.cells.lookup x = some c -> ∀ v, s.heap.IsCell c v -> h'.IsCell c v := fun x c e v ⟨o, ho, hd⟩ => by
  have nch : c ∉ ch := fun z => (hch c z).2.2.1 x c e rfl
  by_cases hc : c ∈ X.fs
  ·obtain ⟨sl, q⟩ := slot c o (I.cne x c e) hc nch ho (I.freeC x c e)
   exact ⟨_, q, hd⟩
  ·exact ⟨o, keep c o (I.cne x c e) hc nch ho (I.freeC x c e), hd⟩
 refine ⟨I.ok, I.os, hg, ⟨fun b o e n hb hx => ?_, fun b o e n hb hx => ?_, fun b o e n hx => ?_, fun b o e hx => ?_, fun b xs e => tups b xs (I.base.tups b xs e), fun b o xs e => frzs b o xs (I.base.frzs b o xs e), fun b ps e => ?_⟩, ?_, fun x c e => ?_, ?_, fun x c e => ?_, fun p hp => ?_, hok, I.len⟩
 ·exact keep b o (neL b o e) hb (neC b o e hx) (I.base.keep b o e n hb hx) (I.base.free b o e n hx)
 ·obtain ⟨sl, e1⟩ := I.base.slot b o e n hb hx
  obtain ⟨sl', e2⟩ := slot b _ (neL b o e) hb (neC b o e hx) e1 (I.base.free b o e n hx)
  exact ⟨sl', e2⟩
 ·obtain ⟨o', e1⟩ := I.base.there b o e hx
  exact free b o' (neC b o e hx) e1 (I.base.free b o e n hx)
 ·obtain ⟨o', e1⟩ := I.base.there b o e hx
  exact there b o' (neC b o e hx) e1
 ·obtain ⟨m1, e1⟩ := I.base.tbls b ps e
  obtain ⟨m2, e2⟩ := tbls b _ e1
  exact ⟨m1 ++ m2, by rw [e2, Array.append_assoc]⟩
 ·obtain ⟨m, hn, hl⟩ := I.loc
  refine ⟨m, ns m hn, fun i x v e1 e2 e3 => ?_⟩
  obtain ⟨u, r, l⟩ := hl i x v e1 e2 e3
  refine ⟨u, r, ?_⟩
  rcases l with l | ⟨k, c, e, z⟩
  ·exact .inl l
  ·exact .inr ⟨k, c, e, cellK x c e _ z⟩
 ·obtain ⟨v, z⟩ := I.cell x c e
  exact ⟨v, cellK x c e v z⟩
 ·obtain ⟨m, ⟨o, _, _, ho, _⟩, _⟩ := I.loc
  exact free _ o (fun z => (hch _ z).2.1 rfl) ho I.free
 ·obtain ⟨v, o, ho, hd⟩ := I.cell x c e
  exact free c o (fun z => (hch c z).2.2.1 x c e rfl) ho (I.freeC x c e)
 ·obtain ⟨e, n, ne, nf, d⟩ := I.pin p hp
  have nch : p.1 ∉ ch := fun z => (hch p.1 z).2.2.2 p hp rfl
  exact ⟨keep p.1 p.2 ne nf nch e n, free p.1 p.2 nch e n, ne, nf, d⟩
theorem Inv.un {t' : Nat} (I : Inv X pins σ H s) (u : Un X.fs [] H H' s.heap h') (hok : HOk X.prog X.w H' h') : Inv X pins σ H' { s with heap := h', toks := t' } := by
 obtain ⟨m, ⟨o, es, ep, ho, r⟩, _⟩ := id I.loc
 obtain ⟨sl, hL⟩ := u.any ho I.free (by simp)
 exact I.step (g' := s.gens) (d' := s.drawn) (ch := []) (fun _ z => nomatch z) (fun b o _ hb _ e n => u.keep b o e n hb (by simp)) (fun b o _ hb _ e n => u.slot b o e n hb (by simp)) (fun b o _ e n => u.free b o e n (by simp)) (fun b o _ e => u.there b o e (by simp)) u.tups u.frzs u.tbls (fun m' hm => by
  obtain ⟨o', es', ep', ho', r'⟩ := hm
  rw [ho] at ho'; cases ho'
  exact ⟨_, es', ep', hL, r'⟩) hok I.bare
theorem Inv.call {g' : Array GenState} {t' : Nat} {d' : Drawn} {ch : List Addr} (I : Inv X pins σ H s) (u : Un (frs X.stack) ch H H' s.heap h') (hok : HOk X.prog X.w H' h') (hg : AllBare g')
  (hch : ∀ b ∈ ch, (b ∈ X.ex ∨ X.s₀.heap.objs.size <= b) ∧ b ≠ X.env.locals ∧ (∀ x c, X.env.cells.lookup x = some c -> c ≠ b) ∧ ∀ p ∈ X.pn ++ pins, p.1 ≠ b) :
  Inv X pins σ H' { s with heap := h', gens := g', drawn := d', toks := t' } := by
 obtain ⟨m, ⟨o, es, ep, ho, r⟩, _⟩ := id I.loc
 obtain ⟨sl, hL⟩ := u.any ho I.free fun z => (hch _ z).2.1 rfl
 exact I.step (ch := ch) hch (fun b o hL hb hc e n => u.keep b o e n (fun z => (List.mem_cons.mp (I.stkSub b z)).elim hL hb) hc) (fun b o _ _ hc e n => u.any e n hc) (fun b o hc e n => u.free b o e n hc) (fun b o hc e => u.there b o e hc) u.tups u.frzs u.tbls (fun m' hm => by
  obtain ⟨o', es', ep', ho', r'⟩ := hm
  rw [ho] at ho'; cases ho'
  exact ⟨_, es', ep', hL, r'⟩) hok hg
theorem Inv.turned {t' : Nat} {it : Addr} (I : Inv X pins σ H s) (k : ∀ b o, b ≠ it -> s.heap.get? b = some o -> h'.get? b = some o) (hn : H it = none) (hL : it ≠ X.env.locals)
  (h1 : it ∈ X.ex ∨ X.s₀.heap.objs.size <= it) (h2 : ∀ x c, X.env.cells.lookup x = some c -> c ≠ it) (h3 : ∀ p ∈ X.pn ++ pins, p.1 ≠ it) : Inv X pins σ H { s with heap := h', toks := t' } := by
 have nit : ∀ b u, H b = some u -> b ≠ it := fun b u e z => by rw [z, hn] at e; cases e
 refine I.step (g' := s.gens) (d' := s.drawn) (ch := [it]) (fun b hb => ?_) (fun b o _ _ hc e _ => k b o (fun z => hc (by simp [z])) e) (fun b o _ _ hc e _ => ⟨o.slots, k b o (fun z => hc (by simp [z])) e⟩) (fun _ _ _ _ n => n)
  (fun b o hc e => ⟨o, k b o (fun z => hc (by simp [z])) e⟩) (fun _ _ e => e) (fun _ _ _ e => e) (fun b ps e => ⟨#[], by rw [e]; simp⟩) (fun m hm => ?_) (fun b u e => ?_) I.bare
 ·have e : b = it := by simpa using hb
  subst e
  exact ⟨h1, hL, h2, h3⟩
 ·obtain ⟨o, es, ep, ho, r⟩ := hm
  exact ⟨o, es, ep, k _ o (Ne.symm hL) ho, r⟩
 ·refine (I.hok b u e).stay (fun c v hc q => k c v ?_ q) (fun _ q => q) fun _ _ q => q
  rcases hc with z | z
  ·rw [z]; exact nit b u e
  ·exact nit c _ z
theorem Inv.tok (I : Inv X pins σ H s) (t : Nat) : Inv X pins σ H { s with toks := t } := I.un (h' := s.heap) (t' := t) Un.refl I.hok
theorem Inv.kept {t' : Nat} (I : Inv X pins σ H s) (k : ∀ b u, s.heap.get? b = some u -> h'.get? b = some u) : Inv X pins σ H { s with heap := h', toks := t' } := I.un (Un.kept k) (I.hok.kept k)
theorem Inv.laid {a : Addr} {o : HO} {t' : Nat} (I : Inv X pins σ H s) (k : ∀ b u, s.heap.get? b = some u -> h'.get? b = some u) (hp : s.heap.objs.size <= a) (new : ObjOk X.prog X.w (upd H a o) h' a o) :
  Inv X pins σ (upd H a o) { s with heap := h', toks := t' } := I.un (Un.laid k hp (I.hok.fresh hp)) (I.hok.laid k hp new)
theorem Inv.write {x e : Addr} {o : HO} {t' : Nat} (I : Inv X pins σ H s) (mu : Mut (H x)) (he : e = x ∨ H e = some (.own x)) (k : ∀ b u, b ≠ e -> s.heap.get? b = some u -> h'.get? b = some u) (heo : ∃ u, h'.get? e = some u)
  (new : ObjOk X.prog X.w (upd H x o) h' x o) : Inv X pins σ (upd H x o) { s with heap := h', toks := t' } := I.un (Un.write mu he k heo) (I.hok.write mu he k heo new)
theorem Inv.pins_of {pins' : List (Addr × Obj)} (I : Inv X pins σ H s) (h : ∀ p ∈ pins', s.heap.get? p.1 = some p.2 ∧ H p.1 = none ∧ p.1 ≠ X.env.locals ∧ p.1 ∉ X.fs ∧ ∀ v, p.2.data ≠ .cell v) : Inv X pins' σ H s :=
 ⟨I.ok, I.os, I.bare, I.base, I.loc, I.cell, I.free, I.freeC, fun p hp => (List.mem_append.mp hp).elim (fun z => I.pin p (List.mem_append_left _ z)) (h p), I.hok, I.len⟩
theorem nodup_ix {N : List Str} (hN : N.Nodup) {i j : Nat} {x : Str} (a : N[i]? = some x) (b : N[j]? = some x) : i = j := by
 obtain ⟨h1, e1⟩ := List.getElem?_eq_some_iff.mp a
 obtain ⟨h2, e2⟩ := List.getElem?_eq_some_iff.mp b
 exact (List.getElem_inj hN).mp (e1.trans e2.symm)
theorem store_ok2 {M : Model} {A : Around} {E : Value -> Shared -> Prop} {i : Nat} {x : Str} {v : V} {u : Value} {Q : Unit -> Shared -> Prop} (I : Inv X pins σ H s) (hN : X.N.Nodup) (hi : X.N[i]? = some x) (hx : Loc X.env.scope x) (r : RelV v u)
  (h : ∀ s', Inv X pins (σ.set i (some v)) H s' -> (∃ a, Heap.SameBut a s.heap s'.heap ∧ (a = X.env.locals ∨ X.env.cells.lookup x = some a)) -> Q () s') (hf : X.fn x = true ∨ X.env.scope.names.lookup x = some .local := by first | exact .inl rfl | exact .inr rfl | assumption) : wpAny M A (storeName X.env x u) Q E s := by
 obtain ⟨m, hn, hl⟩ := id I.loc
 have hcls : (X.env.scope.kind == .class || (X.env.scope.kind == .module && X.env.locals != X.env.globals)) = false := by rw [I.ok.kind]; rfl
 have hiσ : i < σ.length := by rw [I.len]; exact (List.getElem?_eq_some_iff.mp hi).1
 have cne := I.cne
 have tracked : ∀ {a : Addr} {h' : Heap}, (∃ o, s.heap.get? a = some o ∧ H a = none) -> Heap.SameBut a s.heap h' -> HOk X.prog X.w H h' := fun {a h'} ha hs b ob e => by
  obtain ⟨_, _, hfree⟩ := ha
  refine (I.hok b ob e).stay (fun c w' hc q => (hs.2 c ?_).trans q) (fun _ q => q) fun _ _ q => q
  rintro rfl
  rcases hc with rfl | hc
  ·rw [hfree] at e; cases e
  ·rw [hfree] at hc; cases hc
 rcases hx with hk | hk
 ·refine wpAny_storeName_local hk hn (fun h' hn' hs => ?_) hcls
  obtain ⟨oL, _, _, hoL, _⟩ := id hn
  refine h _ ⟨I.ok, I.os, I.bare, ⟨fun b o e n hb hx => ?_, fun b o e n hb hx => ?_, I.base.free, fun b o e hx => ?_, I.base.tups, I.base.frzs, I.base.tbls⟩, ⟨_, hn', fun j y v' e1 e2 e3 => ?_⟩, fun y c e => ?_, I.free, I.freeC, fun p hp => ?_, tracked ⟨oL, hoL, I.free⟩ hs, by simpa using I.len⟩ ⟨_, hs, .inl rfl⟩
  ·exact (hs.2 b (Nat.ne_of_lt (Nat.lt_of_lt_of_le (Heap.lt_size e) I.ok.above))).trans (I.base.keep b o e n hb hx)
  ·obtain ⟨sl, e1⟩ := I.base.slot b o e n hb hx
   exact ⟨sl, (hs.2 b (Nat.ne_of_lt (Nat.lt_of_lt_of_le (Heap.lt_size e) I.ok.above))).trans e1⟩
  ·obtain ⟨o', e1⟩ := I.base.there b o e hx
   exact ⟨o', (hs.2 b (Nat.ne_of_lt (Nat.lt_of_lt_of_le (Heap.lt_size e) I.ok.above))).trans e1⟩
  ·by_cases hj : j = i
   ·subst hj
    rw [hi] at e1; cases e1
    rw [List.getElem?_set_self hiσ] at e2
    cases e2
    exact ⟨u, r, .inl ⟨hk, by simp⟩⟩
   ·rw [List.getElem?_set_ne (Ne.symm hj)] at e2
    obtain ⟨u', r', q⟩ := hl j y v' e1 e2 e3
    refine ⟨u', r', ?_⟩
    rcases q with ⟨k, e⟩ | ⟨k, c, e, z⟩
    ·refine .inl ⟨k, ?_⟩
     have : y ≠ x := fun e => hj (nodup_ix hN e1 (e ▸ hi))
     simp [this, e]
    ·exact .inr ⟨k, c, e, z.sameBut hs (cne y c e)⟩
  ·obtain ⟨w', z⟩ := I.cell y c e
   exact ⟨w', z.sameBut hs (cne y c e)⟩
  ·obtain ⟨e, n, ne, nf, d⟩ := I.pin p hp
   exact ⟨(hs.2 p.1 ne).trans e, n, ne, nf, d⟩
 ·have hfn : X.fn x = true := by
   rcases hf with z | z
   ·exact z
   ·rw [z] at hk; cases hk
  obtain ⟨c, hc⟩ := I.ok.has x (.inl hk)
  obtain ⟨w', z⟩ := I.cell x c hc
  refine wpAny_storeName_cell I.ok.kind hk hc z (fun h' hc' hs => ?_)
  obtain ⟨oc, hoc, hocd⟩ := id z
  refine h { s with heap := h' } ⟨I.ok, I.os, I.bare, ⟨fun b o e n hb hx => ?_, fun b o e n hb hx => ?_, I.base.free, fun b o e hx => ?_, I.base.tups, I.base.frzs, I.base.tbls⟩, ⟨m, hn.sameBut hs (Ne.symm (cne x c hc)), fun j y v' e1 e2 e3 => ?_⟩, fun y c' e => ?_, I.free, I.freeC, fun p hp => ?_, tracked ⟨oc, hoc, I.freeC x c hc⟩ hs, by simpa using I.len⟩ ⟨c, hs, .inr hc⟩
  ·exact (hs.2 b (Nat.ne_of_lt (Nat.lt_of_lt_of_le (Heap.lt_size e) (I.ok.cab x c hfn hc)))).trans (I.base.keep b o e n hb hx)
  ·obtain ⟨sl, e1⟩ := I.base.slot b o e n hb hx
   exact ⟨sl, (hs.2 b (Nat.ne_of_lt (Nat.lt_of_lt_of_le (Heap.lt_size e) (I.ok.cab x c hfn hc)))).trans e1⟩
  ·obtain ⟨o', e1⟩ := I.base.there b o e hx
   exact ⟨o', (hs.2 b (Nat.ne_of_lt (Nat.lt_of_lt_of_le (Heap.lt_size e) (I.ok.cab x c hfn hc)))).trans e1⟩
  ·by_cases hj : j = i
   ·subst hj
    rw [hi] at e1; cases e1
    rw [List.getElem?_set_self hiσ] at e2
    cases e2
    exact ⟨u, r, .inr ⟨.inl hk, c, hc, hc'⟩⟩
   ·rw [List.getElem?_set_ne (Ne.symm hj)] at e2
    obtain ⟨u', r', q⟩ := hl j y v' e1 e2 e3
    refine ⟨u', r', ?_⟩
    rcases q with q | ⟨k, c', e, z'⟩
    ·exact .inl q
    ·refine .inr ⟨k, c', e, z'.sameBut hs ?_⟩
     rintro rfl
     exact hj (nodup_ix hN e1 (I.ok.inj _ _ _ e hc ▸ hi))
  ·by_cases hcc : c' = c
   ·subst hcc; exact ⟨_, hc'⟩
   ·obtain ⟨w2, z2⟩ := I.cell y c' e
    exact ⟨w2, z2.sameBut hs hcc⟩
  ·obtain ⟨e, n, ne, nf, d⟩ := I.pin p hp
   refine ⟨(hs.2 p.1 ?_).trans e, n, ne, nf, d⟩
   intro q
   rw [q, hoc] at e
   have q' : oc = p.2 := Option.some.inj e
   exact d w' (by rw [← q']; exact hocd)
theorem store_ok {M : Model} {A : Around} {E : Value -> Shared -> Prop} {i : Nat} {x : Str} {v : V} {u : Value} {Q : Unit -> Shared -> Prop} (I : Inv X pins σ H s) (hN : X.N.Nodup) (hi : X.N[i]? = some x) (hx : Loc X.env.scope x) (r : RelV v u)
  (h : ∀ s', Inv X pins (σ.set i (some v)) H s' -> Q () s') (hf : X.fn x = true ∨ X.env.scope.names.lookup x = some .local := by first | exact .inl rfl | exact .inr rfl | assumption) : wpAny M A (storeName X.env x u) Q E s :=
 store_ok2 I hN hi hx r (fun s' I' _ => h s' I') hf
theorem Inv.call' {s' : Shared} {ch : List Addr} (I : Inv X pins σ H s) (ho : s'.os = s.os) (u : Un (frs X.stack) ch H H' s.heap s'.heap) (hok : HOk X.prog X.w H' s'.heap) (hg : AllBare s'.gens)
  (hch : ∀ b ∈ ch, (b ∈ X.ex ∨ X.s₀.heap.objs.size <= b) ∧ b ≠ X.env.locals ∧ (∀ x c, X.env.cells.lookup x = some c -> c ≠ b) ∧ ∀ p ∈ X.pn ++ pins, p.1 ≠ b) : Inv X pins σ H' s' := by
 obtain ⟨h', g', d', t', o'⟩ := s'
 have e : o' = s.os := ho
 subst e
 exact I.call (g' := g') (t' := t') (d' := d') u hok hg hch
end
abbrev XK := Value -> Option Addr -> Hp -> Prop
abbrev St := List (Option V)
abbrev VK := V -> Hp -> Prop
abbrev TE := St -> Hp -> VK -> Prop
abbrev TT := St -> Hp -> (Bool -> Hp -> Prop) -> Prop
abbrev TA := St -> Hp -> (List V -> Hp -> Prop) -> Prop
structure Ends where
 nx : St -> Hp -> Prop
 rt : VK
 bk : St -> Hp -> Prop := fun _ _ => False
 ct : St -> Hp -> Prop := fun _ _ => False
abbrev TS := Ends -> St -> Hp -> Prop
def EP (X : Cx) (pins : List (Addr × Obj)) (σ : St) (Q : VK) (u : Value) (s' : Shared) : Prop := ∃ v H', Inv X pins σ H' s' ∧ RelV v u ∧ Q v H'
def TP (X : Cx) (pins : List (Addr × Obj)) (σ : St) (Q : Bool -> Hp -> Prop) (b : Bool) (s' : Shared) : Prop := ∃ H', Inv X pins σ H' s' ∧ Q b H'
def AP (X : Cx) (pins : List (Addr × Obj)) (σ : St) (Q : List V -> Hp -> Prop) (us : List Value) (s' : Shared) : Prop := ∃ vs H', Inv X pins σ H' s' ∧ Vals vs us ∧ Q vs H'
def SP (X : Cx) (pins : List (Addr × Obj)) (D : Ends) (f : Flow) (s' : Shared) : Prop :=
 match f with
 | .next => ∃ σ' H', Inv X pins σ' H' s' ∧ D.nx σ' H'
 | .brk => ∃ σ' H', Inv X pins σ' H' s' ∧ D.bk σ' H'
 | .cont => ∃ σ' H', Inv X pins σ' H' s' ∧ D.ct σ' H'
 | .ret u => ∃ v σ' H', Inv X pins σ' H' s' ∧ RelV v u ∧ D.rt v H'
def PE (X : Cx) (e : Expr) (t : TE) : Prop :=
 ∀ (pins : List (Addr × Obj)) (s : Shared) (σ : St) (H : Hp) (Q : VK), Inv X pins σ H s -> t σ H Q -> wpAny (model X.prog X.w) X.A (eval e X.env) (EP X pins σ Q) X.xe s
def PT (X : Cx) (e : Expr) (t : TT) : Prop :=
 ∀ (pins : List (Addr × Obj)) (s : Shared) (σ : St) (H : Hp) (Q : Bool -> Hp -> Prop), Inv X pins σ H s -> t σ H Q -> wpAny (model X.prog X.w) X.A (isTrue e X.env (eval e X.env)) (TP X pins σ Q) X.xe s
def PW (X : Cx) (e : Expr) (t : TT) : Prop :=
 ∀ (whole : Sem Value) (pins : List (Addr × Obj)) (s : Shared) (σ : St) (H : Hp) (Q : Bool -> Hp -> Prop), Inv X pins σ H s -> t σ H Q -> wpAny (model X.prog X.w) X.A (isTrue e X.env whole) (TP X pins σ Q) X.xe s
theorem PW.pt {X : Cx} {e : Expr} {t : TT} (h : PW X e t) : PT X e t := h _
def PA (X : Cx) (es : List Expr) (t : TA) : Prop :=
 ∀ (pos : Pos) (pins : List (Addr × Obj)) (s : Shared) (σ : St) (H : Hp) (Q : List V -> Hp -> Prop), Inv X pins σ H s -> t σ H Q -> wpAny (model X.prog X.w) X.A (spliced (backTo pos (starEach es X.env))) (AP X pins σ Q) X.xe s
def PS (X : Cx) (st : Stmt) (t : TS) : Prop :=
 ∀ (pins : List (Addr × Obj)) (s : Shared) (σ : St) (H : Hp) (D : Ends), Inv X pins σ H s -> t D σ H -> wpAny (model X.prog X.w) X.A (exec st X.env) (SP X pins D) X.xe s
def PSs (X : Cx) (st : List Stmt) (t : TS) : Prop :=
 ∀ (pins : List (Addr × Obj)) (s : Shared) (σ : St) (H : Hp) (D : Ends), Inv X pins σ H s -> t D σ H -> wpAny (model X.prog X.w) X.A (execs st X.env) (SP X pins D) X.xe s
theorem thn {α : Type} {t : Sem α} {Q Q' : α -> Shared -> Prop} {M : Model} {A : Around} {E : Value -> Shared -> Prop} {s : Shared} (h : wpAny M A t Q E s) (hQ : ∀ a s, Q a s -> Q' a s) : wpAny M A t Q' E s := wpAny_mono h hQ fun _ _ x => x
end L2
namespace L2
open PySem PySem.Spec PyProof.Rows
section
variable {X : Cx}
theorem bin {a b : Expr} {ta tb : TE} (ha : PE X a ta) (hb : PE X b tb) {pins : List (Addr × Obj)} {s : Shared} {σ : St} {H : Hp} {R : V -> V -> Hp -> Prop} (I : Inv X pins σ H s) (h : ta σ H fun x H1 => tb σ H1 fun y H2 => R x y H2)
  {α : Type} {Q : α -> Shared -> Prop} {f : Value -> Value -> Sem α}
  (hf : ∀ v u s2 x y H2, Inv X pins σ H2 s2 -> RelV x v -> RelV y u -> R x y H2 -> wpAny (model X.prog X.w) X.A (f v u) Q X.xe s2) :
  wpAny (model X.prog X.w) X.A (eval a X.env) (fun v s₁ => wpAny (model X.prog X.w) X.A (eval b X.env) (fun u s₂ => wpAny (model X.prog X.w) X.A (f v u) Q X.xe s₂) X.xe s₁) X.xe s := by
 refine thn (ha pins s σ H _ I h) fun v s1 ⟨x, H1, I1, r1, q1⟩ => ?_
 refine thn (hb pins s1 σ H1 _ I1 q1) fun u s2 ⟨y, H2, I2, r2, q2⟩ => ?_
 exact hf v u s2 x y H2 I2 r1 r2 q2
def tVar (i : Nat) : TE := fun σ H Q => ∃ v, σ[i]? = some (some v) ∧ Q v H
def tC (v : V) : TE := fun _ H Q => Q v H
theorem pe_var {i : Nat} {x : Str} {pos : Pos} (hN : X.N[i]? = some x) (hv : Vis X.env.scope x) (hd : (x == ("__debug__" : Str)) = false := by decide) (hcd : (x == ("__classdict__" : Str)) = false := by decide) : PE X (.Name x pos) (tVar i) := by
 intro pins s σ H Q I h
 obtain ⟨v, e, h⟩ := h
 obtain ⟨m, hn, hl⟩ := I.loc
 obtain ⟨u, r, l⟩ := hl i x v hN e hv
 have fin : EP X pins σ Q u s := ⟨v, H, I, r, h⟩
 rcases l with ⟨hk, hm⟩ | ⟨hk, c, hc, hcell⟩
 ·exact wpAny_Name (wpAny_loadName_local I.ok.kind hk hn hm fin) hd
 ·rcases hk with hk | hk
  ·exact wpAny_Name (wpAny_loadName_cell I.ok.kind hk hc hcell fin) hd
  ·exact wpAny_Name (wpAny_loadName_free I.ok.kind hk hc hcell fin hcd) hd
theorem pe_int {i j pos} : PE X (.Constant (.int i) j pos) (tC (.int i)) := fun _ _ _ H _ I h => wpAny_Constant_int ⟨.int i, H, I.tok _, ⟨_, rfl⟩, h⟩
theorem pe_bl {b j pos} : PE X (.Constant (.bool b) j pos) (tC (.bl b)) := fun _ _ _ H _ I h => Constant_bool ⟨.bl b, H, I, rfl, h⟩
theorem pe_str {x j pos} : PE X (.Constant (.str x) j pos) (tC (.str x)) := fun _ _ _ H _ I h => Calls.Constant_str ⟨.str x, H, I.tok _, ⟨_, rfl⟩, h⟩
def Gl (X : Cx) (x : Str) : Prop := X.env.kindOf x = some .globalImplicit
theorem ld_glob {E : Value -> Shared -> Prop} {pins : List (Addr × Obj)} {s : Shared} {σ : St} {H : Hp} {x : Str} {u : Value} {pos : Pos} {Q : Value -> Shared -> Prop} (I : Inv X pins σ H s) (hg : Gl X x) (hm : X.mg x = some u) (h : Q u s)
  (hd : (x == ("__debug__" : Str)) = false := by decide) : wpAny (model X.prog X.w) X.A (eval (.Name x pos) X.env) Q E s :=
 Calls.Name_function_global I.ok.kind hg (Calls.loadGlobal_global (by rw [I.ok.glob]; exact I.mod.glob.keeps I.bk) hm h) hd
theorem ld_blt {E : Value -> Shared -> Prop} {pins : List (Addr × Obj)} {s : Shared} {σ : St} {H : Hp} {x : Str} {u : Value} {pos : Pos} {Q : Value -> Shared -> Prop} (I : Inv X pins σ H s) (hg : Gl X x) (hm : X.mg x = none) (hv : bootBuiltins x = some u) (h : Q u s)
  (hn : x ≠ "__name__" := by decide) (hd : (x == ("__debug__" : Str)) = false := by decide) : wpAny (model X.prog X.w) X.A (eval (.Name x pos) X.env) Q E s := by
 obtain ⟨mb, h1, h2⟩ := I.mod.blt
 exact Calls.Name_function_global I.ok.kind hg (Calls.loadGlobal_builtin (by rw [I.ok.glob]; exact I.mod.glob.keeps I.bk) hm (by rw [I.ok.blt]; exact h1.keeps I.bk) ((h2 x hn).trans hv) h) hd
theorem pe_glob {x : Str} {v : V} {u : Value} {pos : Pos} (hg : Gl X x) (hm : X.mg x = some u) (r : RelV v u) (hd : (x == ("__debug__" : Str)) = false := by decide) : PE X (.Name x pos) (tC v) :=
 fun _ _ _ H _ I h => ld_glob I hg hm ⟨v, H, I, r, h⟩ hd
theorem pe_bltn {x : Str} {v : V} {u : Value} {pos : Pos} (hg : Gl X x) (hm : X.mg x = none) (hv : bootBuiltins x = some u) (r : RelV v u) (hn : x ≠ "__name__" := by decide) (hd : (x == ("__debug__" : Str)) = false := by decide) : PE X (.Name x pos) (tC v) :=
 fun _ _ _ H _ I h => ld_blt I hg hm hv ⟨v, H, I, r, h⟩ hn hd
variable {a b : Expr} {ta tb : TE} {pos : Pos}
def PC (X : Cx) (op : CmpOp) (a b : Expr) (t : TE) : Prop :=
 ∀ (pins : List (Addr × Obj)) (s : Shared) (σ : St) (H : Hp) (Q : VK), Inv X pins σ H s -> t σ H Q ->
  wpAny (model X.prog X.w) X.A (eval a X.env) (fun v s₁ => wpAny (model X.prog X.w) X.A (eval b X.env) (fun u s₂ => wpAny (model X.prog X.w) X.A (compareOp op v u) (EP X pins σ Q) X.xe s₂) X.xe s₁) X.xe s
theorem nobehind (b : Expr) {op : CmpOp} (h : op ≠ .In) (h2 : op ≠ .NotIn) : behindInMarks op b = false := by
 have e1 : (op == CmpOp.In) = false := by cases op <;> first | rfl | exact absurd rfl h
 have e2 : (op == CmpOp.NotIn) = false := by cases op <;> first | rfl | exact absurd rfl h2
 cases b <;> simp [behindInMarks, e1, e2]
def tB (t : TE) : TT := fun σ H Q => t σ H fun x H1 => ∃ c, x = .bl c ∧ Q c H1
theorem pt_cmp {op : CmpOp} {t : TE} (h : PC X op a b t) (h1 : behindInMarks op b = false := by first | exact nobehind _ (by decide) (by decide) | rfl) : PT X (.Compare a [op] [b] pos) (tB t) := by
 intro pins s σ H Q I hw
 refine wpAny_isTrue_Compare1 (thn (h pins s σ H _ I hw) fun v s1 h1 => thn h1 fun u s2 h2 => thn h2 fun c s3 ⟨x, H1, I1, r1, q1⟩ => ?_) h1
 obtain ⟨d, rfl, q⟩ := q1
 cases r1
 exact wpAny_truthy_bool ⟨H1, I1, q⟩
theorem pt_val {e : Expr} {t : TE} (h : PE X e t) (he : ∀ whole, isTrue e X.env whole = (do let v ← whole; standAt e.pos; holding [v] (truthy v)) := by intro _; rfl) : PT X e (tB t) := by
 intro pins s σ H Q I hw
 refine isTrue_plain (thn (h pins s σ H _ I hw) fun v s1 ⟨x, H1, I1, r1, q1⟩ => ?_) (he _)
 obtain ⟨d, rfl, q⟩ := q1
 cases r1
 exact wpAny_truthy_bool ⟨H1, I1, q⟩
variable {tA tB' : TT} {rest : List Expr}
def tAnd (t u : TT) : TT := fun σ H Q => t σ H fun c H1 => if c = true then u σ H1 Q else Q false H1
def tOr (t u : TT) : TT := fun σ H Q => t σ H fun c H1 => if c = true then Q true H1 else u σ H1 Q
def tNot (t : TT) : TT := fun σ H Q => t σ H fun c H1 => Q (!c) H1
theorem pw_and1 (ha : PT X a tA) : PW X (.BoolOp .And [a] pos) tA := by
 intro wh pins s σ H Q I h
 refine isTrue_and (thn (ha pins s σ H Q I h) fun c s1 e => ?_)
 cases c with
 | true => exact isTrue_and_nil e
 | false => exact e
theorem pw_or1 (ha : PT X a tA) : PW X (.BoolOp .Or [a] pos) tA := by
 intro wh pins s σ H Q I h
 refine isTrue_or (thn (ha pins s σ H Q I h) fun c s1 e => ?_)
 cases c with
 | false => exact isTrue_or_nil e
 | true => exact e
theorem pw_and (ha : PT X a tA) (hb : PW X (.BoolOp .And (b :: rest) pos) tB') : PW X (.BoolOp .And (a :: b :: rest) pos) (tAnd tA tB') := by
 intro wh pins s σ H Q I h
 refine isTrue_and (thn (ha pins s σ H _ I h) fun c s1 ⟨H1, I1, q1⟩ => ?_)
 cases c with
 | true => exact hb wh pins s1 σ H1 Q I1 q1
 | false => exact ⟨H1, I1, q1⟩
theorem pw_or (ha : PT X a tA) (hb : PW X (.BoolOp .Or (b :: rest) pos) tB') : PW X (.BoolOp .Or (a :: b :: rest) pos) (tOr tA tB') := by
 intro wh pins s σ H Q I h
 refine isTrue_or (thn (ha pins s σ H _ I h) fun c s1 ⟨H1, I1, q1⟩ => ?_)
 cases c with
 | true => exact ⟨H1, I1, q1⟩
 | false => exact hb wh pins s1 σ H1 Q I1 q1
theorem pt_not (ha : PT X a tA) : PT X (.UnaryOp .Not a pos) (tNot tA) := by
 intro pins s σ H Q I h
 exact isTrue_not (ha pins s σ H (fun c H1 => Q (!c) H1) I h)
def tAndV (ta tb : TE) : TE := fun σ H Q => ta σ H fun x H1 => ∃ c, x = .bl c ∧ if c = true then tb σ H1 Q else Q (.bl false) H1
def tOrV (ta tb : TE) : TE := fun σ H Q => ta σ H fun x H1 => ∃ c, x = .bl c ∧ if c = true then Q (.bl true) H1 else tb σ H1 Q
def tNotV (ta : TE) : TE := fun σ H Q => ta σ H fun x H1 => ∃ c, x = .bl c ∧ Q (.bl (!c)) H1
theorem pe_one {op} {t : TE} (h : PE X a t) : PE X (.BoolOp op [a] pos) t := fun pins s σ H Q I hw => BoolOp_one (h pins s σ H Q I hw)
theorem pe_and (ha : PE X a ta) (hb : PE X (.BoolOp .And (b :: rest) pos) tb) : PE X (.BoolOp .And (a :: b :: rest) pos) (tAndV ta tb) := by
 intro pins s σ H Q I h
 refine BoolOp_and (thn (ha pins s σ H _ I h) fun v s1 ⟨x, H1, I1, r1, q1⟩ => ?_)
 obtain ⟨c, rfl, q1⟩ := q1
 cases r1
 refine wpAny_truthy_bool ?_
 cases c with
 | true => exact hb pins s1 σ H1 Q I1 q1
 | false => exact ⟨.bl false, H1, I1, rfl, q1⟩
theorem pe_not (ha : PE X a ta) : PE X (.UnaryOp .Not a pos) (tNotV ta) := by
 intro pins s σ H Q I h
 refine UnaryOp_ (thn (ha pins s σ H _ I h) fun v s1 ⟨x, H1, I1, r1, q1⟩ => ?_)
 obtain ⟨c, rfl, q1⟩ := q1
 cases r1
 exact not_of (wpAny_truthy_bool ⟨.bl (!c), H1, I1, rfl, q1⟩)
def tIf (t : TT) (ta tb : TE) : TE := fun σ H Q => t σ H fun c H1 => if c = true then ta σ H1 Q else tb σ H1 Q
end
end L2
namespace L2
open PySem PySem.Spec PyProof.Rows
def SqL (K : PySem.W.Frag) (H : Hp) (a : Addr) (xs : List V) : Prop :=
 Rd H a (.lst xs) ∨
  ∃ (o : Obj) (its : Array Value) (n : Nat), K.lookup a = some o ∧ o.cls = .type "list" ∧ o.dict = none ∧ o.data = .seq its n ∧ its.size <= sizeLine ∧ Vals xs its.toList
def SqT (K : PySem.W.Frag) (H : Hp) (a : Addr) (xs : List V) : Prop :=
 Rd H a (.tup xs) ∨
  ∃ (o : Obj) (its : Array Value) (n : Nat), K.lookup a = some o ∧ o.cls = .type "tuple" ∧ o.data = .seq its n ∧ its.size <= sizeLine ∧ Vals xs its.toList
def absV : Value -> Option V
 | .none => some .non
 | .bool b => some (.bl b)
 | .int i _ => some (.int i)
 | .str x _ => some (.str x)
 | .bytes b _ => some (.byt b)
 | .float b _ => some (.flt b)
 | .ref a => some (.ref a)
 | .type n => some (.ty n)
 | _ => none
theorem RelV.abs {x : V} {u : Value} (r : RelV x u) : absV u = some x := by
 cases x with
 | non => cases r; rfl
 | bl _ => cases r; rfl
 | int _ => obtain ⟨t, rfl⟩ := r; rfl
 | str _ => obtain ⟨t, rfl⟩ := r; rfl
 | byt _ => obtain ⟨t, rfl⟩ := r; rfl
 | flt _ => obtain ⟨t, rfl⟩ := r; rfl
 | ref _ => cases r; rfl
 | ty _ => cases r; rfl
theorem RelV.inj {x y : V} {u : Value} (r : RelV x u) (q : RelV y u) : x = y := Option.some.inj (r.abs.symm.trans q.abs)
theorem Vals.inj : ∀ {xs ys : List V} {us : List Value}, Vals xs us -> Vals ys us -> xs = ys
 | _, _, _, .nil, .nil => rfl
 | _, _, _, .cons r t, .cons r' t' => by rw [r.inj r', Vals.inj t t']
section
variable {X : Cx} {pins : List (Addr × Obj)} {σ : St} {H : Hp} {s : Shared} {a : Addr} {xs ys : List V}
theorem SqL.of {K : PySem.W.Frag} (h : H a = some (.lst xs)) : SqL K H a xs := .inl (.inl h)
theorem SqT.of {K : PySem.W.Frag} (h : H a = some (.tup xs)) : SqT K H a xs := .inl (.inl h)
theorem Inv.list (I : Inv X pins σ H s) (h : SqL X.K H a xs) : ∃ its : List Value, Vals xs its ∧ PlainL s.heap a its.toArray ∧ xs.length <= sizeLine := by
 rcases h with h | ⟨o, its, n, hk, hc, hd, hs, hz, r⟩
 ·obtain ⟨z, its, n, r, e⟩ := h.ok I.hok
  exact ⟨its, r, ⟨_, n, e, rfl, rfl, rfl⟩, z⟩
 ·refine ⟨its.toList, r, ⟨o, n, I.kIn a o hk, hc, hd, by simpa using hs⟩, ?_⟩
  have e := r.length
  simp only [Array.length_toList] at e
  omega
theorem Inv.tuple (I : Inv X pins σ H s) (h : SqT X.K H a xs) : ∃ its : List Value, Vals xs its ∧ IsTup s.heap a its.toArray ∧ xs.length <= sizeLine := by
 rcases h with h | ⟨o, its, n, hk, hc, hs, hz, r⟩
 ·obtain ⟨z, its, r, p⟩ := h.ok I.hok
  exact ⟨its, r, p, z⟩
 ·refine ⟨its.toList, r, ⟨o, I.kIn a o hk, hc, n, by simpa using hs⟩, ?_⟩
  have e := r.length
  simp only [Array.length_toList] at e
  omega
theorem Inv.list_inj (I : Inv X pins σ H s) (h : SqL X.K H a xs) (h' : SqL X.K H a ys) : xs = ys := by
 obtain ⟨its, r, ⟨o, n, e, _, _, d⟩, _⟩ := I.list h
 obtain ⟨its', r', ⟨o', n', e', _, _, d'⟩, _⟩ := I.list h'
 rw [e] at e'; cases e'
 rw [d] at d'
 injection d' with d1 _
 have : its = its' := by simpa using congrArg Array.toList d1
 subst this
 exact r.inj r'
theorem Inv.tuple_inj (I : Inv X pins σ H s) (h : SqT X.K H a xs) (h' : SqT X.K H a ys) : xs = ys := by
 obtain ⟨its, r, ⟨o, e, _, n, d⟩, _⟩ := I.tuple h
 obtain ⟨its', r', ⟨o', e', _, n', d'⟩, _⟩ := I.tuple h'
 rw [e] at e'; cases e'
 rw [d] at d'
 injection d' with d1 _
 have : its = its' := by simpa using congrArg Array.toList d1
 subst this
 exact r.inj r'
end
abbrev Cx.wish (X : Cx) (E : Value -> Shared -> Prop) : Cx := { X with xe := E }
abbrev Cx.nox (X : Cx) : Cx := X.wish fun _ _ => False
theorem Cx.Ok.wish {X : Cx} (ok : X.Ok) (E : Value -> Shared -> Prop) : (X.wish E).Ok :=
 ⟨ok.mod, ok.kind, ok.glob, ok.blt, ok.above, ok.inj, ok.has, ok.cab, ok.hd, ok.frames, ok.stk, ok.exf, ok.bs, ok.bsz, ok.noex, ok.exfs, ok.funs, ok.frf⟩
theorem Cx.Ok.unwish {X : Cx} {E : Value -> Shared -> Prop} (ok : (X.wish E).Ok) : X.Ok :=
 ⟨ok.mod, ok.kind, ok.glob, ok.blt, ok.above, ok.inj, ok.has, ok.cab, ok.hd, ok.frames, ok.stk, ok.exf, ok.bs, ok.bsz, ok.noex, ok.exfs, ok.funs, ok.frf⟩
section
variable {X : Cx} {pins : List (Addr × Obj)} {σ : St} {H : Hp} {s : Shared} {E : Value -> Shared -> Prop}
theorem Inv.wish (I : Inv X pins σ H s) (E : Value -> Shared -> Prop) : Inv (X.wish E) pins σ H s := ⟨I.ok.wish E, I.os, I.bare, I.base, I.loc, I.cell, I.free, I.freeC, I.pin, I.hok, I.len⟩
theorem Inv.unwish (I : Inv (X.wish E) pins σ H s) : Inv X pins σ H s := ⟨I.ok.unwish, I.os, I.bare, I.base, I.loc, I.cell, I.free, I.freeC, I.pin, I.hok, I.len⟩
theorem SP.unwish {D : Ends} {f : Flow} {s' : Shared} (h : SP (X.wish E) pins D f s') : SP X pins D f s' := by
 cases f with
 | next => obtain ⟨σ', H', I, q⟩ := h; exact ⟨σ', H', I.unwish, q⟩
 | brk => obtain ⟨σ', H', I, q⟩ := h; exact ⟨σ', H', I.unwish, q⟩
 | cont => obtain ⟨σ', H', I, q⟩ := h; exact ⟨σ', H', I.unwish, q⟩
 | ret u => obtain ⟨v, σ', H', I, r, q⟩ := h; exact ⟨v, σ', H', I.unwish, r, q⟩
theorem PT.nox {e : Expr} {t : TT} (h : PT X.nox e t) : PT X e t := fun pins s σ H Q I hw =>
 wpAny_mono (h pins s σ H Q (I.wish _) hw) (fun _ _ ⟨H', I', q⟩ => ⟨H', I'.unwish, q⟩) fun _ _ z => False.elim z
theorem PSs.nox {st : List Stmt} {t : TS} (h : PSs X.nox st t) : PSs X st t := fun pins s σ H D I hw =>
 wpAny_mono (h pins s σ H D (I.wish _) hw) (fun _ _ q => q.unwish) fun _ _ z => False.elim z
end
section
variable {X : Cx} {st : Stmt} {rest : List Stmt} {t u : TS} {e : Expr} {te : TE} {pos : Pos}
def tNext : TS := fun D σ H => D.nx σ H
def tSeq (t u : TS) : TS := fun D σ H => t { D with nx := u D } σ H
theorem pss_nil : PSs X [] tNext := fun _ _ σ H _ I h => wpAny_execs_nil ⟨σ, H, I, h⟩
theorem pss_cons (h1 : PS X st t) (h2 : PSs X rest u) : PSs X (st :: rest) (tSeq t u) := by
 intro pins s σ H D I h
 refine wpAny_execs_cons (thn (h1 pins s σ H { D with nx := u D } I h) fun f s1 q => ?_)
 cases f with
 | next =>
  obtain ⟨σ', H', I', q⟩ := q
  exact h2 pins s1 σ' H' D I' q
 | ret v => exact q
 | brk => exact q
 | cont => exact q
theorem pss_one (h1 : PS X st t) : PSs X [st] t := by
 intro pins s σ H D I h
 refine wpAny_execs_cons (thn (h1 pins s σ H D I h) fun f s1 q => ?_)
 cases f with
 | next => exact wpAny_execs_nil q
 | ret v => exact q
 | brk => exact q
 | cont => exact q
def tBreak : TS := fun D σ H => D.bk σ H
def tCont : TS := fun D σ H => D.ct σ H
theorem Inv.quiet {pins : List (Addr × Obj)} {σ : St} {H : Hp} {s : Shared} (I : Inv X pins σ H s) : interactive X.env = false := by simp [interactive, I.ok.kind]
def tDrop (te : TE) : TS := fun D σ H => te σ H fun _ H1 => D.nx σ H1
theorem ps_expr (he : PE X e te) (hs : swapsWith e none pos.line X.env = pure false := by rfl) : PS X (.Expr e pos) (tDrop te) := by
 intro pins s σ H D I h
 exact wpAny_Expr_any (thn (he pins s σ H _ I h) fun v s1 ⟨x, H1, I1, r1, q1⟩ => ⟨σ, H1, I1, q1⟩) I.quiet hs
def tRet (te : TE) : TS := fun D σ H => te σ H D.rt
theorem ps_ret (he : PE X e te) : PS X (.Return (some e) pos) (tRet te) := by
 intro pins s σ H D I h
 exact wpAny_Return_some (thn (he pins s σ H _ I h) fun v s1 ⟨x, H1, I1, r1, q1⟩ => ⟨x, σ, H1, I1, r1, q1⟩)
def tRetN : TS := fun D _ H => D.rt .non H
def tIfS (c : TT) (t u : TS) : TS := fun D σ H => c σ H fun b H1 => if b = true then t D σ H1 else u D σ H1
theorem ps_if {c : Expr} {a b : List Stmt} {tc : TT} (hc : PT X c tc) (ha : PSs X a t) (hb : PSs X b u) : PS X (.If c a b pos) (tIfS tc t u) := by
 intro pins s σ H D I h
 refine wpAny_If (thn (hc pins s σ H _ I h) fun d s1 ⟨H1, I1, q1⟩ => ?_)
 cases d with
 | true => exact ha pins s1 σ H1 D I1 q1
 | false => exact hb pins s1 σ H1 D I1 q1
def tNever : TS := fun _ _ _ => False
theorem pss_never {sts : List Stmt} : PSs X sts tNever := fun _ _ _ _ _ _ h => h.elim
end
abbrev TG := V -> St -> Hp -> (St -> Hp -> Prop) -> Prop
abbrev TGs := List V -> St -> Hp -> (St -> Hp -> Prop) -> Prop
def PG (X : Cx) (target : Expr) (t : TG) : Prop :=
 ∀ (pins : List (Addr × Obj)) (s : Shared) (σ : St) (H : Hp) (v : V) (u : Value) (Q : St -> Hp -> Prop), Inv X pins σ H s -> RelV v u -> t v σ H Q ->
  wpAny (model X.prog X.w) X.A (assign target X.env u) (fun _ s' => ∃ σ' H', Inv X pins σ' H' s' ∧ Q σ' H') X.xe s
def PGs (X : Cx) (ts : List Expr) (t : TGs) : Prop :=
 ∀ (pins : List (Addr × Obj)) (s : Shared) (σ : St) (H : Hp) (vs : List V) (us : List Value) (Q : St -> Hp -> Prop), Inv X pins σ H s -> Vals vs us -> t vs σ H Q ->
  wpAny (model X.prog X.w) X.A (assignInOrder ((assignEach ts X.env).map (·.2)) us) (fun _ s' => ∃ σ' H', Inv X pins σ' H' s' ∧ Q σ' H') X.xe s
abbrev TSet := V -> V -> V -> Hp -> (Hp -> Prop) -> Prop
abbrev TIp := V -> V -> Hp -> VK -> Prop
def PIp (X : Cx) (op : Operator) (t : TIp) : Prop :=
 ∀ (pins : List (Addr × Obj)) (s : Shared) (σ : St) (H : Hp) (x y : V) (v u : Value) (Q : VK), Inv X pins σ H s -> RelV x v -> RelV y u -> t x y H Q ->
  wpAny (model X.prog X.w) X.A (inplaceOp op v u) (EP X pins σ Q) X.xe s
section
variable {X : Cx} {pos : Pos}
def gName (i : Nat) : TG := fun v σ H Q => Q (σ.set i (some v)) H
theorem pg_name {i : Nat} {x : Str} (hN : X.N.Nodup) (hi : X.N[i]? = some x) (hx : Loc X.env.scope x) (hf : X.fn x = true ∨ X.env.scope.names.lookup x = some .local := by first | exact .inl rfl | exact .inr rfl | assumption) : PG X (.Name x pos) (gName i) := by
 intro pins s σ H v u Q I r h
 exact wpAny_assign_Name (store_ok I hN hi hx r (fun s' I' => ⟨_, H, I', h⟩) hf)
def gNil : TGs := fun vs σ H Q => vs = [] ∧ Q σ H
def gCons (t : TG) (u : TGs) : TGs := fun vs σ H Q => ∃ v r, vs = v :: r ∧ t v σ H fun σ' H' => u r σ' H' Q
theorem pgs_nil : PGs X [] gNil := by
 intro pins s σ H vs us Q I r h
 obtain ⟨e, h⟩ := h
 subst e
 cases r
 exact assignInOrder_nil ⟨σ, H, I, h⟩
theorem pgs_cons {e : Expr} {es : List Expr} {t : TG} {u : TGs} (h1 : PG X e t) (h2 : PGs X es u)
  (hs : (assignEach (e :: es) X.env).map (·.2) = assign e X.env :: (assignEach es X.env).map (·.2) := by rfl) : PGs X (e :: es) (gCons t u) := by
 intro pins s σ H vs us Q I r h
 obtain ⟨v, vr, e1, h⟩ := h
 subst e1
 cases r with
 | cons r rr =>
  rw [hs]
  refine assignInOrder_cons (thn (h1 pins s σ H _ _ _ I r h) fun _ s1 ⟨σ1, H1, I1, q1⟩ => ?_)
  exact h2 pins s1 σ1 H1 _ _ Q I1 rr q1
def gTup (K : PySem.W.Frag) (n : Nat) (t : TGs) : TG := fun v σ H Q => ∃ a xs, v = .ref a ∧ SqT K H a xs ∧ xs.length = n ∧ t xs σ H Q
theorem pg_tup {es : List Expr} {k : Nat} {t : TGs} {n : Nat} (hc : X.calm = true) (h : PGs X es t)
  (hn : (assignEach es X.env).length = n := by rfl) (hst : (assignEach es X.env).findIdx? (·.1) = none := by rfl) : PG X (.Tuple es k pos) (gTup X.K n t) := by
 intro pins s σ H v u Q I r hw
 obtain ⟨a, xs, e1, hq, hl, hw⟩ := hw
 subst e1
 cases r
 obtain ⟨its, rv, ht, hz⟩ := I.tuple hq
 refine assign_Tuple_tuple (I.ok.hd hc) ht (by simp [hn, ← hl, rv.length]) hst fun h' hx => ?_
 have I1 : Inv X pins σ H { s with heap := h' } := I.kept (t' := s.toks) fun b o e => hx b o (Nat.ne_of_lt (Heap.lt_size e)) e
 exact h pins _ σ H xs _ Q I1 (by simpa using rv) hw
def gSub (to ti : TE) (t : TSet) : TG := fun v σ H Q => to σ H fun o H1 => ti σ H1 fun i H2 => t o i v H2 fun H3 => Q σ H3
def tAsg (te : TE) (g : TG) : TS := fun D σ H => te σ H fun x H1 => g x σ H1 D.nx
theorem ps_set {i : Nat} {x : Str} {e : Expr} {te : TE} {pos' : Pos} (hN : X.N.Nodup) (hi : X.N[i]? = some x) (hx : Loc X.env.scope x) (he : PE X e te) (hs : swapsWith e (some (.Name x pos')) pos.line X.env = pure false := by rfl) (hf : X.fn x = true ∨ X.env.scope.names.lookup x = some .local := by first | exact .inl rfl | exact .inr rfl | assumption) :
  PS X (.Assign [.Name x pos'] e pos) (tAsg te (gName i)) := by
 intro pins s σ H D I h
 refine wpAny_Assign_Name (thn (he pins s σ H _ I h) fun v s1 ⟨y, H1, I1, r1, q1⟩ => ?_) hs
 exact store_ok I1 hN hi hx r1 (fun s2 I2 => ⟨_, H1, I2, q1⟩) hf
def tAug (i : Nat) (te : TE) (ti : TIp) : TS := fun D σ H => ∃ x, σ[i]? = some (some x) ∧ te σ H fun y H1 => ti x y H1 fun z H2 => D.nx (σ.set i (some z)) H2
theorem ps_aug {i : Nat} {x : Str} {e : Expr} {te : TE} {op : Operator} {ti : TIp} {pos' : Pos} (hN : X.N.Nodup) (hi : X.N[i]? = some x) (hx : Loc X.env.scope x) (he : PE X e te) (ho : PIp X op ti) (hf : X.fn x = true ∨ X.env.scope.names.lookup x = some .local := by first | exact .inl rfl | exact .inr rfl | assumption) :
  PS X (.AugAssign (.Name x pos') op e pos) (tAug i te ti) := by
 intro pins s σ H D I h
 obtain ⟨v, e1, h⟩ := h
 obtain ⟨m, hn, hl⟩ := I.loc
 have vis : Vis X.env.scope x := by rcases hx with k | k; exact .inl k; exact .inr (.inl k)
 obtain ⟨u, r, l⟩ := hl i x v hi e1 vis
 refine wpAny_AugAssign_Name ?_
 have go : wpAny (model X.prog X.w) X.A (eval e X.env) (fun w s₂ => wpAny (model X.prog X.w) X.A (inplaceOp op u w) (fun r s₃ => wpAny (model X.prog X.w) X.A (storeName X.env x r) (fun _ => SP X pins D .next) X.xe s₃) X.xe s₂) X.xe s := by
  refine thn (he pins s σ H _ I h) fun w s1 ⟨y, H1, I1, r1, q1⟩ => ?_
  refine thn (ho pins s1 σ H1 v y u w _ I1 r r1 q1) fun z s2 ⟨zv, H2, I2, r2, q2⟩ => ?_
  exact store_ok I2 hN hi hx r2 (fun s3 I3 => ⟨_, H2, I3, q2⟩) hf
 rcases l with ⟨hk, hm⟩ | ⟨hk, c, hc, hcell⟩
 ·exact wpAny_loadName_local I.ok.kind hk hn hm go
 ·rcases hk with hk | hk
  ·exact wpAny_loadName_cell I.ok.kind hk hc hcell go
  ·rcases hx with k | k
   ·have : X.env.scope.names.lookup x = some .free := hk
    rw [k] at this; cases this
   ·have : X.env.scope.names.lookup x = some .free := hk
    rw [k] at this; cases this
def tAugS (to ti te : TE) (tget : V -> V -> Hp -> VK -> Prop) (tip : TIp) (tset : TSet) : TS := fun D σ H => to σ H fun o H1 => ti σ H1 fun i H2 => tget o i H2 fun x H3 => te σ H3 fun y H4 => tip x y H4 fun z H5 => tset o i z H5 fun H6 => D.nx σ H6
def ipI (f : Int -> Int -> Int) : TIp := fun x y H Q => ∃ i j, x = .int i ∧ y = .int j ∧ Q (.int (f i j)) H
end
section
variable {X : Cx} {pos : Pos}
end
structure It where
 go : Nat -> Hp -> Prop
 yld : Nat -> Hp -> V -> Hp -> Prop
 stop : Nat -> Hp -> Prop
def FpOk (X : Cx) (pins : List (Addr × Obj)) (H : Hp) (b : Addr) : Prop :=
 H b = none ∧ b ≠ X.env.locals ∧ b ∉ X.fs ∧ (b ∈ X.ex ∨ X.s₀.heap.objs.size <= b) ∧ (∀ x c, X.env.cells.lookup x = some c -> c ≠ b) ∧ ∀ p ∈ X.pn ++ pins, p.1 ≠ b
theorem Inv.fpOk {X : Cx} {pins : List (Addr × Obj)} {σ : St} {H H' : Hp} {s : Shared} {b : Addr} (I : Inv X pins σ H s) (hb : s.heap.objs.size <= b) (hn : H' b = none) : FpOk X pins H' b := by
 refine ⟨hn, Nat.ne_of_gt (Nat.lt_of_lt_of_le I.lt hb), I.nofs hb, .inr (Nat.le_trans I.sz hb), fun x c e z => ?_, fun p hp z => ?_⟩
 ·obtain ⟨v, q⟩ := I.cell x c e
  exact absurd (Nat.lt_of_lt_of_le q.lt (by rw [z]; exact hb)) (Nat.lt_irrefl _)
 ·exact absurd (Nat.lt_of_lt_of_le (Heap.lt_size (I.pin p hp).1) (by rw [z]; exact hb)) (Nat.lt_irrefl _)
structure Turn (P : Program) (w : World) (K : PySem.W.Frag) (tg : Expr) (J : It) (fp : List Addr) (it : Addr) (tn : Nat -> Heap -> Prop) : Prop where
 mem : it ∈ fp
 obj : ∀ i h, tn i h -> ∀ b ∈ fp, ∃ o, h.get? b = some o ∧ ∀ v, o.data ≠ .cell v
 keep : ∀ i h h', tn i h -> (∀ b ∈ fp, ∀ o, h.get? b = some o -> h'.get? b = some o) -> tn i h'
 item : ∀ (X : Cx), X.prog = P -> X.w = w -> X.K = K -> X.calm = true -> ∀ (i : Nat) (pins : List (Addr × Obj)) (s : Shared) (σ : St) (H : Hp) (E : Value -> Shared -> Prop), Inv X pins σ H s -> (∀ b ∈ fp, FpOk X pins H b) -> tn i s.heap -> J.go i H ->
  wpAny (model P w) X.A (pyNext (.ref it)) (fun r s1 => ∃ u, r = some u ∧
   wpAny (model P w) X.A (letOwnedTupleGo tg (.ref it) u) (fun _ s2 => ∃ x H', Inv X pins σ H' s2 ∧ RelV x u ∧ J.yld i H x H' ∧ tn (i + 1) s2.heap ∧ ∀ b ∈ fp, H' b = none) E s1) E s
 done : ∀ (X : Cx), X.prog = P -> X.w = w -> X.K = K -> X.calm = true -> ∀ (i : Nat) (pins : List (Addr × Obj)) (s : Shared) (σ : St) (H : Hp) (E : Value -> Shared -> Prop), Inv X pins σ H s -> (∀ b ∈ fp, FpOk X pins H b) -> tn i s.heap -> J.stop i H ->
  wpAny (model P w) X.A (pyNext (.ref it)) (fun r s1 => r = none ∧ Inv X pins σ H s1) E s
 self : ∀ (A : Around) (i : Nat) (s : Shared) (Q : Value -> Shared -> Prop) (E : Value -> Shared -> Prop), tn i s.heap -> Q (.ref it) s -> wpAny (model P w) A (pyIter (.ref it)) Q E s
abbrev TI := St -> Hp -> (It -> Hp -> Prop) -> Prop
def PIE (X : Cx) (pins : List (Addr × Obj)) (σ : St) (tg : Expr) (R : It -> Hp -> Prop) (itv : Value) (s2 : Shared) : Prop :=
 ∃ (it : Addr) (fp : List Addr) (tn : Nat -> Heap -> Prop) (J : It) (H' : Hp), itv = .ref it ∧ Inv X pins σ H' s2 ∧ Turn X.prog X.w X.K tg J fp it tn ∧ tn 0 s2.heap ∧ (∀ b ∈ fp, FpOk X pins H' b) ∧ R J H'
def PI (X : Cx) (tg iter : Expr) (wi : TI) : Prop :=
 ∀ (pins : List (Addr × Obj)) (s : Shared) (σ : St) (H : Hp) (R : It -> Hp -> Prop), Inv X pins σ H s -> wi σ H R ->
  wpAny (model X.prog X.w) X.A (eval iter X.env) (fun v s1 => wpAny (model X.prog X.w) X.A (pyIter v) (PIE X pins σ tg R) X.xe s1) X.xe s
theorem go_of {M : Model} {A : Around} {E : Value -> Shared -> Prop} {s : Shared} {tg : Expr} {it : Addr} {u : Value} {o : Obj} {n : String} {vs : Array Value} {Q : Unit -> Shared -> Prop} (ho : s.heap.get? it = some o) (hc : o.cls = .type n) (hd : o.data = .fields vs)
  (hn : ["enumerate", "zip", "dict_itemiterator", "dict_reverseitemiterator", "odict_iterator", "itertools.zip_longest", "itertools.pairwise"].contains n = false) (hQ : Q () s) : wpAny M A (letOwnedTupleGo tg (.ref it) u) Q E s := by
 unfold letOwnedTupleGo
 cases tg <;> first
  | exact wpAny_pure hQ
  |(cases u <;> first
    | exact wpAny_pure hQ
    |(refine wpAny_bind (wpAny_load ho ?_)
      rw [hc, hd]
      show wpAny M A (if (["enumerate", "zip", "dict_itemiterator", "dict_reverseitemiterator", "odict_iterator", "itertools.zip_longest", "itertools.pairwise"].contains n && vs[0]? == some (rawInt _)) = true then _ else _) Q E s
      rw [if_neg (by intro h; rw [hn, Bool.false_and] at h; cases h)]
      exact wpAny_pure hQ))
def Itl (K : PySem.W.Frag) (a : Addr) : It :=
 ⟨fun i H => ∃ xs x, SqL K H a xs ∧ xs[i]? = some x, fun i H x H' => H' = H ∧ ∀ xs, SqL K H a xs -> xs[i]? = some x, fun i H => ∃ xs, SqL K H a xs ∧ xs.length <= i⟩
def Itt (K : PySem.W.Frag) (a : Addr) : It :=
 ⟨fun i H => ∃ xs x, SqT K H a xs ∧ xs[i]? = some x, fun i H x H' => H' = H ∧ ∀ xs, SqT K H a xs -> xs[i]? = some x, fun i H => ∃ xs, SqT K H a xs ∧ xs.length <= i⟩
def Itr (lo : Int) (n : Nat) : It := ⟨fun i _ => i < n, fun i H x H' => H' = H ∧ x = .int (lo + i), fun i _ => n <= i⟩
theorem turn_list {P : Program} {w : World} {K : PySem.W.Frag} {tg : Expr} (a it : Addr) : Turn P w K tg (Itl K a) [it] it (fun i h => h.IsListIter it a i) where
 mem := by simp
 obj := fun i h st b hb => by
  have e : b = it := by simpa using hb
  subst e
  obtain ⟨o, e, c, d⟩ := st
  exact ⟨o, e, fun v z => by rw [d] at z; cases z⟩
 keep := fun i h h' st k => st.at fun o e => k it (by simp) o e
 item := by
  intro X hP hw hK hc i pins s σ H E I hf st hg
  subst hP hw hK
  obtain ⟨xs, x, hq, hx⟩ := hg
  obtain ⟨its, rv, p, hz⟩ := I.list hq
  obtain ⟨u, hu, ru⟩ := rv.get hx
  obtain ⟨f0, f1, f2, f3, f4, f5⟩ := hf it (by simp)
  refine wpAny_pyNext_list_item st p.isList (x := u) (by simpa using hu) fun h' st' sb => ?_
  have I1 : Inv X pins σ H { s with heap := h' } := I.turned (t' := s.toks) (fun b o hb e => (sb.2 b hb).trans e) f0 f1 f3 f4 f5
  obtain ⟨o, e, c, d⟩ := id st'
  exact ⟨u, rfl, go_of (s := { s with heap := h' }) e c d (by decide) ⟨x, H, I1, ru, ⟨rfl, fun ys hy => by rw [I.list_inj hy hq]; exact hx⟩, st', fun b hb => (hf b hb).1⟩⟩
 done := by
  intro X hP hw hK hc i pins s σ H E I hf st hg
  subst hP hw hK
  obtain ⟨xs, hq, hx⟩ := hg
  obtain ⟨its, rv, p, hz⟩ := I.list hq
  obtain ⟨f0, f1, f2, f3, f4, f5⟩ := hf it (by simp)
  have hl := rv.length
  exact wpAny_pyNext_list_end (I.ok.hd hc) st p.isList (by simp; omega) fun h' eb => ⟨rfl, I.turned (t' := s.toks) (fun b o hb e => eb b o hb e) f0 f1 f3 f4 f5⟩
 self := fun _ _ _ _ _ st h => wpAny_pyIter_listiter st h
theorem turn_range {P : Program} {w : World} {K : PySem.W.Frag} {tg : Expr} (it : Addr) (lo : Int) (n : Nat) : Turn P w K tg (Itr lo n) [it] it (fun i h => IsRangeIter h it (lo + (i : Nat) * 1) ((n : Int) - (i : Nat)) 1) where
 mem := by simp
 obj := fun i h st b hb => by
  have e : b = it := by simpa using hb
  subst e
  exact ⟨_, st, fun v z => by
   have z' : Data.fields _ = Data.cell v := z
   cases z'⟩
 keep := fun i h h' st k => k it (by simp) _ st
 item := by
  intro X hP hw hK hc i pins s σ H E I hf st hg
  subst hP hw hK
  obtain ⟨f0, f1, f2, f3, f4, f5⟩ := hf it (by simp)
  have W := Walks.range (prog := X.prog) (w := X.w) (I.ok.hd hc) it lo 1 n
  refine W.item i s _ _ hg st fun v h' tk hv st' kk => ?_
  obtain ⟨t, rfl⟩ := hv
  have I1 : Inv X pins σ H { s with heap := h', toks := tk } := I.turned (fun b o hb e => kk b o (by simpa using hb) e) f0 f1 f3 f4 f5
  refine ⟨_, rfl, go_of (s := { s with heap := h', toks := tk }) (n := "range_iterator") st' rfl rfl (by decide) ⟨.int (lo + i), H, I1, ⟨t, ?_⟩, ⟨rfl, rfl⟩, st', fun b hb => (hf b hb).1⟩⟩
  rw [Int.mul_one]
 done := by
  intro X hP hw hK hc i pins s σ H E I hf st hg
  subst hP hw hK
  obtain ⟨f0, f1, f2, f3, f4, f5⟩ := hf it (by simp)
  exact wpAny_pyNext_range_end (I.ok.hd hc) st (by have : n <= i := hg; omega) fun h' eb => ⟨rfl, I.turned (t' := s.toks) (fun b o hb e => eb b o hb e) f0 f1 f3 f4 f5⟩
 self := fun _ _ _ _ _ st h => wpAny_pyIter_rangeiter st h
end L2
namespace L2
open PySem PySem.Spec PyProof.Rows
section
variable {X : Cx} {tg : Expr}
def iList (K : PySem.W.Frag) (tl : TE) : TI := fun σ H R => tl σ H fun x H1 => ∃ a, x = .ref a ∧ (∃ xs, SqL K H1 a xs) ∧ R (Itl K a) H1
def iTup (K : PySem.W.Frag) (tl : TE) : TI := fun σ H R => tl σ H fun x H1 => ∃ a, x = .ref a ∧ (∃ xs, SqT K H1 a xs) ∧ R (Itt K a) H1
theorem pi_list {l : Expr} {tl : TE} (hl : PE X l tl) : PI X tg l (iList X.K tl) := by
 intro pins s σ H R I h
 refine thn (hl pins s σ H _ I h) fun v s1 ⟨x, H1, I1, r1, q1⟩ => ?_
 obtain ⟨a, e, ⟨xs, hq⟩, q⟩ := q1
 subst e
 cases r1
 obtain ⟨its, rv, p, hz⟩ := I1.list hq
 refine wpAny_pyIter_list p.isList ?_
 refine ⟨s1.heap.objs.size, [s1.heap.objs.size], _, _, H1, rfl, I1.kept (t' := s1.toks) fun b o e => Heap.get?_push_of_some _ e, turn_list a _, ⟨_, Heap.get?_push_size _ rfl, rfl, rfl⟩, fun b hb => ?_, q⟩
 have e : b = s1.heap.objs.size := by simpa using hb
 subst e
 exact I1.fpOk (Nat.le_refl _) (I1.hok.fresh (Nat.le_refl _))
theorem range_it {pins : List (Addr × Obj)} {σ : St} {H : Hp} {s : Shared} {R : It -> Hp -> Prop} {E : Value -> Shared -> Prop} {lo hi : Int} {t u v : Tok} {tk : Nat} (I : Inv X pins σ H s) (h1 : -(2 ^ 62) <= lo) (h2 : lo < 2 ^ 62) (h3 : -(2 ^ 62) <= hi) (h4 : hi < 2 ^ 62)
  (q : R (Itr lo (hi - lo).toNat) H) : wpAny (model X.prog X.w) X.A (pyIter (.ref s.heap.objs.size)) (PIE X pins σ tg R) E { s with heap := s.heap.push { cls := .type "range", data := .fields #[.int lo t, .int hi u, .int 1 v] }, toks := tk } := by
 refine wpAny_pyIter_range (IsRange.new ..) (small_one h1 h2 h3 h4) ?_
 have I1 : Inv X pins σ H { s with heap := s.heap.push { cls := .type "range", data := .fields #[.int lo t, .int hi u, .int 1 v] }, toks := tk } := I.kept fun b o e => Heap.get?_push_of_some _ e
 refine ⟨(s.heap.push { cls := .type "range", data := .fields #[.int lo t, .int hi u, .int 1 v] }).objs.size, [(s.heap.push { cls := .type "range", data := .fields #[.int lo t, .int hi u, .int 1 v] }).objs.size], _, _, H, rfl,
  I1.kept (t' := tk) fun b o e => Heap.get?_push_of_some _ e, turn_range _ lo (hi - lo).toNat, ?_, fun b hb => ?_, q⟩
 ·have e1 : lo + ((0 : Nat) : Int) * 1 = lo := by simp
  have e2 : (((hi - lo).toNat : Nat) : Int) - ((0 : Nat) : Int) = Builtin.Range.rangeSize lo hi 1 := by rw [rangeSize_one]; split <;> omega
  show IsRangeIter _ _ (lo + ((0 : Nat) : Int) * 1) ((((hi - lo).toNat : Nat) : Int) - ((0 : Nat) : Int)) 1
  rw [e1, e2]
  exact Heap.get?_push_size _ rfl
 ·have e : b = (s.heap.push { cls := .type "range", data := .fields #[.int lo t, .int hi u, .int 1 v] }).objs.size := by simpa using hb
  subst e
  exact I1.fpOk (Nat.le_refl _) (I1.hok.fresh (Nat.le_refl _))
def iRng1 (ta : TA) : TI := fun σ H R => ta σ H fun vs H1 => ∃ j : Int, vs = [.int j] ∧ -(2 ^ 62) <= j ∧ j < 2 ^ 62 ∧ R (Itr 0 j.toNat) H1
def iRng2 (ta : TA) : TI := fun σ H R => ta σ H fun vs H1 => ∃ i j : Int, vs = [.int i, .int j] ∧ (-(2 ^ 62) <= i ∧ i < 2 ^ 62 ∧ -(2 ^ 62) <= j ∧ j < 2 ^ 62) ∧ R (Itr i (j - i).toNat) H1
theorem pi_range1 {a : Expr} {ta : TA} {p pos : Pos} (hg : Gl X "range") (hm : X.mg "range" = none) (ha : PA X [a] ta) (hs : starEach [a] X.env = [(false, eval a X.env)] := by rfl) : PI X tg (.Call (.Name "range" p) [a] [] pos) (iRng1 ta) := by
 intro pins s σ H R I h
 refine Call_ (ld_blt I hg hm boot_range (PyProof.Rows.callWith_type1 (thn (ha pos pins s σ H _ I h) fun us s1 ⟨vs, H1, I1, r1, q1⟩ => ?_) hs rfl))
 obtain ⟨j, e, q1, q2, q⟩ := q1
 subst e
 cases r1 with
 | cons r rr =>
  cases rr
  obtain ⟨t, rfl⟩ := r
  exact call_range_1 (range_it I1 (by omega) (by omega) q1 q2 (by simpa using q))
theorem pi_range2 {a b : Expr} {ta : TA} {p pos : Pos} (hg : Gl X "range") (hm : X.mg "range" = none) (ha : PA X [a, b] ta) (hs : starEach [a, b] X.env = [(false, eval a X.env), (false, eval b X.env)] := by rfl) (hs2 : starEach [b] X.env = [(false, eval b X.env)] := by rfl) :
  PI X tg (.Call (.Name "range" p) [a, b] [] pos) (iRng2 ta) := by
 intro pins s σ H R I h
 refine Call_ (ld_blt I hg hm boot_range (PyProof.Rows.callWith_type1 (thn (ha pos pins s σ H _ I h) fun us s1 ⟨vs, H1, I1, r1, q1⟩ => ?_) (by rw [hs, hs2]) (by rw [hs2]; rfl)))
 obtain ⟨i, j, e, ⟨q1, q2, q3, q4⟩, q⟩ := q1
 subst e
 cases r1 with
 | cons r rr =>
  cases rr with
  | cons r' rr =>
   cases rr
   obtain ⟨t, rfl⟩ := r
   obtain ⟨t', rfl⟩ := r'
   exact call_range_2 (range_it I1 q1 q2 q3 q4 q)
def tFor (wi : TI) (g : TG) (tb : TS) : TS := fun D σ H => wi σ H fun J H1 => ∃ W : Nat -> Nat -> St -> Hp -> Prop, (∃ m, W 0 m σ H1) ∧ ∀ i m σ H, W i m σ H ->
 (J.stop i H ∧ D.nx σ H) ∨ (J.go i H ∧ ∃ N : St -> Hp -> Prop, (∀ σ' H', N σ' H' -> ∃ m', m' < m ∧ W (i + 1) m' σ' H') ∧ ∀ x H', J.yld i H x H' -> g x σ H' fun σ2 H2 => tb { D with nx := N, ct := N, bk := D.nx } σ2 H2)
def pinsAt (fp : List Addr) (h : Heap) : List (Addr × Obj) := fp.filterMap fun b => (h.get? b).map fun o => (b, o)
theorem mem_pinsAt {fp : List Addr} {h : Heap} {b : Addr} {o : Obj} (hb : b ∈ fp) (e : h.get? b = some o) : (b, o) ∈ pinsAt fp h := List.mem_filterMap.mpr ⟨b, hb, by rw [e]; rfl⟩
theorem of_pinsAt {fp : List Addr} {h : Heap} {p : Addr × Obj} (hp : p ∈ pinsAt fp h) : p.1 ∈ fp ∧ h.get? p.1 = some p.2 := by
 obtain ⟨b, hb, e⟩ := List.mem_filterMap.mp hp
 cases q : h.get? b with
 | none => rw [q] at e; cases e
 | some o =>
  rw [q] at e
  have e' : (b, o) = p := Option.some.inj e
  subst e'
  exact ⟨hb, q⟩
theorem Inv.pinned {pins : List (Addr × Obj)} {σ : St} {H : Hp} {s : Shared} {fp : List Addr} (I : Inv X pins σ H s) (hf : ∀ b ∈ fp, FpOk X pins H b) (ho : ∀ b ∈ fp, ∃ o, s.heap.get? b = some o ∧ ∀ v, o.data ≠ .cell v) : Inv X (pins ++ pinsAt fp s.heap) σ H s :=
 I.pins_of fun p hp => (List.mem_append.mp hp).elim (fun z => I.pin p (List.mem_append_right _ z)) fun z => by
  obtain ⟨hb, e⟩ := of_pinsAt z
  obtain ⟨f0, f1, f2, _⟩ := hf p.1 hb
  obtain ⟨o, e', d⟩ := ho p.1 hb
  rw [e] at e'; cases e'
  exact ⟨e, f0, f1, f2, d⟩
theorem Inv.unpinned {pins pl : List (Addr × Obj)} {σ : St} {H : Hp} {s : Shared} (I : Inv X (pins ++ pl) σ H s) : Inv X pins σ H s := I.pins_of fun p hp => I.pin p (List.mem_append_right _ (List.mem_append_left _ hp))
theorem ps_for {iter : Expr} {body : List Stmt} {wi : TI} {g : TG} {tb : TS} {pos : Pos} (hp : PassesOwn (model X.prog X.w) X.A X.env X.xe) (hc : X.calm = true) (hi : PI X tg iter wi) (hg : PG X tg g) (hb : PSs X body tb)
  (hs : ∀ x, foldedSetIterable iter X.env x = pure x := by intro _; rfl) : PS X (.For tg iter body [] pos) (tFor wi g tb) := by
 intro pins s σ H D I h
 refine wpAny_For (thn (hi pins s σ H _ I h) fun v s1 h1 => thn h1 fun itv s2 h2 => ?_) hs
 obtain ⟨it, fp, tn, J, H2, e, I2, T, st2, f2, W, ⟨m0, w0⟩, turn⟩ := h2
 subst e
 have stat : ∀ {H' : Hp}, (∀ b ∈ fp, H' b = none) -> ∀ b ∈ fp, FpOk X pins H' b := fun hn b hb => ⟨hn b hb, (f2 b hb).2⟩
 refine codeAny_forLoop_any (fun n s' => ∃ i σ' H', Inv X pins σ' H' s' ∧ tn i s'.heap ∧ (∀ b ∈ fp, H' b = none) ∧ W i n σ' H') ?_ m0 ⟨0, σ, H2, I2, st2, fun b hb => (f2 b hb).1, w0⟩
 rintro n s3 ⟨i, σ3, H3, I3, st3, fr3, w3⟩
 rcases turn i n σ3 H3 w3 with ⟨stop, qn⟩ | ⟨go, N, hN, step⟩
 ·refine wpAny_passesOwn hp (thn (T.done X rfl rfl rfl hc i pins s3 σ3 H3 X.xe I3 (stat fr3) st3 stop) fun r s4 ⟨hr, I4⟩ => ?_)
  subst hr
  exact wpAny_execs_nil ⟨σ3, H3, I4, qn⟩
 ·refine wpAny_passesOwn hp (thn (T.item X rfl rfl rfl hc i pins s3 σ3 H3 X.xe I3 (stat fr3) st3 go) fun r s4 ⟨u, hr, h4⟩ => ?_)
  subst hr
  refine wpAny_passesOwn hp (thn h4 fun _ s5 ⟨x, H5, I5, r5, y5, st5, fr5⟩ => ?_)
  have I5' := I5.pinned (stat fr5) (T.obj _ _ st5)
  refine wpAny_passesOwn hp (thn (hg _ s5 σ3 H5 x u _ I5' r5 (step x H5 y5)) fun _ s6 ⟨σ6, H6, I6, q6⟩ => ?_)
  refine wpAny_passesOwn hp (thn (hb _ s6 σ6 H6 _ I6 q6) fun f s7 q7 => ?_)
  have again : ∀ {σ7 : St} {H7 : Hp}, Inv X (pins ++ pinsAt fp s5.heap) σ7 H7 s7 -> N σ7 H7 -> ∃ m, m < n ∧ ∃ i σ' H', Inv X pins σ' H' s7 ∧ tn i s7.heap ∧ (∀ b ∈ fp, H' b = none) ∧ W i m σ' H' := fun {σ7 H7} I7 n7 => by
   obtain ⟨m', hm, w7⟩ := hN σ7 H7 n7
   refine ⟨m', hm, i + 1, σ7, H7, I7.unpinned, T.keep _ _ _ st5 fun b hb o e => (I7.pin (b, o) (List.mem_append_right _ (List.mem_append_right _ (mem_pinsAt hb e)))).1, fun b hb => ?_, w7⟩
   obtain ⟨o, e, d⟩ := T.obj _ _ st5 b hb
   exact (I7.pin (b, o) (List.mem_append_right _ (List.mem_append_right _ (mem_pinsAt hb e)))).2.1
  cases f with
  | next => obtain ⟨σ7, H7, I7, n7⟩ := q7; exact again I7 n7
  | cont => obtain ⟨σ7, H7, I7, n7⟩ := q7; exact again I7 n7
  | brk => obtain ⟨σ7, H7, I7, q7⟩ := q7; exact ⟨σ7, H7, I7.unpinned, q7⟩
  | ret v => obtain ⟨x7, σ7, H7, I7, r7, q7⟩ := q7; exact ⟨x7, σ7, H7, I7.unpinned, r7, q7⟩
end
theorem for_list {K : PySem.W.Frag} {a : Addr} {xs : List V} {g : TG} {tb : TS} {D : Ends} {σ : St} {H : Hp} (Pv : Nat -> St -> Hp -> Prop) (h0 : Pv 0 σ H) (hl : ∀ i σ H, i <= xs.length -> Pv i σ H -> SqL K H a xs)
  (hs : ∀ i x σ H, xs[i]? = some x -> Pv i σ H -> g x σ H fun σ2 H2 => tb { D with nx := Pv (i + 1), ct := Pv (i + 1), bk := D.nx } σ2 H2) (hd : ∀ σ H, Pv xs.length σ H -> D.nx σ H) :
  ∃ W : Nat -> Nat -> St -> Hp -> Prop, (∃ m, W 0 m σ H) ∧ ∀ i m σ H, W i m σ H ->
   ((Itl K a).stop i H ∧ D.nx σ H) ∨ ((Itl K a).go i H ∧ ∃ N : St -> Hp -> Prop, (∀ σ' H', N σ' H' -> ∃ m', m' < m ∧ W (i + 1) m' σ' H') ∧ ∀ x H', (Itl K a).yld i H x H' -> g x σ H' fun σ2 H2 => tb { D with nx := N, ct := N, bk := D.nx } σ2 H2) := by
 refine ⟨fun i m σ H => m = xs.length - i ∧ i <= xs.length ∧ Pv i σ H, ⟨xs.length, by simp, Nat.zero_le _, h0⟩, ?_⟩
 rintro i m σ H ⟨rfl, hi, p⟩
 have q := hl i σ H hi p
 by_cases hlt : i < xs.length
 ·refine .inr ⟨⟨xs, xs[i], q, by simp [hlt]⟩, Pv (i + 1), fun σ' H' p' => ⟨xs.length - (i + 1), by omega, rfl, hlt, p'⟩, fun x H' y => ?_⟩
  obtain ⟨e, y⟩ := y
  subst e
  exact hs i x σ _ (y xs q) p
 ·have e : i = xs.length := by omega
  subst e
  exact .inl ⟨⟨xs, q, Nat.le_refl _⟩, hd σ H p⟩
theorem for_range {lo : Int} {n : Nat} {g : TG} {tb : TS} {D : Ends} {σ : St} {H : Hp} (Pv : Nat -> St -> Hp -> Prop) (h0 : Pv 0 σ H)
  (hs : ∀ i σ H, i < n -> Pv i σ H -> g (.int (lo + i)) σ H fun σ2 H2 => tb { D with nx := Pv (i + 1), ct := Pv (i + 1), bk := D.nx } σ2 H2) (hd : ∀ σ H, Pv n σ H -> D.nx σ H) :
  ∃ W : Nat -> Nat -> St -> Hp -> Prop, (∃ m, W 0 m σ H) ∧ ∀ i m σ H, W i m σ H ->
   ((Itr lo n).stop i H ∧ D.nx σ H) ∨ ((Itr lo n).go i H ∧ ∃ N : St -> Hp -> Prop, (∀ σ' H', N σ' H' -> ∃ m', m' < m ∧ W (i + 1) m' σ' H') ∧ ∀ x H', (Itr lo n).yld i H x H' -> g x σ H' fun σ2 H2 => tb { D with nx := N, ct := N, bk := D.nx } σ2 H2) := by
 refine ⟨fun i m σ H => m = n - i ∧ i <= n ∧ Pv i σ H, ⟨n, by simp, Nat.zero_le _, h0⟩, ?_⟩
 rintro i m σ H ⟨rfl, hi, p⟩
 by_cases hlt : i < n
 ·refine .inr ⟨hlt, Pv (i + 1), fun σ' H' p' => ⟨n - (i + 1), by omega, rfl, hlt, p'⟩, fun x H' y => ?_⟩
  obtain ⟨e, y⟩ := y
  subst e y
  exact hs i σ _ hlt p
 ·have e : i = n := by omega
  subst e
  exact .inl ⟨Nat.le_refl _, hd σ H p⟩
end L2
namespace L2
open PySem PySem.Spec PyProof.Rows
abbrev R2 := V -> V -> Hp -> VK -> Prop
def OpR (X : Cx) (f : Value -> Value -> Sem Value) (r : R2) : Prop :=
 ∀ (pins : List (Addr × Obj)) (s : Shared) (σ : St) (H : Hp) (x y : V) (v u : Value) (Q : VK), Inv X pins σ H s -> RelV x v -> RelV y u -> r x y H Q ->
  wpAny (model X.prog X.w) X.A (f v u) (EP X pins σ Q) X.xe s
def UnR (X : Cx) (f : Value -> Sem Value) (r : V -> Hp -> VK -> Prop) : Prop :=
 ∀ (pins : List (Addr × Obj)) (s : Shared) (σ : St) (H : Hp) (x : V) (v : Value) (Q : VK), Inv X pins σ H s -> RelV x v -> r x H Q ->
  wpAny (model X.prog X.w) X.A (f v) (EP X pins σ Q) X.xe s
def CallR (X : Cx) (f : Value) (r : List V -> Hp -> VK -> Prop) : Prop :=
 ∀ (pins : List (Addr × Obj)) (s : Shared) (σ : St) (H : Hp) (xs : List V) (us : List Value) (Q : VK), Inv X pins σ H s -> Vals xs us -> r xs H Q ->
  wpAny (model X.prog X.w) X.A (call f us) (EP X pins σ Q) X.xe s
def tOp (r : R2) (ta tb : TE) : TE := fun σ H Q => ta σ H fun x H1 => tb σ H1 fun y H2 => r x y H2 Q
def tUn (r : V -> Hp -> VK -> Prop) (ta : TE) : TE := fun σ H Q => ta σ H fun x H1 => r x H1 Q
def rI (C : Int -> Int -> Prop) (g : Int -> Int -> V) : R2 := fun x y H Q => ∃ i j, x = .int i ∧ y = .int j ∧ C i j ∧ Q (g i j) H
def rI0 (g : Int -> Int -> V) : R2 := fun x y H Q => ∃ i j, x = .int i ∧ y = .int j ∧ Q (g i j) H
def rU (g : Int -> V) : V -> Hp -> VK -> Prop := fun x H Q => ∃ i, x = .int i ∧ Q (g i) H
section
variable {X : Cx} {a b c : Expr} {ta tb tc : TE} {pos : Pos}
theorem binT (ha : PE X a ta) (hb : PE X b tb) {pins : List (Addr × Obj)} {s : Shared} {σ : St} {H : Hp} {R : V -> V -> Hp -> Prop} (I : Inv X pins σ H s)
  (h : ta σ H fun x H1 => tb σ H1 fun y H2 => R x y H2) {Q : Value -> Shared -> Prop} {f : Value -> Value -> Sem Value}
  (hf : ∀ v u s2 x y H2, Inv X pins σ H2 s2 -> RelV x v -> RelV y u -> R x y H2 -> wpAny (model X.prog X.w) X.A (f v u) Q X.xe s2) :
  wpAny (model X.prog X.w) X.A (eval a X.env) (fun v s₁ => wpAny (model X.prog X.w) X.A (eval b X.env) (fun u s₂ => wpAny (model X.prog X.w) X.A (f v u) Q X.xe s₂) X.xe s₁) X.xe s := by
 refine thn (ha pins s σ H _ I h) fun v s1 ⟨x, H1, I1, r1, q1⟩ => ?_
 refine thn (hb pins s1 σ H1 _ I1 q1) fun u s2 ⟨y, H2, I2, r2, q2⟩ => ?_
 exact hf v u s2 x y H2 I2 r1 r2 q2
theorem pe_op {op : Operator} {r : R2} (ho : OpR X (binaryOp op) r) (ha : PE X a ta) (hb : PE X b tb) : PE X (.BinOp a op b pos) (tOp r ta tb) := by
 intro pins s σ H Q I h
 exact wpAny_BinOp (binT ha hb I h fun v u s2 x y H2 I2 rx ry q => ho pins s2 σ H2 x y v u Q I2 rx ry q)
theorem pe_un {op : UnaryOp} {r : V -> Hp -> VK -> Prop} (ho : UnR X (unaryOp op) r) (ha : PE X a ta) : PE X (.UnaryOp op a pos) (tUn r ta) := by
 intro pins s σ H Q I h
 exact UnaryOp_ (thn (ha pins s σ H _ I h) fun v s1 ⟨x, H1, I1, r1, q1⟩ => ho pins s1 σ H1 x v Q I1 r1 q1)
theorem opI {f : Value -> Value -> Sem Value} {C : Int -> Int -> Prop} {g : Int -> Int -> Int}
  (rule : ∀ (i j : Int) (t u : Tok) (s : Shared) (Q : Value -> Shared -> Prop) (E : Value -> Shared -> Prop), C i j -> Q (.int (g i j) s.toks) { s with toks := s.toks + 1 } -> wpAny (model X.prog X.w) X.A (f (.int i t) (.int j u)) Q E s) :
  OpR X f (rI C fun i j => .int (g i j)) := by
 intro pins s σ H x y v u Q I rx ry h
 obtain ⟨i, j, rfl, rfl, hc, q⟩ := h
 obtain ⟨t, rfl⟩ := rx
 obtain ⟨t', rfl⟩ := ry
 exact rule i j t t' s _ _ hc ⟨.int (g i j), H, I.tok _, ⟨_, rfl⟩, q⟩
theorem opI0 {f : Value -> Value -> Sem Value} {g : Int -> Int -> Int}
  (rule : ∀ (i j : Int) (t u : Tok) (s : Shared) (Q : Value -> Shared -> Prop) (E : Value -> Shared -> Prop), Q (.int (g i j) s.toks) { s with toks := s.toks + 1 } -> wpAny (model X.prog X.w) X.A (f (.int i t) (.int j u)) Q E s) :
  OpR X f (rI0 fun i j => .int (g i j)) := by
 intro pins s σ H x y v u Q I rx ry h
 obtain ⟨i, j, rfl, rfl, q⟩ := h
 obtain ⟨t, rfl⟩ := rx
 obtain ⟨t', rfl⟩ := ry
 exact rule i j t t' s _ _ ⟨.int (g i j), H, I.tok _, ⟨_, rfl⟩, q⟩
theorem opB0 {f : Value -> Value -> Sem Value} {g : Int -> Int -> Bool}
  (rule : ∀ (i j : Int) (t u : Tok) (s : Shared) (Q : Value -> Shared -> Prop) (E : Value -> Shared -> Prop), Q (.bool (g i j)) s -> wpAny (model X.prog X.w) X.A (f (.int i t) (.int j u)) Q E s) :
  OpR X f (rI0 fun i j => .bl (g i j)) := by
 intro pins s σ H x y v u Q I rx ry h
 obtain ⟨i, j, rfl, rfl, q⟩ := h
 obtain ⟨t, rfl⟩ := rx
 obtain ⟨t', rfl⟩ := ry
 exact rule i j t t' s _ _ ⟨.bl (g i j), H, I, rfl, q⟩
def CDiv (i j : Int) : Prop := 0 < j ∧ j < 1073741824
theorem op_add : OpR X (binaryOp .Add) (rI0 fun i j => .int (i + j)) := opI0 fun _ _ _ _ _ _ _ q => add_int q
theorem op_sub : OpR X (binaryOp .Sub) (rI0 fun i j => .int (i - j)) := opI0 fun _ _ _ _ _ _ _ q => sub_int q
theorem op_fdiv : OpR X (binaryOp .FloorDiv) (rI CDiv fun i j => .int (i / j)) := opI fun i j _ _ _ _ _ hc q => by
 have h1 : (0 : Int) < j := hc.1
 have h2 : j < 1073741824 := hc.2
 exact floordiv_int (by omega) (by rw [Int.fdiv_eq_ediv_of_nonneg i (by omega)]; exact q) (.inl (PyProof.noPylong_small (by omega)))
theorem op_mod : OpR X (binaryOp .Mod) (rI (fun _ j => 0 < j) fun i j => .int (i % j)) := opI fun i j _ _ _ _ _ hc q => by
 have h1 : (0 : Int) < j := hc
 exact mod_int' (by omega) (by rw [Int.fmod_eq_emod_of_nonneg i (by omega)]; exact q)
theorem unI {f : Value -> Sem Value} {g : Int -> Int}
  (rule : ∀ (i : Int) (t : Tok) (s : Shared) (Q : Value -> Shared -> Prop) (E : Value -> Shared -> Prop), Q (.int (g i) s.toks) { s with toks := s.toks + 1 } -> wpAny (model X.prog X.w) X.A (f (.int i t)) Q E s) :
  UnR X f (rU fun i => .int (g i)) := by
 intro pins s σ H x v Q I rx h
 obtain ⟨i, rfl, q⟩ := h
 obtain ⟨t, rfl⟩ := rx
 exact rule i t s _ _ ⟨.int (g i), H, I.tok _, ⟨_, rfl⟩, q⟩
theorem un_neg : UnR X (unaryOp .USub) (rU fun i => .int (-i)) := unI fun _ _ _ _ _ q => neg_int q
end
def scal : V -> V -> Bool
 | .non, .non => true | .non, .int _ => true | .int _, .non => true | .non, .bl _ => true | .bl _, .non => true | .non, .str _ => true | .str _, .non => true
 | .int _, .int _ => true | .bl _, .bl _ => true | .str _, .str _ => true | .byt _, .byt _ => true
 | .int _, .str _ => true | .str _, .int _ => true | .bl _, .str _ => true | .str _, .bl _ => true
 | _, _ => false
def rEq : R2 := fun x y H Q => scal x y = true ∧ Q (.bl (decide (x = y))) H
def rNe : R2 := fun x y H Q => scal x y = true ∧ Q (.bl (!decide (x = y))) H
theorem dec_int {i j : Int} : decide (V.int i = V.int j) = (i == j) := by
 rw [Bool.eq_iff_iff]
 simp
theorem dec_bl {i j : Bool} : decide (V.bl i = V.bl j) = (i == j) := by
 rw [Bool.eq_iff_iff]
 simp
theorem dec_str {i j : Str} : decide (V.str i = V.str j) = (i == j) := by
 rw [Bool.eq_iff_iff]
 simp
theorem dec_byt {i j : Array UInt8} : decide (V.byt i = V.byt j) = (i.toList == j.toList) := by
 rw [Bool.eq_iff_iff]
 cases i
 cases j
 simp
section
variable {X : Cx} {a b c : Expr} {ta tb tc : TE} {pos : Pos}
theorem fin_bl {pins : List (Addr × Obj)} {σ : St} {H : Hp} {s : Shared} {Q : VK} {k k' : Bool} (I : Inv X pins σ H s) (q : Q (.bl k) H) (e : k = k') : EP X pins σ Q (.bool k') s := by
 subst e
 exact ⟨.bl k, H, I, rfl, q⟩
theorem op_eq : OpR X (compareOp .Eq) rEq := by
 intro pins s σ H x y v u Q I rx ry h
 obtain ⟨hs, q⟩ := h
 cases x with
 | non =>
  cases rx
  cases y with
  | non => cases ry; exact PySem.EqNone.eq_none_none (fin_bl I q (by simp))
  | bl j => cases ry; exact PySem.EqNone.eq_none_bool (fin_bl I q (by simp))
  | int j => obtain ⟨t', rfl⟩ := ry; exact PySem.EqNone.eq_none_int (fin_bl I q (by simp))
  | str j => obtain ⟨t', rfl⟩ := ry; exact PySem.EqNone.eq_none_str (fin_bl I q (by simp))
  | _ => exact absurd (show false = true from hs) Bool.false_ne_true
 | bl i =>
  cases rx
  cases y with
  | non => cases ry; exact PySem.EqNone.eq_bool_none (fin_bl I q (by simp))
  | bl j => cases ry; exact eq_bool (fin_bl I q dec_bl)
  | str j => obtain ⟨t', rfl⟩ := ry; exact PySem.EqMixed.eq_bool_str (fin_bl I q (by simp))
  | _ => exact absurd (show false = true from hs) Bool.false_ne_true
 | int i =>
  obtain ⟨t, rfl⟩ := rx
  cases y with
  | non => cases ry; exact PySem.EqNone.eq_int_none (fin_bl I q (by simp))
  | int j => obtain ⟨t', rfl⟩ := ry; exact eq_int (fin_bl I q dec_int)
  | str j => obtain ⟨t', rfl⟩ := ry; exact PySem.EqMixed.eq_int_str (fin_bl I q (by simp))
  | _ => exact absurd (show false = true from hs) Bool.false_ne_true
 | str i =>
  obtain ⟨t, rfl⟩ := rx
  cases y with
  | non => cases ry; exact PySem.EqNone.eq_str_none (fin_bl I q (by simp))
  | bl j => cases ry; exact PySem.EqMixed.eq_str_bool (fin_bl I q (by simp))
  | int j => obtain ⟨t', rfl⟩ := ry; exact PySem.EqMixed.eq_str_int (fin_bl I q (by simp))
  | str j => obtain ⟨t', rfl⟩ := ry; exact eq_str (fin_bl I q dec_str)
  | _ => exact absurd (show false = true from hs) Bool.false_ne_true
 | byt i =>
  obtain ⟨t, rfl⟩ := rx
  cases y with
  | byt j => obtain ⟨t', rfl⟩ := ry; exact PySem.W.eq_bytes (fin_bl I q dec_byt)
  | _ => exact absurd (show false = true from hs) Bool.false_ne_true
 | _ => cases y <;> exact absurd (show false = true from hs) Bool.false_ne_true
theorem op_ne : OpR X (compareOp .NotEq) rNe := by
 intro pins s σ H x y v u Q I rx ry h
 obtain ⟨hs, q⟩ := h
 cases x with
 | non =>
  cases rx
  cases y with
  | non => cases ry; exact PySem.EqNone.ne_none_none (fin_bl I q (by simp))
  | bl j => cases ry; exact PySem.EqNone.ne_none_bool (fin_bl I q (by simp))
  | int j => obtain ⟨t', rfl⟩ := ry; exact PySem.EqNone.ne_none_int (fin_bl I q (by simp))
  | str j => obtain ⟨t', rfl⟩ := ry; exact PySem.EqNone.ne_none_str (fin_bl I q (by simp))
  | _ => exact absurd (show false = true from hs) Bool.false_ne_true
 | bl i =>
  cases rx
  cases y with
  | non => cases ry; exact PySem.EqNone.ne_bool_none (fin_bl I q (by simp))
  | bl j => cases ry; exact ne_bool (fin_bl I q (congrArg not dec_bl))
  | str j => obtain ⟨t', rfl⟩ := ry; exact PySem.EqMixed.ne_bool_str (fin_bl I q (by simp))
  | _ => exact absurd (show false = true from hs) Bool.false_ne_true
 | int i =>
  obtain ⟨t, rfl⟩ := rx
  cases y with
  | non => cases ry; exact PySem.EqNone.ne_int_none (fin_bl I q (by simp))
  | int j => obtain ⟨t', rfl⟩ := ry; exact ne_int (fin_bl I q (congrArg not dec_int))
  | str j => obtain ⟨t', rfl⟩ := ry; exact PySem.EqMixed.ne_int_str (fin_bl I q (by simp))
  | _ => exact absurd (show false = true from hs) Bool.false_ne_true
 | str i =>
  obtain ⟨t, rfl⟩ := rx
  cases y with
  | non => cases ry; exact PySem.EqNone.ne_str_none (fin_bl I q (by simp))
  | bl j => cases ry; exact PySem.EqMixed.ne_str_bool (fin_bl I q (by simp))
  | int j => obtain ⟨t', rfl⟩ := ry; exact PySem.EqMixed.ne_str_int (fin_bl I q (by simp))
  | str j => obtain ⟨t', rfl⟩ := ry; exact ne_str (fin_bl I q (congrArg not dec_str))
  | _ => exact absurd (show false = true from hs) Bool.false_ne_true
 | byt i =>
  obtain ⟨t, rfl⟩ := rx
  cases y with
  | byt j => obtain ⟨t', rfl⟩ := ry; exact PySem.W.ne_bytes (fin_bl I q (congrArg not dec_byt))
  | _ => exact absurd (show false = true from hs) Bool.false_ne_true
 | _ => cases y <;> exact absurd (show false = true from hs) Bool.false_ne_true
theorem op_lt : OpR X (compareOp .Lt) (rI0 fun i j => .bl (decide (i < j))) := opB0 fun _ _ _ _ _ _ _ q => lt_int q
theorem op_le : OpR X (compareOp .LtE) (rI0 fun i j => .bl (decide (i <= j))) := opB0 fun _ _ _ _ _ _ _ q => le_int q
theorem op_gt : OpR X (compareOp .Gt) (rI0 fun i j => .bl (decide (j < i))) := opB0 fun _ _ _ _ _ _ _ q => gt_int q
theorem op_ge : OpR X (compareOp .GtE) (rI0 fun i j => .bl (decide (j <= i))) := opB0 fun _ _ _ _ _ _ _ q => ge_int q
theorem nomark (b : Expr) {op : CmpOp} (h : op ≠ .In := by decide) (h2 : op ≠ .NotIn := by decide) : behindInMarks op b = false := by
 have e1 : (op == CmpOp.In) = false := by cases op <;> first | rfl | exact absurd rfl h
 have e2 : (op == CmpOp.NotIn) = false := by cases op <;> first | rfl | exact absurd rfl h2
 cases b <;> simp [behindInMarks, e1, e2]
theorem pe_cmpR {op : CmpOp} {r : R2} (ho : OpR X (compareOp op) r) (ha : PE X a ta) (hb : PE X b tb) (hm : behindInMarks op b = false) : PE X (.Compare a [op] [b] pos) (tOp r ta tb) := by
 intro pins s σ H Q I h
 exact wpAny_Compare1 (binT ha hb I h fun v u s2 x y H2 I2 rx ry q => ho pins s2 σ H2 x y v u Q I2 rx ry q) hm
def tTest (t : TE) : TT := fun σ H Q => t σ H fun x H' => ∃ k, x = .bl k ∧ Q k H'
theorem pt_cmpR {op : CmpOp} {r : R2} (ho : OpR X (compareOp op) r) (ha : PE X a ta) (hb : PE X b tb) (hm : behindInMarks op b = false) : PT X (.Compare a [op] [b] pos) (tTest (tOp r ta tb)) := by
 intro pins s σ H Q I h
 refine wpAny_isTrue_Compare1 (thn (ha pins s σ H _ I h) fun v s1 ⟨x, H1, I1, r1, q1⟩ => thn (hb pins s1 σ H1 _ I1 q1) fun u s2 ⟨y, H2, I2, r2, q2⟩ =>
  thn (ho pins s2 σ H2 x y v u _ I2 r1 r2 q2) fun c s3 ⟨z, H3, I3, r3, k, e, q3⟩ => ?_) hm
 subst e
 cases r3
 exact wpAny_truthy_bool ⟨H3, I3, q3⟩
def tChain (r r' : R2) (ta tb tc : TE) : TE := fun σ H Q => ta σ H fun x H1 => tb σ H1 fun y H2 => r x y H2 fun z H3 => ∃ k, z = .bl k ∧
 (if k = true then tc σ H3 fun w' H4 => r' y w' H4 Q else Q (.bl false) H3)
theorem pe_chain {op op' : CmpOp} {r r' : R2} (ho : OpR X (compareOp op) r) (ho' : OpR X (compareOp op') r') (ha : PE X a ta) (hb : PE X b tb) (hc : PE X c tc)
  (hm : lastMarks [op, op'] [b, c] = false := by with_unfolding_all rfl) : PE X (.Compare a [op, op'] [b, c] pos) (tChain r r' ta tb tc) := by
 intro pins s σ H Q I h
 refine Compare_chain (thn (ha pins s σ H _ I h) fun v s1 ⟨x, H1, I1, r1, q1⟩ => chain_link (thn (hb pins s1 σ H1 _ I1 q1) fun u s2 ⟨y, H2, I2, r2, q2⟩ =>
  thn (ho pins s2 σ H2 x y v u _ I2 r1 r2 q2) fun d s3 ⟨z, H3, I3, r3, k, e, q3⟩ => ?_)) hm
 subst e
 cases r3
 refine wpAny_truthy_bool ?_
 cases k with
 | false => exact ite_ff ⟨.bl false, H3, I3, rfl, q3⟩
 | true => exact ite_tt (chain_last (thn (hc pins s3 σ H3 _ I3 q3) fun w' s4 ⟨z', H4, I4, r4, q4⟩ => ho' pins s4 σ H4 y z' u w' Q I4 r2 r4 q4))
theorem line63 : (sizeLine : Nat) < 2 ^ 63 := by rw [sizeLine_eq]; decide
theorem vals1 {x : V} {us : List Value} (r : Vals [x] us) : ∃ u, us = [u] ∧ RelV x u := by
 cases r with
 | cons r1 r2 => cases r2; exact ⟨_, rfl, r1⟩
theorem vals2 {x y : V} {us : List Value} (r : Vals [x, y] us) : ∃ u w', us = [u, w'] ∧ RelV x u ∧ RelV y w' := by
 cases r with
 | cons r1 r2 =>
  cases r2 with
  | cons r3 r4 => cases r4; exact ⟨_, _, rfl, r1, r3⟩
theorem call_max2 (hc : X.calm = true) : CallR X (.builtin "max") (fun xs H Q => ∃ i j, xs = [.int i, .int j] ∧ Q (.int (if j > i then j else i)) H) := by
 intro pins s σ H xs us Q I r h
 obtain ⟨i, j, rfl, q⟩ := h
 obtain ⟨u, w', rfl, ⟨t, rfl⟩, ⟨t', rfl⟩⟩ := vals2 r
 refine max_two_ints (I.ok.hd hc) fun h' tk k => ⟨_, H, I.kept k, ?_, q⟩
 by_cases hj : j > i
 ·rw [if_pos hj, if_pos hj]; exact ⟨_, rfl⟩
 ·rw [if_neg hj, if_neg hj]; exact ⟨_, rfl⟩
theorem call_int1 : CallR X (.type "int") (fun xs H Q => (∃ i, xs = [.int i] ∧ Q (.int i) H) ∨ ∃ k, xs = [.bl k] ∧ Q (.int (if k then 1 else 0)) H) := by
 intro pins s σ H xs us Q I r h
 rcases h with ⟨i, rfl, q⟩ | ⟨k, rfl, q⟩
 ·obtain ⟨u, rfl, t, rfl⟩ := vals1 r
  exact call_int_int ⟨.int i, H, I, ⟨_, rfl⟩, q⟩
 ·obtain ⟨u, rfl, r1⟩ := vals1 r
  cases r1
  exact call_int_bool ⟨.int (if k then 1 else 0), H, I.tok _, ⟨_, rfl⟩, q⟩
end
end L2
namespace L2
open PySem PySem.Spec PyProof.Rows
structure ObjM (h : Heap) (x dx C : Addr) (mA : Str -> Option Value) : Prop where
 obj : h.get? x = some (PySem.W.instObj C dx)
 ns : h.Ns1 dx mA
 ne : dx ≠ x
theorem lookIn_ns {h : Heap} {dx : Addr} {mA : Str -> Option Value} (n : h.Ns1 dx mA) : ∃ od, h.get? dx = some od ∧ ∀ name, PySem.W.lookIn name od = some (mA name) := by
 obtain ⟨o, es, ep, ho, hd, hk, _, hm⟩ := n
 refine ⟨o, ho, fun name => ?_⟩
 have e := hm name
 unfold nsFind findBy at e
 rw [← Array.find?_toList] at e
 unfold PySem.W.lookIn
 rw [hd]
 dsimp only
 split
 ·rename_i y q
  rw [q] at e
  exact congrArg some e
 ·rename_i q
  rw [q] at e
  have a : es.toList.any (·.refKey) = false := by
   rw [List.any_eq_false]
   intro y hy
   obtain ⟨z, t, hkey⟩ := hk y (Array.mem_toList_iff.mp hy)
   simp [DictEntry.refKey, hkey]
  have a' : ¬ es.toList.any (·.refKey) = true := by rw [a]; exact Bool.false_ne_true
  rw [if_neg a']
  exact congrArg some e
theorem ObjM.look {h : Heap} {x dx C : Addr} {mA : Str -> Option Value} (I : ObjM h x dx C mA) : ∃ od, PySem.W.InstAt h x (PySem.W.instObj C dx) C (some od) ∧ ∀ name, PySem.W.lookIn name od = some (mA name) :=
 let ⟨od, ho, hl⟩ := lookIn_ns I.ns
 ⟨od, ⟨I.obj, rfl, rfl, ho⟩, hl⟩
section
variable {prog : Program} {w : World} {A : Around} {E : Value -> Shared -> Prop} {s : Shared} {K : PySem.W.Frag} {x dx C f : Addr} {mA : Str -> Option Value} {name : Str} {v : Value}
theorem get_map {expr : Bool} {Q : Value -> Shared -> Prop} (X : K.In s.heap) (I : ObjM s.heap x dx C mA) (hg : PySem.W.plainGet K C name = true) (hh : PySem.W.hasDictIn K C = true)
  (ha : PySem.W.findIn K (.ref C) name = some none) (hv : mA name = some v) (hv' : PySem.W.handedIn v = true) (h : Q v { s with toks := s.toks + 1 }) :
  wpAny (model prog w) A (getAttr (.ref x) name expr) Q E s := by
 obtain ⟨od, J, hl⟩ := I.look
 exact PySem.W.get_value X J (PySem.W.plainGet_of hg).1 (PySem.W.findObj_own hh ha rfl (by rw [hl, hv])) hv' h
theorem get_meth {pl : Sem Bool} {Q : Value × List Value -> Shared -> Prop} (X : K.In s.heap) (I : ObjM s.heap x dx C mA) (hg : PySem.W.plainGet K C name = true)
  (hf : PySem.W.findIn K (.ref C) name = some (some (.ref f))) (ht : PySem.W.isFn K (.ref f) = true) (hv : mA name = none) (h : Q (.ref f, [.ref x]) s) :
  wpAny (model prog w) A (getMethod (.ref x) name pl) Q E s := by
 obtain ⟨od, J, hl⟩ := I.look
 exact PySem.W.method_fn X J (PySem.W.plainGet_of hg).1 (PySem.W.plainGet_of hg).2 hf (beq_iff_eq.mp ht) (by show (PySem.W.lookIn name od).map (·.isSome) = some false; rw [hl, hv]; rfl) h
theorem set_map {ns : List Str} {Q : Unit -> Shared -> Prop} (X : K.In s.heap) (I : ObjM s.heap x dx C mA)
  (hs : PySem.W.findIn K (.ref C) "__setattr__" = some (some (.builtin "object.__setattr__"))) (hp : PySem.W.plainOver K C = true) (ht : PySem.W.takerIn K C name = some none) (hh : PySem.W.hasDictIn K C = true)
  (hw : PySem.Within mA ns) (hsz : ns.length <= sizeLine)
  (h : ∀ h', ObjM h' x dx C (fun y => if y = name then some v else mA y) -> Heap.SameBut dx s.heap h' -> Q () { s with heap := h', toks := s.toks + 2 }) :
  wpAny (model prog w) A (setAttr (.ref x) name v) Q E s := by
 obtain ⟨od, J, hl⟩ := I.look
 refine PySem.W.set_plain X J hs (PySem.W.osa_open (s := { s with toks := s.toks + 1 }) (r := none) X J hp ht fun b => ?_)
 obtain ⟨cd, hc, hd'⟩ := PySem.W.any_some hh
 have hx : s.heap.get? x = some ⟨.ref C, some dx, .plain, #[]⟩ := I.obj
 refine wpAny_bind (wpAny_pure (wpAny_bind (wpAny_bind (wpAny_loadPart hx (wpAny_bind (PySem.W.Looks.here (s := { s with toks := s.toks + 1 }) (PySem.W.looks_clsIn X hc) ?_))))))
 rw [hd']
 refine wpAny_pure (a := some dx) (wpAny_bind (wpAny_pure (wpAny_bind ?_)))
 refine wpAny_nsSet1 (s := { s with toks := s.toks + 1 }) I.ns fun h' hn2 hs2 => ?_
 obtain ⟨oD, esD, epD, hoD, hdD, hcD⟩ := hn2.count (PySem.Within.cons name v hw)
 refine wpAny_bind (wpAny_lookBehind hoD (by rw [hdD]; exact pastItsLine_dict (Nat.le_trans hcD (by rw [List.length_cons]; omega))) ?_)
 exact wpAny_pure (h _ ⟨(hs2.2 _ (Ne.symm I.ne)).trans I.obj, hn2, I.ne⟩ hs2)
theorem make_map {R : Result -> Shared -> Prop} {vs : List Value} {kw : List (Str × Value)} (X : K.In s.heap) (hm : PySem.W.makesIn K C = true)
  (hi : PySem.W.findIn K (.ref C) "__init__" = some (some (.ref f))) (hf : PySem.W.typeIn K (.ref f) = some (.type "function"))
  (h : codeAny (model prog w) (A.under (.builtin "type.__call__" ⟨.ref C :: vs, kw⟩)) (.call (.ref f) ⟨.ref (s.heap.objs.size + 1) :: vs, kw⟩) (PySem.W.InitBack (s.heap.objs.size + 1) R)
   { s with heap := (s.heap.push PySem.W.emptyDict).push (PySem.W.instObj C s.heap.objs.size) }) :
  codeAny (model prog w) A (.call (.ref C) ⟨vs, kw⟩) R s := by
 obtain ⟨hh, g, d, t, os⟩ := s
 exact PySem.W.make_core (PySem.W.makes_of X hm) (PySem.W.looks_findIn X hi) (fun self => PySem.W.bind_fn X self hf) (.inl rfl) h
end
def putF (f : Str) (v : V) : List (Str × V) -> List (Str × V)
 | [] => [(f, v)]
 |(g, x) :: r => if g = f then (g, v) :: r else (g, x) :: putF f v r
theorem lookup_putF (f g : Str) (v : V) : ∀ fs : List (Str × V), (putF f v fs).lookup g = if g = f then some v else fs.lookup g
 | [] => by
  show List.lookup g [(f, v)] = _
  by_cases h : g = f
  ·have hb : (g == f) = true := beq_iff_eq.mpr h
   simp only [List.lookup, hb, if_pos h]
  ·have hb : (g == f) = false := beq_eq_false_iff_ne.mpr h
   simp only [List.lookup, hb, if_neg h]
 |(k, x) :: r => by
  have ih := lookup_putF f g v r
  rw [show putF f v ((k, x) :: r) = (if k = f then (k, v) :: r else (k, x) :: putF f v r) from rfl]
  by_cases hk : k = f
  ·rw [if_pos hk]
   by_cases h : g = k
   ·have hb : (g == k) = true := beq_iff_eq.mpr h
    simp only [List.lookup, hb, if_pos (h.trans hk)]
   ·have hb : (g == k) = false := beq_eq_false_iff_ne.mpr h
    simp only [List.lookup, hb, if_neg (fun e : g = f => h (e.trans hk.symm))]
  ·rw [if_neg hk]
   by_cases h : g = k
   ·have hb : (g == k) = true := beq_iff_eq.mpr h
    simp only [List.lookup, hb, if_neg (fun e : g = f => hk (h.symm.trans e))]
   ·have hb : (g == k) = false := beq_eq_false_iff_ne.mpr h
    simp only [List.lookup, hb]
    exact ih
theorem keys_putF (f : Str) (v : V) : ∀ fs : List (Str × V), f ∈ (putF f v fs).map (·.1) ∧ ∀ g, g ∈ fs.map (·.1) -> g ∈ (putF f v fs).map (·.1)
 | [] => ⟨by simp [putF], fun g h => by simp at h⟩
 |(k, x) :: r => by
  obtain ⟨i1, i2⟩ := keys_putF f v r
  rw [show putF f v ((k, x) :: r) = (if k = f then (k, v) :: r else (k, x) :: putF f v r) from rfl]
  by_cases hk : k = f
  ·rw [if_pos hk]
   subst hk
   exact ⟨by simp, fun g h => by simpa using h⟩
  ·rw [if_neg hk]
   refine ⟨?_, fun g h => ?_⟩
   ·rw [List.map_cons]
    exact List.mem_cons_of_mem _ i1
   ·rw [List.map_cons] at h ⊢
    rcases List.mem_cons.mp h with e | e
    ·exact List.mem_cons.mpr (.inl e)
    ·exact List.mem_cons_of_mem _ (i2 g e)
theorem length_putF (f : Str) (v : V) : ∀ fs : List (Str × V), (putF f v fs).length <= fs.length + 1
 | [] => by simp [putF]
 |(k, x) :: r => by
  have ih := length_putF f v r
  rw [show putF f v ((k, x) :: r) = (if k = f then (k, v) :: r else (k, x) :: putF f v r) from rfl]
  by_cases hk : k = f
  ·rw [if_pos hk, List.length_cons, List.length_cons]; omega
  ·rw [if_neg hk, List.length_cons, List.length_cons]; omega
theorem RelO.some_of {v : V} {o : Option Value} (r : RelO (some v) o) : ∃ u, o = some u ∧ RelV v u := by
 cases o with
 | none => exact (show False from r).elim
 | some u => exact ⟨u, rfl, r⟩
theorem RelO.none_of {o : Option Value} (r : RelO none o) : o = none := by
 cases o with
 | none => rfl
 | some u => exact (show False from r).elim
theorem handed_of {v : V} {u : Value} (r : RelV v u) : PySem.W.handedIn u = true := by
 cases v with
 | non => cases (show u = Value.none from r); rfl
 | bl b => cases (show u = Value.bool b from r); rfl
 | int i => obtain ⟨t, e⟩ := (show ∃ t, u = Value.int i t from r); cases e; rfl
 | str x => obtain ⟨t, e⟩ := (show ∃ t, u = Value.str x t from r); cases e; rfl
 | byt b => obtain ⟨t, e⟩ := (show ∃ t, u = Value.bytes b t from r); cases e; rfl
 | flt b => obtain ⟨t, e⟩ := (show ∃ t, u = Value.float b t from r); cases e; rfl
 | ref a => cases (show u = Value.ref a from r); rfl
 | ty n => cases (show u = Value.type n from r); rfl
section
variable {P : Program} {w : World} {H H' : Hp} {h h' : Heap} {a C dx : Addr} {fs fs' : List (Str × V)}
theorem ins_get (hok : HOk P w H h) (e : H a = some (.ins C dx fs)) : ∃ mA, ObjM h a dx C mA ∧ (∀ f, RelO (fs.lookup f) (mA f)) ∧ PySem.Within mA (fs.map (·.1)) ∧ fs.length <= 1000 ∧ H dx = some (.own a) := by
 obtain ⟨d, z, ne, ob, mA, n, r, q⟩ := (show ObjOk P w H h a (.ins C dx fs) from hok a _ e)
 exact ⟨mA, ⟨ob, n, ne⟩, r, q, z, d⟩
end
structure Cls (K : PySem.W.Frag) (C : Addr) : Prop where
 pg : PySem.W.plainGet K C Str.empty = true
 hd : PySem.W.hasDictIn K C = true
 po : PySem.W.plainOver K C = true
 sa : PySem.W.findIn K (.ref C) "__setattr__" = some (some (.builtin "object.__setattr__"))
theorem Cls.get {K : PySem.W.Frag} {C : Addr} (c : Cls K C) (f : Str) : PySem.W.plainGet K C f = true := c.pg
def NoAttr (K : PySem.W.Frag) (C : Addr) (f : Str) : Prop := PySem.W.findIn K (.ref C) f = some none
theorem NoAttr.taker {K : PySem.W.Frag} {C : Addr} {f : Str} (n : NoAttr K C f) : PySem.W.takerIn K C f = some none := by
 unfold PySem.W.takerIn
 rw [show PySem.W.findIn K (.ref C) f = some none from n]
 rfl
structure Meth (K : PySem.W.Frag) (C : Addr) (m : Str) (f : Addr) : Prop where
 at_ : PySem.W.findIn K (.ref C) m = some (some (.ref f))
 fn : PySem.W.isFn K (.ref f) = true
 kp : PySem.W.keepIn K (.ref f) = true
section
variable {X : Cx} {pins : List (Addr × Obj)} {σ : St} {H : Hp} {s : Shared} {a C dx : Addr} {fs : List (Str × V)} {f : Str} {v : V} {A : Around} {E : Value -> Shared -> Prop}
theorem getattr_ok {b : Bool} {Q : Value -> Shared -> Prop} (I : Inv X pins σ H s) (e : H a = some (.ins C dx fs)) (c : Cls X.K C) (n : NoAttr X.K C f) (l : fs.lookup f = some v)
  (h : ∀ u s', Inv X pins σ H s' -> RelV v u -> Q u s') : wpAny (model X.prog X.w) A (getAttr (.ref a) f b) Q E s := by
 obtain ⟨mA, O, r, _, _, _⟩ := ins_get I.hok e
 obtain ⟨u, hu, ru⟩ := RelO.some_of (v := v) (o := mA f) (by rw [← l]; exact r f)
 exact get_map I.kIn O (c.get f) c.hd n hu (handed_of ru) (h u _ (I.tok _) ru)
theorem getmeth_ok {m : Str} {g : Addr} {pl : Sem Bool} {Q : Value × List Value -> Shared -> Prop} (I : Inv X pins σ H s) (e : H a = some (.ins C dx fs)) (c : Cls X.K C) (k : Meth X.K C m g) (l : fs.lookup m = none)
  (h : Q (.ref g, [.ref a]) s) : wpAny (model X.prog X.w) A (getMethod (.ref a) m pl) Q E s := by
 obtain ⟨mA, O, r, _, _, _⟩ := ins_get I.hok e
 have hn : mA m = none := RelO.none_of (by rw [← l]; exact r m)
 exact get_meth I.kIn O (c.get m) k.at_ k.fn hn h
theorem setattr_ok {y : V} {u : Value} {Q : Unit -> Shared -> Prop} (I : Inv X pins σ H s) (e : H a = some (.ins C dx fs)) (c : Cls X.K C) (n : NoAttr X.K C f) (hl : fs.length < 1000) (ry : RelV y u)
  (h : ∀ s', Inv X pins σ (upd H a (.ins C dx (putF f y fs))) s' -> Q () s') : wpAny (model X.prog X.w) A (setAttr (.ref a) f u) Q E s := by
 obtain ⟨mA, O, r, wi, _, ho⟩ := ins_get I.hok e
 have hz : (fs.map (·.1)).length <= sizeLine := by rw [List.length_map, sizeLine_eq]; omega
 refine set_map I.kIn O c.sa c.po n.taker c.hd wi hz fun h' O' sb => h _ ?_
 have hd : ∃ o, h'.get? dx = some o := let ⟨o, _, _, e', _⟩ := O'.ns; ⟨o, e'⟩
 refine I.write (x := a) (e := dx) (by rw [e]; exact True.intro) (.inr ho) (fun b q hb z => (sb.2 b hb).trans z) hd ?_
 refine ⟨by rw [upd_ne O.ne]; exact ho, ?_, O.ne, O'.obj, _, O'.ns, fun g => ?_, fun g hg => ?_⟩
 ·have := length_putF f y fs; omega
 ·show RelO ((putF f y fs).lookup g) (if g = f then some u else mA g)
  rw [lookup_putF]
  by_cases q : g = f
  ·rw [if_pos q, if_pos q]; exact ry
  ·rw [if_neg q, if_neg q]; exact r g
 ·by_cases q : g = f
  ·rw [q]; exact (keys_putF f y fs).1
  ·refine (keys_putF f y fs).2 g (wi g fun z => hg ?_)
   show (if g = f then some u else mA g) = none
   rw [if_neg q]; exact z
theorem Inv.made (I : Inv X pins σ H s) : Inv X pins σ (upd (upd H s.heap.objs.size (.own (s.heap.objs.size + 1))) (s.heap.objs.size + 1) (.ins C s.heap.objs.size []))
  { s with heap := (s.heap.push PySem.W.emptyDict).push (PySem.W.instObj C s.heap.objs.size) } := by
 have e1 : (s.heap.push PySem.W.emptyDict).get? s.heap.objs.size = some PySem.W.emptyDict := Heap.get?_push_size s.heap rfl
 have e2 : ((s.heap.push PySem.W.emptyDict).push (PySem.W.instObj C s.heap.objs.size)).get? (s.heap.objs.size + 1) = some (PySem.W.instObj C s.heap.objs.size) := by
  have := Heap.get?_push_size (s.heap.push PySem.W.emptyDict) (o := PySem.W.instObj C s.heap.objs.size) rfl
  rwa [Heap.size_push] at this
 have e3 : (s.heap.push PySem.W.emptyDict).Ns s.heap.objs.size (fun _ => none) := ⟨PySem.W.emptyDict, #[], _, e1, rfl, (fun e he => absurd he (by simp)), fun _ => rfl⟩
 have I1 := I.laid (a := s.heap.objs.size) (o := .own (s.heap.objs.size + 1)) (h' := s.heap.push PySem.W.emptyDict) (t' := s.toks) (fun b u q => Heap.get?_push_of_some _ q) (Nat.le_refl _) ⟨_, e1⟩
 refine I1.laid (a := s.heap.objs.size + 1) (o := .ins C s.heap.objs.size []) (t' := s.toks) (fun b u q => Heap.get?_push_of_some _ q) (Nat.le_of_eq (Heap.size_push _ _)) ?_
 have ne : s.heap.objs.size ≠ s.heap.objs.size + 1 := Nat.ne_of_lt (Nat.lt_succ_self _)
 refine ⟨by rw [upd_ne ne, upd_same], Nat.zero_le _, ne, e2, fun _ => none, (Heap.Ns1.of_empty e3).at fun o q => Heap.get?_push_of_some _ q, fun _ => True.intro, fun y hy => absurd rfl hy⟩
theorem attr_of {prog : Program} {w : World} {env : Env} {e : Expr} {f : Str} {pos : Pos} {s : Shared} {Q : Value -> Shared -> Prop} (hb : attributeBase e f env (eval e env) = eval e env)
  (h : wpAny (model prog w) A (eval e env) (fun o s₁ => wpAny (model prog w) A (getAttr o f true) Q E s₁) E s) : wpAny (model prog w) A (eval (.Attribute e f pos) env) Q E s :=
 Attribute_any_ h (by rw [arm_eval_Attribute, hb])
end
def tFld (K : PySem.W.Frag) (ta : TE) (f : Str) : TE := fun σ H Q => ta σ H fun x H1 => ∃ a C dx fs v, x = .ref a ∧ H1 a = some (.ins C dx fs) ∧ Cls K C ∧ NoAttr K C f ∧ fs.lookup f = some v ∧ Q v H1
def sFld (K : PySem.W.Frag) (ta tv : TE) (f : Str) : TS := fun D σ H => tv σ H fun y H1 => ta σ H1 fun x H2 => ∃ a C dx fs, x = .ref a ∧ H2 a = some (.ins C dx fs) ∧ Cls K C ∧ NoAttr K C f ∧ fs.length < 1000 ∧
 D.nx σ (upd H2 a (.ins C dx (putF f y fs)))
section
variable {X : Cx} {o e value : Expr} {f : Str} {pos pos' tpos : Pos} {ta tv : TE}
theorem pe_fld (he : PE X e ta) (hb : attributeBase e f X.env (eval e X.env) = eval e X.env) : PE X (.Attribute e f pos) (tFld X.K ta f) := by
 intro pins s σ H Q I h
 refine attr_of hb (thn (he pins s σ H _ I h) fun u s1 ⟨x, H1, I1, rx, a, C, dx, fs, v, ex, ea, c, n, l, q⟩ => ?_)
 subst ex
 obtain rfl : u = Value.ref a := rx
 exact getattr_ok I1 ea c n l fun u' s2 I2 ru => ⟨v, H1, I2, ru, q⟩
theorem ps_fld (ha : PE X o ta) (hv : PE X value tv) (hs : swapsWith value (some (.Attribute o f pos')) pos.line X.env = pure false) : PS X (.Assign [.Attribute o f pos'] value pos) (sFld X.K ta tv f) := by
 intro pins s σ H D I h
 refine plainObj_wpAny_Assign_Attribute (thn (hv pins s σ H _ I h) fun u s1 ⟨y, H1, I1, ry, q⟩ => thn (ha pins s1 σ H1 _ I1 q) fun ov s2 ⟨x, H2, I2, rx, a, C, dx, fs, ex, ea, c, n, l, q2⟩ => ?_) hs
 subst ex
 obtain rfl : ov = Value.ref a := rx
 exact setattr_ok I2 ea c n l ry fun s3 I3 => ⟨σ, _, I3, q2⟩
theorem methcall_of {pl : Sem Bool} {m : Str} {apos : Pos} {args : List Expr} {pins : List (Addr × Obj)} {s : Shared} {σ : St} {H : Hp} {Q : Value -> Shared -> Prop} {te : TE} (he : PE X e te) (I : Inv X pins σ H s)
  (h : te σ H fun x H1 => ∃ a C dx fs g, x = .ref a ∧ H1 a = some (.ins C dx fs) ∧ Cls X.K C ∧ Meth X.K C m g ∧ fs.lookup m = none ∧
   ∀ s1, Inv X pins σ H1 s1 -> wpAny (model X.prog X.w) X.A (callWith pos (.ref g) [.ref a] (backTo pos (starEach args X.env)) (backToKw pos (keywordEach [] X.env))) Q X.xe s1)
  (ht : eval (.Call (.Attribute e m apos) args [] pos) X.env = (do
   let ov ← eval e X.env
   standAt apos.atName
   let (f, first) ← holding [ov] (getMethod ov m pl)
   callWith pos f first (backTo pos (starEach args X.env)) (backToKw pos (keywordEach [] X.env)))) :
  wpAny (model X.prog X.w) X.A (eval (.Call (.Attribute e m apos) args [] pos) X.env) Q X.xe s := by
 refine PySem.W.methodCall_KW (pl := pl) (thn (he pins s σ H _ I h) fun u s1 ⟨x, H1, I1, rx, a, C, dx, fs, g, ex, ea, c, k, l, q⟩ => ?_) ht
 subst ex
 obtain rfl : u = Value.ref a := rx
 exact getmeth_ok I1 ea c k l (q s1 I1)
end
section
variable {X : Cx} {pins : List (Addr × Obj)} {σ : St} {H : Hp} {s : Shared} {A : Around} {E : Value -> Shared -> Prop} {Q : Value -> Shared -> Prop} {c : Value} {b : Bool}
inductive TyOf (K : PySem.W.Frag) (H : Hp) : V -> Value -> Prop where
 | non : TyOf K H .non (.type "NoneType")
 | bl (x : Bool) : TyOf K H (.bl x) (.type "bool")
 | int (i : Int) : TyOf K H (.int i) (.type "int")
 | str (x : Str) : TyOf K H (.str x) (.type "str")
 | flt (x : UInt64) : TyOf K H (.flt x) (.type "float")
 | lst {a : Addr} {xs : List V} (e : H a = some (.lst xs)) : TyOf K H (.ref a) (.type "list")
 | frz {a : Addr} {o : Obj} {xs : List V} (e : H a = some (.frz o (.lst xs))) : TyOf K H (.ref a) (.type "list")
 | tup {a : Addr} {xs : List V} (e : H a = some (.tup xs)) : TyOf K H (.ref a) (.type "tuple")
 | dK {a : Addr} {kvs : List (Key × V)} (e : H a = some (.dK kvs)) : TyOf K H (.ref a) (.type "dict")
 | dT {a : Addr} {kvs : List (List Key × V)} (e : H a = some (.dT kvs)) : TyOf K H (.ref a) (.type "dict")
 | ins {a C dx : Addr} {fs : List (Str × V)} (e : H a = some (.ins C dx fs)) (cl : Cls K C) (ha : PySem.W.findIn K (.ref C) "__class__" = some (some (.builtin "object.__class__")))
   (hn : PySem.W.specialIn K (.builtin "object.__class__") "__get__" = some (some (.builtin "getset_descriptor.__get__"))) (htk : PySem.W.takesIn K (.builtin "object.__class__") = some true)
   (hm : PySem.W.mroIn K C (.type "object") = some true) : TyOf K H (.ref a) (.ref C)
theorem isinst_ok {x : V} {u t : Value} (I : Inv X pins σ H s) (rx : RelV x u) (ty : TyOf X.K H x t) (e : PySem.W.kitOne X.K t c = some b) (h : ∀ tk, Q (.bool b) { s with toks := tk }) :
  wpAny (model X.prog X.w) A (call (.builtin "isinstance") [u, c]) Q E s := by
 cases ty with
 | non => cases (show u = Value.none from rx); exact PySem.W.kia_one PySem.W.kitx_none I.kIn True.intro e (fun z => nomatch z) h
 | bl y => cases (show u = Value.bool y from rx); exact PySem.W.kia_one PySem.W.kitx_bool I.kIn True.intro e (fun z => nomatch z) h
 | int i => obtain ⟨t, q⟩ := (show ∃ t, u = Value.int i t from rx); cases q; exact PySem.W.kia_one PySem.W.kitx_int I.kIn True.intro e (fun z => nomatch z) h
 | str y => obtain ⟨t, q⟩ := (show ∃ t, u = Value.str y t from rx); cases q; exact PySem.W.kia_one PySem.W.kitx_str I.kIn True.intro e (fun z => nomatch z) h
 | flt y => obtain ⟨t, q⟩ := (show ∃ t, u = Value.float y t from rx); cases q; exact PySem.W.kia_one PySem.W.kitx_float I.kIn True.intro e (fun z => nomatch z) h
 | @lst a xs ea =>
  cases (show u = Value.ref a from rx)
  obtain ⟨_, _, n, _, h1⟩ := (show ObjOk X.prog X.w H s.heap a (.lst xs) from I.hok a _ ea)
  exact PySem.W.kia_one PySem.W.kitx_list I.kIn ⟨_, h1, rfl⟩ e (fun z => nomatch z) h
 | @frz a ob xs ea =>
  cases (show u = Value.ref a from rx)
  obtain ⟨_, _, _, n, _, h1⟩ := (show ObjOk X.prog X.w H s.heap a (.frz ob (.lst xs)) from I.hok a _ ea)
  exact PySem.W.kia_one PySem.W.kitx_list I.kIn ⟨_, h1, rfl⟩ e (fun z => nomatch z) h
 | @tup a xs ea =>
  cases (show u = Value.ref a from rx)
  obtain ⟨_, _, _, p⟩ := (show ObjOk X.prog X.w H s.heap a (.tup xs) from I.hok a _ ea)
  obtain ⟨o, h1, h2, _⟩ := p
  exact PySem.W.kia_one PySem.W.kitx_tuple I.kIn ⟨o, h1, h2⟩ e (fun z => nomatch z) h
 | @dK a kvs ea =>
  cases (show u = Value.ref a from rx)
  obtain ⟨_, _, vs, _, p⟩ := (show ObjOk X.prog X.w H s.heap a (.dK kvs) from I.hok a _ ea)
  obtain ⟨o, es, ep, h1, h2, _⟩ := p
  exact PySem.W.kia_one PySem.W.kitx_dict I.kIn ⟨o, h1, h2.1⟩ e (fun z => nomatch z) h
 | @dT a kvs ea =>
  cases (show u = Value.ref a from rx)
  obtain ⟨_, _, xs, _, o, es, ep, h1, h2, _⟩ := (show ObjOk X.prog X.w H s.heap a (.dT kvs) from I.hok a _ ea)
  exact PySem.W.kia_one PySem.W.kitx_dict I.kIn ⟨o, h1, h2.1⟩ e (fun z => nomatch z) h
 | @ins a C dx fs ea cl ha hn htk hm =>
  cases (show u = Value.ref a from rx)
  obtain ⟨mA, O, _⟩ := ins_get I.hok ea
  obtain ⟨od, J, _⟩ := O.look
  exact PySem.W.kia_one (PySem.W.kitx_own (cl.get _) cl.hd ha hn htk hm) I.kIn J e (fun z => nomatch z) h
end
end L2
namespace L2
open PySem PySem.Spec PyProof.Rows
structure Room (k : Nat) (A : Around) : Prop where
 hd : A.handled = none
 dp : A.depth + 3 * k + 5 < recursionLimit
 un : A.units + 16 * k + 200 < cLine
theorem Room.mono {j k : Nat} {A : Around} (r : Room k A) (h : j <= k) : Room j A := ⟨r.hd, by have := r.dp; omega, by have := r.un; omega⟩
theorem Room.deeper {k : Nat} {A : Around} (r : Room (k + 1) A) (env : Env) : Room k (A.deeper env) :=
 ⟨r.hd, by have := r.dp; show A.depth + 1 + 3 * k + 5 < _; omega, by have := r.un; show A.units + 3 + 16 * k + 200 < _; omega⟩
theorem make_depth {A : Around} {C : Addr} {us : List Value} {kw : List (Str × Value)} : (A.under (.builtin "type.__call__" ⟨.ref C :: us, kw⟩)).depth = A.depth + 1 := by
 first | rfl | simp [Around.under, Code.weight, Code.isCreation, Code.isGuard, Code.isCaller, Code.frames, Code.isFrame, guardIds]
theorem make_units {A : Around} {C : Addr} {us : List Value} {kw : List (Str × Value)} : (A.under (.builtin "type.__call__" ⟨.ref C :: us, kw⟩)).units = A.units + 1 := by
 first | rfl | simp [Around.under, Code.cUnits, Code.frames, Code.isFrame]
theorem Room.make {k : Nat} {A : Around} (r : Room (k + 1) A) (C : Addr) (us : List Value) (kw : List (Str × Value)) : Room k (A.under (.builtin "type.__call__" ⟨.ref C :: us, kw⟩)) :=
 ⟨r.hd, by have := r.dp; rw [make_depth]; omega, by have := r.un; rw [make_units]; omega⟩
theorem Room.depth {k : Nat} {A : Around} (r : Room k A) : A.depth < recursionLimit := by have := r.dp; omega
theorem Room.units {k : Nat} {A : Around} (r : Room k A) : A.units + 64 < cLine := by have := r.un; omega
def tNil : TA := fun _ H Q => Q [] H
def tCons (ta : TE) (tr : TA) : TA := fun σ H Q => ta σ H fun x H1 => tr σ H1 fun xs H2 => Q (x :: xs) H2
section
variable {X : Cx} {e : Expr} {es : List Expr} {te : TE} {t : TA} {pos : Pos}
theorem pa_nil : PA X [] tNil := fun _ _ _ _ H Q I h => Calls.spliced_nil ⟨[], H, I, .nil, h⟩
theorem pa_cons (ha : PE X e te) (hr : PA X es t) (hs : starEach (e :: es) X.env = (false, eval e X.env) :: starEach es X.env := by rfl) : PA X (e :: es) (tCons te t) := by
 intro pos pins s σ H Q I h
 rw [hs]
 show wpAny _ _ (spliced ((false, eval e X.env) :: backTo pos (starEach es X.env))) _ _ s
 refine Calls.spliced_cons (thn (ha pins s σ H _ I h) fun u s1 ⟨x, H1, I1, r1, q1⟩ => ?_)
 exact thn (hr pos pins s1 σ H1 _ I1 q1) fun us s2 ⟨xs, H2, I2, r2, q2⟩ => ⟨x :: xs, H2, I2, .cons r1 r2, q2⟩
def tTup (t : TA) : TE := fun σ H Q => t σ H fun xs H1 => xs.length <= sizeLine ∧ ∀ p, H1 p = none -> Q (.ref p) (upd H1 p (.tup xs))
def tLst (t : TA) : TE := fun σ H Q => t σ H fun xs H1 => xs.length <= sizeLine ∧ ∀ p, H1 p = none -> Q (.ref p) (upd H1 p (.lst xs))
theorem pe_tup {x1} (h : PA X es t) : PE X (.Tuple es x1 pos) (tTup t) := by
 intro pins s σ H Q I hq
 refine wpAny_Tuple_spliced (thn (h pos pins s σ H _ I hq) fun us s1 ⟨xs, H1, I1, r, z, q⟩ => ⟨by rw [← r.length]; exact z, ?_⟩)
 have hf : H1 s1.heap.objs.size = none := I1.hok.fresh (Nat.le_refl _)
 refine ⟨.ref s1.heap.objs.size, upd H1 s1.heap.objs.size (.tup xs), I1.laid (t' := s1.toks) (fun b u e => Heap.get?_push_of_some _ e) (Nat.le_refl _) ?_, rfl, q _ hf⟩
 exact ⟨z, us, r, ⟨_, Heap.get?_push_size _ rfl, rfl, _, rfl⟩⟩
theorem pe_lst (h : PA X es t) : PE X (.List es pos) (tLst t) := by
 intro pins s σ H Q I hq
 refine wpAny_List_spliced (thn (h pos pins s σ H _ I hq) fun us s1 ⟨xs, H1, I1, r, z, q⟩ => ⟨by rw [← r.length]; exact z, ?_⟩)
 have hf : H1 s1.heap.objs.size = none := I1.hok.fresh (Nat.le_refl _)
 refine ⟨.ref s1.heap.objs.size, upd H1 s1.heap.objs.size (.lst xs), I1.laid (t' := s1.toks) (fun b u e => Heap.get?_push_of_some _ e) (Nat.le_refl _) ?_, rfl, q _ hf⟩
 exact ⟨z, us, 0, r, Heap.get?_push_size _ rfl⟩
end
abbrev Sp := List V -> Hp -> VK -> XK -> Prop
abbrev CXT := List Env -> Hp -> Shared -> XK -> Value -> Shared -> Prop
structure Env0 (P : Program) (w : World) (K : PySem.W.Frag) (mg : Str -> Option Value) (base : Heap) (A : Around) (outer : List Env) (s : Shared) (H : Hp) : Prop where
 frames : A.frames = some outer
 mod : Mod K mg base
 bs : ∀ b o, base.get? b = some o -> s.heap.get? b = some o ∧ H b = none
 bsz : base.objs.size <= s.heap.objs.size
 funs : s.heap.FunFrames base outer
 frf : ∀ b ∈ frs outer, H b = none
 hok : HOk P w H s.heap
 bare : AllBare s.gens
def CE (outer : List Env) (P : Program) (w : World) (H : Hp) (s : Shared) (Q : VK) (u : Value) (s' : Shared) : Prop :=
 ∃ v H', s'.os = s.os ∧ AllBare s'.gens ∧ Un (frs outer) [] H H' s.heap s'.heap ∧ HOk P w H' s'.heap ∧ RelV v u ∧ Q v H'
def CR (CX : CXT) (outer : List Env) (P : Program) (w : World) (H : Hp) (s : Shared) (Q : VK) (E : XK) (r : Result) (s' : Shared) : Prop :=
 match r with
 | .ok (.ret u) => CE outer P w H s Q u s'
 | .ok _ => False
 | .error e => CX outer H s E e s'
structure FnOk (P : Program) (w : World) (K : PySem.W.Frag) (mg : Str -> Option Value) (base : Heap) (CX : CXT) (k : Nat) (f : Addr) (fd : FuncData) (ps : List Str) (sp : Sp) : Prop where
 len : ∀ vs H Q E, sp vs H Q E -> vs.length = ps.length
 run : ∀ (A : Around) (outer : List Env) (s : Shared) (H : Hp) (args : Args) (us : List Value) (vs : List V) (Q : VK) (E : XK), Room k A -> Env0 P w K mg base A outer s H -> BindsTo s fd args (ps.zip us) -> Vals vs us -> sp vs H Q E ->
  codeAny (model P w) A (.call (.ref f) args) (CR CX outer P w H s Q E) s
theorem FnOk.mono {P : Program} {w : World} {K : PySem.W.Frag} {mg : Str -> Option Value} {base : Heap} {CX : CXT} {j k : Nat} {f : Addr} {fd : FuncData} {ps : List Str} {sp : Sp} (F : FnOk P w K mg base CX j f fd ps sp) (h : j <= k) :
  FnOk P w K mg base CX k f fd ps sp := ⟨F.len, fun A outer s H args us vs Q E hr => F.run A outer s H args us vs Q E (hr.mono h)⟩
theorem Env0.make {P : Program} {w : World} {K : PySem.W.Frag} {mg : Str -> Option Value} {base : Heap} {A : Around} {outer : List Env} {s : Shared} {H : Hp} (e : Env0 P w K mg base A outer s H) (C : Addr) (us : List Value) (kw : List (Str × Value)) :
  Env0 P w K mg base (A.under (.builtin "type.__call__" ⟨.ref C :: us, kw⟩)) outer s H := ⟨by first | exact e.frames | (simpa [Around.under, Code.envs, Code.isFrame, pushEnvs] using e.frames), e.mod, e.bs, e.bsz, e.funs, e.frf, e.hok, e.bare⟩
section
variable {X : Cx} {pins : List (Addr × Obj)} {σ : St} {H : Hp} {s s' : Shared}
theorem Inv.env0 (I : Inv X pins σ H s) : Env0 X.prog X.w X.K X.mg X.base X.A X.stack s H :=
 ⟨I.ok.frames, I.ok.mod, I.bs, Nat.le_trans I.ok.bsz I.sz, I.stack, I.stkFree, I.hok, I.bare⟩
theorem Inv.after {Q : VK} {u : Value} (I : Inv X pins σ H s) (h : CE X.stack X.prog X.w H s Q u s') : EP X pins σ Q u s' := by
 obtain ⟨v, H', os, bare, un, hok, r, q⟩ := h
 obtain ⟨hh, g, d, t, os'⟩ := s'
 obtain rfl : os' = s.os := os
 exact ⟨v, H', I.call (h' := hh) (g' := g) (d' := d) (t' := t) (ch := []) un hok bare (fun b z => absurd z (by simp)), r, q⟩
end
def tCall (sp : Sp) (dvs : List V) (E : XK) (t : TA) : TE := fun σ H Q => t σ H fun vs H1 => sp (vs ++ dvs) H1 Q E
def tMeth (C : Addr) (m : Str) (sp : Sp) (dvs : List V) (E : XK) (ta : TE) (t : TA) : TE := fun σ H Q => ta σ H fun x H1 => ∃ a dx fs, x = .ref a ∧ H1 a = some (.ins C dx fs) ∧ fs.lookup m = none ∧
 t σ H1 fun vs H2 => sp (x :: (vs ++ dvs)) H2 Q E
def tMake (C : Addr) (sp : Sp) (dvs : List V) (E : XK) (t : TA) : TE := fun σ H Q => t σ H fun vs H1 => ∀ x dx, H1 x = none -> H1 dx = none -> dx ≠ x ->
 sp (.ref x :: (vs ++ dvs)) (upd (upd H1 dx (.own x)) x (.ins C dx [])) (fun v H2 => v = .non ∧ Q (.ref x) H2) E
def Binds (K : PySem.W.Frag) (fd : FuncData) (ps : List Str) (ds : List Value) : Prop :=
 ∀ (s : Shared) (us : List Value), K.In s.heap -> (us ++ ds).length = ps.length -> BindsTo s fd ⟨us, []⟩ (ps.zip (us ++ ds))
theorem Binds.all {K : PySem.W.Frag} {fd : FuncData} {ps : List Str} (h : ∀ us : List Value, us.length = ps.length -> bindArgs fd ⟨us, []⟩ = pure (ps.zip us)) : Binds K fd ps [] := fun s us _ hl => by
 rw [List.append_nil] at hl ⊢
 exact .of_eq (h us hl)
def Passes (CX : CXT) (X : Cx) (E : XK) : Prop := ∀ (pins : List (Addr × Obj)) (σ : St) (H : Hp) (s : Shared) (e : Value) (s' : Shared), Inv X pins σ H s -> CX X.stack H s E e s' -> X.xe e s'
section
variable {X : Cx} {CX : CXT} {k : Nat} {f C : Addr} {fd : FuncData} {ps : List Str} {sp : Sp} {dvs : List V} {ds : List Value} {E : XK} {x m : Str} {p pos apos : Pos} {e o : Expr} {es : List Expr} {ta : TE} {t : TA}
theorem run_fn {pins : List (Addr × Obj)} {σ : St} {H : Hp} {s : Shared} {Q : VK} {us : List Value} {vs : List V} (F : FnOk X.prog X.w X.K X.mg X.base CX k f fd ps sp) (hr : Room k X.A) (hb : Binds X.K fd ps ds) (hd : Vals dvs ds) (hx : Passes CX X E)
  (I : Inv X pins σ H s) (r : Vals vs us) (h : sp (vs ++ dvs) H Q E) : wpAny (model X.prog X.w) X.A (call (.ref f) us) (EP X pins σ Q) X.xe s := by
 have r2 : Vals (vs ++ dvs) (us ++ ds) := r.append hd
 have hl : (us ++ ds).length = ps.length := by rw [← r2.length]; exact F.len _ _ _ _ h
 refine wpAny_call (codeAny_mono (F.run X.A X.stack s H ⟨us, []⟩ (us ++ ds) (vs ++ dvs) Q E hr I.env0 (hb s us I.kIn hl) r2 h) fun r s' hq => ?_)
 cases r with
 | error e => exact hx pins σ H s e s' I hq
 | ok fl =>
  cases fl with
  | ret u => exact I.after hq
  | next => exact False.elim hq
  | brk => exact False.elim hq
  | cont => exact False.elim hq
theorem pe_call (F : FnOk X.prog X.w X.K X.mg X.base CX k f fd ps sp) (hr : Room k X.A) (hg : Gl X x) (hm : X.mg x = some (.ref f)) (hk : PySem.W.keepIn X.K (.ref f) = true) (hb : Binds X.K fd ps ds) (hd : Vals dvs ds) (hx : Passes CX X E)
  (ha : PA X (e :: es) t) (hdb : (x == ("__debug__" : Str)) = false := by decide) (he : starEach (e :: es) X.env = (false, eval e X.env) :: starEach es X.env := by rfl) (hpl : (backTo pos (starEach es X.env)).any (·.1) = false := by rfl) :
  PE X (.Call (.Name x p) (e :: es) [] pos) (tCall sp dvs E t) := by
 intro pins s σ H Q I h
 refine wpAny_Call_Name_kw (ld_glob I hg hm ?_ hdb)
 refine PySem.W.callWith_K (h₀ := X.base) I.ok.mod.kin hk (thn (ha pos pins s σ H _ I h) fun us s1 ⟨vs, H1, I1, r, q⟩ => ⟨I1.kIn, ?_⟩) he hpl
 exact run_fn F hr hb hd hx I1 r q
theorem pe_meth {pl : Sem Bool} (he : PE X o ta) (c : Cls X.K C) (hm : Meth X.K C m f) (F : FnOk X.prog X.w X.K X.mg X.base CX k f fd ps sp) (hr : Room k X.A) (hb : Binds X.K fd ps ds) (hd : Vals dvs ds) (hx : Passes CX X E) (ha : PA X (e :: es) t)
  (hst : starEach (e :: es) X.env = (false, eval e X.env) :: starEach es X.env := by rfl) (hpl : (backTo pos (starEach es X.env)).any (·.1) = false := by rfl)
  (ht : eval (.Call (.Attribute o m apos) (e :: es) [] pos) X.env = (do
   let ov ← eval o X.env
   standAt apos.atName
   let (f, first) ← holding [ov] (getMethod ov m pl)
   callWith pos f first (backTo pos (starEach (e :: es) X.env)) (backToKw pos (keywordEach [] X.env))) := by rfl) :
  PE X (.Call (.Attribute o m apos) (e :: es) [] pos) (tMeth C m sp dvs E ta t) := by
 intro pins s σ H Q I h
 refine PySem.W.methodCall_KW (pl := pl) (thn (he pins s σ H _ I h) fun u s1 ⟨x, H1, I1, rx, a, dx, fs, ex, ea, l, q⟩ => ?_) ht
 subst ex
 obtain rfl : u = Value.ref a := rx
 refine getmeth_ok I1 ea c hm l ?_
 refine PySem.W.callWith_K (first := [.ref a]) (h₀ := X.base) I.ok.mod.kin hm.kp (thn (ha pos pins s1 σ H1 _ I1 q) fun us s2 ⟨vs, H2, I2, r, q2⟩ => ⟨I2.kIn, ?_⟩) hst hpl
 exact run_fn (us := .ref a :: us) (vs := .ref a :: vs) F hr hb hd hx I2 (.cons rfl r) q2
theorem pe_meth0 {pl : Sem Bool} (he : PE X o ta) (c : Cls X.K C) (hm : Meth X.K C m f) (F : FnOk X.prog X.w X.K X.mg X.base CX k f fd ps sp) (hr : Room k X.A) (hb : Binds X.K fd ps ds) (hd : Vals dvs ds) (hx : Passes CX X E)
  (ht : eval (.Call (.Attribute o m apos) [] [] pos) X.env = (do
   let ov ← eval o X.env
   standAt apos.atName
   let (f, first) ← holding [ov] (getMethod ov m pl)
   callWith pos f first (backTo pos (starEach [] X.env)) (backToKw pos (keywordEach [] X.env))) := by rfl) :
  PE X (.Call (.Attribute o m apos) [] [] pos) (tMeth C m sp dvs E ta tNil) := by
 intro pins s σ H Q I h
 refine PySem.W.methodCall_KW (pl := pl) (thn (he pins s σ H _ I h) fun u s1 ⟨x, H1, I1, rx, a, dx, fs, ex, ea, l, q⟩ => ?_) ht
 subst ex
 obtain rfl : u = Value.ref a := rx
 refine getmeth_ok I1 ea c hm l ?_
 exact PySem.W.callWith_K0 (first := [.ref a]) I1.kIn hm.kp (run_fn (us := [.ref a]) (vs := [.ref a]) F hr hb hd hx I1 (.cons rfl .nil) q)
structure Mk (K : PySem.W.Frag) (C f : Addr) : Prop where
 makes : PySem.W.makesIn K C = true
 init : PySem.W.findIn K (.ref C) "__init__" = some (some (.ref f))
 fn : PySem.W.isFn K (.ref f) = true
 kp : PySem.W.keepIn K (.ref C) = true
theorem run_make {pins : List (Addr × Obj)} {σ : St} {H : Hp} {s : Shared} {Q : VK} {us : List Value} {vs : List V} (M : Mk X.K C f) (F : FnOk X.prog X.w X.K X.mg X.base CX k f fd ps sp) (hr : Room (k + 1) X.A) (hb : Binds X.K fd ps ds) (hd : Vals dvs ds)
  (hx : Passes CX X E) (I : Inv X pins σ H s) (r : Vals vs us)
  (h : ∀ x dx, H x = none -> H dx = none -> dx ≠ x -> sp (.ref x :: (vs ++ dvs)) (upd (upd H dx (.own x)) x (.ins C dx [])) (fun v H2 => v = .non ∧ Q (.ref x) H2) E) :
  wpAny (model X.prog X.w) X.A (call (.ref C) us) (EP X pins σ Q) X.xe s := by
 have hq := h (s.heap.objs.size + 1) s.heap.objs.size (I.hok.fresh (Nat.le_succ _)) (I.hok.fresh (Nat.le_refl _)) (Nat.ne_of_lt (Nat.lt_succ_self _))
 have I2 := Inv.made (C := C) I
 have r2 : Vals (V.ref (s.heap.objs.size + 1) :: (vs ++ dvs)) (Value.ref (s.heap.objs.size + 1) :: (us ++ ds)) := .cons rfl (r.append hd)
 have hl : (Value.ref (s.heap.objs.size + 1) :: us ++ ds).length = ps.length := by
  have e := r2.length
  rw [F.len _ _ _ _ hq] at e
  exact e.symm
 refine wpAny_call (make_map (f := f) I.kIn M.makes M.init (beq_iff_eq.mp M.fn) (codeAny_mono (F.run _ X.stack _ _ ⟨Value.ref (s.heap.objs.size + 1) :: us, []⟩ (Value.ref (s.heap.objs.size + 1) :: (us ++ ds)) _ _ E (hr.make C us [])
  (I2.env0.make C us []) (hb _ (Value.ref (s.heap.objs.size + 1) :: us) I2.kIn hl) r2 hq) fun r s' hq' => ?_))
 cases r with
 | error e => exact hx pins σ _ _ e s' I2 hq'
 | ok fl =>
  cases fl with
  | ret u =>
   obtain ⟨v, H', I3, rv, ev, q3⟩ := I2.after hq'
   subst ev
   exact ⟨rv, ⟨V.ref (s.heap.objs.size + 1), H', I3, rfl, q3⟩⟩
  | next => exact False.elim hq'
  | brk => exact False.elim hq'
  | cont => exact False.elim hq'
theorem pe_make (M : Mk X.K C f) (F : FnOk X.prog X.w X.K X.mg X.base CX k f fd ps sp) (hr : Room (k + 1) X.A) (hg : Gl X x) (hm : X.mg x = some (.ref C)) (hb : Binds X.K fd ps ds) (hd : Vals dvs ds) (hx : Passes CX X E)
  (ha : PA X (e :: es) t) (hdb : (x == ("__debug__" : Str)) = false := by decide) (he : starEach (e :: es) X.env = (false, eval e X.env) :: starEach es X.env := by rfl) (hpl : (backTo pos (starEach es X.env)).any (·.1) = false := by rfl) :
  PE X (.Call (.Name x p) (e :: es) [] pos) (tMake C sp dvs E t) := by
 intro pins s σ H Q I h
 refine wpAny_Call_Name_kw (ld_glob I hg hm ?_ hdb)
 refine PySem.W.callWith_K (h₀ := X.base) I.ok.mod.kin M.kp (thn (ha pos pins s σ H _ I h) fun us s1 ⟨vs, H1, I1, r, q⟩ => ⟨I1.kIn, ?_⟩) he hpl
 exact run_make M F hr hb hd hx I1 r q
end
def PK (X : Cx) (kws : List Keyword) (t : TA) : Prop :=
 ∀ (pos : Pos) (pins : List (Addr × Obj)) (s : Shared) (σ : St) (H : Hp) (Q : List V -> Hp -> Prop), Inv X pins σ H s -> t σ H Q -> wpAny (model X.prog X.w) X.A (evalAll ((backToKw pos (keywordEach kws X.env)).map (·.2))) (AP X pins σ Q) X.xe s
section
variable {X : Cx} {CX : CXT} {k : Nat} {f C : Addr} {fd : FuncData} {ps ks : List Str} {sp : Sp} {E : XK} {x m : Str} {p pos apos kpos : Pos} {e o : Expr} {es : List Expr} {kws : List Keyword} {te ta : TE} {t tk : TA} {nm : Option Str}
theorem pk_nil : PK X [] tNil := fun _ _ _ _ H Q I h => wpAny_evalAll_nil ⟨[], H, I, .nil, h⟩
theorem pk_cons (ha : PE X e te) (hr : PK X kws t) : PK X (⟨nm, e, kpos⟩ :: kws) (tCons te t) := by
 intro pos pins s σ H Q I h
 show wpAny _ _ (evalAll ((do let v ← eval e X.env; standAt pos; pure v) :: (backToKw pos (keywordEach kws X.env)).map (·.2))) _ _ s
 refine wpAny_evalAll_cons (wpAny_bind (thn (ha pins s σ H _ I h) fun u s1 ⟨x, H1, I1, r1, q1⟩ => wpAny_bind (wpAny_standAt (wpAny_pure ?_))))
 exact thn (hr pos pins s1 σ H1 _ I1 q1) fun us s2 ⟨xs, H2, I2, r2, q2⟩ => ⟨x :: xs, H2, I2, .cons r1 r2, q2⟩
variable {g : List Value -> List Value -> List Value} {gV : List V -> List V -> List V}
end
structure FnScope (N P : List Str) (sc : Scope) : Prop where
 kind : sc.kind = .function
 co : sc.isCoroutine = false
 gen : sc.isGenerator = false
 nd : N.Nodup
 pre : N.take P.length = P
 par : ∀ x ∈ P, sc.names.lookup x = some .local ∨ sc.names.lookup x = some .cell
 nofree : ∀ y ∈ sc.names, y.2 ≠ .free
theorem bindL_out {kindOf : Str -> Option NameKind} {x : Str} : ∀ {binds : List (Str × Value)} {m : Str -> Option Value}, (∀ v, (x, v) ∉ binds) -> bindL kindOf binds m x = m x
 | [], _, _ => rfl
 |(n, v) :: r, m, h => by
  unfold bindL
  rw [bindL_out fun w hw => h w (List.mem_cons_of_mem _ hw)]
  split
  ·have : x ≠ n := by rintro rfl; exact h v List.mem_cons_self
   simp [this]
  ·rfl
theorem bindC_out {kindOf : Str -> Option NameKind} {x : Str} : ∀ {binds : List (Str × Value)} {m : Str -> Option Value}, (∀ v, (x, v) ∉ binds) -> bindC kindOf binds m x = m x
 | [], _, _ => rfl
 |(n, v) :: r, m, h => by
  unfold bindC
  rw [bindC_out fun w hw => h w (List.mem_cons_of_mem _ hw)]
  split
  ·rfl
  ·have : x ≠ n := by rintro rfl; exact h v List.mem_cons_self
   simp [this]
theorem bindL_get {kindOf : Str -> Option NameKind} {x : Str} {v : Value} : ∀ {P : List Str} {vs : List Value} {i : Nat} {m : Str -> Option Value}, P.Nodup -> P[i]? = some x -> vs[i]? = some v -> kindOf x = some .local ->
  bindL kindOf (P.zip vs) m x = some v
 | [], _, _, _, _, h, _, _ => by simp at h
 | _ :: _, [], _, _, _, _, h, _ => by simp at h
 | p :: P, w :: vs, 0, m, nd, h1, h2, hk => by
  simp at h1 h2; subst h1; subst h2
  show bindL kindOf ((p, w) :: P.zip vs) m p = _
  unfold bindL
  rw [bindL_out fun v hv => (List.nodup_cons.mp nd).1 (List.of_mem_zip hv).1, if_pos hk]
  simp
 | p :: P, w :: vs, i + 1, m, nd, h1, h2, hk => by
  show bindL kindOf ((p, w) :: P.zip vs) m x = _
  unfold bindL
  exact bindL_get (i := i) (List.nodup_cons.mp nd).2 (by simpa using h1) (by simpa using h2) hk
theorem bindC_get {kindOf : Str -> Option NameKind} {x : Str} {v : Value} : ∀ {P : List Str} {vs : List Value} {i : Nat} {m : Str -> Option Value}, P.Nodup -> P[i]? = some x -> vs[i]? = some v -> kindOf x ≠ some .local ->
  bindC kindOf (P.zip vs) m x = some v
 | [], _, _, _, _, h, _, _ => by simp at h
 | _ :: _, [], _, _, _, _, h, _ => by simp at h
 | p :: P, w :: vs, 0, m, nd, h1, h2, hk => by
  simp at h1 h2; subst h1; subst h2
  show bindC kindOf ((p, w) :: P.zip vs) m p = _
  unfold bindC
  rw [bindC_out fun v hv => (List.nodup_cons.mp nd).1 (List.of_mem_zip hv).1, if_neg hk]
  simp
 | p :: P, w :: vs, i + 1, m, nd, h1, h2, hk => by
  show bindC kindOf ((p, w) :: P.zip vs) m x = _
  unfold bindC
  exact bindC_get (i := i) (List.nodup_cons.mp nd).2 (by simpa using h1) (by simpa using h2) hk
def start (N : List Str) (vs : List V) : St := vs.map some ++ List.replicate (N.length - vs.length) none
def cxOf (CX : CXT) (P : Program) (w : World) (K : PySem.W.Frag) (mg : Str -> Option Value) (base : Heap) (N : List Str) (qual : Str) (scope : Scope) (f : Addr) (cd : Value) (A : Around) (outer : List Env) (s : Shared) (H : Hp) (E : XK) : Cx where
 prog := P
 w := w
 K := K
 mg := mg
 base := base
 A := A.deeper (envOfC qual scope s.heap.objs.size f cd)
 N := N
 s₀ := s
 H₀ := H
 env := envOfC qual scope s.heap.objs.size f cd
 outer := outer
 stack := envOfC qual scope s.heap.objs.size f cd :: outer
 ex := []
 calm := true
 fn := fun _ => true
 pn := []
 xe := fun e s' => wpAny (model P w) (A.deeper (envOfC qual scope s.heap.objs.size f cd)) (leaving (envOfC qual scope s.heap.objs.size f cd) e) (fun _ s'' => CX outer H s E e s'') (fun e' s'' => CX outer H s E e' s'') s'
theorem cell_has {sc : Scope} {n : Nat} {x : Str} (h : sc.names.lookup x = some .cell) : ∃ c, (cellsFrom n sc.names []).lookup x = some c := by
 have q := PySem.W.cellsFrom_some sc.names n [] (.inl h)
 exact Option.isSome_iff_exists.mp q
theorem inv_start {CX : CXT} {P : Program} {w : World} {K : PySem.W.Frag} {mg : Str -> Option Value} {base : Heap} {N ps : List Str} {qual : Str} {scope : Scope} {f : Addr} {cd : Value} {A : Around} {outer : List Env} {s s1 : Shared} {H : Hp} {E : XK} {us : List Value} {vs : List V}
  (S : FnScope N ps scope) (hd : A.handled = none) (e0 : Env0 P w K mg base A outer s H) (hl : vs.length = ps.length) (r : Vals vs us)
  (x : InCallC s s.heap.objs.size (bindL (envOfC qual scope s.heap.objs.size f cd).kindOf (ps.zip us) fun _ => none) (cellsFrom (s.heap.objs.size + 1) scope.names []) (bindC (envOfC qual scope s.heap.objs.size f cd).kindOf (ps.zip us) fun _ => none) s1) :
  Inv (cxOf CX P w K mg base N qual scope f cd A outer s H E) [] (start N vs) H s1 := by
 have hpl : ps.length <= N.length := by have := congrArg List.length S.pre; rw [List.length_take] at this; omega
 obtain ⟨h1, tk, rfl, hk⟩ := x.done
 have noA : ∀ b : Addr, b ∉ (cxOf CX P w K mg base N qual scope f cd A outer s H E).ex := fun b z => absurd (show b ∈ ([] : List Addr) from z) (by simp)
 refine ⟨⟨e0.mod, S.kind, rfl, rfl, Nat.le_refl _, fun y z c h1 h2 => ?_, fun y hy => ?_, fun y c _ h => ?_, fun _ => hd, Around.frames_deeper e0.frames, .inr ⟨rfl, rfl⟩, fun b z => absurd z (noA b), e0.bs, e0.bsz, fun b _ _ => noA b, fun b z => absurd z (noA b), e0.funs, e0.frf⟩,
  rfl, e0.bare, Un.kept hk, ⟨_, x.toInCall.ns, fun i y v h1 h2 h3 => ?_⟩, fun y c h => ⟨_, x.cell y c h⟩, e0.hok.fresh (Nat.le_refl _), fun y c h => ?_, fun p hp => absurd (show p ∈ ([] : List (Addr × Obj)) from hp) (by simp), e0.hok.kept hk, ?_⟩
 ·exact name_of_addr x.apart (PySem.mem_of_lookup h1) (PySem.mem_of_lookup h2)
 ·have hy : scope.names.lookup y = some .cell ∨ scope.names.lookup y = some .free := hy
  rcases hy with hy | hy
  ·exact cell_has hy
  ·exact absurd rfl (S.nofree _ (PySem.mem_of_lookup hy))
 ·exact Nat.le_of_lt (x.above y c (PySem.mem_of_lookup h))
 ·have hi : i < vs.length := by
   unfold start at h2
   by_cases hi : i < vs.length
   ·exact hi
   ·rw [List.getElem?_append_right (by simpa using hi)] at h2
    rw [List.getElem?_replicate] at h2
    split at h2 <;> cases h2
  have ha : vs[i]? = some v := by
   unfold start at h2
   rw [List.getElem?_append_left (by simpa using hi), List.getElem?_map] at h2
   cases e : vs[i]? with
   | none => rw [e] at h2; cases h2
   | some a => rw [e] at h2; cases h2; rfl
  obtain ⟨u, hu, rv⟩ := r.get ha
  have hp : ps[i]? = some y := by
   rw [← S.pre, List.getElem?_take_of_lt (by omega)]; exact h1
  have ndP : ps.Nodup := by rw [← S.pre]; exact S.nd.sublist (List.take_sublist _ _)
  refine ⟨u, rv, ?_⟩
  rcases S.par y (List.mem_of_getElem? hp) with k | k
  ·exact .inl ⟨k, bindL_get ndP hp hu k⟩
  ·obtain ⟨c, e⟩ := cell_has (n := s.heap.objs.size + 1) k
   refine .inr ⟨.inl k, c, e, ?_⟩
   have q := x.cell y c e
   rw [bindC_get ndP hp hu (by show scope.names.lookup y ≠ _; rw [k]; decide)] at q
   exact q
 ·exact e0.hok.fresh (Nat.le_of_lt (x.above y c (PySem.mem_of_lookup h)))
 ·unfold start
  show _ = N.length
  rw [List.length_append, List.length_map, List.length_replicate]
  omega
theorem fn_of {CX : CXT} {P : Program} {w : World} {K : PySem.W.Frag} {mg : Str -> Option Value} {base : Heap} {k : Nat} {f : Addr} {name qual : Str} {params : Arguments} {body : List Stmt} {scope : Scope} {dV kV doc pm cdv ct oc : Value} {an od : Option Addr}
  {osl : Array (Option Value)} {N ps : List Str} {sp : Sp} (lk : K.lookup f = some ⟨oc, od, .func (PySem.W.fnOf name qual params body scope dV kV doc pm an cdv ct), osl⟩) (hcd : PySem.W.codeIn K cdv qual = true) (S : FnScope N ps scope)
  (len : ∀ vs H Q E, sp vs H Q E -> vs.length = ps.length)
  (hbody : ∀ (A : Around) (outer : List Env) (s : Shared) (H : Hp) (vs : List V) (Q : VK) (E : XK), Room k (A.deeper (envOfC qual scope s.heap.objs.size f cdv)) -> sp vs H Q E ->
   ∃ t, PSs (cxOf CX P w K mg base N qual scope f cdv A outer s H E) body t ∧ t { nx := fun _ H' => Q .non H', rt := Q } (start N vs) H) :
  FnOk P w K mg base CX (k + 1) f (PySem.W.fnOf name qual params body scope dV kV doc pm an cdv ct) ps sp := by
 refine ⟨len, fun A outer s H args us vs Q E hr e0 hb r hsp => ?_⟩
 have hl := len _ _ _ _ hsp
 have KX : K.In s.heap := e0.mod.kin.keeps fun b o e => (e0.bs b o e).1
 have lim : s.heap.NoLimit := e0.mod.nolimit.keeps fun b o e => (e0.bs b o e).1
 have hkind : ∀ y ∈ ps.zip us, scope.names.lookup y.1 = some .local ∨ (scope.names.lookup y.1 = some .cell ∧ ((cellsFrom (s.heap.objs.size + 1) scope.names []).lookup y.1).isSome = true) := fun ⟨n, v⟩ hy => by
  rcases S.par n (List.of_mem_zip hy).1 with q | q
  ·exact .inl q
  ·exact .inr ⟨q, PySem.W.cellsFrom_some _ _ _ (.inl q)⟩
 refine codeAny_call_function hr.depth (KX _ _ lk) rfl S.co S.gen rfl (PySem.W.codeRec_of KX hcd) (hb _ _ _ _ ?_)
 refine wpAny_newFunctionEnv_cells S.kind hkind fun env he s1 x => ?_
 subst he
 refine ⟨lim.keeps x.toInCall.keep, codeAny_func ?_⟩
 obtain ⟨t, ht, hq⟩ := hbody A outer s H vs Q E (hr.deeper _) hsp
 have I : Inv (cxOf CX P w K mg base N qual scope f cdv A outer s H E) [] (start N vs) H s1 := inv_start S hr.hd e0 hl r x
 refine wpAny_mono (ht [] s1 (start N vs) H _ I hq) (fun fl s' hs => ?_) fun e s' hs => hs
 have fin : ∀ {σ' : St} {H' : Hp} {v : V} {u : Value}, Inv (cxOf CX P w K mg base N qual scope f cdv A outer s H E) [] σ' H' s' -> RelV v u -> Q v H' -> CE outer P w H s Q u s' :=
  fun {σ' H' v u} J rv q => ⟨v, H', J.os, J.bare, J.base, J.hok, rv, q⟩
 cases fl with
 | ret u =>
  obtain ⟨v, σ', H', J, rv, q⟩ := hs
  exact fin J rv q
 | next =>
  obtain ⟨σ', H', J, q⟩ := hs
  exact fin (v := V.non) (u := Value.none) J rfl q
 | brk =>
  obtain ⟨_, _, _, q⟩ := hs
  exact False.elim q
 | cont =>
  obtain ⟨_, _, _, q⟩ := hs
  exact False.elim q
end L2
namespace L2
open PySem PySem.Spec PyProof.Rows
section
variable {X : Cx} {x : Str} {p pos : Pos} {e : Expr} {es : List Expr} {t : TA} {id T : String} {r : List V -> Hp -> VK -> Prop}
def tCB (r : List V -> Hp -> VK -> Prop) (t : TA) : TE := fun σ H Q => t σ H fun vs H1 => r vs H1 Q
theorem pe_callB (hc : CallR X (.builtin id) r) (hg : Gl X x) (hm : X.mg x = none) (hv : bootBuiltins x = some (.builtin id)) (ha : PA X (e :: es) t) (hn : x ≠ "__name__" := by decide) (hdb : (x == ("__debug__" : Str)) = false := by decide)
  (he : starEach (e :: es) X.env = (false, eval e X.env) :: starEach es X.env := by rfl) (hpl : (backTo pos (starEach es X.env)).any (·.1) = false := by rfl) : PE X (.Call (.Name x p) (e :: es) [] pos) (tCB r t) := by
 intro pins s σ H Q I h
 refine wpAny_Call_Name_kw (ld_blt I hg hm hv ?_ hn hdb)
 exact PyProof.Rows.callWith_builtin1 (thn (ha pos pins s σ H _ I h) fun us s1 ⟨vs, H1, I1, r1, q1⟩ => hc pins s1 σ H1 vs us Q I1 r1 q1) he hpl
theorem pe_callTy (hc : CallR X (.type T) r) (hg : Gl X x) (hm : X.mg x = none) (hv : bootBuiltins x = some (.type T)) (ha : PA X (e :: es) t) (hn : x ≠ "__name__" := by decide) (hdb : (x == ("__debug__" : Str)) = false := by decide)
  (he : starEach (e :: es) X.env = (false, eval e X.env) :: starEach es X.env := by rfl) (hpl : (backTo pos (starEach es X.env)).any (·.1) = false := by rfl) : PE X (.Call (.Name x p) (e :: es) [] pos) (tCB r t) := by
 intro pins s σ H Q I h
 refine wpAny_Call_Name_kw (ld_blt I hg hm hv ?_ hn hdb)
 exact PyProof.Rows.callWith_type1 (thn (ha pos pins s σ H _ I h) fun us s1 ⟨vs, H1, I1, r1, q1⟩ => hc pins s1 σ H1 vs us Q I1 r1 q1) he hpl
end
end L2
namespace HT
open PySem PyProof.Rows
section
open PySem.SeqAt
open PySem.AutoSeq1 (wpAny_loadPart')
open PySem.MeetsSeq PySem.MeetsSeq2 PySem.MeetsSeq3
end
section
variable {prog : Program} {w : World} {A : Around} {E : Value -> Shared -> Prop} {s : Shared}
def sIx (n d : Nat) : Option Int -> Nat
 | none => d
 | some v => if v < 0 then (v + (n : Int)).toNat else min v.toNat n
theorem sIx_none (n d : Nat) : sIx n d none = d := rfl
theorem sIx_nat (n d k : Nat) : sIx n d (some (k : Int)) = min k n := by
 show (if (k : Int) < 0 then ((k : Int) + (n : Int)).toNat else min (k : Int).toNat n) = min k n
 rw [if_neg (by omega), Int.toNat_natCast]
end
end HT
namespace L2
open PySem PySem.Spec PyProof.Rows
abbrev TO := St -> Hp -> (Option Int -> Hp -> Prop) -> Prop
def PO (X : Cx) (e : Option Expr) (t : TO) : Prop :=
 ∀ (pins : List (Addr × Obj)) (s : Shared) (σ : St) (H : Hp) (Q : Option Int -> Hp -> Prop), Inv X pins σ H s -> t σ H Q ->
  wpAny (model X.prog X.w) X.A (evalPart e X.env) (fun u s' => ∃ o H', Inv X pins σ H' s' ∧ IsPart u o ∧ Q o H') X.xe s
def tNoPart : TO := fun _ H Q => Q none H
def tPart (t : TE) : TO := fun σ H Q => t σ H fun x H1 => ∃ i, x = .int i ∧ Q (some i) H1
section
variable {X : Cx} {e : Expr} {te : TE} {lo hi : Option Expr} {tl th : TO} {pos p2 : Pos}
theorem po_none : PO X none tNoPart := by
 intro pins s σ H Q I h
 rw [evalPart_none]
 exact wpAny_pure ⟨none, H, I, .none, h⟩
theorem po_some (h : PE X e te) : PO X (some e) (tPart te) := by
 intro pins s σ H Q I hw
 rw [evalPart_some]
 refine thn (h pins s σ H _ I hw) fun u s1 ⟨x, H1, I1, r1, q1⟩ => ?_
 obtain ⟨i, rfl, q⟩ := q1
 obtain ⟨t, rfl⟩ := r1
 exact ⟨some i, H1, I1, .int i t, q⟩
def SlR (X : Cx) (r : V -> Option Int -> Option Int -> Hp -> VK -> Prop) : Prop :=
 ∀ (pins : List (Addr × Obj)) (s : Shared) (σ : St) (H : Hp) (x : V) (v vl vu : Value) (lo hi : Option Int) (sl : Addr) (Q : VK), Inv X pins σ H s -> RelV x v -> s.heap.IsSliceOf sl vl vu .none -> IsPart vl lo -> IsPart vu hi -> r x lo hi H Q ->
  ∃ T id, typeLookup (.type T) "__getitem__" = pure (some (.builtin id)) ∧ s.TypeIs v T ∧ wpAny (model X.prog X.w) X.A (getItem v (.ref sl)) (EP X pins σ Q) X.xe s
def tSl (r : V -> Option Int -> Option Int -> Hp -> VK -> Prop) (te : TE) (tl th : TO) : TE := fun σ H Q => te σ H fun x H1 => tl σ H1 fun l H2 => th σ H2 fun u H3 => r x l u H3 Q
theorem pe_slice {r : V -> Option Int -> Option Int -> Hp -> VK -> Prop} (hr : SlR X r) (he : PE X e te) (hl : PO X lo tl) (hu : PO X hi th) : PE X (.Subscript e (.Slice lo hi none p2) pos) (tSl r te tl th) := by
 intro pins s σ H Q I h
 refine Subscript_ (thn (he pins s σ H _ I h) fun v s1 ⟨x, H1, I1, r1, q1⟩ => ?_)
 refine wpAny_Slice (thn (hl pins s1 σ H1 _ I1 q1) fun vl s2 ⟨l, H2, I2, pl, q2⟩ => thn (hu pins s2 σ H2 _ I2 q2) fun vu s3 ⟨u, H3, I3, pu, q3⟩ => ?_)
 rw [evalPart_none]
 refine wpAny_pure ?_
 have I4 : Inv X pins σ H3 { s3 with heap := s3.heap.push { cls := .type "slice", data := .fields #[vl, vu, .none] } } := I3.kept (t' := s3.toks) fun b ob q => Heap.get?_push_of_some _ q
 obtain ⟨T, id, hT, ht, hg⟩ := hr pins { s3 with heap := s3.heap.push { cls := .type "slice", data := .fields #[vl, vu, .none] } } σ H3 x v vl vu l u s3.heap.objs.size Q I4 r1 (Heap.IsSliceOf.new ..) pl pu q3
 show wpAny (model X.prog X.w) X.A (subscriptTail e (.Slice lo hi none p2) v (.ref s3.heap.objs.size)) (EP X pins σ Q) X.xe { s3 with heap := s3.heap.push { cls := .type "slice", data := .fields #[vl, vu, .none] } }
 exact tail_any (ops := [.ref s3.heap.objs.size, v]) ht hT hg (by with_unfolding_all rfl)
def cutV (xs : List V) (lo hi : Option Int) : List V := (xs.drop (HT.sIx xs.length 0 lo)).take (HT.sIx xs.length xs.length hi - HT.sIx xs.length 0 lo)
theorem cutV_length (xs : List V) (lo hi : Option Int) : (cutV xs lo hi).length <= xs.length := by
 unfold cutV
 rw [List.length_take, List.length_drop]
 omega
end
end L2
namespace L2
open PySem PySem.Spec PyProof.Rows
def ixN (n : Nat) (i : Int) : Option Nat := if 0 <= i then (if i < n then some i.toNat else none) else if -(n : Int) <= i then some (i + n).toNat else none
def atI {α : Type} (xs : List α) (i : Int) : Option α := (ixN xs.length i).bind fun j => xs[j]?
theorem ixN_seq {n : Nat} {i : Int} {j : Nat} (h : ixN n i = some j) : seqIndex? i n = some j ∧ j < n ∧ -(n : Int) <= i ∧ i < n := by
 unfold ixN at h
 by_cases h0 : 0 <= i
 ·rw [if_pos h0] at h
  by_cases h1 : i < n
  ·rw [if_pos h1] at h
   have e : i.toNat = j := Option.some.inj h
   exact ⟨by rw [seqIndex_of h0 h1, e], by omega, by omega, h1⟩
  ·rw [if_neg h1] at h; cases h
 ·rw [if_neg h0] at h
  by_cases h1 : -(n : Int) <= i
  ·rw [if_pos h1] at h
   have e : (i + n).toNat = j := Option.some.inj h
   exact ⟨by rw [seqIndex_neg (by omega) h1, e], by omega, h1, by omega⟩
  ·rw [if_neg h1] at h; cases h
theorem atI_get {α : Type} {xs : List α} {i : Int} {v : α} (h : atI xs i = some v) : ∃ j, seqIndex? i xs.length = some j ∧ xs[j]? = some v ∧ j < xs.length ∧ -(xs.length : Int) <= i ∧ i < xs.length := by
 unfold atI at h
 cases e : ixN xs.length i with
 | none => rw [e] at h; cases h
 | some j =>
  rw [e] at h
  obtain ⟨h1, h2, h3, h4⟩ := ixN_seq e
  exact ⟨j, h1, h, h2, h3, h4⟩
theorem atI_nat {α : Type} {xs : List α} {j : Nat} {v : α} (h : xs[j]? = some v) : atI xs (j : Int) = some v := by
 have hj : j < xs.length := (List.getElem?_eq_some_iff.mp h).1
 have e : ixN xs.length (j : Int) = some j := by
  unfold ixN
  rw [if_pos (by omega), if_pos (by omega)]; simp
 unfold atI; rw [e]; exact h
def PlainIx (b : Expr) : Prop := ∀ o i, subscripted b false o i = operate [o, i] (getItem o i)
def IxR (X : Cx) (r : R2) : Prop :=
 ∀ (value slice : Expr) (pins : List (Addr × Obj)) (s : Shared) (σ : St) (H : Hp) (x y : V) (v u : Value) (Q : VK), Inv X pins σ H s -> RelV x v -> RelV y u -> r x y H Q ->
  subscripted slice false v u = operate [v, u] (getItem v u) -> wpAny (model X.prog X.w) X.A (subscriptTail value slice v u) (EP X pins σ Q) X.xe s
def MtR (X : Cx) (id : String) (r : V -> List V -> Hp -> VK -> Prop) : Prop :=
 ∀ (pins : List (Addr × Obj)) (s : Shared) (σ : St) (H : Hp) (x : V) (xs : List V) (v : Value) (us : List Value) (Q : VK), Inv X pins σ H s -> RelV x v -> Vals xs us -> r x xs H Q ->
  wpAny (model X.prog X.w) X.A (call (.builtin id) (v :: us)) (EP X pins σ Q) X.xe s
section
variable {X : Cx} {a b : Expr} {ta tb : TE} {pos : Pos}
theorem pe_ix {r : R2} (hr : IxR X r) (ha : PE X a ta) (hb : PE X b tb) (hs : PlainIx b) : PE X (.Subscript a b pos) (tOp r ta tb) := by
 intro pins s σ H Q I h
 exact Subscript_ (binT ha hb I h fun v u s2 x y H2 I2 rx ry q => hr a b pins s2 σ H2 x y v u Q I2 rx ry q (hs _ _))
def rIxL (K : PySem.W.Frag) : R2 := fun x y H Q => ∃ p xs i v, x = .ref p ∧ y = .int i ∧ SqL K H p xs ∧ atI xs i = some v ∧ Q v H
def rIxT (K : PySem.W.Frag) : R2 := fun x y H Q => ∃ p xs i v, x = .ref p ∧ y = .int i ∧ SqT K H p xs ∧ atI xs i = some v ∧ Q v H
theorem ix_list : IxR X (rIxL X.K) := by
 intro value slice pins s σ H x y v u Q I rx ry h hs
 obtain ⟨p, xs, i, z, rfl, rfl, hq, he, q⟩ := h
 cases rx
 obtain ⟨t, rfl⟩ := ry
 obtain ⟨its, r, pl, hz⟩ := I.list hq
 obtain ⟨j, h1, h2, h3, h4, h5⟩ := atI_get he
 obtain ⟨w, ew, rw'⟩ := r.get h2
 have hl := r.length
 have hn := line63
 have fin : EP X pins σ Q w s := ⟨z, H, I, rw', q⟩
 by_cases h0 : 0 <= i
 ·have hj : i.toNat = j := by
   rw [seqIndex_of h0 h5] at h1
   exact Option.some.inj h1
  exact item_listR pl.isList h0 (by omega) (by rw [hj]; simpa using ew) fin hs
 ·have hj : (i + (its.toArray.size : Int)).toNat = j := by
   rw [seqIndex_neg (by omega) h4] at h1
   rw [List.size_toArray, ← hl]
   exact Option.some.inj h1
  exact subscriptTail_builtinR (x := w) pl.isList.typeIs slot_list_getitem.lookup
   (wpAny_getItem_list_neg (Q := fun r s' => r = w ∧ EP X pins σ Q r s') pl.isList (by omega) (by rw [List.size_toArray] <;> omega) (by omega) (by rw [hj]; simpa using ew) ⟨rfl, fin⟩) hs
theorem ix_tup : IxR X (rIxT X.K) := by
 intro value slice pins s σ H x y v u Q I rx ry h hs
 obtain ⟨p, xs, i, z, rfl, rfl, hq, he, q⟩ := h
 cases rx
 obtain ⟨t, rfl⟩ := ry
 obtain ⟨its, r, pl, hz⟩ := I.tuple hq
 obtain ⟨j, h1, h2, h3, h4, h5⟩ := atI_get he
 obtain ⟨w, ew, rw'⟩ := r.get h2
 have hl := r.length
 have hn := line63
 have fin : EP X pins σ Q w s := ⟨z, H, I, rw', q⟩
 exact subscriptTail_builtinR (x := w) pl.typeIs slot_tuple_getitem.lookup
  (getItem_tuple (j := j) (Q := fun r s' => r = w ∧ EP X pins σ Q r s') pl (by omega) (by omega) (by rw [List.size_toArray, ← hl]; exact h1) (by simpa using ew) ⟨rfl, fin⟩) hs
def rSetL : V -> V -> V -> Hp -> (Hp -> Prop) -> Prop := fun o i v H Q => ∃ p xs k j, o = .ref p ∧ i = .int k ∧ H p = some (.lst xs) ∧ ixN xs.length k = some j ∧ Q (upd H p (.lst (xs.set j v)))
theorem slice_bounds (lo hi : Option Int) (n : Nat) : (sliceBounds lo hi none n).1 = ((HT.sIx n 0 lo : Nat) : Int) ∧ (sliceBounds lo hi none n).2.1 = ((HT.sIx n n hi : Nat) : Int) ∧ (sliceBounds lo hi none n).2.2 = 1 := by
 refine ⟨?_, ?_, rfl⟩
 ·cases lo with
  | none => simp [sliceBounds, HT.sIx]
  | some i =>
   simp only [sliceBounds, HT.sIx, Option.getD_none, show (1 : Int) > 0 by decide, if_true]
   by_cases h : i < 0
   ·simp only [h, if_true] <;> omega
   ·simp only [h, if_false] <;> omega
 ·cases hi with
  | none => simp [sliceBounds, HT.sIx]
  | some i =>
   simp only [sliceBounds, HT.sIx, Option.getD_none, show (1 : Int) > 0 by decide, if_true]
   by_cases h : i < 0
   ·simp only [h, if_true] <;> omega
   ·simp only [h, if_false] <;> omega
theorem slicePick_cut (its : List Value) (lo hi : Option Int) : slicePick its.toArray lo hi none = ((its.drop (HT.sIx its.length 0 lo)).take (HT.sIx its.length its.length hi - HT.sIx its.length 0 lo)).toArray := by
 obtain ⟨h1, h2, h3⟩ := slice_bounds lo hi its.toArray.size
 unfold slicePick
 rw [h1, h2, h3]
 simp only [sliceRange_one, pick_run, List.size_toArray] <;> rfl
def rSlL (K : PySem.W.Frag) : V -> Option Int -> Option Int -> Hp -> VK -> Prop := fun x lo hi H Q => ∃ a xs, x = .ref a ∧ SqL K H a xs ∧ ∀ p, H p = none -> Q (.ref p) (upd H p (.lst (cutV xs lo hi)))
theorem sl_list : SlR X (rSlL X.K) := by
 intro pins s σ H x v vl vu lo hi sl Q I rx hs pl pu h
 obtain ⟨a, xs, rfl, hx, q⟩ := h
 cases rx
 obtain ⟨its, r, ht, hz⟩ := I.list hx
 have hlen := r.length
 refine ⟨"list", _, slot_list_getitem.lookup, ht.isList.typeIs, ?_⟩
 refine wpAny_getItem_list_slice ht.isList hs pl pu .none (by simp) ?_ (by rw [List.size_toArray] <;> omega)
 rw [slicePick_cut, ← hlen]
 refine ⟨.ref s.heap.objs.size, _, I.laid (t' := s.toks) (o := .lst (cutV xs lo hi)) (fun b ob q => Heap.get?_push_of_some _ q) (Nat.le_refl _) ?_, rfl, q _ (I.hok.fresh (Nat.le_refl _))⟩
 exact ⟨Nat.le_trans (cutV_length xs lo hi) hz, _, 0, (r.drop (HT.sIx xs.length 0 lo)).take (HT.sIx xs.length xs.length hi - HT.sIx xs.length 0 lo), Heap.get?_push_size _ rfl⟩
def flatV : V -> Bool
 | .non => true
 | .bl _ => true
 | .int _ => true
 | .str _ => true
 | _ => false
def eqV : V -> V -> Bool
 | .non, .non => true
 | .bl a, .bl b => a == b
 | .bl a, .int b => (if a then 1 else 0) == b
 | .int a, .bl b => a == (if b then 1 else 0)
 | .int a, .int b => a == b
 | .str a, .str b => a == b
 | _, _ => false
def inV (x : V) (xs : List V) : Bool := xs.any fun y => eqV y x
def rIn (K : PySem.W.Frag) (neg : Bool) : R2 := fun x y H Q => ∃ p xs, y = .ref p ∧ (SqL K H p xs ∨ SqT K H p xs) ∧ flatV x = true ∧ xs.all flatV = true ∧ Q (.bl (if neg then !inV x xs else inV x xs)) H
theorem call_len_seq : CallR X (.builtin "len") (fun xs H Q => ∃ p ys, xs = [.ref p] ∧ (SqL X.K H p ys ∨ SqT X.K H p ys) ∧ Q (.int ys.length) H) := by
 intro pins s σ H xs us Q I r h
 obtain ⟨p, ys, rfl, hq, q⟩ := h
 obtain ⟨u, rfl, rx⟩ := vals1 r
 cases rx
 have hn := line63
 rcases hq with hq | hq
 ·obtain ⟨its, r', pl, hz⟩ := I.list hq
  have hlen := r'.length
  exact Calls.call_len_list pl.isList (by simp only [List.size_toArray] <;> omega) ⟨.int ys.length, H, I.tok _, ⟨s.toks + 1, by rw [List.size_toArray, hlen]⟩, q⟩
 ·obtain ⟨its, r', pl, hz⟩ := I.tuple hq
  have hlen := r'.length
  exact len_tuple pl (by simp only [List.size_toArray] <;> omega) ⟨.int ys.length, H, I.tok _, ⟨s.toks + 1, by rw [List.size_toArray, hlen]⟩, q⟩
theorem call_list_of : CallR X (.type "list") (fun xs H Q => ∃ p ys, xs = [.ref p] ∧ (SqL X.K H p ys ∨ SqT X.K H p ys) ∧ ∀ l, H l = none -> Q (.ref l) (upd H l (.lst ys))) := by
 intro pins s σ H xs us Q I r h
 obtain ⟨p, ys, rfl, hq, q⟩ := h
 obtain ⟨u, rfl, rx⟩ := vals1 r
 cases rx
 have fin : ∀ (its : List Value), Vals ys its -> ys.length <= sizeLine -> ∀ (h' : Heap) (c' : Nat), (∀ b o', s.heap.get? b = some o' -> h'.get? b = some o') ->
   h'.get? s.heap.objs.size = some { cls := .type "list", dict := none, data := .seq its.toArray c', slots := #[] } -> EP X pins σ Q (.ref s.heap.objs.size) { s with heap := h' } := fun its r' hz h' c' kp e =>
  ⟨.ref s.heap.objs.size, _, I.laid (t' := s.toks) kp (Nat.le_refl _) (show ObjOk X.prog X.w _ h' _ (.lst ys) from ⟨hz, its, c', r', e⟩), rfl, q _ (I.hok.fresh (Nat.le_refl _))⟩
 rcases hq with hq | hq
 ·obtain ⟨its, r', pl, hz⟩ := I.list hq
  have hlen := r'.length
  obtain ⟨o, ho, hc, n, hd⟩ := pl.isList
  exact call_list_seq p (.inl rfl) ho hc hd (fun h' c' kp e => fin its r' hz h' c' kp e) (by simp only [List.size_toArray] <;> omega)
 ·obtain ⟨its, r', pl, hz⟩ := I.tuple hq
  have hlen := r'.length
  obtain ⟨o, ho, hc, n, hd⟩ := pl
  exact call_list_seq p (.inr rfl) ho hc hd (fun h' c' kp e => fin its r' hz h' c' kp e) (by simp only [List.size_toArray] <;> omega)
def tyV (K : PySem.W.Frag) (T : String) (x : V) (H : Hp) : Prop := match x with
 | .str _ => T = "str"
 | .int _ => T = "int"
 | .ref p => (T = "list" ∧ ∃ xs, SqL K H p xs) ∨ (T = "tuple" ∧ ∃ o, K.lookup p = some o ∧ o.cls = .type "tuple" ∧ o.dict = none) ∨
   (T = "dict" ∧ ((∃ kvs, H p = some (.dK kvs)) ∨ ∃ kvs, H p = some (.dT kvs))) ∨ (T = "set" ∧ ∃ S n, H p = some (.set S n))
 | _ => False
theorem tyV_is {pins : List (Addr × Obj)} {σ : St} {H : Hp} {s : Shared} {T : String} {x : V} {v : Value} (I : Inv X pins σ H s) (r : RelV x v) (ty : tyV X.K T x H) :
  s.TypeIs v T ∧ ∀ a, v = .ref a -> ∃ ob, s.heap.get? a = some ob ∧ ob.dict = none := by
 cases x with
 | str z =>
  obtain ⟨t, rfl⟩ := r
  cases (show T = "str" from ty)
  exact ⟨typeIs_str s z t, fun _ e => nomatch e⟩
 | int i =>
  obtain ⟨t, rfl⟩ := r
  cases (show T = "int" from ty)
  exact ⟨typeIs_int s i t, fun _ e => nomatch e⟩
 | ref p =>
  cases r
  rcases ty with ⟨rfl, xs, hq⟩ | ⟨rfl, o, hk, hc, hd⟩ | ⟨rfl, hk⟩ | ⟨rfl, S, n, hk⟩
  ·obtain ⟨its, _, pl, _⟩ := I.list hq
   refine ⟨pl.isList.typeIs, fun a e => ?_⟩
   cases e
   obtain ⟨o, n, e, c, hd, _⟩ := pl
   exact ⟨o, e, hd⟩
  ·refine ⟨⟨o, I.kIn p o hk, hc⟩, fun a e => ?_⟩
   cases e
   exact ⟨o, I.kIn _ o hk, hd⟩
  ·have z : ∃ o, s.heap.get? p = some o ∧ o.ExactDict := by
    rcases hk with ⟨kvs, hk⟩ | ⟨kvs, hk⟩
    ·obtain ⟨_, _, _, _, o, _, _, e, ex, _⟩ := I.hok p _ hk
     exact ⟨o, e, ex⟩
    ·obtain ⟨_, _, _, _, o, _, _, e, ex, _⟩ := I.hok p _ hk
     exact ⟨o, e, ex⟩
   obtain ⟨o, e, ex⟩ := z
   refine ⟨⟨o, e, ex.1⟩, fun a e2 => ?_⟩
   cases e2
   exact ⟨o, e, ex.2.1⟩
  ·obtain ⟨o, _, _, _, e, ex, _⟩ := I.hok p _ hk
   refine ⟨⟨o, e, ex.1⟩, fun a e2 => ?_⟩
   cases e2
   exact ⟨o, e, ex.2.1⟩
 | _ => exact False.elim ty
def tBM0 (K : PySem.W.Frag) (T : String) (r : V -> List V -> Hp -> VK -> Prop) (to : TE) : TE := fun σ H Q => to σ H fun x H1 => tyV K T x H1 ∧ r x [] H1 Q
def tBM (K : PySem.W.Frag) (T : String) (r : V -> List V -> Hp -> VK -> Prop) (to : TE) (t : TA) : TE := fun σ H Q => to σ H fun x H1 => tyV K T x H1 ∧ t σ H1 fun xs H2 => r x xs H2 Q
variable {o e : Expr} {es : List Expr} {to : TE} {t : TA} {name : Str} {apos cpos : Pos} {T id : String} {r : V -> List V -> Hp -> VK -> Prop}
theorem pe_bm (pa : PlainAttrs T) (slot : Slot T name id) (hty : typeOf (.builtin id) = pure (.type "method_descriptor")) (hm : MtR X id r) (ho : PE X o to) (ha : PA X (e :: es) t)
  (hbase : attributeBase o name X.env (eval o X.env) = eval o X.env := by rfl)
  (hfew : ((backTo cpos (starEach (e :: es) X.env)).all (fun x => !x.1) && (backToKw cpos (keywordEach [] X.env)).all (fun x => x.1.isSome)
   && decide ((e :: es).length + ([] : List Keyword).length + (if ([] : List Keyword).isEmpty then 0 else 1) < 30)) = true := by rfl)
  (hline : (apos.endLine == cpos.line) = true := by rfl) (hs : starEach (e :: es) X.env = (false, eval e X.env) :: starEach es X.env := by rfl) (hplain : (backTo cpos (starEach es X.env)).any (·.1) = false := by rfl) :
  PE X (.Call (.Attribute o name apos) (e :: es) [] cpos) (tBM X.K T r to t) := by
 intro pins s σ H Q I h
 refine wpAny_Call_method_late hbase hfew hline rfl (thn (ho pins s σ H _ I h) fun v s1 ⟨x, H1, I1, r1, ty, q1⟩ => ?_)
 obtain ⟨h1, h2⟩ := tyV_is I1 r1 ty
 refine ⟨T, id, pa, slot, hty, h1, h2, ?_⟩
 have hA := ha cpos pins s1 σ H1 _ I1 q1
 rw [hs] at hA ⊢
 refine Calls.callWith_builtin (by show (false || (backTo cpos (starEach es X.env)).any (·.1)) = false; rw [hplain] <;> rfl) (Calls.evalArgs_plain ?_)
 exact thn hA fun us s2 ⟨vs, H2, I2, r2, q2⟩ => hm pins s2 σ H2 x vs v us Q I2 r1 r2 q2
/- xs.append(e), list.index on a module's tuple .. are MtR facts of 06m -/
end
end L2
namespace L2
open PySem PySem.Spec PyProof.Rows
def MtM (X : Cx) (id : String) (r : V -> List V -> Hp -> VK -> Prop) : Prop :=
 ∀ (pins : List (Addr × Obj)) (s : Shared) (σ : St) (H : Hp) (x : V) (xs : List V) (v : Value) (us : List Value) (Q : VK), Inv X pins σ H s -> RelV x v -> Vals xs us -> r x xs H Q ->
  wpAny (model X.prog X.w) X.A (call (.builtin id) (v :: us)) (EP X pins σ Q) X.xe s
theorem Vals.one : ∀ {x : V} {us : List Value}, Vals [x] us -> ∃ u, us = [u] ∧ RelV x u
 | _, _, .cons r .nil => ⟨_, rfl, r⟩
theorem Vals.dropLast {xs : List V} {us : List Value} (h : Vals xs us) : Vals xs.dropLast us.dropLast := by
 induction h with
 | nil => exact .nil
 | cons r t ih =>
  cases t with
  | nil => exact .nil
  | cons q t' => exact .cons r ih
section
variable {X : Cx} {pins : List (Addr × Obj)} {σ : St} {H : Hp} {s : Shared} {l b : Addr} {xs ys zs : List V}
theorem Inv.lset {its its' : List Value} {n : Nat} {f : Array Value -> Array Value} {t' : Nat} (I : Inv X pins σ H s) (hH : H l = some (.lst xs))
  (e : s.heap.get? l = some { cls := .type "list", data := .seq its.toArray n }) (hf : f its.toArray = its'.toArray) (hv : Vals ys its') (hz : ys.length <= sizeLine) :
  Inv X pins σ (upd H l (.lst ys)) { s with heap := s.heap.update l (Obj.mapSeq f), toks := t' } := by
 have q := PySem.IsL.update e f
 rw [hf] at q
 refine I.write (x := l) (e := l) (by rw [hH]; exact trivial) (.inl rfl) (fun b' u hb hu => (Heap.get?_update_other s.heap (Obj.mapSeq f) (Ne.symm hb)).trans hu) ⟨_, q⟩ ?_
 exact ⟨hz, its', _, hv, q⟩
theorem Inv.lnew {its : List Value} {t' : Nat} (I : Inv X pins σ H s) (hv : Vals ys its) (hz : ys.length <= sizeLine) :
  Inv X pins σ (upd H s.heap.objs.size (.lst ys)) { s with heap := s.heap.push { cls := .type "list", data := .seq its.toArray }, toks := t' } :=
 I.laid (fun _ _ q => Heap.get?_push_of_some _ q) (Nat.le_refl _) ⟨hz, its, 0, hv, Heap.get?_push_size _ rfl⟩
theorem Inv.fresh (I : Inv X pins σ H s) : H s.heap.objs.size = none := I.hok.fresh (Nat.le_refl _)
theorem Inv.lstM (I : Inv X pins σ H s) (hH : H l = some (.lst xs)) : xs.length <= sizeLine ∧ ∃ (its : List Value) (n : Nat), Vals xs its ∧ xs.length = its.length ∧ s.heap.get? l = some { cls := .type "list", data := .seq its.toArray n } := by
 obtain ⟨z, its, n, r, e⟩ := I.hok l _ hH
 exact ⟨z, its, n, r, r.length, e⟩
theorem notLongL {n : Nat} (h : n <= sizeLine) : Builtin.List.listTooLong n = false := by
 unfold Builtin.List.listTooLong
 exact decide_eq_false (by omega)
end
section
variable {X : Cx}
def rAppend : V -> List V -> Hp -> VK -> Prop := fun x vs H Q => ∃ l xs y, x = .ref l ∧ vs = [y] ∧ H l = some (.lst xs) ∧ xs.length < sizeLine ∧ Q .non (upd H l (.lst (xs ++ [y])))
theorem mt_append : MtM X "list.append" rAppend := by
 intro pins s σ H x vs v us Q I rx rv h
 obtain ⟨l, xs, y, rfl, rfl, hH, hz, q⟩ := h
 cases rx
 obtain ⟨u, rfl, ru⟩ := rv.one
 obtain ⟨z, its, n, r, hl, e⟩ := I.lstM hH
 refine call_meets F.slot_list_append ⟨_, e, rfl⟩ F.entry_list_append (F.args_list_append_2 _ _) (PySem.list_append l its.toArray n u (by rw [List.size_toArray]; omega)) ⟨e, ?_⟩
 refine ⟨.non, _, I.lset (its' := its ++ [u]) hH e (by simp) (r.append (.cons ru .nil)) ?_, rfl, q⟩
 rw [List.length_append, List.length_singleton]
 omega
def rExtend : V -> List V -> Hp -> VK -> Prop := fun x vs H Q => ∃ l b xs zs, x = .ref l ∧ vs = [.ref b] ∧ H l = some (.lst xs) ∧ H b = some (.lst zs) ∧ xs.length + zs.length <= sizeLine ∧ Q .non (upd H l (.lst (xs ++ zs)))
theorem mt_extend : MtM X "list.extend" rExtend := by
 intro pins s σ H x vs v us Q I rx rv h
 obtain ⟨l, b, xs, zs, rfl, rfl, hH, hB, hz, q⟩ := h
 cases rx
 obtain ⟨u, rfl, ru⟩ := rv.one
 cases ru
 obtain ⟨z, its, n, r, hl, e⟩ := I.lstM hH
 obtain ⟨z2, its2, n2, r2, hl2, e2⟩ := I.lstM hB
 have hsz : its.toArray.size + its2.toArray.size <= sizeLine := by rw [List.size_toArray, List.size_toArray]; omega
 have hlong : ¬ (!its.toArray.isEmpty && Builtin.List.listTooLong (its.toArray.size + its2.toArray.size)) = true := by
  rw [notLongL hsz, Bool.and_false]
  exact Bool.false_ne_true
 refine call_meets F.slot_list_extend ⟨_, e, rfl⟩ F.entry_list_extend (F.args_list_extend_2 _ _)
  (AutoSeq1.list_extend_list_list_0 l its.toArray n b its2.toArray n2 hlong (by rw [List.size_toArray]; omega) (by omega)) ⟨e, e2, ?_⟩
 refine ⟨.non, _, I.lset (its' := its ++ its2) hH e (by simp) (r.append r2) ?_, rfl, q⟩
 rw [List.length_append]
 omega
def rPop : V -> List V -> Hp -> VK -> Prop := fun x vs H Q => ∃ l xs y, x = .ref l ∧ vs = [] ∧ H l = some (.lst xs) ∧ xs[xs.length - 1]? = some y ∧ Q y (upd H l (.lst xs.dropLast))
def rClear : V -> List V -> Hp -> VK -> Prop := fun x vs H Q => ∃ l xs, x = .ref l ∧ vs = [] ∧ H l = some (.lst xs) ∧ Q .non (upd H l (.lst []))
def rCat : R2 := fun x y H Q => ∃ l b xs zs, x = .ref l ∧ y = .ref b ∧ H l = some (.lst xs) ∧ H b = some (.lst zs) ∧ xs.length + zs.length <= sizeLine ∧ ∀ p, H p = none -> Q (.ref p) (upd H p (.lst (xs ++ zs)))
theorem op_cat : OpR X (binaryOp .Add) rCat := by
 intro pins s σ H x y v u Q I rx ry h
 obtain ⟨l, b, xs, zs, rfl, rfl, hH, hB, hz, q⟩ := h
 cases rx
 cases ry
 obtain ⟨z, its, n, r, hl, e⟩ := I.lstM hH
 obtain ⟨z2, its2, n2, r2, hl2, e2⟩ := I.lstM hB
 refine PySem.P.add_list e e2 ?_ (by rw [List.size_toArray, List.size_toArray]; omega)
 have ea : its.toArray ++ its2.toArray = (its ++ its2).toArray := by simp
 rw [ea]
 exact ⟨.ref _, _, I.lnew (t' := s.toks) (r.append r2) (by rw [List.length_append]; omega), rfl, q _ I.fresh⟩
def rRep : R2 := fun x y H Q => ∃ l k xs, x = .ref l ∧ y = .int k ∧ H l = some (.lst xs) ∧ -(2 ^ 63) <= k ∧ k < 2 ^ 63 ∧ xs.length * k.toNat <= sizeLine ∧
 ∀ p, H p = none -> Q (.ref p) (upd H p (.lst (List.replicate k.toNat xs).flatten))
end
section
variable {prog : Program} {w : World} {A : Around} {E : Value -> Shared -> Prop} {s : Shared}
end
section
variable {X : Cx}
end
end L2
namespace Att
open PySem PySem.W PySem.Calls PyProof.Rows
theorem ints_of_wellAll {P : Params} {h : Heap} : ∀ (ns : List Int) (vs : List Value), WellAll P h vs (ns.map WData.int) -> IntsAre vs ns := by
 intro ns
 induction ns with
 | nil =>
  intro vs w
  rw [List.map_nil] at w
  cases w
  exact .nil
 | cons n ns ih =>
  intro vs w
  rw [List.map_cons] at w
  cases w with
  | cons a b =>
   cases a
   exact .cons _ _ (ih _ b)
theorem script_of {l : OpenLaw} {n : Nat} (hn : l.most = some n) {P : Params} {h : Heap} {args : List WData} {vals : List Value}
  (hpre : l.row.toRowW.claim.pre args = true) (hwl : WellAll P h vals args) :
  ∃ a vs ns, vals = [Value.ref a] ∧ args = [WData.list (ns.map WData.int)] ∧ h.get? a = some { cls := .type "list", data := .seq vs.toArray } ∧ IntsAre vs ns ∧ ns.length <= n := by
 have hsh : WShape.hasAll [] args [.list .int] = true := (pre_splitW hpre).1
 have hc : l.pre.holds [] { args := args } = true := (pre_splitW hpre).2
 obtain ⟨d, r, rfl, h1, h2⟩ := hasAllW_cons hsh
 obtain rfl := hasAllW_nil h2
 obtain ⟨xs, rfl, h3⟩ := hasW_list h1
 obtain ⟨ns, rfl⟩ := items_int h3
 have hlen : ns.length <= n := by
  unfold OpenLaw.pre at hc
  have h4 : (WTm.not (.lt (.lit (.int (n : Int))) (.len (.arg 0)))).holds [] { args := [.list (ns.map .int)] } = true := by
   have h4 := (holds_andW hc).1
   rw [hn] at h4
   exact h4
  have h5 := condW_of h4 (w_not (w_lt w_lit (w_len_list (w_arg rfl))))
  rw [List.length_map] at h5
  refine Nat.le_of_not_lt fun q => ?_
  have q' : (n : Int) < ((ns.length : Nat) : Int) := by omega
  first
   |(rw [decide_eq_true q'] at h5; exact absurd h5 (by decide))
   |(simp at h5; omega)
 cases hwl with
 | cons w1 w2 =>
  cases w2
  cases w1 with
  | list ho hall => exact ⟨_, _, ns, rfl, rfl, ho, ints_of_wellAll ns _ hall, hlen⟩
theorem post_true (l : OpenLaw) (args : List WData) : l.row.toRowW.claim.post args (.bool true) args = true :=
 postW_of (r := l.row.toRowW) (X := (true == true))
  (show WShape.has [] (.bool true) .bool = true by first | rfl | decide | simp [WShape.has, WShape.arms, WShape.armsAll])
  (show (WTm.eq .res (.lit (.bool true))).value [] { args := args, res := some (.bool true), after := args } = some (.bool (true == true)) from w_eq_bool (w_res rfl) w_lit) rfl
theorem attach_call {l : OpenLaw} {n : Nat} {q : Program} {loose : List Str} {XP : (Str -> Option Value) -> Heap -> Prop} {YP : World -> Heap -> Prop} {d : DefRec}
  (hn : l.most = some n) (hdf : d.params.defaults = [])
  (call : ∀ (w : World) (s₀ s₁ : Shared) (mg mb : Str -> Option Value) (fa : Addr) (o : Obj) (pm cd doc : Value) (a : Addr) (vs : List Value) (ns : List Int),
   Ground q loose [] XP w s₀ mg mb s₁.heap -> YP w s₁.heap ->
   s₁.heap.get? fa = some o -> o.data = .func (docDef d.name d.params d.body d.scope pm cd doc) -> s₁.heap.CodeRec cd d.name -> mg d.name = some (.ref fa) ->
   s₁.heap.get? a = some { cls := .type "list", data := .seq vs.toArray } -> IntsAre vs ns -> ns.length <= n -> s₁.gens = #[] ->
   codeAny (model l.prog w) callerA (.call (.ref fa) ⟨[.ref a], []⟩) (fun r s' => r = .ok (.ret (.bool true)) ∧ OldK s₁.heap s'.heap ∧ s'.os = s₁.os ∧ AllBare s'.gens) s₁) :
  WalkO q loose XP YP l.row.toRowW d [] (fun f vs => PySem.call f vs) := by
 intro w s₀ s₁ mg mb G Y fa o pm cd doc dV kV ho hd hcd hD hmg hg args vals as hpre hlay hrd hwl hlo
 obtain rfl : dV = .none := Dflts.none hD hdf
 obtain rfl : kV = .none := Dflts.noKw hD
 obtain ⟨a, vs, ns, rfl, rfl, hobj, hints, hlen⟩ := script_of hn hpre hwl
 refine enter_call (codeAny_mono (call w s₀ s₁ mg mb fa o pm cd doc a vs ns G Y ho (fd_plain hd) hcd hmg hobj hints hlen hg) fun r s' hq => ?_)
 obtain ⟨rfl, h2, h3, h4⟩ := hq
 exact ⟨.inl ⟨.bool true, .bool true, [], rfl, fun _ => rfl, .bool true, post_true l _, fun _ => ⟨List.Pairwise.nil, fun _ hm => (nomatch hm)⟩⟩, h2, h3, h4⟩
section
variable {prog : Program} {w : World} {A : Around} {E : Value -> Shared -> Prop} {s : Shared} {K : Frag}
def ledger (h : Heap) (L d : Addr) : List (Addr × Obj) := (List.range h.objs.size).filterMap fun a => if a = L ∨ a = d then none else (h.get? a).map fun o => (a, o)
end
end Att
namespace L2
open PySem PySem.Spec PyProof.Rows
theorem vals_ints : ∀ {vs : List Value} {ns : List Int}, IntsAre vs ns -> Vals (ns.map V.int) vs
 | _, _, .nil => .nil
 | _, _, .cons n t h => .cons ⟨t, rfl⟩ (vals_ints h)
def Only (H : Hp) : Prop := ∀ b, H b = none ∨ ∃ o xs, H b = some (.frz o (.lst xs))
theorem law_call {P : Program} {w : World} {K : PySem.W.Frag} {mg mb : Str -> Option Value} {CX : CXT} {k : Nat} {fa a : Addr} {fd : FuncData} {x : Str} {sp : Sp} {s₁ : Shared} {vs : List Value} {ns : List Int}
  (KX : K.In s₁.heap) (hns : s₁.heap.Ns mainGlobals mg) (hb : s₁.heap.Ns builtinsNs mb) (hbb : ∀ x : Str, x ≠ "__name__" -> mb x = bootBuiltins x) (hlim : s₁.heap.NoLimit) (hg : s₁.gens = #[])
  (ha : s₁.heap.get? a = some { cls := .type "list", data := .seq vs.toArray }) (hi : IntsAre vs ns) (hl : ns.length <= sizeLine) (hr : Room k callerA)
  (F : ∀ base : Heap, K.In base -> base.Ns mainGlobals mg -> FnOk P w K mg base CX k fa fd [x] sp) (hbind : ∀ (s : Shared) (u : Value), BindsTo s fd ⟨[u], []⟩ [(x, u)])
  (hsp : ∀ H : Hp, Only H -> SqL K H a (ns.map V.int) -> sp [.ref a] H (fun v _ => v = .bl true) fun _ _ _ => False)
  (hCX : ∀ H e s', CX [] H s₁ (fun _ _ _ => False) e s' -> False) :
  codeAny (model P w) callerA (.call (.ref fa) ⟨[.ref a], []⟩) (fun r s' => r = .ok (.ret (.bool true)) ∧ OldK s₁.heap s'.heap ∧ s'.os = s₁.os ∧ AllBare s'.gens) s₁ := by
 have rv := vals_ints hi
 have lenV := hi.length
 have core : ∀ H : Hp, Only H -> SqL K H a (ns.map V.int) -> HOk P w H s₁.heap -> (∀ b, H b ≠ none -> b = a) -> (H a ≠ none -> K.lookup a = none) ->
   codeAny (model P w) callerA (.call (.ref fa) ⟨[.ref a], []⟩) (fun r s' => r = .ok (.ret (.bool true)) ∧ OldK s₁.heap s'.heap ∧ s'.os = s₁.os ∧ AllBare s'.gens) s₁ := by
  intro H hO hS hok hA hK
  have base_of : ∀ {b : Addr} {o : Obj}, s₁.heap.get? b = some o -> H b = none -> (hidT s₁.heap H).get? b = some o := fun e n => hidT_get e n
  have noA : ∀ {b : Addr} {o : Obj} {es : Array DictEntry} {ep : Nat}, s₁.heap.get? b = some o -> o.data = .dict es ep -> H b = none := fun {b o es ep} e d => by
   cases q : H b with
   | none => rfl
   | some u =>
    have e' : b = a := hA b (by rw [q]; simp)
    subst e'
    rw [ha] at e; cases e
    have d' : Data.seq vs.toArray _ = Data.dict es ep := d
    cases d'
  have nsK : ∀ {b : Addr} {m : Str -> Option Value}, s₁.heap.Ns b m -> (hidT s₁.heap H).Ns b m := fun {b m} ⟨o, es, ep, e, d, r⟩ => ⟨o, es, ep, base_of e (noA e d), d, r⟩
  have hKb : K.In (hidT s₁.heap H) := fun b o e => base_of (KX b o e) (by
   cases q : H b with
   | none => rfl
   | some u =>
    have e' : b = a := hA b (by rw [q]; simp)
    subst e'
    rw [hK (by rw [q]; simp)] at e; cases e)
  have hM : Mod K mg (hidT s₁.heap H) := ⟨hKb, nsK hns, ⟨mb, nsK hb, hbb⟩, let ⟨mc, h1, h2⟩ := hlim; ⟨mc, nsK h1, h2⟩⟩
  have e0 : Env0 P w K mg (hidT s₁.heap H) callerA [] s₁ H := ⟨rfl, hM, fun b o e => of_hidT e, Nat.le_of_eq (hidT_size _ _), trivial, fun b hb => absurd (show b ∈ ([] : List Addr) from hb) (by simp), hok, .of_eq hg⟩
  refine codeAny_mono ((F _ hKb (nsK hns)).run callerA [] s₁ H ⟨[.ref a], []⟩ [.ref a] [.ref a] _ _ hr e0 (hbind s₁ (.ref a)) (.cons rfl .nil) (hsp H hO hS)) fun r s' h => ?_
  cases r with
  | error e => exact (hCX H e s' h).elim
  | ok fl =>
   cases fl with
   | next => exact False.elim h
   | brk => exact False.elim h
   | cont => exact False.elim h
   | ret u =>
    obtain ⟨v, H', os, bare, un, hok', r', q⟩ := h
    have q' : v = .bl true := q
    subst q'
    obtain rfl : u = Value.bool true := r'
    refine ⟨rfl, OldK.of_keep fun b o e => ?_, os, bare⟩
    cases q : H b with
    | none => exact un.keep b o e q (by intro z; exact absurd (show b ∈ ([] : List Addr) from z) (by simp)) (by simp)
    | some u =>
     rcases hO b with z | ⟨ob, xs, z⟩
     ·rw [q] at z; cases z
     ·have z2 := un.frzs b ob _ z
      obtain ⟨e1, _⟩ := hok b _ z
      obtain ⟨e2, _⟩ := hok' b _ z2
      rw [e] at e1; cases e1
      exact e2
 cases hk : K.lookup a with
 | some o =>
  have e := KX a o hk
  rw [ha] at e
  cases e
  refine core (fun _ => none) (fun _ => .inl rfl) (.inr ⟨_, vs.toArray, _, hk, rfl, rfl, rfl, by rw [List.size_toArray, lenV]; exact hl, by simpa using rv⟩) (fun b u z => by have z' : (none : Option HO) = some u := z; cases z') (fun b z => absurd rfl z) fun z => absurd rfl z
 | none =>
  refine core (fun b => if b = a then some (.frz { cls := .type "list", data := .seq vs.toArray } (.lst (ns.map V.int))) else none) (fun b => ?_) (.inl (.inr ⟨{ cls := .type "list", data := .seq vs.toArray }, if_pos rfl⟩)) (fun b u z => ?_) (fun b z => ?_) fun _ => hk
  ·by_cases hb : b = a
   ·exact .inr ⟨_, _, if_pos hb⟩
   ·exact .inl (if_neg hb)
  ·by_cases hb : b = a
   ·have z' := (if_pos hb).symm.trans z
    cases z'
    subst hb
    exact ⟨ha, by rw [List.length_map]; exact hl, vs, _, rv, ha⟩
   ·have z' := (if_neg hb).symm.trans z
    cases z'
  ·by_cases hb : b = a
   ·exact hb
   ·exact absurd (if_neg hb) z
end L2
namespace L2
open PySem PySem.Spec PyProof.Rows
theorem walk_of {l : PySem.W.OpenLaw} {n k : Nat} {q : Program} {loose : List Str} {XP : (Str -> Option Value) -> Heap -> Prop} {YP : World -> Heap -> Prop} {d : DefRec} {K : Params -> PySem.W.Frag} {CX : World -> CXT} {sp : World -> Sp} {x : Str}
  (hn : l.most = some n) (hn2 : n <= sizeLine) (hdf : d.params.defaults = []) (hr : Room k callerA)
  (hY : ∀ (w : World) (h : Heap), YP w h -> (K w.params).In h)
  (F : ∀ (w : World) (mg : Str -> Option Value) (fa : Addr) (h : Heap), (K w.params).In h -> h.Ns mainGlobals mg -> mg d.name = some (.ref fa) ->
   ∃ fd : FuncData, (∀ (s : Shared) (u : Value), BindsTo s fd ⟨[u], []⟩ [(x, u)]) ∧
    ∀ base : Heap, (K w.params).In base -> base.Ns mainGlobals mg -> FnOk l.prog w (K w.params) mg base (CX w) k fa fd [x] (sp w))
  (hsp : ∀ (w : World) (H : Hp) (a : Addr) (ns : List Int), ns.length <= n -> Only H -> SqL (K w.params) H a (ns.map V.int) -> sp w [.ref a] H (fun v _ => v = .bl true) fun _ _ _ => False)
  (hCX : ∀ (w : World) (H : Hp) (s : Shared) (e : Value) (s' : Shared), CX w [] H s (fun _ _ _ => False) e s' -> False) :
  PySem.W.WalkO q loose XP YP l.row.toRowW d [] (fun f vs => PySem.call f vs) := by
 refine Att.attach_call hn hdf fun w s₀ s₁ mg mb fa o pm cd doc a vs ns G Y ho hd hcd hmg hobj hints hlen hg => ?_
 have KX := hY w _ Y
 obtain ⟨fd, hb, hF⟩ := F w mg fa _ KX G.T.g hmg
 exact law_call KX G.T.g G.T.b G.T.builtins G.T.nolimit hg hobj hints (Nat.le_trans hlen hn2) hr hF hb (fun H hO hS => hsp w H a ns hlen hO hS) fun H e s' => hCX w H s₁ e s'
end L2
namespace L2
open PySem PySem.Spec PyProof.Rows
def defArgs (s : Stmt) : Arguments := match s with
 | .FunctionDef _ a _ _ _ _ _ _ _ _ => a
 | _ => { posonlyargs := [], args := [], vararg := none, kwonlyargs := [], kw_defaults := [], kwarg := none, defaults := [] }
def defBody (s : Stmt) : List Stmt := match s with
 | .FunctionDef _ _ b _ _ _ _ _ _ _ => b
 | _ => []
def defScope (s : Stmt) : Scope := match s with
 | .FunctionDef _ _ _ _ _ _ sc _ _ _ => sc
 | _ => { kind := .function, names := [], isGenerator := false, isCoroutine := false }
abbrev CX0 : CXT := fun _ _ _ _ _ _ => False
abbrev E0 : XK := fun _ _ _ => False
theorem pass0 {X : Cx} : Passes CX0 X E0 := fun _ _ _ _ _ _ _ h => h.elim
structure Fun (K : PySem.W.Frag) (x qual : Str) (st : Stmt) (f : Addr) (fd : FuncData) : Prop where
 ex : ∃ (oc : Value) (od : Option Addr) (kV doc pm : Value) (an : Option Addr) (cdv ct : Value) (osl : Array (Option Value)),
  fd = PySem.W.fnOf x qual (defArgs st) (defBody st) (defScope st) .none kV doc pm an cdv ct ∧ K.lookup f = some ⟨oc, od, .func fd, osl⟩ ∧ PySem.W.codeIn K cdv qual = true
 kp : PySem.W.keepIn K (.ref f) = true
section
variable {P : Program} {w : World} {K : PySem.W.Frag} {mg : Str -> Option Value} {base : Heap}
theorem Fun.ok {x qual : Str} {st : Stmt} {f : Addr} {fd : FuncData} {N ps : List Str} {k : Nat} {sp : Sp} (F : Fun K x qual st f fd) (S : FnScope N ps (defScope st)) (len : ∀ vs H Q E, sp vs H Q E -> vs.length = ps.length)
  (hbody : ∀ (cdv : Value) (A : Around) (outer : List Env) (s : Shared) (H : Hp) (vs : List V) (Q : VK) (E : XK), Room k (A.deeper (envOfC qual (defScope st) s.heap.objs.size f cdv)) -> sp vs H Q E ->
   ∃ t, PSs (cxOf CX0 P w K mg base N qual (defScope st) f cdv A outer s H E).nox (defBody st) t ∧ t { nx := fun _ H' => Q .non H', rt := Q } (start N vs) H) : FnOk P w K mg base CX0 (k + 1) f fd ps sp := by
 obtain ⟨oc, od, kV, doc, pm, an, cdv, ct, osl, rfl, lk, hcd⟩ := F.ex
 refine fn_of lk hcd S len fun A outer s H vs Q E hr hsp => ?_
 obtain ⟨t, h, q⟩ := hbody cdv A outer s H vs Q E hr hsp
 exact ⟨t, h.nox, q⟩
theorem Fun.binds {x qual : Str} {st : Stmt} {f : Addr} {fd : FuncData} {ps : List Str} (F : Fun K x qual st f fd)
  (h : ∀ (kV doc pm : Value) (an : Option Addr) (cdv ct : Value) (us : List Value), us.length = ps.length -> bindArgs (PySem.W.fnOf x qual (defArgs st) (defBody st) (defScope st) .none kV doc pm an cdv ct) ⟨us, []⟩ = pure (ps.zip us)) : Binds K fd ps [] := by
 obtain ⟨oc, od, kV, doc, pm, an, cdv, ct, osl, rfl, lk, hcd⟩ := F.ex
 exact .all (h kV doc pm an cdv ct)
theorem fun_mk {x qual : Str} {st : Stmt} {f : Addr} {oc : Value} {od an : Option Addr} {osl : Array (Option Value)} {kV doc pm cdv ct : Value} (l : K.lookup f = some ⟨oc, od, .func (PySem.W.fnOf x qual (defArgs st) (defBody st) (defScope st) .none kV doc pm an cdv ct), osl⟩)
  (c : PySem.W.codeIn K cdv qual = true) (k : PySem.W.keepIn K (.ref f) = true) : Fun K x qual st f (PySem.W.fnOf x qual (defArgs st) (defBody st) (defScope st) .none kV doc pm an cdv ct) := ⟨⟨oc, od, kV, doc, pm, an, cdv, ct, osl, rfl, l, c⟩, k⟩
end
theorem small1000 {n : Nat} (h : n <= 1000) : n < sizeLine := Nat.lt_of_le_of_lt h (by decide)
section
variable {X : Cx}
theorem pv (i : Nat) {x : Str} {pos : Pos} (hN : X.N[i]? = some x := by rfl) (hv : Vis X.env.scope x := by first | exact Or.inl rfl | exact Or.inr (Or.inl rfl) | exact Or.inr (Or.inr rfl)) (hd : (x == ("__debug__" : Str)) = false := by decide)
  (hcd : (x == ("__classdict__" : Str)) = false := by decide) : PE X (.Name x pos) (tVar i) := pe_var hN hv hd hcd
end
theorem ite2 {c A B : Prop} [Decidable c] (h1 : c -> A) (h2 : ¬ c -> B) : if c then A else B := by
 by_cases h : c
 ·rw [if_pos h]
  exact h1 h
 ·rw [if_neg h]
  exact h2 h
def Same (H H' : Hp) : Prop := ∀ b o, H b = some o -> H' b = some o
theorem Same.refl (H : Hp) : Same H H := fun _ _ h => h
theorem Same.trans {H H1 H2 : Hp} (a : Same H H1) (b : Same H1 H2) : Same H H2 := fun c o h => b c o (a c o h)
theorem Same.free {H H' : Hp} (e : Same H H') {l : Addr} (h : H' l = Option.none) : H l = Option.none := by
 cases q : H l with
 | none => rfl
 | some o =>
  rw [e l o q] at h
  cases h
theorem Same.seq {K : PySem.W.Frag} {H H' : Hp} {a : Addr} {xs : List V} (e : Same H H') (h : SqL K H a xs) : SqL K H' a xs := by
 rcases h with (h | ⟨o, h⟩) | h
 ·exact .inl (.inl (e _ _ h))
 ·exact .inl (.inr ⟨o, e _ _ h⟩)
 ·exact .inr h
end L2
namespace L2
open PySem PySem.Spec PyProof.Rows
@[reducible] def blk (X : Cx) (x : Str) (fv : List (Nat × Str)) (scope : Scope) (cl : List (Str × Addr)) (C : Addr) (s : Shared) (H : Hp) (fp : List Addr) : Cx where
 prog := X.prog
 w := X.w
 K := X.K
 mg := X.mg
 base := X.base
 A := X.A
 N := x :: fv.map (·.2)
 s₀ := s
 H₀ := H
 env := compEnvC scope cl C X.env
 outer := X.stack
 stack := X.stack
 ex := fp
 fn := fun _ => false
 calm := X.calm
 pn := []
 xe := fun _ _ => False
def bst (fv : List (Nat × Str)) (σ : St) (v : Option V) : St := v :: fv.map fun p => (σ[p.1]?).getD none
structure BlkOk (X : Cx) (x : Str) (fv : List (Nat × Str)) (scope : Scope) (cl : List (Str × Addr)) : Prop where
 clos : closureFor scope X.env = pure cl
 nocell : ∀ y ∈ scope.names, y.2 ≠ .cell
 kind : scope.kind = .function
 names : ∀ y ∈ scope.names, y.2 = .local -> scope.names.lookup y.1 = some .local
 here : scope.names.lookup x = some .local
 sub : ∀ y c, cl.lookup y = some c -> X.env.cells.lookup y = some c
 has : ∀ y, ((relabel scope X.env).names.lookup y = some .cell ∨ (relabel scope X.env).names.lookup y = some .free) -> ∃ c, cl.lookup y = some c
 fvs : ∀ p ∈ fv, p.2 ≠ x ∧ X.N[p.1]? = some p.2 ∧ (X.env.scope.names.lookup p.2 = some .cell ∨ X.env.scope.names.lookup p.2 = some .free) ∧
  ((relabel scope X.env).names.lookup p.2 = some .cell ∨ (relabel scope X.env).names.lookup p.2 = some .free) ∧ ∃ c, cl.lookup p.2 = some c
theorem compLoop_one {prog : Program} {w : World} {A : Around} {R : Result -> Shared -> Prop} {s : Shared} {elt target iter : Expr} {scope : Scope} {pos : Pos} {it acc : Value} {env : Env} (I : Nat -> Shared -> Prop)
  (turn : ∀ n s (E : Value -> Shared -> Prop), I n s -> wpAny (model prog w) A (pyNext it) (fun r s₁ => match r with
   | none => R (.ok .next) s₁
   | some v => wpAny (model prog w) A (letOwnedTupleGo target it v) (fun _ s₂ => wpAny (model prog w) A (assign target env v) (fun _ s₃ => wpAny (model prog w) A (eval elt env) (fun x s₄ =>
     wpAny (model prog w) A (call (.builtin "list.append") [acc, x]) (fun _ s₅ => ∃ m, m < n ∧ I m s₅) E s₄) E s₃) E s₂) E s₁) E s)
  (n : Nat) (h : I n s) :
  codeAny (model prog w) A (.compLoop (.ListComp elt [⟨target, iter, [], 0⟩] scope pos) 0 it acc env) R s := by
 refine codeAny_loop rfl I (fun n s hI => ?_) n h
 show wpAny _ _ ((compTurn (.ListComp elt [⟨target, iter, [], 0⟩] scope pos) 0 it acc env).onRaise (fun x => do noteFrame x env; theTreesLotGoes x)) _ _ s
 refine wpAny_noted ?_
 rw [PySem.compTurn_list1]
 refine wpAny_bind (wpAny_standAt (wpAny_bind (wpAny_mono (turn n s _ hI) (fun r s₁ h₁ => ?_) fun _ _ h' => h')))
 cases r with
 | none => exact wpAny_pure h₁
 | some v =>
  exact wpAny_bind (thn h₁ fun _ s₂ h₂ => wpAny_bind (thn h₂ fun _ s₃ h₃ => wpAny_bind (wpAny_bind (thn h₃ fun x s₄ h₄ => wpAny_bind (thn h₄ fun _ s₅ h₅ => wpAny_pure (wpAny_pure ⟨rfl, h₅⟩))))))
section
variable {X : Cx} {elt iter : Expr} {x : Str} {px : Pos} {fv : List (Nat × Str)} {scope : Scope} {cl : List (Str × Addr)} {pos : Pos} {te : TE} {wi : TI}
def tComp (fv : List (Nat × Str)) (wi : TI) (te : TE) : TE := fun σ H Q => wi σ H fun J H1 => ∀ D, H1 D = none -> ∃ W : Nat -> Nat -> Hp -> Prop, (∃ m, W 0 m (upd H1 D (.lst []))) ∧ ∀ i m H, W i m H ->
 (J.stop i H ∧ Q (.ref D) H) ∨ (J.go i H ∧ ∃ N : Hp -> Prop, (∀ H', N H' -> ∃ m', m' < m ∧ W (i + 1) m' H') ∧ ∀ v H', J.yld i H v H' -> te (bst fv σ (some v)) H' fun y H2 => ∃ ys, H2 D = some (.lst ys) ∧ ys.length < sizeLine ∧ N (upd H2 D (.lst (ys ++ [y]))))
theorem blk_ok {pins : List (Addr × Obj)} {σ : St} {H : Hp} {s : Shared} {fp : List Addr} {C : Addr} (B : BlkOk X x fv scope cl) (I : Inv X pins σ H s) (hf : ∀ b ∈ fp, FpOk X pins H b) (hC : s.heap.objs.size <= C) (hfC : ∀ b ∈ fp, b ≠ C) :
  (blk X x fv scope cl C s H fp).Ok where
 mod := I.ok.mod
 kind := B.kind
 glob := I.ok.glob
 blt := I.ok.blt
 above := hC
 inj := fun y z c h1 h2 => I.ok.inj y z c (B.sub y c h1) (B.sub z c h2)
 has := fun y hy => B.has y hy
 cab := fun y c h => nomatch h
 hd := I.ok.hd
 frames := I.ok.frames
 stk := .inl rfl
 exf := fun b hb => ⟨hfC b hb, fun y c e => (hf b hb).2.2.2.2.1 y c (B.sub y c e)⟩
 bs := I.bs
 bsz := Nat.le_trans I.ok.bsz I.sz
 noex := fun b o e hb => by
  obtain ⟨_, _, _, f3, _⟩ := hf b hb
  rcases f3 with z | z
  ·exact I.ok.noex b o e z
  ·exact absurd (Nat.lt_of_lt_of_le (Heap.lt_size e) (Nat.le_trans I.ok.bsz z)) (Nat.lt_irrefl _)
 exfs := fun b hb hs => by
  obtain ⟨_, f1, f2, _⟩ := hf b hb
  rcases List.mem_cons.mp (I.stkSub b hs) with z | z
  ·exact f1 z
  ·exact f2 z
 funs := I.stack
 frf := I.stkFree
theorem bst_get {fv : List (Nat × Str)} {σ : St} {o : Option V} {j : Nat} {y : Str} {v : V} (h1 : (x :: fv.map (·.2))[j + 1]? = some y) (h2 : (bst fv σ o)[j + 1]? = some (some v)) : ∃ p ∈ fv, p.2 = y ∧ σ[p.1]? = some (some v) := by
 have e1 : (fv.map (·.2))[j]? = some y := by simpa using h1
 have e2 : (fv.map fun p => (σ[p.1]?).getD none)[j]? = some (some v) := by simpa [bst] using h2
 rw [List.getElem?_map] at e1 e2
 cases q : fv[j]? with
 | none => rw [q] at e1; cases e1
 | some p =>
  rw [q] at e1 e2
  refine ⟨p, List.mem_of_getElem? q, Option.some.inj e1, ?_⟩
  have e3 : (σ[p.1]?).getD none = some v := Option.some.inj e2
  cases r : σ[p.1]? with
  | none => rw [r] at e3; cases e3
  | some w => rw [r] at e3; exact congrArg some e3
theorem blk_start {pins : List (Addr × Obj)} {σ : St} {H : Hp} {s s4 : Shared} {fp : List Addr} {C : Addr} {m : Str -> Option Value} (B : BlkOk X x fv scope cl) (I : Inv X pins σ H s) (hf : ∀ b ∈ fp, FpOk X pins H b) (hC : C = s.heap.objs.size)
  (hfC : ∀ b ∈ fp, b ≠ C) (os : s4.os = s.os) (gens : s4.gens = s.gens) (keep : ∀ b o, s.heap.get? b = some o -> s4.heap.get? b = some o) (ns : s4.heap.Ns C m) :
  Inv (blk X x fv scope cl C s H fp) [] (bst fv σ none) H s4 := by
 subst hC
 refine ⟨blk_ok B I hf (Nat.le_refl _) hfC, os, by rw [gens]; exact I.bare, Un.kept keep, ⟨m, ns, fun i y v h1 h2 h3 => ?_⟩, fun y c e => ?_, I.hok.fresh (Nat.le_refl _), fun y c e => I.freeC y c (B.sub y c e), fun p hp => absurd (show p ∈ ([] : List (Addr × Obj)) from hp) (by simp), I.hok.kept keep, by simp [bst]⟩
 ·cases i with
  | zero => simp [bst] at h2
  | succ j =>
   obtain ⟨p, hp, rfl, hv⟩ := bst_get h1 h2
   obtain ⟨_, hN, hk, hk2, c, hc⟩ := B.fvs p hp
   obtain ⟨m0, _, hl⟩ := I.loc
   have vis : Vis X.env.scope p.2 := hk.elim (fun z => .inr (.inl z)) fun z => .inr (.inr z)
   obtain ⟨u, r, l⟩ := hl p.1 p.2 v hN hv vis
   refine ⟨u, r, .inr ⟨hk2, c, hc, ?_⟩⟩
   rcases l with ⟨z, _⟩ | ⟨_, c', hc', o, ho, hd⟩
   ·have z' : X.env.scope.names.lookup p.2 = some .local := z
    rcases hk with k | k <;> (rw [k] at z'; cases z')
   ·have := B.sub p.2 c hc
    rw [hc'] at this; cases this
    exact ⟨o, keep _ o ho, hd⟩
 ·obtain ⟨v, o, ho, hd⟩ := I.cell y c (B.sub y c e)
  exact ⟨v, o, keep c o ho, hd⟩
theorem blk_store {pins' : List (Addr × Obj)} {σ : St} {H H0 : Hp} {s s5 : Shared} {fp : List Addr} {C : Addr} {o : Option V} {v : V} {u : Value} {E : Value -> Shared -> Prop} {Q : Unit -> Shared -> Prop} (B : BlkOk X x fv scope cl)
  (I : Inv (blk X x fv scope cl C s H0 fp) pins' (bst fv σ o) H s5) (r : RelV v u) (h : ∀ s6, Inv (blk X x fv scope cl C s H0 fp) pins' (bst fv σ (some v)) H s6 -> Q () s6) :
  wpAny (model X.prog X.w) X.A (assign (.Name x px) (compEnvC scope cl C X.env) u) Q E s5 := by
 obtain ⟨m, hn, hl⟩ := id I.loc
 have hk : (relabel scope X.env).names.lookup x = some .local := lookup_relabel_local B.here
 have hcls : ((compEnvC scope cl C X.env).scope.kind == .class || ((compEnvC scope cl C X.env).scope.kind == .module && (compEnvC scope cl C X.env).locals != (compEnvC scope cl C X.env).globals)) = false := by
  have : (compEnvC scope cl C X.env).scope.kind = .function := B.kind
  rw [this]; rfl
 refine wpAny_assign_Name (wpAny_storeName_local hk hn (fun h' hn' hs => ?_) hcls)
 have cne := I.cne
 obtain ⟨oL, _, _, hoL, _⟩ := id hn
 have tracked : HOk X.prog X.w H h' := fun b ob e => by
  refine (I.hok b ob e).stay (fun c w' hc q => (hs.2 c ?_).trans q) (fun _ q => q) fun _ _ q => q
  intro z
  have z' : c = C := z
  have fr : H C = none := I.free
  rcases hc with hc | hc
  ·rw [← hc, z', fr] at e; cases e
  ·rw [z', fr] at hc; cases hc
 refine h _ ⟨I.ok, I.os, I.bare, ⟨fun b o e n hb hx => ?_, fun b o e n hb hx => ?_, I.base.free, fun b o e hx => ?_, I.base.tups, I.base.frzs, I.base.tbls⟩, ⟨_, hn', fun j y v' e1 e2 e3 => ?_⟩, fun y c e => ?_, I.free, I.freeC, fun p hp => ?_, tracked, by simp [bst]⟩
 ·exact (hs.2 b (Nat.ne_of_lt (Nat.lt_of_lt_of_le (Heap.lt_size e) I.ok.above))).trans (I.base.keep b o e n hb hx)
 ·obtain ⟨sl, e1⟩ := I.base.slot b o e n hb hx
  exact ⟨sl, (hs.2 b (Nat.ne_of_lt (Nat.lt_of_lt_of_le (Heap.lt_size e) I.ok.above))).trans e1⟩
 ·obtain ⟨o', e1⟩ := I.base.there b o e hx
  exact ⟨o', (hs.2 b (Nat.ne_of_lt (Nat.lt_of_lt_of_le (Heap.lt_size e) I.ok.above))).trans e1⟩
 ·cases j with
  | zero =>
   have e1' : x = y := by simpa using e1
   subst e1'
   have e2' : v = v' := by simpa [bst] using e2
   subst e2'
   exact ⟨u, r, .inl ⟨hk, by simp⟩⟩
  | succ j =>
   have e2' : (bst fv σ o)[j + 1]? = some (some v') := by simpa [bst] using e2
   obtain ⟨u', r', q⟩ := hl (j + 1) y v' e1 e2' e3
   refine ⟨u', r', ?_⟩
   obtain ⟨p, hp, rfl, _⟩ := bst_get e1 e2
   rcases q with ⟨k, e⟩ | ⟨k, c, e, z⟩
   ·exact .inl ⟨k, by simp [(B.fvs p hp).1, e]⟩
   ·exact .inr ⟨k, c, e, z.sameBut hs (cne _ c e)⟩
 ·obtain ⟨w', z⟩ := I.cell y c e
  exact ⟨w', z.sameBut hs (cne y c e)⟩
 ·obtain ⟨e, n, ne, nf, d⟩ := I.pin p hp
  exact ⟨(hs.2 p.1 ne).trans e, n, ne, nf, d⟩
theorem blk_run {pins : List (Addr × Obj)} {σ : St} {H : Hp} {s2 : Shared} {it : Addr} {fp : List Addr} {tn : Nat -> Heap -> Prop} {J : It} {Q : VK} {E : Value -> Shared -> Prop} {RR : Value -> Addr -> Result -> Shared -> Prop}
  (hc : X.calm = true) (B : BlkOk X x fv scope cl) (he : ∀ C s H fp, PE (blk X x fv scope cl C s H fp) elt te) (I : Inv X pins σ H s2) (T : Turn X.prog X.w X.K (.Name x px) J fp it tn) (st : tn 0 s2.heap) (hf : ∀ b ∈ fp, FpOk X pins H b)
  (rd : ∀ D, H D = none -> ∃ W : Nat -> Nat -> Hp -> Prop, (∃ m, W 0 m (upd H D (.lst []))) ∧ ∀ i m H, W i m H ->
   (J.stop i H ∧ Q (.ref D) H) ∨ (J.go i H ∧ ∃ N : Hp -> Prop, (∀ H', N H' -> ∃ m', m' < m ∧ W (i + 1) m' H') ∧ ∀ v H', J.yld i H v H' -> te (bst fv σ (some v)) H' fun y H2 => ∃ ys, H2 D = some (.lst ys) ∧ ys.length < sizeLine ∧ N (upd H2 D (.lst (ys ++ [y])))))
  (hRR : ∀ D C s' H' m', Inv X pins σ H' s' -> FpOk X pins H' C -> s'.heap.Ns C m' -> Q (.ref D) H' -> RR (.ref D) C (.ok .next) s') :
  wpAny (model X.prog X.w) X.A (newList []) (fun acc s₃ => wpAny (model X.prog X.w) X.A (newFunctionEnv scope X.env.globals cl [] X.env.qual none .none (some X.env)) (fun cenv s₄ =>
   codeAny (model X.prog X.w) X.A (.compStart (.ListComp elt [⟨.Name x px, iter, [], 0⟩] scope pos) 0 (.ref it) acc { cenv with scope := relabel scope X.env }) (RR acc cenv.locals) s₄) E s₃) E s2 := by
 refine wpAny_newObj_type ?_ (by show 0 <= sizeLine; exact Nat.zero_le _)
 have hD : H s2.heap.objs.size = none := I.hok.fresh (Nat.le_refl _)
 have I3 := I.lnew (ys := []) (its := []) (t' := s2.toks) .nil (Nat.zero_le _)
 generalize hs3 : ({ s2 with heap := s2.heap.push { cls := .type "list", data := .seq ([] : List Value).toArray }, toks := s2.toks } : Shared) = s3 at I3
 have sz3 : s3.heap.objs.size = s2.heap.objs.size + 1 := by rw [← hs3]; exact Heap.size_push ..
 have up3 : ∀ b o, s2.heap.get? b = some o -> s3.heap.get? b = some o := fun b o e => by rw [← hs3]; exact Heap.get?_push_of_some _ e
 have hf3 : ∀ b ∈ fp, FpOk X pins (upd H s2.heap.objs.size (.lst [])) b := fun b hb => by
  obtain ⟨f0, r⟩ := hf b hb
  refine ⟨?_, r⟩
  obtain ⟨o, e, _⟩ := T.obj 0 _ st b hb
  rw [upd_ne (Nat.ne_of_lt (Heap.lt_size e))]; exact f0
 have ltf : ∀ b ∈ fp, b < s2.heap.objs.size := fun b hb => by
  obtain ⟨o, e, _⟩ := T.obj 0 _ st b hb
  exact Heap.lt_size e
 have st3 : tn 0 s3.heap := T.keep 0 _ _ st fun b _ o e => up3 b o e
 obtain ⟨W, ⟨m0, w0⟩, turn⟩ := rd _ hD
 refine wpAny_newFunctionEnv B.nocell (by intro y hy; simp at hy) (fun h₁ hns₁ hsb₁ => ?_) B.kind
 have hfC : ∀ b ∈ fp, b ≠ s3.heap.objs.size := fun b hb => Nat.ne_of_lt (by rw [sz3]; exact Nat.lt_succ_of_lt (ltf b hb))
 have up4 : ∀ b o, s3.heap.get? b = some o -> h₁.get? b = some o := fun b o e => hsb₁.extBut b o (Nat.ne_of_lt (Heap.lt_size e)) (Heap.get?_push_of_some _ e)
 generalize hs4 : ({ s3 with heap := h₁, toks := s3.toks + ([] : List (Str × Value)).length } : Shared) = s4
 have h4 : s4.heap = h₁ := by rw [← hs4]
 have I4 : Inv (blk X x fv scope cl s3.heap.objs.size s3 (upd H s2.heap.objs.size (.lst [])) fp) [] (bst fv σ none) (upd H s2.heap.objs.size (.lst [])) s4 :=
  blk_start B I3 hf3 rfl hfC (by rw [← hs4]) (by rw [← hs4]) (fun b o e => by rw [h4]; exact up4 b o e) (by rw [h4]; exact hns₁)
 have st4 : tn 0 s4.heap := by rw [h4]; exact T.keep 0 _ _ st3 fun b _ o e => up4 b o e
 have stat : ∀ {H' : Hp}, (∀ b ∈ fp, H' b = none) -> ∀ b ∈ fp, FpOk (blk X x fv scope cl s3.heap.objs.size s3 (upd H s2.heap.objs.size (.lst [])) fp) [] H' b := fun {H'} hn b hb => by
  obtain ⟨_, f1, f2, f3, f4, f5⟩ := hf b hb
  refine ⟨hn b hb, hfC b hb, fun z => ?_, .inl hb, fun y c e => f4 y c (B.sub y c e), fun p hp => absurd (show p ∈ ([] : List (Addr × Obj)) from hp) (by simp)⟩
  rcases List.mem_cons.mp (I.stkSub b z) with q | q
  ·exact f1 q
  ·exact f2 q
 have loop : codeAny (model X.prog X.w) X.A (.compLoop (.ListComp elt [⟨.Name x px, iter, [], 0⟩] scope pos) 0 (.ref it) (.ref s2.heap.objs.size) (compEnvC scope cl s3.heap.objs.size X.env)) (RR (.ref s2.heap.objs.size) s3.heap.objs.size) s4 := by
  refine compLoop_one (fun n s' => ∃ i H' o, Inv (blk X x fv scope cl s3.heap.objs.size s3 (upd H s2.heap.objs.size (.lst [])) fp) [] (bst fv σ o) H' s' ∧ tn i s'.heap ∧ (∀ b ∈ fp, H' b = none) ∧ W i n H') ?_ m0
   ⟨0, _, none, I4, st4, fun b hb => (hf3 b hb).1, w0⟩
  rintro n s5 E' ⟨i, H5, o5, I5, st5, fr5, w5⟩
  rcases turn i n H5 w5 with ⟨stop, q⟩ | ⟨go, N, hN, step⟩
  ·refine thn (T.done (blk X x fv scope cl s3.heap.objs.size s3 (upd H s2.heap.objs.size (.lst [])) fp) rfl rfl rfl hc i [] s5 _ H5 _ I5 (stat fr5) st5 stop) fun r s6 ⟨hr, I6⟩ => ?_
   subst hr
   obtain ⟨m6, hn6, _⟩ := I6.loc
   have un : Un (frs X.stack) fp H H5 s2.heap s6.heap := by
    have u1 : Un (frs X.stack) fp H (upd H s2.heap.objs.size (.lst [])) s2.heap s3.heap := Un.laid up3 (Nat.le_refl _) hD
    exact u1.trans I6.base
   have J6 : Inv X pins σ H5 s6 := by
    refine I.call' ?_ un I6.hok I6.bare fun b hb => ?_
    ·have := I6.os
     rw [show (blk X x fv scope cl s3.heap.objs.size s3 (upd H s2.heap.objs.size (.lst [])) fp).s₀.os = s2.os by rw [← hs3]] at this
     exact this
    ·obtain ⟨_, f1, f2, f3, f4, f5⟩ := hf b hb
     exact ⟨f3, f1, f4, f5⟩
   refine hRR _ _ s6 H5 m6 J6 ?_ hn6 q
   exact I3.fpOk (Nat.le_refl _) I6.free
  ·refine thn (T.item (blk X x fv scope cl s3.heap.objs.size s3 (upd H s2.heap.objs.size (.lst [])) fp) rfl rfl rfl hc i [] s5 _ H5 _ I5 (stat fr5) st5 go) fun r s6 ⟨u, hr, h6⟩ => ?_
   subst hr
   refine thn h6 fun _ s7 ⟨v, H7, I7, r7, y7, st7, fr7⟩ => ?_
   have I7' := I7.pinned (stat fr7) (T.obj _ _ st7)
   refine blk_store B I7' r7 fun s8 I8 => ?_
   have e8 := he _ _ _ _ _ s8 _ H7 _ I8 (step v H7 y7)
   refine wpAny_mono e8 (fun y s9 ⟨yv, H9, I9, r9, ys, hD9, hz, n9⟩ => ?_) fun _ _ z => False.elim z
   have a9 := mt_append (X := blk X x fv scope cl s3.heap.objs.size s3 (upd H s2.heap.objs.size (.lst [])) fp) _ s9 _ H9 (.ref s2.heap.objs.size) [yv] (.ref s2.heap.objs.size) [y] (fun _ H10 => H10 = upd H9 s2.heap.objs.size (.lst (ys ++ [yv]))) I9 rfl (.cons r9 .nil)
    ⟨_, ys, yv, rfl, rfl, hD9, hz, rfl⟩
   refine wpAny_mono a9 (fun _ s10 ⟨_, H10, I10, _, e10⟩ => ?_) fun _ _ z => False.elim z
   subst e10
   obtain ⟨m', hm, w9⟩ := hN _ n9
   refine ⟨m', hm, i + 1, _, some v, I10.unpinned, T.keep _ _ _ st7 fun b hb o e => (I10.pin (b, o) (List.mem_append_right _ (List.mem_append_right _ (mem_pinsAt hb e)))).1, fun b hb => ?_, w9⟩
   obtain ⟨o, e, _⟩ := T.obj _ _ st7 b hb
   exact (I10.pin (b, o) (List.mem_append_right _ (List.mem_append_right _ (mem_pinsAt hb e)))).2.1
 exact codeAny_compStart_list loop (T.self _ 0 _ _ _ st4 loop)
end
end L2
namespace L2
open PySem PySem.Spec PyProof.Rows
section
variable {X : Cx} {elt iter : Expr} {x : Str} {px : Pos} {fv : List (Nat × Str)} {scope : Scope} {cl : List (Str × Addr)} {pos : Pos} {te : TE} {wi : TI}
theorem pe_lcomp (hc : X.calm = true) (B : BlkOk X x fv scope cl) (hi : PI X (.Name x px) iter wi) (he : ∀ C s H fp, PE (blk X x fv scope cl C s H fp) elt te)
  (hs : ∀ v, foldedSetIterable iter X.env v = pure v := by intro _; rfl) : PE X (.ListComp elt [⟨.Name x px, iter, [], 0⟩] scope pos) (tComp fv wi te) := by
 intro pins s σ H Q I h
 rw [eval_ListComp]
 refine wpAny_comprehension_free (use := none) rfl hs B.clos B.kind B.names (thn (hi pins s σ H _ I h) fun v s1 h1 => thn h1 fun itv s2 h2 => ?_)
 obtain ⟨it, fp, tn, J, H2, e, I2, T, st2, f2, rd⟩ := h2
 subst e
 refine blk_run (RR := fun acc C => compPost (model X.prog X.w) X.A X.xe none (EP X pins σ Q) acc C) hc B he I2 T st2 f2 rd ?_
 intro D C s' H' m' I' fC hn q
 exact ⟨m', hn, fun h' sb => ⟨.ref D, H', I'.turned (t' := s'.toks) (fun b o hb e => (sb.2 b hb).trans e) fC.1 fC.2.1 fC.2.2.2.1 fC.2.2.2.2.1 fC.2.2.2.2.2, rfl, q⟩⟩
end
def Itrs (lo c : Int) (n : Nat) : It := ⟨fun i _ => i < n, fun i H x H' => H' = H ∧ x = .int (lo + i * c), fun i _ => n <= i⟩
section
variable {X : Cx} {tg : Expr}
def iRng3 (ta : TA) : TI := fun σ H R => ta σ H fun vs H1 => ∃ (i j k : Int) (n : Nat), vs = [.int i, .int j, .int k] ∧ k ≠ 0 ∧ k.natAbs < 1073741824 ∧ Builtin.Range.small i j k = true ∧ Builtin.Range.rangeSize i j k = n ∧ R (Itrs i k n) H1
end
theorem comp_list {K : PySem.W.Frag} {a : Addr} {xs : List V} {fv : List (Nat × Str)} {te : TE} {Q : VK} {σ : St} {H1 : Hp} {D : Addr} (Pv : Nat -> Hp -> Prop) (h0 : Pv 0 (upd H1 D (.lst []))) (hl : ∀ i H, i <= xs.length -> Pv i H -> SqL K H a xs)
  (hs : ∀ i v H, xs[i]? = some v -> Pv i H -> te (bst fv σ (some v)) H fun y H2 => ∃ ys, H2 D = some (.lst ys) ∧ ys.length < sizeLine ∧ Pv (i + 1) (upd H2 D (.lst (ys ++ [y])))) (hd : ∀ H, Pv xs.length H -> Q (.ref D) H) :
  ∃ W : Nat -> Nat -> Hp -> Prop, (∃ m, W 0 m (upd H1 D (.lst []))) ∧ ∀ i m H, W i m H ->
   ((Itl K a).stop i H ∧ Q (.ref D) H) ∨ ((Itl K a).go i H ∧ ∃ N : Hp -> Prop, (∀ H', N H' -> ∃ m', m' < m ∧ W (i + 1) m' H') ∧ ∀ v H', (Itl K a).yld i H v H' -> te (bst fv σ (some v)) H' fun y H2 => ∃ ys, H2 D = some (.lst ys) ∧ ys.length < sizeLine ∧ N (upd H2 D (.lst (ys ++ [y])))) := by
 refine ⟨fun i m H => m = xs.length - i ∧ i <= xs.length ∧ Pv i H, ⟨xs.length, by simp, Nat.zero_le _, h0⟩, ?_⟩
 rintro i m H ⟨rfl, hi, p⟩
 have q := hl i H hi p
 by_cases hlt : i < xs.length
 ·refine .inr ⟨⟨xs, xs[i], q, List.getElem?_eq_getElem hlt⟩, Pv (i + 1), fun H' p' => ⟨xs.length - (i + 1), by omega, rfl, hlt, p'⟩, fun v H' y => ?_⟩
  obtain ⟨e, y⟩ := y
  subst e
  exact hs i v _ (y xs q) p
 ·have e : i = xs.length := by omega
  subst e
  exact .inl ⟨⟨xs, q, Nat.le_refl _⟩, hd H p⟩
theorem comp_range {lo : Int} {n : Nat} {fv : List (Nat × Str)} {te : TE} {Q : VK} {σ : St} {H1 : Hp} {D : Addr} (Pv : Nat -> Hp -> Prop) (h0 : Pv 0 (upd H1 D (.lst [])))
  (hs : ∀ i H, i < n -> Pv i H -> te (bst fv σ (some (.int (lo + i)))) H fun y H2 => ∃ ys, H2 D = some (.lst ys) ∧ ys.length < sizeLine ∧ Pv (i + 1) (upd H2 D (.lst (ys ++ [y])))) (hd : ∀ H, Pv n H -> Q (.ref D) H) :
  ∃ W : Nat -> Nat -> Hp -> Prop, (∃ m, W 0 m (upd H1 D (.lst []))) ∧ ∀ i m H, W i m H ->
   ((Itr lo n).stop i H ∧ Q (.ref D) H) ∨ ((Itr lo n).go i H ∧ ∃ N : Hp -> Prop, (∀ H', N H' -> ∃ m', m' < m ∧ W (i + 1) m' H') ∧ ∀ v H', (Itr lo n).yld i H v H' -> te (bst fv σ (some v)) H' fun y H2 => ∃ ys, H2 D = some (.lst ys) ∧ ys.length < sizeLine ∧ N (upd H2 D (.lst (ys ++ [y])))) := by
 refine ⟨fun i m H => m = n - i ∧ i <= n ∧ Pv i H, ⟨n, by simp, Nat.zero_le _, h0⟩, ?_⟩
 rintro i m H ⟨rfl, hi, p⟩
 by_cases hlt : i < n
 ·refine .inr ⟨hlt, Pv (i + 1), fun H' p' => ⟨n - (i + 1), by omega, rfl, hlt, p'⟩, fun v H' y => ?_⟩
  obtain ⟨e, y⟩ := y
  subst e y
  exact hs i _ hlt p
 ·have e : i = n := by omega
  subst e
  exact .inl ⟨Nat.le_refl _, hd H p⟩
theorem sub_nil {cells : List (Str × Addr)} : ∀ y c, ([] : List (Str × Addr)).lookup y = some c -> cells.lookup y = some c := fun _ _ h => nomatch h
theorem sub_cons {n : Str} {c0 : Addr} {r cells : List (Str × Addr)} (h0 : cells.lookup n = some c0) (h : ∀ y c, r.lookup y = some c -> cells.lookup y = some c) : ∀ y c, ((n, c0) :: r).lookup y = some c -> cells.lookup y = some c := fun y c q => by
 rw [List.lookup_cons] at q
 cases e : y == n with
 | true =>
  rw [e] at q
  cases q
  rw [eq_of_beq e]; exact h0
 | false =>
  rw [e] at q
  exact h y c q
theorem has_of {l : List (Str × NameKind)} {cl : List (Str × Addr)} (h : (l.all fun p => (p.2 != .cell && p.2 != .free) || (cl.lookup p.1).isSome) = true) : ∀ y, (l.lookup y = some .cell ∨ l.lookup y = some .free) -> ∃ c, cl.lookup y = some c := fun y hy => by
 have key : ∀ k, l.lookup y = some k -> (k = .cell ∨ k = .free) -> ∃ c, cl.lookup y = some c := fun k e hk => by
  have q := List.all_eq_true.mp h (y, k) (PySem.mem_of_lookup e)
  have z : (k != .cell && k != .free) = false := by rcases hk with rfl | rfl <;> rfl
  rw [show ((y, k).2 != .cell && (y, k).2 != .free) = false from z, Bool.false_or] at q
  exact Option.isSome_iff_exists.mp q
 rcases hy with e | e
 ·exact key _ e (.inl rfl)
 ·exact key _ e (.inr rfl)
def FvOk (X : Cx) (x : Str) (scope : Scope) (cl : List (Str × Addr)) (fv : List (Nat × Str)) : Prop :=
 ∀ p ∈ fv, p.2 ≠ x ∧ X.N[p.1]? = some p.2 ∧ (X.env.scope.names.lookup p.2 = some .cell ∨ X.env.scope.names.lookup p.2 = some .free) ∧
  ((relabel scope X.env).names.lookup p.2 = some .cell ∨ (relabel scope X.env).names.lookup p.2 = some .free) ∧ ∃ c, cl.lookup p.2 = some c
theorem fv_nil {X : Cx} {x : Str} {scope : Scope} {cl : List (Str × Addr)} : FvOk X x scope cl [] := fun _ h => nomatch h
theorem fv_cons {X : Cx} {x : Str} {scope : Scope} {cl : List (Str × Addr)} {fv : List (Nat × Str)} (i : Nat) (y : Str) (h1 : y ≠ x) (h2 : X.N[i]? = some y) (h3 : X.env.scope.names.lookup y = some .cell ∨ X.env.scope.names.lookup y = some .free)
  (h4 : (relabel scope X.env).names.lookup y = some .cell ∨ (relabel scope X.env).names.lookup y = some .free) (h5 : ∃ c, cl.lookup y = some c) (r : FvOk X x scope cl fv) : FvOk X x scope cl ((i, y) :: fv) := fun p hp => by
 rcases List.mem_cons.mp hp with rfl | hp
 ·exact ⟨h1, h2, h3, h4, h5⟩
 ·exact r p hp
theorem blkok {X : Cx} {x : Str} {fv : List (Nat × Str)} {scope : Scope} {cl : List (Str × Addr)} (clos : closureFor scope X.env = pure cl) (sub : ∀ y c, cl.lookup y = some c -> X.env.cells.lookup y = some c) (fvs : FvOk X x scope cl fv)
  (kind : scope.kind = .function := by rfl) (here : scope.names.lookup x = some .local := by rfl) (nocell : ∀ y ∈ scope.names, y.2 ≠ .cell := by decide +kernel)
  (names : ∀ y ∈ scope.names, y.2 = .local -> scope.names.lookup y.1 = some .local := by decide +kernel)
  (has : ((relabel scope X.env).names.all fun p => (p.2 != .cell && p.2 != .free) || (cl.lookup p.1).isSome) = true := by rfl) : BlkOk X x fv scope cl :=
 ⟨clos, nocell, kind, names, here, sub, has_of has, fvs⟩
section
variable {X : Cx}
theorem call_isinst : CallR X (.builtin "isinstance") (fun xs H Q => ∃ x n t b, xs = [x, .ty n] ∧ TyOf X.K H x t ∧ PySem.W.kitOne X.K t (.type n) = some b ∧ Q (.bl b) H) := by
 intro pins s σ H xs us Q I rv h
 obtain ⟨x, n, t, b, rfl, ty, e, q⟩ := h
 cases rv with
 | cons r rr =>
  cases rr with
  | cons r' rr =>
   cases rr
   cases r'
   exact isinst_ok I r ty e fun tk => ⟨.bl b, H, I.tok _, rfl, q⟩
end
theorem intBits_le_of {i : Int} {k : Nat} (h : i.natAbs < 2 ^ k) : Builtin.Int.intBits i <= k := by
 unfold Builtin.Int.intBits
 split
 ·exact Nat.zero_le _
 ·rename_i hz
  have hz' : i ≠ 0 := by simpa using hz
  have : i.natAbs.log2 < k := (Nat.log2_lt (by omega)).mpr h
  omega
theorem mulOk_of {i j : Int} {k l : Nat} (h1 : i.natAbs < 2 ^ k) (h2 : j.natAbs < 2 ^ l) (h : k + l <= 134217728) : IntMulOk i j := IntMulOk.of_le (intBits_le_of h1) (intBits_le_of h2) h
end L2
namespace L2
open PySem PySem.Spec PyProof.Rows
section
variable {σ : St} {H : Hp} {Q : VK} {D : Ends} {t u : TS} {te ta tb tc to ti : TE} {tt : TT} {tA : TA} {i : Nat} {x y v : V} {r r' : R2} {QT : Bool -> Hp -> Prop} {QA : List V -> Hp -> Prop}
theorem a_seq : tSeq t u D σ H = t { D with nx := u D } σ H := rfl
theorem a_next : tNext D σ H = D.nx σ H := rfl
theorem a_brk : tBreak D σ H = D.bk σ H := rfl
theorem a_cnt : tCont D σ H = D.ct σ H := rfl
theorem a_drop : tDrop te D σ H = te σ H fun _ H1 => D.nx σ H1 := rfl
theorem a_ret : tRet te D σ H = te σ H D.rt := rfl
theorem a_retN : tRetN D σ H = D.rt .non H := rfl
theorem a_if : tIfS tt t u D σ H = tt σ H fun b H1 => if b = true then t D σ H1 else u D σ H1 := rfl
theorem a_asg {g : TG} : tAsg te g D σ H = te σ H fun x H1 => g x σ H1 D.nx := rfl
theorem a_gname {Q : St -> Hp -> Prop} : gName i v σ H Q = Q (σ.set i (some v)) H := rfl
theorem a_gsub {ts : TSet} {Q : St -> Hp -> Prop} : gSub to ti ts v σ H Q = to σ H fun o H1 => ti σ H1 fun i H2 => ts o i v H2 fun H3 => Q σ H3 := rfl
theorem a_gtup {K : PySem.W.Frag} {n : Nat} {ts : TGs} {Q : St -> Hp -> Prop} : gTup K n ts v σ H Q = ∃ a xs, v = .ref a ∧ SqT K H a xs ∧ xs.length = n ∧ ts xs σ H Q := rfl
theorem a_gnil {vs : List V} {Q : St -> Hp -> Prop} : gNil vs σ H Q = (vs = [] ∧ Q σ H) := rfl
theorem a_gcons {g : TG} {gs : TGs} {vs : List V} {Q : St -> Hp -> Prop} : gCons g gs vs σ H Q = ∃ v r, vs = v :: r ∧ g v σ H fun σ' H' => gs r σ' H' Q := rfl
theorem a_aug {ip : TIp} : tAug i te ip D σ H = ∃ x, σ[i]? = some (some x) ∧ te σ H fun y H1 => ip x y H1 fun z H2 => D.nx (σ.set i (some z)) H2 := rfl
theorem a_augS {tget : V -> V -> Hp -> VK -> Prop} {tip : TIp} {tset : TSet} : tAugS to ti te tget tip tset D σ H = to σ H fun o H1 => ti σ H1 fun i H2 => tget o i H2 fun x H3 => te σ H3 fun y H4 => tip x y H4 fun z H5 => tset o i z H5 fun H6 => D.nx σ H6 := rfl
theorem a_ipI {f : Int -> Int -> Int} : ipI f x y H Q = ∃ i j, x = .int i ∧ y = .int j ∧ Q (.int (f i j)) H := rfl
theorem a_var : tVar i σ H Q = ∃ v, σ[i]? = some (some v) ∧ Q v H := rfl
theorem a_c : tC v σ H Q = Q v H := rfl
theorem a_op : tOp r ta tb σ H Q = ta σ H fun x H1 => tb σ H1 fun y H2 => r x y H2 Q := rfl
theorem a_un {r : V -> Hp -> VK -> Prop} : tUn r ta σ H Q = ta σ H fun x H1 => r x H1 Q := rfl
theorem a_rI {C : Int -> Int -> Prop} {g : Int -> Int -> V} : rI C g x y H Q = ∃ i j, x = .int i ∧ y = .int j ∧ C i j ∧ Q (g i j) H := rfl
theorem a_rI0 {g : Int -> Int -> V} : rI0 g x y H Q = ∃ i j, x = .int i ∧ y = .int j ∧ Q (g i j) H := rfl
theorem a_rU {g : Int -> V} : rU g x H Q = ∃ i, x = .int i ∧ Q (g i) H := rfl
theorem a_eqI {i j : Int} : rEq (.int i) (.int j) H Q = Q (.bl (decide (i = j))) H := by
 show (true = true ∧ Q (.bl (decide (V.int i = V.int j))) H) = _
 rw [show decide (V.int i = V.int j) = decide (i = j) by rw [dec_int]; exact Bool.beq_eq_decide_eq i j]
 simp
theorem a_neI {i j : Int} : rNe (.int i) (.int j) H Q = Q (.bl (!decide (i = j))) H := by
 show (true = true ∧ Q (.bl (!decide (V.int i = V.int j))) H) = _
 rw [show decide (V.int i = V.int j) = decide (i = j) by rw [dec_int]; exact Bool.beq_eq_decide_eq i j]
 simp
theorem a_eqB {i j : Bool} : rEq (.bl i) (.bl j) H Q = Q (.bl (decide (i = j))) H := by
 show (true = true ∧ Q (.bl (decide (V.bl i = V.bl j))) H) = _
 cases i <;> cases j <;> simp
theorem a_neB {i j : Bool} : rNe (.bl i) (.bl j) H Q = Q (.bl (!decide (i = j))) H := by
 show (true = true ∧ Q (.bl (!decide (V.bl i = V.bl j))) H) = _
 cases i <;> cases j <;> simp
theorem a_tB : tB te σ H QT = te σ H fun x H1 => ∃ c, x = .bl c ∧ QT c H1 := rfl
theorem a_test : tTest te σ H QT = te σ H fun x H' => ∃ k, x = .bl k ∧ QT k H' := rfl
theorem a_and {tt' : TT} : tAnd tt tt' σ H QT = tt σ H fun c H1 => if c = true then tt' σ H1 QT else QT false H1 := rfl
theorem a_or {tt' : TT} : tOr tt tt' σ H QT = tt σ H fun c H1 => if c = true then QT true H1 else tt' σ H1 QT := rfl
theorem a_not : tNot tt σ H QT = tt σ H fun c H1 => QT (!c) H1 := rfl
theorem a_andV : tAndV ta tb σ H Q = ta σ H fun x H1 => ∃ c, x = .bl c ∧ if c = true then tb σ H1 Q else Q (.bl false) H1 := rfl
theorem a_orV : tOrV ta tb σ H Q = ta σ H fun x H1 => ∃ c, x = .bl c ∧ if c = true then Q (.bl true) H1 else tb σ H1 Q := rfl
theorem a_notV : tNotV ta σ H Q = ta σ H fun x H1 => ∃ c, x = .bl c ∧ Q (.bl (!c)) H1 := rfl
theorem a_ifE : tIf tt ta tb σ H Q = tt σ H fun c H1 => if c = true then ta σ H1 Q else tb σ H1 Q := rfl
theorem a_chain : tChain r r' ta tb tc σ H Q = ta σ H fun x H1 => tb σ H1 fun y H2 => r x y H2 fun z H3 => ∃ k, z = .bl k ∧ (if k = true then tc σ H3 fun w' H4 => r' y w' H4 Q else Q (.bl false) H3) := rfl
theorem a_nil : tNil σ H QA = QA [] H := rfl
theorem a_cons : tCons ta tA σ H QA = ta σ H fun x H1 => tA σ H1 fun xs H2 => QA (x :: xs) H2 := rfl
theorem a_lst : tLst tA σ H Q = tA σ H fun xs H1 => xs.length <= sizeLine ∧ ∀ p, H1 p = none -> Q (.ref p) (upd H1 p (.lst xs)) := rfl
theorem a_tup : tTup tA σ H Q = tA σ H fun xs H1 => xs.length <= sizeLine ∧ ∀ p, H1 p = none -> Q (.ref p) (upd H1 p (.tup xs)) := rfl
theorem a_call {sp : Sp} {dvs : List V} {E : XK} : tCall sp dvs E tA σ H Q = tA σ H fun vs H1 => sp (vs ++ dvs) H1 Q E := rfl
theorem a_cb {r : List V -> Hp -> VK -> Prop} : tCB r tA σ H Q = tA σ H fun vs H1 => r vs H1 Q := rfl
theorem a_bm0 {K : PySem.W.Frag} {T : String} {r : V -> List V -> Hp -> VK -> Prop} : tBM0 K T r to σ H Q = to σ H fun x H1 => tyV K T x H1 ∧ r x [] H1 Q := rfl
theorem a_bm {K : PySem.W.Frag} {T : String} {r : V -> List V -> Hp -> VK -> Prop} : tBM K T r to tA σ H Q = to σ H fun x H1 => tyV K T x H1 ∧ tA σ H1 fun xs H2 => r x xs H2 Q := rfl
theorem a_sl {r : V -> Option Int -> Option Int -> Hp -> VK -> Prop} {tl th : TO} : tSl r te tl th σ H Q = te σ H fun x H1 => tl σ H1 fun l H2 => th σ H2 fun u H3 => r x l u H3 Q := rfl
theorem a_nopart {Q : Option Int -> Hp -> Prop} : tNoPart σ H Q = Q none H := rfl
theorem a_part {Q : Option Int -> Hp -> Prop} : tPart te σ H Q = te σ H fun x H1 => ∃ i, x = .int i ∧ Q (some i) H1 := rfl
theorem a_tyI {K : PySem.W.Frag} {T : String} {i : Int} : tyV K T (.int i) H = (T = "int") := rfl
theorem a_tyL {K : PySem.W.Frag} {p : Addr} {xs : List V} (h : SqL K H p xs) : tyV K "list" (.ref p) H := .inl ⟨rfl, xs, h⟩
end
def Loop (J : It) (g : TG) (tb : TS) (D : Ends) (σ : St) (H : Hp) : Prop := ∃ W : Nat -> Nat -> St -> Hp -> Prop, (∃ m, W 0 m σ H) ∧ ∀ i m σ H, W i m σ H ->
 (J.stop i H ∧ D.nx σ H) ∨ (J.go i H ∧ ∃ N : St -> Hp -> Prop, (∀ σ' H', N σ' H' -> ∃ m', m' < m ∧ W (i + 1) m' σ' H') ∧ ∀ x H', J.yld i H x H' -> g x σ H' fun σ2 H2 => tb { D with nx := N, ct := N, bk := D.nx } σ2 H2)
theorem a_for {wi : TI} {g : TG} {tb : TS} {D : Ends} {σ : St} {H : Hp} : tFor wi g tb D σ H = wi σ H fun J H1 => Loop J g tb D σ H1 := rfl
def CLoop (J : It) (fv : List (Nat × Str)) (te : TE) (Q : VK) (σ : St) (H1 : Hp) (D : Addr) : Prop := ∃ W : Nat -> Nat -> Hp -> Prop, (∃ m, W 0 m (upd H1 D (.lst []))) ∧ ∀ i m H, W i m H ->
 (J.stop i H ∧ Q (.ref D) H) ∨ (J.go i H ∧ ∃ N : Hp -> Prop, (∀ H', N H' -> ∃ m', m' < m ∧ W (i + 1) m' H') ∧ ∀ v H', J.yld i H v H' -> te (bst fv σ (some v)) H' fun y H2 => ∃ ys, H2 D = some (.lst ys) ∧ ys.length < sizeLine ∧ N (upd H2 D (.lst (ys ++ [y]))))
theorem a_comp {fv : List (Nat × Str)} {wi : TI} {te : TE} {σ : St} {H : Hp} {Q : VK} : tComp fv wi te σ H Q = wi σ H fun J H1 => ∀ D, H1 D = none -> CLoop J fv te Q σ H1 D := rfl
theorem a_ilist {K : PySem.W.Frag} {tl : TE} {σ : St} {H : Hp} {R : It -> Hp -> Prop} : iList K tl σ H R = tl σ H fun x H1 => ∃ a, x = .ref a ∧ (∃ xs, SqL K H1 a xs) ∧ R (Itl K a) H1 := rfl
theorem a_itup {K : PySem.W.Frag} {tl : TE} {σ : St} {H : Hp} {R : It -> Hp -> Prop} : iTup K tl σ H R = tl σ H fun x H1 => ∃ a, x = .ref a ∧ (∃ xs, SqT K H1 a xs) ∧ R (Itt K a) H1 := rfl
theorem a_irng1 {ta : TA} {σ : St} {H : Hp} {R : It -> Hp -> Prop} : iRng1 ta σ H R = ta σ H fun vs H1 => ∃ j : Int, vs = [.int j] ∧ -(2 ^ 62) <= j ∧ j < 2 ^ 62 ∧ R (Itr 0 j.toNat) H1 := rfl
theorem a_irng2 {ta : TA} {σ : St} {H : Hp} {R : It -> Hp -> Prop} : iRng2 ta σ H R = ta σ H fun vs H1 => ∃ i j : Int, vs = [.int i, .int j] ∧ (-(2 ^ 62) <= i ∧ i < 2 ^ 62 ∧ -(2 ^ 62) <= j ∧ j < 2 ^ 62) ∧ R (Itr i (j - i).toNat) H1 := rfl
theorem a_irng3 {ta : TA} {σ : St} {H : Hp} {R : It -> Hp -> Prop} : iRng3 ta σ H R = ta σ H fun vs H1 => ∃ (i j k : Int) (n : Nat), vs = [.int i, .int j, .int k] ∧ k ≠ 0 ∧ k.natAbs < 1073741824 ∧ Builtin.Range.small i j k = true ∧ Builtin.Range.rangeSize i j k = n ∧ R (Itrs i k n) H1 := rfl
section
variable {σ : St} {H : Hp} {Q : VK} {x y v : V} {K : PySem.W.Frag}
theorem a_rslL {lo hi : Option Int} : rSlL K x lo hi H Q = ∃ a xs, x = .ref a ∧ SqL K H a xs ∧ ∀ p, H p = none -> Q (.ref p) (upd H p (.lst (cutV xs lo hi))) := rfl
theorem a_ixL : rIxL K x y H Q = ∃ p xs i v, x = .ref p ∧ y = .int i ∧ SqL K H p xs ∧ atI xs i = some v ∧ Q v H := rfl
theorem a_ixT : rIxT K x y H Q = ∃ p xs i v, x = .ref p ∧ y = .int i ∧ SqT K H p xs ∧ atI xs i = some v ∧ Q v H := rfl
theorem a_setL {Q : Hp -> Prop} : rSetL x y v H Q = ∃ p xs k j, x = .ref p ∧ y = .int k ∧ H p = some (.lst xs) ∧ ixN xs.length k = some j ∧ Q (upd H p (.lst (xs.set j v))) := rfl
theorem a_app {vs : List V} : rAppend x vs H Q = ∃ l xs y, x = .ref l ∧ vs = [y] ∧ H l = some (.lst xs) ∧ xs.length < sizeLine ∧ Q .non (upd H l (.lst (xs ++ [y]))) := rfl
end
theorem bt_len : bootBuiltins "len" = some (.builtin "len") := by decide +kernel
theorem bt_isinstance : bootBuiltins "isinstance" = some (.builtin "isinstance") := by decide +kernel
theorem bt_max : bootBuiltins "max" = some (.builtin "max") := by decide +kernel
theorem bt_int : bootBuiltins "int" = some (.type "int") := by decide +kernel
theorem bt_bool : bootBuiltins "bool" = some (.type "bool") := by decide +kernel
theorem bt_list : bootBuiltins "list" = some (.type "list") := by decide +kernel
def tMid (t u : TS) : TS := fun D σ H => ∃ M : St -> Hp -> Prop, t { D with nx := M } σ H ∧ ∀ σ' H', M σ' H' -> u D σ' H'
theorem pss_mid {X : Cx} {st : Stmt} {rest : List Stmt} {t u : TS} (h1 : PS X st t) (h2 : PSs X rest u) : PSs X (st :: rest) (tMid t u) := by
 intro pins s σ H D I h
 obtain ⟨M, h, hM⟩ := h
 refine wpAny_execs_cons (thn (h1 pins s σ H { D with nx := M } I h) fun f s1 q => ?_)
 cases f with
 | next =>
  obtain ⟨σ', H', I', q⟩ := q
  exact h2 pins s1 σ' H' D I' (hM σ' H' q)
 | ret v => exact q
 | brk => exact q
 | cont => exact q
theorem mid_of {t u : TS} {D : Ends} {σ : St} {H : Hp} (M : St -> Hp -> Prop) (h1 : t { D with nx := M } σ H) (h2 : ∀ σ' H', M σ' H' -> u D σ' H') : tMid t u D σ H := ⟨M, h1, h2⟩
theorem a_cxK {CX : CXT} {P : Program} {w : World} {K : PySem.W.Frag} {mg : Str -> Option Value} {base : Heap} {N : List Str} {qual : Str} {scope : Scope} {f : Addr} {cd : Value} {A : Around} {outer : List Env} {s : Shared} {H : Hp} {E : XK} :
  (cxOf CX P w K mg base N qual scope f cd A outer s H E).K = K := rfl
section
variable {K : PySem.W.Frag} {a : Addr} {xs : List V} {g : TG} {tb : TS} {D : Ends} {σ : St} {H H1 : Hp} {fv : List (Nat × Str)} {te : TE} {Q : VK} {L : Addr} {lo c : Int} {n : Nat}
theorem cl_list (Pv : Nat -> Hp -> Prop) (h0 : Pv 0 (upd H1 L (.lst []))) (hl : ∀ i H, i <= xs.length -> Pv i H -> SqL K H a xs)
  (hs : ∀ i v H, xs[i]? = some v -> Pv i H -> te (bst fv σ (some v)) H fun y H2 => ∃ ys, H2 L = some (.lst ys) ∧ ys.length < sizeLine ∧ Pv (i + 1) (upd H2 L (.lst (ys ++ [y])))) (hd : ∀ H, Pv xs.length H -> Q (.ref L) H) :
  CLoop (Itl K a) fv te Q σ H1 L := comp_list Pv h0 hl hs hd
theorem cl_range (Pv : Nat -> Hp -> Prop) (h0 : Pv 0 (upd H1 L (.lst [])))
  (hs : ∀ i H, i < n -> Pv i H -> te (bst fv σ (some (.int (lo + i)))) H fun y H2 => ∃ ys, H2 L = some (.lst ys) ∧ ys.length < sizeLine ∧ Pv (i + 1) (upd H2 L (.lst (ys ++ [y])))) (hd : ∀ H, Pv n H -> Q (.ref L) H) :
  CLoop (Itr lo n) fv te Q σ H1 L := comp_range Pv h0 hs hd
theorem lp_list (Pv : Nat -> St -> Hp -> Prop) (h0 : Pv 0 σ H) (hl : ∀ i σ H, i <= xs.length -> Pv i σ H -> SqL K H a xs)
  (hs : ∀ i v σ H, xs[i]? = some v -> Pv i σ H -> g v σ H fun σ2 H2 => tb { D with nx := Pv (i + 1), ct := Pv (i + 1), bk := D.nx } σ2 H2) (hd : ∀ σ H, Pv xs.length σ H -> D.nx σ H) : Loop (Itl K a) g tb D σ H := for_list Pv h0 hl hs hd
theorem lp_range (Pv : Nat -> St -> Hp -> Prop) (h0 : Pv 0 σ H)
  (hs : ∀ i σ H, i < n -> Pv i σ H -> g (.int (lo + i)) σ H fun σ2 H2 => tb { D with nx := Pv (i + 1), ct := Pv (i + 1), bk := D.nx } σ2 H2) (hd : ∀ σ H, Pv n σ H -> D.nx σ H) : Loop (Itr lo n) g tb D σ H := for_range Pv h0 hs hd
theorem upd_none {p : Addr} {o : HO} (h : upd H p o L = none) : L ≠ p ∧ H L = none := by
 by_cases e : L = p
 ·subst e; rw [upd_same] at h; cases h
 ·rw [upd_ne e] at h; exact ⟨e, h⟩
end
end L2
namespace L2
open PySem PySem.Spec PyProof.Rows
section
variable {X : Cx}
mutual
inductive DV (K : PySem.W.Frag) (H : Hp) : V -> PyData -> Prop
 | non : DV K H .non .none
 | bl (b) : DV K H (.bl b) (.bool b)
 | int (i) : DV K H (.int i) (.int i)
 | str (x) : DV K H (.str x) (.str x)
 | lst {a xs ds} : SqL K H a xs -> DVs K H xs ds -> DV K H (.ref a) (.list ds)
 | tup {a xs ds} : SqT K H a xs -> DVs K H xs ds -> DV K H (.ref a) (.tuple ds)
inductive DVs (K : PySem.W.Frag) (H : Hp) : List V -> List PyData -> Prop
 | nil : DVs K H [] []
 | cons {x xs d ds} : DV K H x d -> DVs K H xs ds -> DVs K H (x :: xs) (d :: ds)
end
mutual
theorem DV.reads {pins : List (Addr × Obj)} {σ : St} {H : Hp} {s : Shared} (I : Inv X pins σ H s) : ∀ {x : V} {d : PyData} {v : Value}, DV X.K H x d -> RelV x v -> ∃ as, Reads s.heap v d as
 | _, _, _, .non, r => by cases r; exact ⟨_, .none⟩
 | _, _, _, .bl b, r => by cases r; exact ⟨_, .bool b⟩
 | _, _, _, .int i, r => by obtain ⟨t, rfl⟩ := r; exact ⟨_, .int i t⟩
 | _, _, _, .str x, r => by obtain ⟨t, rfl⟩ := r; exact ⟨_, .str x t⟩
 | _, _, _, .lst hq hs, r => by
  cases r
  obtain ⟨its, rv, ⟨o, n, e, c, _, hd⟩, _⟩ := I.list hq
  obtain ⟨as, ra⟩ := DVs.reads I hs rv
  exact ⟨_, .list e c hd (by simpa using ra)⟩
 | _, _, _, .tup hq hs, r => by
  cases r
  obtain ⟨its, rv, ⟨o, e, c, n, hd⟩, _⟩ := I.tuple hq
  obtain ⟨as, ra⟩ := DVs.reads I hs rv
  exact ⟨_, .tuple e c hd (by simpa using ra)⟩
theorem DVs.reads {pins : List (Addr × Obj)} {σ : St} {H : Hp} {s : Shared} (I : Inv X pins σ H s) : ∀ {xs : List V} {ds : List PyData} {vs : List Value}, DVs X.K H xs ds -> Vals xs vs -> ∃ as, ReadsAll s.heap vs ds as
 | _, _, _, .nil, r => by cases r; exact ⟨_, .nil⟩
 | _, _, _, .cons h t, r => by
  cases r with
  | cons r1 r2 =>
   obtain ⟨as, ra⟩ := DV.reads I h r1
   obtain ⟨bs, rb⟩ := DVs.reads I t r2
   exact ⟨_, .cons ra rb⟩
end
theorem op_eqD (hu : X.A.units + 64 < cLine) : OpR X (compareOp .Eq) (fun x y H Q => ∃ da db, DV X.K H x da ∧ DV X.K H y db ∧ da.canLay0 = true ∧ db.canLay0 = true ∧ da.depth <= 64 ∧ Q (.bl (PyData.eqv da db)) H) := by
 intro pins s σ H x y v u Q I rx ry h
 obtain ⟨da, db, hx, hy, c1, c2, hd, q⟩ := h
 obtain ⟨as, ra⟩ := hx.reads I rx
 obtain ⟨bs, rb⟩ := hy.reads I ry
 exact PySem.SeqAt.eqOverData _ _ _ _ _ _ _ _ _ _ _ _ ra rb c1 c2 (by omega) ⟨.bl _, H, I, rfl, q⟩
end
def Ite (K : PySem.W.Frag) (a : Addr) : It :=
 ⟨fun i H => ∃ xs x, SqL K H a xs ∧ xs[i]? = some x, fun i H v H' => ∃ p x, H p = none ∧ v = .ref p ∧ H' = upd H p (.tup [.int i, x]) ∧ ∀ xs, SqL K H a xs -> xs[i]? = some x, fun i H => ∃ xs, SqL K H a xs ∧ xs.length <= i⟩
section
variable {X : Cx}
def iEnum (K : PySem.W.Frag) (ta : TA) : TI := fun σ H R => ta σ H fun vs H1 => ∃ a xs, vs = [.ref a] ∧ SqL K H1 a xs ∧ R (Ite K a) H1
end
theorem a_ienum {K : PySem.W.Frag} {ta : TA} {σ : St} {H : Hp} {R : It -> Hp -> Prop} : iEnum K ta σ H R = ta σ H fun vs H1 => ∃ a xs, vs = [.ref a] ∧ SqL K H1 a xs ∧ R (Ite K a) H1 := rfl
end L2
namespace L2
open PySem PySem.Spec PyProof.Rows
def Itv (K : PySem.W.Frag) (a : Addr) (n : Nat) : It :=
 ⟨fun i H => i < n ∧ ∃ xs, SqL K H a xs ∧ xs.length = n, fun i H x H' => H' = H ∧ ∀ xs, SqL K H a xs -> xs[n - 1 - i]? = some x, fun i _ => i = n⟩
section
variable {X : Cx} {tg : Expr}
def iRev (K : PySem.W.Frag) (ta : TA) : TI := fun σ H R => ta σ H fun vs H1 => ∃ a xs, vs = [.ref a] ∧ SqL K H1 a xs ∧ R (Itv K a xs.length) H1
end
theorem a_irev {K : PySem.W.Frag} {ta : TA} {σ : St} {H : Hp} {R : It -> Hp -> Prop} : iRev K ta σ H R = ta σ H fun vs H1 => ∃ a xs, vs = [.ref a] ∧ SqL K H1 a xs ∧ R (Itv K a xs.length) H1 := rfl
section
variable {σ : St} {H : Hp} {Q : VK} {x y v : V} {vs : List V}
theorem a_cat : rCat x y H Q = ∃ l b xs zs, x = .ref l ∧ y = .ref b ∧ H l = some (.lst xs) ∧ H b = some (.lst zs) ∧ xs.length + zs.length <= sizeLine ∧ ∀ p, H p = none -> Q (.ref p) (upd H p (.lst (xs ++ zs))) := rfl
theorem a_rep : rRep x y H Q = ∃ l k xs, x = .ref l ∧ y = .int k ∧ H l = some (.lst xs) ∧ -(2 ^ 63) <= k ∧ k < 2 ^ 63 ∧ xs.length * k.toNat <= sizeLine ∧ ∀ p, H p = none -> Q (.ref p) (upd H p (.lst (List.replicate k.toNat xs).flatten)) := rfl
theorem a_pop : rPop x vs H Q = ∃ l xs y, x = .ref l ∧ vs = [] ∧ H l = some (.lst xs) ∧ xs[xs.length - 1]? = some y ∧ Q y (upd H l (.lst xs.dropLast)) := rfl
theorem a_clear : rClear x vs H Q = ∃ l xs, x = .ref l ∧ vs = [] ∧ H l = some (.lst xs) ∧ Q .non (upd H l (.lst [])) := rfl
end
end L2
namespace L2
open PySem PySem.Spec PyProof.Rows
theorem op_mulZ {X : Cx} : OpR X (binaryOp .Mult) (rI IntMulOk fun i j => .int (i * j)) := opI fun _ _ _ _ _ _ _ hc q => mul_int q hc
def Bd (k : Nat) (x : Int) : Prop := x.natAbs < 2 ^ k
theorem Bd.mono {k l : Nat} {x : Int} (h : Bd k x) (hl : k <= l) : Bd l x := Nat.lt_of_lt_of_le h (Nat.pow_le_pow_right (by decide) hl)
theorem Bd.one {k : Nat} (h : 0 < k) : Bd k 1 := by
 have : Bd 1 1 := by show (1 : Nat) < 2 ^ 1; decide
 exact this.mono h
theorem Bd.mul {k l : Nat} {x y : Int} (h : Bd k x) (g : Bd l y) : Bd (k + l) (x * y) := by
 unfold Bd at *
 rw [Int.natAbs_mul, Nat.pow_add]
 exact Nat.mul_lt_mul_of_lt_of_lt h g
theorem Bd.add {k : Nat} {x y : Int} (h : Bd k x) (g : Bd k y) : Bd (k + 1) (x + y) := by
 unfold Bd at *
 rw [Nat.pow_succ]
 have := Int.natAbs_add_le x y
 omega
theorem Bd.fits {k l : Nat} {x y : Int} (h : Bd k x) (g : Bd l y) (hz : k + l <= 134217728) : IntMulOk x y := mulOk_of h g hz
theorem Bd.of_lt {k : Nat} {x : Int} {m : Nat} (h : x.natAbs < m) (hm : m <= 2 ^ k) : Bd k x := Nat.lt_of_lt_of_le h hm
def newL (H : Hp) (Q : VK) (ys : List V) : Prop := ∀ r H', Same H H' -> H r = none -> H' r = some (.lst ys) -> Q (.ref r) H'
theorem same_upd {H : Hp} {p : Addr} (h : H p = none) (o : HO) : Same H (upd H p o) := fun b u q => by rw [upd_ne (ne_of_none q h)]; exact q
theorem Same.seqT {K : PySem.W.Frag} {H H' : Hp} {a : Addr} {xs : List V} (e : Same H H') (h : SqT K H a xs) : SqT K H' a xs := by
 rcases h with (h | ⟨o, h⟩) | h
 ·exact .inl (.inl (e _ _ h))
 ·exact .inl (.inr ⟨o, e _ _ h⟩)
 ·exact .inr h
theorem at_int {xs : List Int} {i : Nat} (h : i < xs.length) : atI (xs.map V.int) (i : Int) = some (V.int xs[i]) := atI_nat (by rw [List.getElem?_map, List.getElem?_eq_getElem h]; rfl)
theorem Same.more {H H' : Hp} {p : Addr} {o : HO} (e : Same H H') (h : H p = none) : Same H (L2.upd H' p o) := fun b u q => by rw [upd_ne (ne_of_none q h)]; exact e b u q
end L2
namespace L2
open PySem PySem.Spec PyProof.Rows
section
variable {κ : Type} [DecidableEq κ]
def valV (kvs : List (κ × V)) (k : κ) : Option V := (kvs.find? fun kv => decide (kv.1 = k)).map (·.2)
def putK (kvs : List (κ × V)) (k : κ) (v : V) : List (κ × V) :=
 if (kvs.any fun kv => decide (kv.1 = k)) = true then kvs.map (fun kv => if kv.1 = k then (kv.1, v) else kv) else kvs ++ [(k, v)]
theorem valV_pos {p : κ × V} {r : List (κ × V)} {k : κ} (e : p.1 = k) : valV (p :: r) k = some p.2 := by simp [valV, List.find?_cons, e]
theorem valV_neg {p : κ × V} {r : List (κ × V)} {k : κ} (e : ¬ p.1 = k) : valV (p :: r) k = valV r k := by simp [valV, List.find?_cons, e]
theorem valV_any (k : κ) : ∀ kvs : List (κ × V), (kvs.any fun kv => decide (kv.1 = k)) = (valV kvs k).isSome
 | [] => rfl
 | p :: r => by
  rw [List.any_cons]
  by_cases e : p.1 = k
  ·simp only [valV_pos e, decide_eq_true e, Bool.true_or, Option.isSome_some]
  ·rw [valV_neg e, decide_eq_false e, Bool.false_or]; exact valV_any k r
theorem length_putK (kvs : List (κ × V)) (k : κ) (v : V) : (putK kvs k v).length <= kvs.length + 1 := by
 unfold putK
 split
 ·rw [List.length_map]; omega
 ·rw [List.length_append, List.length_cons, List.length_nil]; omega
theorem RelO.isSome_eq {o : Option V} {u : Option Value} (r : RelO o u) : o.isSome = u.isSome := by
 cases o with
 | none => cases u with
  | none => rfl
  | some _ => exact (show False from r).elim
 | some _ => cases u with
  | none => exact (show False from r).elim
  | some _ => rfl
theorem RelO.getD {o : Option V} {u : Option Value} {d : V} {d' : Value} (r : RelO o u) (rd : RelV d d') : RelV (o.getD d) (u.getD d') := by
 cases o with
 | none => cases u with
  | none => exact rd
  | some _ => exact (show False from r).elim
 | some _ => cases u with
  | none => exact (show False from r).elim
  | some _ => exact r
theorem KV.val {kvs : List (κ × V)} {vs : List (κ × Value)} (r : KV kvs vs) (k : κ) : RelO (valV kvs k) (valueAt vs k) := by
 unfold KV at r
 induction r with
 | nil => exact True.intro
 | @cons p q ps qs h t ih =>
  obtain ⟨h1, h2⟩ := h
  by_cases e : p.1 = k
  ·have e' : q.1 = k := h1.symm.trans e
   have b : valueAt (q :: qs) k = some q.2 := by simp [valueAt, List.find?_cons, e']
   rw [valV_pos e, b]; exact h2
  ·have e' : ¬ q.1 = k := fun z => e (h1.trans z)
   have b : valueAt (q :: qs) k = valueAt qs k := by simp [valueAt, List.find?_cons, e']
   rw [valV_neg e, b]; exact ih
theorem KV.any {kvs : List (κ × V)} {vs : List (κ × Value)} (r : KV kvs vs) (k : κ) : (kvs.any fun kv => decide (kv.1 = k)) = vs.any fun kv => decide (kv.1 = k) := by
 unfold KV at r
 induction r with
 | nil => rfl
 | cons h t ih => rw [List.any_cons, List.any_cons, ih, h.1]
theorem KV.repl {kvs : List (κ × V)} {vs : List (κ × Value)} (r : KV kvs vs) (k : κ) {y : V} {u : Value} (ry : RelV y u) :
  KV (kvs.map fun kv => if kv.1 = k then (kv.1, y) else kv) (vs.map fun kv => if kv.1 = k then (kv.1, u) else kv) := by
 unfold KV at r ⊢
 induction r with
 | nil => exact .nil
 | @cons p q ps qs h t ih =>
  rw [List.map_cons, List.map_cons]
  refine .cons ?_ ih
  obtain ⟨h1, h2⟩ := h
  by_cases e : p.1 = k
  ·rw [if_pos e, if_pos (h1.symm.trans e)]; exact ⟨h1, ry⟩
  ·rw [if_neg e, if_neg (fun z => e (h1.trans z))]; exact ⟨h1, h2⟩
theorem KV.put {kvs : List (κ × V)} {vs : List (κ × Value)} (r : KV kvs vs) (k : κ) {y : V} {u : Value} (ry : RelV y u) : KV (putK kvs k y) (stored vs k u) := by
 unfold putK stored
 rw [r.any k]
 by_cases e : (vs.any fun kv => decide (kv.1 = k)) = true
 ·rw [if_pos e, if_pos e]; exact r.repl k ry
 ·rw [if_neg e, if_neg e]; exact Paired.snoc r ⟨rfl, ry⟩
theorem KV.length {kvs : List (κ × V)} {vs : List (κ × Value)} (r : KV kvs vs) : kvs.length = vs.length := Paired.length r
end
theorem kV_is {P : Program} {w : World} {k : Key} {u : Value} (r : RelV (kV k) u) : (mixKind P w).is k u = true := by
 cases k with
 | inl i => obtain ⟨t, e⟩ := (show ∃ t, u = Value.int i t from r); subst e; exact mixKind_int P w i t
 | inr x => obtain ⟨t, e⟩ := (show ∃ t, u = Value.str x t from r); subst e; exact mixKind_str P w x t
theorem items_are {P : Program} {w : World} : ∀ {ks : List Key} {us : List Value}, Vals (ks.map kV) us -> ItemsAre (mixKind P w) ks us
 | [], _, r => by rw [List.map_nil] at r; cases r; exact .nil
 | k :: ks, _, r => by
  rw [List.map_cons] at r
  cases r with
  | cons h t => exact .cons (kV_is h) (items_are t)
abbrev KT (H : Hp) : List (List Key × V) -> List (List Key × Addr × Value) -> Prop := Paired fun p q => p.1 = q.1 ∧ H q.2.1 = some (.tup (p.1.map kV)) ∧ RelV p.2 q.2.2
theorem KT.val {H : Hp} {kvs : List (List Key × V)} {xs : List (List Key × Addr × Value)} (r : KT H kvs xs) (k : List Key) : RelO (valV kvs k) ((atKey xs k).map (·.2)) := by
 induction r with
 | nil => exact True.intro
 | @cons p q ps qs h t ih =>
  obtain ⟨h1, _, h2⟩ := h
  by_cases e : p.1 = k
  ·have e' : q.1 = k := h1.symm.trans e
   have b : atKey (q :: qs) k = some q.2 := by simp [atKey, List.find?_cons, e']
   rw [valV_pos e, b]; exact h2
  ·have e' : ¬ q.1 = k := fun z => e (h1.trans z)
   have b : atKey (q :: qs) k = atKey qs k := by simp [atKey, List.find?_cons, e']
   rw [valV_neg e, b]; exact ih
theorem KT.repl {H : Hp} {kvs : List (List Key × V)} {xs : List (List Key × Addr × Value)} (r : KT H kvs xs) (k : List Key) {y : V} {u : Value} (ry : RelV y u) :
  KT H (kvs.map fun kv => if kv.1 = k then (kv.1, y) else kv) (xs.map (putAt k u)) := by
 induction r with
 | nil => exact .nil
 | @cons p q ps qs h t ih =>
  rw [List.map_cons, List.map_cons]
  refine .cons ?_ ih
  obtain ⟨h1, h2, h3⟩ := h
  unfold putAt
  by_cases e : p.1 = k
  ·rw [if_pos e, if_pos (h1.symm.trans e)]; exact ⟨h1, h2, ry⟩
  ·rw [if_neg e, if_neg (fun z => e (h1.trans z))]; exact ⟨h1, h2, h3⟩
theorem KT.put {H : Hp} {kvs : List (List Key × V)} {xs : List (List Key × Addr × Value)} (r : KT H kvs xs) (k : List Key) {b : Addr} {y : V} {u : Value} (hb : H b = some (.tup (k.map kV))) (ry : RelV y u) :
  KT H (putK kvs k y) (storedH xs k b u) := by
 have e : (kvs.any fun kv => decide (kv.1 = k)) = (atKey xs k).isSome := by
  rw [valV_any, (r.val k).isSome_eq, Option.isSome_map]
 unfold putK storedH
 rw [e]
 by_cases q : (atKey xs k).isSome = true
 ·rw [if_pos q, if_pos q]; exact r.repl k ry
 ·rw [if_neg q, if_neg q]; exact Paired.snoc r ⟨rfl, hb, ry⟩
theorem KT.keeps {H H' : Hp} {kvs : List (List Key × V)} {xs : List (List Key × Addr × Value)} (r : KT H kvs xs) (ht : ∀ b ys, H b = some (.tup ys) -> H' b = some (.tup ys)) : KT H' kvs xs :=
 Paired.mapP r fun _ _ z => ⟨z.1, ht _ _ z.2.1, z.2.2⟩
section
variable {P : Program} {w : World} {H : Hp} {h : Heap} {a : Addr}
theorem rd_of {u : HO} (ok : HOk P w H h) (e : Rd H a u) : ObjOk P w H h a u := e.ok ok
theorem dk_rd {kvs : List (Key × V)} (ok : HOk P w H h) (e : Rd H a (.dK kvs)) : kvs.length <= sizeLine ∧ (a == sysModules) = false ∧ ∃ vs, KV kvs vs ∧ h.DictOf (mixKind P w) a vs :=
 show ObjOk P w H h a (.dK kvs) from rd_of ok e
theorem dk_of {kvs : List (Key × V)} (ok : HOk P w H h) (e : H a = some (.dK kvs)) : kvs.length <= sizeLine ∧ (a == sysModules) = false ∧ ∃ vs, KV kvs vs ∧ h.DictOf (mixKind P w) a vs := dk_rd ok (.inl e)
theorem key_of {ks : List Key} (ok : HOk P w H h) (e : H a = some (.tup (ks.map kV))) : (tupleKind (mixKind P w)).is h ks a := by
 obtain ⟨_, its, r, o, h1, h2, n, h3⟩ := (show ObjOk P w H h a (.tup (ks.map kV)) from ok a _ e)
 exact ⟨o, its.toArray, n, h1, h2, h3, by simpa using items_are r⟩
theorem dt_rd {kvs : List (List Key × V)} (ok : HOk P w H h) (e : Rd H a (.dT kvs)) : kvs.length <= sizeLine ∧ (a == sysModules) = false ∧
  ∃ xs, KT H kvs xs ∧ h.DictOfH (tupleKind (mixKind P w)) a xs := by
 obtain ⟨z, y, xs, r, o, es, ep, h1, h2, h3, h4, h5⟩ := (show ObjOk P w H h a (.dT kvs) from rd_of ok e)
 refine ⟨z, y, xs, r, o, es, ep, h1, h2, h3, h4, fun x hx => ?_, h5⟩
 have all : ∀ {l : List (List Key × V)} {m : List (List Key × Addr × Value)}, KT H l m -> ∀ x ∈ m, (tupleKind (mixKind P w)).is h x.1 x.2.1 := by
  intro l m q
  induction q with
  | nil => intro x hx; exact nomatch hx
  | @cons p q ps qs hq t ih =>
   intro x hx
   rcases List.mem_cons.mp hx with e | hx
   ·subst e
    exact key_of ok (by rw [← hq.1]; exact hq.2.1)
   ·exact ih x hx
 exact all r x hx
theorem dt_of {kvs : List (List Key × V)} (ok : HOk P w H h) (e : H a = some (.dT kvs)) : kvs.length <= sizeLine ∧ (a == sysModules) = false ∧
  ∃ xs, KT H kvs xs ∧ h.DictOfH (tupleKind (mixKind P w)) a xs := dt_rd ok (.inl e)
end
def DGet (H : Hp) (a : Addr) (y : V) (r : Option V) : Prop :=
 (∃ kvs k, Rd H a (.dK kvs) ∧ y = kV k ∧ r = valV kvs k) ∨ ∃ kvs k b, Rd H a (.dT kvs) ∧ y = .ref b ∧ H b = some (.tup (k.map kV)) ∧ r = valV kvs k
def DPut (H : Hp) (a : Addr) (y v : V) (H' : Hp) : Prop :=
 (∃ kvs k, H a = some (.dK kvs) ∧ y = kV k ∧ kvs.length < sizeLine ∧ H' = upd H a (.dK (putK kvs k v))) ∨
 ∃ kvs k b, H a = some (.dT kvs) ∧ y = .ref b ∧ H b = some (.tup (k.map kV)) ∧ kvs.length < sizeLine ∧ H' = upd H a (.dT (putK kvs k v))
theorem DGet.t {H : Hp} {a b : Addr} {kvs : List (List Key × V)} {k : List Key} (e : H a = some (.dT kvs)) (eb : H b = some (.tup (k.map kV))) : DGet H a (.ref b) (valV kvs k) := .inr ⟨kvs, k, b, .inl e, rfl, eb, rfl⟩
theorem DPut.t {H : Hp} {a b : Addr} {kvs : List (List Key × V)} {k : List Key} {v : V} (e : H a = some (.dT kvs)) (eb : H b = some (.tup (k.map kV))) (hl : kvs.length < sizeLine) :
  DPut H a (.ref b) v (upd H a (.dT (putK kvs k v))) := .inr ⟨kvs, k, b, e, rfl, eb, hl, rfl⟩
section
variable {X : Cx} {pins : List (Addr × Obj)} {σ : St} {H : Hp} {s : Shared} {a : Addr} {y v : V} {u r : Value} {o : Option V} {A : Around} {E : Value -> Shared -> Prop}
theorem Inv.big (I : Inv X pins σ H s) : sysModules < s.heap.objs.size := by
 have h : mainGlobals < s.heap.objs.size := (I.mod.glob.keeps I.bk).lt
 exact Nat.lt_trans (by decide) h
theorem d_write {h' : Heap} {t' : Nat} {ob : HO} (I : Inv X pins σ H s) (mu : Mut (H a)) (hs : Heap.SameBut a s.heap h') (he : ∃ q, h'.get? a = some q) (new : ObjOk X.prog X.w (upd H a ob) h' a ob) :
  Inv X pins σ (upd H a ob) { s with heap := h', toks := t' } :=
 I.write (x := a) (e := a) mu (.inl rfl) (fun b q hb z => (hs.2 b hb).trans z) he new
theorem dk_new {P : Program} {w : World} {H' : Hp} {h' : Heap} {kvs : List (Key × V)} {vs : List (Key × Value)} (z : kvs.length <= sizeLine) (hd : (a == sysModules) = false) (rel : KV kvs vs) (dd : h'.DictOf (mixKind P w) a vs) :
  ObjOk P w H' h' a (.dK kvs) := ⟨z, hd, vs, rel, dd⟩
theorem d_setItem {H' : Hp} {Q : Unit -> Shared -> Prop} (hu : A.units + 1 < cLine) (I : Inv X pins σ H s) (g : DPut H a y v H') (ry : RelV y u) (rv : RelV v r) (h : ∀ s', Inv X pins σ H' s' -> Q () s') :
  wpAny (model X.prog X.w) A (setItem (.ref a) u r) Q E s := by
 rcases g with ⟨kvs, k, e, ey, l, eH⟩ | ⟨kvs, k, b, e, ey, eb, l, eH⟩
 ·subst ey eH
  obtain ⟨z, hd, vs, rel, dd⟩ := dk_of I.hok e
  have hz : vs.length <= sizeLine := by rw [← rel.length]; exact z
  have hl : (putK kvs k v).length <= sizeLine := by have := length_putK kvs k v; omega
  refine wpAny_setItem_pairs (hsz := hz) (kV_is ry) dd fun h' dd' hs => h _ ?_
  have he : ∃ q, h'.get? a = some q := let ⟨q, _, _, hq, _⟩ := dd'; ⟨q, hq⟩
  exact d_write I (by rw [e]; exact True.intro) hs he (dk_new hl hd (rel.put k rv) dd')
 ·subst ey eH
  cases (show u = Value.ref b from ry)
  obtain ⟨z, hd, xs, rel, dd⟩ := dt_of I.hok e
  have hz : xs.length <= sizeLine := by rw [← Paired.length rel]; exact z
  have hl : (putK kvs k v).length <= sizeLine := by have := length_putK kvs k v; omega
  refine wpAny_setItem_heap (hsz := hz) (tupleKind_room_in1 hu) (key_of I.hok eb) dd fun h' dd' hs => h _ ?_
  obtain ⟨q, es, ep, hq, h2, h3, h4, _, h5⟩ := dd'
  refine d_write I (by rw [e]; exact True.intro) hs ⟨q, hq⟩ ⟨hl, hd, _, (rel.put k eb rv).keeps fun c ys ec => ?_, q, es, ep, hq, h2, h3, h4, h5⟩
  rw [upd_ne (ne_of ec e (fun z => nomatch z))]
  exact ec
end
section
variable {X : Cx} {pins : List (Addr × Obj)} {σ : St} {H : Hp} {s : Shared} {a : Addr} {kvs : List (Key × V)} {k : Key} {u : Value} {A : Around} {E : Value -> Shared -> Prop}
end
def tDGet (td ty : TE) : TE := fun σ H Q => td σ H fun x H1 => ty σ H1 fun y H2 => ∃ a v, x = .ref a ∧ DGet H2 a y (some v) ∧ Q v H2
def tDNotIn (ty td : TE) : TE := fun σ H Q => ty σ H fun y H1 => td σ H1 fun x H2 => ∃ a o, x = .ref a ∧ DGet H2 a y o ∧ Q (.bl (!o.isSome)) H2
def sDPut (td ty tv : TE) : TS := fun D σ H => tv σ H fun v H1 => td σ H1 fun x H2 => ty σ H2 fun y H3 => ∃ a H4, x = .ref a ∧ DPut H3 a y v H4 ∧ D.nx σ H4
section
variable {X : Cx} {o i e value : Expr} {pos pos' tpos : Pos} {td ty tv : TE}
theorem ps_dput (hu : X.A.units + 1 < cLine) (ho : PE X o td) (hi : PE X i ty) (hv : PE X value tv) (hs : swapsWith value (some (.Subscript o i pos')) pos.line X.env = pure false) :
  PS X (.Assign [.Subscript o i pos'] value pos) (sDPut td ty tv) := by
 intro pins s σ H D I h
 refine wpAny_Assign_Subscript (thn (hv pins s σ H _ I h) fun r s1 ⟨v, H1, I1, rv, q1⟩ => thn (ho pins s1 σ H1 _ I1 q1) fun u s2 ⟨x, H2, I2, rx, q2⟩ => thn (hi pins s2 σ H2 _ I2 q2) fun iv s3 ⟨y, H3, I3, ry, a, H4, ex, g, q3⟩ => ?_) hs
 subst ex
 obtain rfl : u = Value.ref a := rx
 exact d_setItem hu I3 g ry rv fun s4 I4 => ⟨σ, H4, I4, q3⟩
end
theorem dt_empty {P : Program} {w : World} {H : Hp} (h : Heap) (hb : sysModules < h.objs.size) : ObjOk P w H (h.push { cls := .type "dict", data := .dict #[] }) h.objs.size (.dT []) :=
 ⟨Nat.zero_le _, beq_eq_false_iff_ne.mpr (Ne.symm (Nat.ne_of_lt hb)), [], .nil, _, #[], 0, Heap.get?_push_size _ rfl, ⟨rfl, rfl, rfl⟩, rfl, rfl, List.nodup_nil⟩
def tDNewT : TE := fun _ H Q => ∀ p, H p = none -> Q (.ref p) (upd H p (.dT []))
section
variable {X : Cx} {pos : Pos}
theorem pe_dnewT : PE X (.Dict [] [] pos) tDNewT := fun pins s σ H Q I h =>
 wpAny_Dict_empty ⟨.ref s.heap.objs.size, _, I.laid (a := s.heap.objs.size) (o := .dT []) (t' := s.toks) (fun _ _ q => Heap.get?_push_of_some _ q) (Nat.le_refl _) (dt_empty s.heap I.big), rfl, h _ (I.hok.fresh (Nat.le_refl _))⟩
end
def tPairs : List (TE × TE) -> St -> Hp -> (List (V × V) -> Hp -> Prop) -> Prop
 | [], _, H, Q => Q [] H
 |(tk, tv) :: r, σ, H, Q => tk σ H fun x H1 => tv σ H1 fun y H2 => tPairs r σ H2 fun ps H3 => Q ((x, y) :: ps) H3
abbrev VV : List (V × V) -> List (Value × Value) -> Prop := Paired fun p q => RelV p.1 q.1 ∧ RelV p.2 q.2
def PPs (X : Cx) (pos : Pos) (keys : List (Option Expr)) (values : List Expr) (trs : List (TE × TE)) : Prop :=
 ∀ (pins : List (Addr × Obj)) (s : Shared) (σ : St) (H : Hp) (Q : List (V × V) -> Hp -> Prop), Inv X pins σ H s -> tPairs trs σ H Q ->
  wpAny (model X.prog X.w) X.A (evalPairs (pairTrees keys values X.env pos)) (fun vs s' => ∃ ps H', Inv X pins σ H' s' ∧ VV ps vs ∧ Q ps H') X.xe s
theorem pps_nil {X : Cx} {pos : Pos} : PPs X pos [] [] [] := fun pins s σ H Q I h => pairTrees_nil_walk ⟨[], H, I, .nil, h⟩
theorem pps_cons {X : Cx} {pos : Pos} {k v : Expr} {ks : List (Option Expr)} {vs : List Expr} {tk tv : TE} {trs : List (TE × TE)} (hk : PE X k tk) (hv : PE X v tv) (hr : PPs X pos ks vs trs) :
  PPs X pos (some k :: ks) (v :: vs) ((tk, tv) :: trs) := fun pins s σ H Q I h =>
 pairTrees_cons_walk (thn (hk pins s σ H _ I h) fun u s1 ⟨x, H1, I1, rx, q1⟩ => thn (hv pins s1 σ H1 _ I1 q1) fun w2 s2 ⟨y, H2, I2, ry, q2⟩ =>
  thn (hr pins s2 σ H2 _ I2 q2) fun ws s3 ⟨ps, H3, I3, rel, q3⟩ => ⟨(x, y) :: ps, H3, I3, .cons ⟨rx, ry⟩ rel, q3⟩)
structure M2 (X : Cx) (o : Expr) (m : Str) (apos : Pos) (e f : Expr) (cpos : Pos) : Prop where
 base : attributeBase o m X.env (eval o X.env) = eval o X.env
 few : ((backTo cpos (starEach [e, f] X.env)).all (fun x => !x.1) && (backToKw cpos (keywordEach [] X.env)).all (fun x => x.1.isSome)
  && decide (([e, f] : List Expr).length + ([] : List Keyword).length + (if ([] : List Keyword).isEmpty then 0 else 1) < 30)) = true
 line : (apos.endLine == cpos.line) = true
 trees : backTo cpos (starEach [e, f] X.env) = [(false, eval e X.env), (false, eval f X.env)]
def IsD (H : Hp) (a : Addr) : Prop := (∃ kvs, Rd H a (.dK kvs)) ∨ ∃ kvs, Rd H a (.dT kvs)
theorem isD_at {X : Cx} {pins : List (Addr × Obj)} {σ : St} {H : Hp} {s : Shared} {a : Addr} (I : Inv X pins σ H s) (d : IsD H a) :
  s.TypeIs (.ref a) "dict" ∧ (∀ b, Value.ref a = .ref b -> ∃ ob, s.heap.get? b = some ob ∧ ob.dict = none) ∧ (a == sysModules) = false := by
 rcases d with ⟨kvs, e⟩ | ⟨kvs, e⟩
 ·obtain ⟨_, hd, vs, _, dd⟩ := dk_rd I.hok e
  refine ⟨dd.typeIs, fun b q => ?_, hd⟩
  cases q
  obtain ⟨ob, _, _, h1, h2, _⟩ := dd
  exact ⟨ob, h1, h2.2.1⟩
 ·obtain ⟨_, hd, xs, _, dd⟩ := dt_rd I.hok e
  refine ⟨dd.typeIs, fun b q => ?_, hd⟩
  cases q
  obtain ⟨ob, _, _, h1, h2, _⟩ := dd
  exact ⟨ob, h1, h2.2.1⟩
section
variable {X : Cx} {pins : List (Addr × Obj)} {σ : St} {H : Hp} {s : Shared} {a : Addr} {y d : V} {u r : Value} {o : Option V} {A : Around} {E : Value -> Shared -> Prop}
theorem d_get2 {Q : Value -> Shared -> Prop} (hu : A.units + 1 < cLine) (I : Inv X pins σ H s) (g : DGet H a y o) (ry : RelV y u) (rd : RelV d r) (h : ∀ w' s', Inv X pins σ H s' -> RelV (o.getD d) w' -> Q w' s') :
  wpAny (model X.prog X.w) A (call (.builtin "dict.get") [.ref a, u, r]) Q E s := by
 rcases g with ⟨kvs, k, e, ey, l⟩ | ⟨kvs, k, b, e, ey, eb, l⟩
 ·subst ey
  obtain ⟨z, hd, vs, rel, dd⟩ := dk_rd I.hok e
  refine call_meetsIn PySem.F.slot_dict_get dd.typeIs PySem.F.entry_dict_get (PySem.F.args_dict_get_3 _ _ _) (meets_dict_get_default (mixKind X.prog X.w) a (kV_is ry) hd r) ⟨_, dd.mapOf, h _ _ (I.tok _) ?_⟩
  rw [l]
  exact (rel.val k).getD rd
 ·subst ey
  cases (show u = Value.ref b from ry)
  obtain ⟨z, hd, xs, rel, dd⟩ := dt_rd I.hok e
  refine call_meetsIn PySem.F.slot_dict_get dd.typeIs PySem.F.entry_dict_get (PySem.F.args_dict_get_3 _ _ _) (meetsH_dict_get_default (tupleKind (mixKind X.prog X.w)) a b hd r) ⟨tupleKind_room_in1 hu, k, xs, key_of I.hok eb, dd, h _ _ (I.tok _) ?_⟩
  rw [l]
  exact (rel.val k).getD rd
end
def tDGet2 (td ty tx : TE) : TE := fun σ H Q => td σ H fun x H1 => ∃ a, x = .ref a ∧ IsD H1 a ∧ ty σ H1 fun y H2 => tx σ H2 fun z H3 => ∃ o, DGet H3 a y o ∧ Q (o.getD z) H3
section
variable {X : Cx} {o e f : Expr} {apos cpos : Pos} {td ty tx : TE}
theorem pe_dget2 (hu : X.A.units + 1 < cLine) (ho : PE X o td) (he : PE X e ty) (hf : PE X f tx) (m : M2 X o "get" apos e f cpos) : PE X (.Call (.Attribute o "get" apos) [e, f] [] cpos) (tDGet2 td ty tx) := by
 intro pins s σ H Q I h
 refine wpAny_Call_method m.base m.few m.line PySem.F.plainAttrs_dict PySem.F.slot_dict_get PySem.F.type_dict_get (thn (ho pins s σ H _ I h) fun u s1 ⟨x, H1, I1, rx, a, ex, d, q1⟩ => ?_)
 subst ex
 obtain rfl : u = Value.ref a := rx
 obtain ⟨t1, t2, _⟩ := isD_at I1 d
 refine ⟨t1, t2, ?_⟩
 rw [m.trees]
 refine Calls.callWith_builtin rfl (Calls.evalArgs_plain (Calls.spliced_cons (thn (he pins s1 σ H1 _ I1 q1) fun iv s2 ⟨y, H2, I2, ry, q2⟩ =>
  Calls.spliced_cons (thn (hf pins s2 σ H2 _ I2 q2) fun fv s3 ⟨z, H3, I3, rz, ov, g, q3⟩ => Calls.spliced_nil ?_))))
 exact d_get2 hu I3 g ry rz fun w' s4 I4 rw' => ⟨_, H3, I4, rw', q3⟩
end
section
variable {X : Cx} {pins : List (Addr × Obj)} {σ : St} {H : Hp} {s : Shared} {a : Addr} {kvs : List (Key × V)} {A : Around} {E : Value -> Shared -> Prop}
end
section
variable {X : Cx} {pins : List (Addr × Obj)} {σ : St} {H : Hp} {s : Shared} {a : Addr} {y : V} {u : Value} {A : Around} {E : Value -> Shared -> Prop}
end
end L2
namespace L2
open PySem PySem.Spec PyProof.Rows
structure Grd (P : Program) (w : World) (fs : List Addr) (H H' : Hp) (h B : Heap) : Prop where
 keep : ∀ b o, h.get? b = some o -> H b = none -> b ∉ fs -> B.get? b = some o
 there : ∀ b o, h.get? b = some o -> b ∉ fs -> ∃ o', B.get? b = some o'
 free : ∀ b o, h.get? b = some o -> H b = none -> H' b = none
 tups : ∀ b xs, H b = some (.tup xs) -> H' b = some (.tup xs)
 frzs : ∀ b o u, H b = some (.frz o u) -> H' b = some (.frz o u)
 tbls : ∀ b ps, H b = some (.tbl ps) -> ∃ more, H' b = some (.tbl (ps ++ more))
 hok : HOk P w H' B
def Slt (fs : List Addr) (h h' : Heap) : Prop := ∀ b o, h.get? b = some o -> b ∈ fs -> ∃ sl, h'.get? b = some { o with slots := sl }
def CXE (P : Program) (w : World) : CXT := fun outer H s E e s' => ∃ (a t C : Addr) (H' : Hp) (B : Heap), e = .ref a ∧ s'.os = s.os ∧ AllBare s'.gens ∧ Heap.FlyingW B outer a (.ref C) (.ref t) s'.heap ∧
 Grd P w (frs outer) H H' s.heap B ∧ Slt (frs outer) s.heap s'.heap ∧ E (.ref C) none H'
theorem passF {P : Program} {w : World} {X : Cx} : Passes (CXE P w) X E0 := fun _ _ _ _ _ _ _ h => by
 obtain ⟨_, _, _, _, _, _, _, _, _, _, _, q⟩ := h
 exact q.elim
section
variable {X : Cx} {pins : List (Addr × Obj)} {σ : St} {H H' : Hp} {s : Shared}
theorem HOk.hide {P : Program} {w : World} {h : Heap} {fs : List Addr} (x : HOk P w H h) (hf : ∀ b ∈ fs, H b = none) : HOk P w H (PySem.W.hideAll h fs) := fun a o e =>
 (x a o e).stay (fun b u hb q => PySem.W.hideAll_get _ q fun z => by
  have n := hf b z
  rcases hb with hb | hb
  ·rw [hb, e] at n; cases n
  ·rw [hb] at n; cases n) (fun _ q => q) fun _ _ q => q
end
section
variable {P : Program} {w : World} {K : PySem.W.Frag} {mg : Str -> Option Value} {base : Heap} {N : List Str} {qual : Str} {scope : Scope} {f : Addr} {cd : Value} {A : Around} {outer : List Env} {s0 : Shared} {H0 : Hp} {E : XK}
theorem nofr0 {pins : List (Addr × Obj)} {σ : St} {H : Hp} {s : Shared} (I : Inv (cxOf (CXE P w) P w K mg base N qual scope f cd A outer s0 H0 E) pins σ H s) {b : Addr} {o : Obj} (q : s0.heap.get? b = some o) (hb : b ∉ frs outer) :
  b ∉ frs (envOfC qual scope s0.heap.objs.size f cd :: outer) := fun z => by
 rcases List.mem_cons.mp (I.stkSub b z) with e | e
 ·exact absurd (Heap.lt_size q) (by rw [e]; exact Nat.not_lt.mpr I.ok.above)
 ·exact hb e
theorem throw_here {pins : List (Addr × Obj)} {σ : St} {H : Hp} {s : Shared} {h' : Heap} {a C : Addr} {args : List Value} (I : Inv (cxOf (CXE P w) P w K mg base N qual scope f cd A outer s0 H0 E) pins σ H s)
  (hx : Heap.MadeExcOf s.heap h' a (.ref C) args) (q : E (.ref C) none H) : (cxOf (CXE P w) P w K mg base N qual scope f cd A outer s0 H0 E).xe (.ref a) { s with heap := h' } := by
 have hfs : ∀ b ∈ frs (envOfC qual scope s0.heap.objs.size f cd :: outer), H b = none := I.stkFree
 have hin : ∀ env ∈ (envOfC qual scope s0.heap.objs.size f cd :: outer), ∀ b, env.frame = some b -> b ∈ frs (envOfC qual scope s0.heap.objs.size f cd :: outer) := fun env he b hb => List.mem_filterMap.mpr ⟨env, he, hb⟩
 have hst : s.heap.FunFrames base (envOfC qual scope s0.heap.objs.size f cd :: outer) := I.stack
 have noE : ∀ b : Addr, b ∉ (cxOf (CXE P w) P w K mg base N qual scope f cd A outer s0 H0 E).ex := fun b z => absurd (show b ∈ ([] : List Addr) from z) (by simp)
 refine wpAny_leaves_madeW (base := PySem.W.hideAll s.heap (frs (envOfC qual scope s0.heap.objs.size f cd :: outer))) I.ok.frames rfl (fun b o z => PySem.W.of_hideAll _ z) (PySem.W.funFrames_hide hst hin) hx fun h2 t fl _ _ up => ?_
 refine ⟨a, t, C, H, _, rfl, I.os, I.bare, fl, ⟨fun b o e n hb => ?_, fun b o e hb => ?_, fun b o e n => I.base.free b o e n (noE b), I.base.tups, I.base.frzs, I.base.tbls, I.hok.hide hfs⟩, fun b o e hb => ?_, q⟩
 ·exact PySem.W.hideAll_get _ (I.base.keep b o e n hb (noE b)) (nofr0 I e hb)
 ·obtain ⟨o', e'⟩ := I.base.there b o e (noE b)
  exact ⟨o', PySem.W.hideAll_get _ e' (nofr0 I e hb)⟩
 ·obtain ⟨_, o', ho', hd⟩ := I.ok.funs.mem hb
  rw [show (cxOf (CXE P w) P w K mg base N qual scope f cd A outer s0 H0 E).s₀.heap.get? b = some o from e] at ho'; cases ho'
  obtain ⟨sl, e1⟩ := I.base.slot b o e (I.ok.frf b hb) hb (noE b)
  obtain ⟨sl', e2⟩ := up b _ (hx.keeps _ _ e1) hd
  exact ⟨sl', e2⟩
theorem passE : Passes (CXE P w) (cxOf (CXE P w) P w K mg base N qual scope f cd A outer s0 H0 E) E := fun pins σ H s e s' I c => by
 obtain ⟨a, t, C, H', B, rfl, os, bare, fl, G, sl, q⟩ := c
 have noE : ∀ b : Addr, b ∉ (cxOf (CXE P w) P w K mg base N qual scope f cd A outer s0 H0 E).ex := fun b z => absurd (show b ∈ ([] : List Addr) from z) (by simp)
 refine wpAny_leaves_onW I.ok.frames rfl fl fun h2 fl2 up => ?_
 refine ⟨a, t, C, H', B, rfl, os.trans I.os, bare, fl2, ⟨fun b o e n hb => ?_, fun b o e hb => ?_, fun b o e n => ?_, fun b xs z => G.tups b xs (I.base.tups b xs z), fun b o u z => G.frzs b o u (I.base.frzs b o u z), fun b ps z => ?_, G.hok⟩, fun b o e hb => ?_, q⟩
 ·exact G.keep b o (I.base.keep b o e n hb (noE b)) (I.base.free b o e n (noE b)) (nofr0 I e hb)
 ·obtain ⟨o', e'⟩ := I.base.there b o e (noE b)
  exact G.there b o' e' (nofr0 I e hb)
 ·obtain ⟨o', e'⟩ := I.base.there b o e (noE b)
  exact G.free b o' e' (I.base.free b o e n (noE b))
 ·obtain ⟨m1, e1⟩ := I.base.tbls b ps z
  obtain ⟨m2, e2⟩ := G.tbls b _ e1
  exact ⟨m1 ++ m2, by rw [e2, Array.append_assoc]⟩
 ·obtain ⟨_, o', ho', hd⟩ := I.ok.funs.mem hb
  rw [show (cxOf (CXE P w) P w K mg base N qual scope f cd A outer s0 H0 E).s₀.heap.get? b = some o from e] at ho'; cases ho'
  obtain ⟨_, e1⟩ := I.base.slot b o e (I.ok.frf b hb) hb (noE b)
  obtain ⟨_, e2⟩ := sl b _ e1 (by show b ∈ frs (envOfC qual scope s0.heap.objs.size f cd :: outer); exact List.mem_cons_of_mem _ hb)
  obtain ⟨sl', e3⟩ := up b _ e2 hd
  exact ⟨sl', e3⟩
theorem Fun.okE {x : Str} {st : Stmt} {fd : FuncData} {ps : List Str} {k : Nat} {sp : Sp} (F : Fun K x qual st f fd) (S : FnScope N ps (defScope st)) (len : ∀ vs H Q E, sp vs H Q E -> vs.length = ps.length)
  (hbody : ∀ (cdv : Value) (A : Around) (outer : List Env) (s : Shared) (H : Hp) (vs : List V) (Q : VK) (E : XK), Room k (A.deeper (envOfC qual (defScope st) s.heap.objs.size f cdv)) -> sp vs H Q E ->
   ∃ t, PSs (cxOf (CXE P w) P w K mg base N qual (defScope st) f cdv A outer s H E) (defBody st) t ∧ t { nx := fun _ H' => Q .non H', rt := Q } (start N vs) H) : FnOk P w K mg base (CXE P w) (k + 1) f fd ps sp := by
 obtain ⟨oc, od, kV, doc, pm, an, cdv, ct, osl, rfl, lk, hcd⟩ := F.ex
 exact fn_of lk hcd S len fun A outer s H vs Q E hr hsp => hbody cdv A outer s H vs Q E hr hsp
end
theorem PS.nox {X : Cx} {st : Stmt} {t : TS} (h : PS X.nox st t) : PS X st t := fun pins s σ H D I hw =>
 wpAny_mono (h pins s σ H D (I.wish _) hw) (fun _ _ q => q.unwish) fun _ _ z => False.elim z
abbrev bmV : List Value := [.type "ValueError", .type "Exception", .type "BaseException", .type "object"]
theorem exc_obj {K : PySem.W.Frag} {C : Addr} (q : PySem.W.excIn K C bmV "ValueError.__new__" = true) : ∃ bm N nm qn bs hd sn sub ab col dd k0 k1 k2 k3 k5,
  K.lookup C = some (excClassObj nm qn C N bs bm hd sn sub ab col dd k0 k1 k2 k3 k5 "ValueError.__new__") ∧ PySem.W.tailIn K bmV bm = true ∧ PySem.W.nsOkIn K N = true ∧ PySem.W.nsIn K N "__init__" = some none := by
 unfold PySem.W.excIn at q
 split at q
 ·rename_i dd cd sl ho
  split at q
  ·rename_i C1 bm k0 k1 k2 k3 n k5 hm hs
   rw [Bool.and_eq_true, Bool.and_eq_true, Bool.and_eq_true, Bool.and_eq_true, Bool.and_eq_true] at q
   obtain ⟨⟨⟨⟨⟨q1, q2⟩, q3⟩, q4⟩, q5⟩, q6⟩ := q
   have r1 := beq_iff_eq.mp q1
   have r2 := beq_iff_eq.mp q2
   have r6 := beq_iff_eq.mp q6
   subst r1 r2
   obtain ⟨nm, bs, mro, ns, qn, hd, sn, sub, ab, col, del⟩ := cd
   simp only at hm q3 q5 r6
   have q3' : del = false := by cases del <;> simp at q3 ⊢
   subst hm q3'
   obtain ⟨l⟩ := sl
   simp only at hs
   subst hs
   exact ⟨bm, ns, nm, qn, bs, hd, sn, sub, ab, col, dd, k0, k1, k2, k3, k5, ho, q4, q5, r6⟩
  ·cases q
 ·cases q
def Throws (X : Cx) (E : XK) : Prop := ∀ (pins : List (Addr × Obj)) (σ : St) (H : Hp) (s : Shared) (h' : Heap) (a C : Addr) (args : List Value), Inv X pins σ H s -> Heap.MadeExcOf s.heap h' a (.ref C) args -> E (.ref C) none H -> X.xe (.ref a) { s with heap := h' }
theorem throwE {P : Program} {w : World} {K : PySem.W.Frag} {mg : Str -> Option Value} {base : Heap} {N : List Str} {qual : Str} {scope : Scope} {f : Addr} {cd : Value} {A : Around} {outer : List Env} {s0 : Shared} {H0 : Hp} {E : XK} :
  Throws (cxOf (CXE P w) P w K mg base N qual scope f cd A outer s0 H0 E) E := fun _ _ _ _ _ _ _ _ I hx q => throw_here I hx q
def tRaise (C : Addr) (ta : TA) (E : XK) : TS := fun _ σ H => ta σ H fun vs H1 => vs.length <= sizeLine ∧ E (.ref C) none H1
theorem a_raise {C : Addr} {ta : TA} {E : XK} {D : Ends} {σ : St} {H : Hp} : tRaise C ta E D σ H = ta σ H fun vs H1 => vs.length <= sizeLine ∧ E (.ref C) none H1 := rfl
theorem ps_raise {X : Cx} {E : XK} {x : Str} {C : Addr} {e0 : Expr} {ta : TA} {np cpos pos : Pos} (hc : X.calm = true) (hr : Throws X E) (hg : Gl X x) (hm : X.mg x = some (.ref C)) (hx : PySem.W.excIn X.K C bmV "ValueError.__new__" = true) (ha : PA X [e0] ta)
  (he : starEach [e0] X.env = [(false, eval e0 X.env)] := by rfl) (hpl : (backTo cpos (starEach [e0] X.env)).any (·.1) = false := by rfl) (hd : (x == ("__debug__" : Str)) = false := by decide) :
  PS X (.Raise (some (.Call (.Name x np) [e0] [] cpos)) none pos) (tRaise C ta E) := by
 intro pins s σ H D I h
 obtain ⟨bm, N, nm, qn, bs, hdc, sn, sub, ab, col, dd, k0, k1, k2, k3, k5, lk, tl, ok, ni⟩ := exc_obj hx
 have T0 : OwnTail s.heap bmV bm := PySem.W.tail_of_in I.kIn tl
 refine wpAny_Raise_call_subT (C := C) (nm := nm) (q := qn) (N := N) (bs := bs) (bm := bm) (hdct := hdc) (sn := sn) (sub := sub) (ab := ab) (col := col) (dd := dd) (k0 := k0) (k1 := k1) (k2 := k2) (k3 := k3) (k5 := k5)
  PySem.F.excBase_ValueError (mN := s.heap.nsMap N) (T0.hasType PySem.F.excBase_ValueError.hasBase) (I.ok.hd hc) hpl (PySem.W.nsMap_none_of_in I.kIn ok ni) (ld_glob I hg hm ⟨rfl, ?_⟩ hd)
 have ns0 : s.heap.Ns N (s.heap.nsMap N) := .of_isNs (PySem.W.isNs_of_in I.kIn ok)
 have h2 := ha cpos pins s σ H _ I h
 rw [he] at h2 ⊢
 refine Calls.evalArgs_plain (wpAny_mono h2 (fun vs s2 z => ?_) fun _ _ y => y)
 obtain ⟨xs, H1, I1, r1, q1, q2⟩ := z
 have eN : s.heap.nsMap N = s2.heap.nsMap N := by
  obtain ⟨o, es, ep, ho, hdt, _⟩ := id ns0
  unfold PySem.W.nsOkIn at ok
  split at ok
  ·rename_i z
   unfold Heap.nsMap
   rw [I.kIn _ _ z, I1.kIn _ _ z]
  ·cases ok
 refine ⟨rfl, by rw [← r1.length]; exact q1, I1.kIn _ _ lk, ?_, PySem.W.tail_of_in I1.kIn tl, fun h' a hm' => hr pins σ H1 s2 h' a C vs I1 hm' q2⟩
 rw [eN]; exact .of_isNs (PySem.W.isNs_of_in I1.kIn ok)
end L2
namespace L2
open PySem PySem.Spec PyProof.Rows
def IsExc (a C : Addr) : HO := .ext fun h => ∃ oe vs, h.get? a = some oe ∧ oe.cls = .ref C ∧ oe.data = .fields vs
section
variable {X : Cx} {pins : List (Addr × Obj)} {σ : St} {H H' : Hp} {s : Shared} {a : Addr}
end
structure Catches (K : PySem.W.Frag) (C D : Addr) : Prop where
 c : PySem.W.excIn K C bmV "ValueError.__new__" = true
 d : PySem.W.excIn K D bmV "ValueError.__new__" = true
 base : PySem.W.mroIn K D (.type "BaseException") = some true
 sub : PySem.W.mroIn K C (.ref D) = some true
section
variable {X : Cx} {pins : List (Addr × Obj)} {σ : St} {H H' : Hp} {s s2 : Shared} {a t C : Addr} {B : Heap}
end
section
variable {X : Cx} {k : Nat} {f : Addr} {fd : FuncData} {ps : List Str} {sp : Sp} {x : Str} {p pos : Pos} {e : Expr} {es : List Expr} {t : TA}
end
def tTry (K : PySem.W.Frag) (Dc : Addr) (t : XK -> TS) (th : TS) : TS := fun D σ H => t (fun c _ H1 => ∃ C, c = .ref C ∧ Catches K C Dc ∧ ∀ a, H1 a = none -> th D σ (upd H1 a (IsExc a C))) D σ H
theorem a_try {K : PySem.W.Frag} {Dc : Addr} {t : XK -> TS} {th : TS} {D : Ends} {σ : St} {H : Hp} : tTry K Dc t th D σ H = t (fun c _ H1 => ∃ C, c = .ref C ∧ Catches K C Dc ∧ ∀ a, H1 a = none -> th D σ (upd H1 a (IsExc a C))) D σ H := rfl
section
variable {X : Cx} {st b0 : Stmt} {suite : List Stmt} {t : XK -> TS} {th : TS} {x n : Str} {Dc : Addr} {np hpos pos : Pos}
end
def Ends.drop (D : Ends) (i : Nat) : Ends := { nx := fun σ H => D.nx (σ.set i none) H, rt := D.rt, bk := fun σ H => D.bk (σ.set i none) H, ct := fun σ H => D.ct (σ.set i none) H }
def tTryAs (K : PySem.W.Frag) (Dc : Addr) (i : Nat) (t : XK -> TS) (th : TS) : TS := fun D σ H => t (fun c _ H1 => ∃ C, c = .ref C ∧ Catches K C Dc ∧ ∀ a, H1 a = none -> th (D.drop i) (σ.set i (some (.ref a))) (upd H1 a (IsExc a C))) D σ H
theorem a_tryAs {K : PySem.W.Frag} {Dc : Addr} {i : Nat} {t : XK -> TS} {th : TS} {D : Ends} {σ : St} {H : Hp} : tTryAs K Dc i t th D σ H = t (fun c _ H1 => ∃ C, c = .ref C ∧ Catches K C Dc ∧ ∀ a, H1 a = none -> th (D.drop i) (σ.set i (some (.ref a))) (upd H1 a (IsExc a C))) D σ H := rfl
theorem a_drop_nx {D : Ends} {i : Nat} {σ : St} {H : Hp} : (D.drop i).nx σ H = D.nx (σ.set i none) H := rfl
section
variable {X : Cx} {st b0 : Stmt} {suite : List Stmt} {t : XK -> TS} {th : TS} {x n : Str} {Dc : Addr} {np hpos pos : Pos} {i : Nat}
end
end L2
namespace L2
open PySem PySem.Spec PySem.W PyProof.Rows Builtin Builtin.ObjectAttr Builtin.Getset_descriptor
section
variable {prog : Program} {w : World} {A : Around} {E : Value -> Shared -> Prop} {s : Shared} {K : PySem.W.Frag} {x C : Addr}
end
end L2
namespace L2
open PySem PySem.Spec PyProof.Rows
section
variable {X : Cx} {e st : Expr} {te : TE} {lo hi : Option Expr} {tl th ts : TO} {pos p2 : Pos}
end
end L2
namespace L2
open PySem PySem.Spec PyProof.Rows
theorem compLoop_if {prog : Program} {w : World} {A : Around} {R : Result -> Shared -> Prop} {s : Shared} {elt target iter cnd : Expr} {scope : Scope} {pos : Pos} {it acc : Value} {env : Env} (I : Nat -> Shared -> Prop)
  (turn : ∀ n s (E : Value -> Shared -> Prop), I n s -> wpAny (model prog w) A (pyNext it) (fun r s₁ => match r with
   | none => R (.ok .next) s₁
   | some v => wpAny (model prog w) A (letOwnedTupleGo target it v) (fun _ s₂ => wpAny (model prog w) A (assign target env v) (fun _ s₃ => wpAny (model prog w) A (isTrue cnd env (eval cnd env)) (fun b s₄ => if b = true then wpAny (model prog w) A (eval elt env) (fun x s₅ =>
     wpAny (model prog w) A (call (.builtin "list.append") [acc, x]) (fun _ s₆ => ∃ m, m < n ∧ I m s₆) E s₅) E s₄ else ∃ m, m < n ∧ I m s₄) E s₃) E s₂) E s₁) E s)
  (n : Nat) (h : I n s) :
  codeAny (model prog w) A (.compLoop (.ListComp elt [⟨target, iter, [cnd], 0⟩] scope pos) 0 it acc env) R s := by
 refine codeAny_loop rfl I (fun n s hI => ?_) n h
 show wpAny _ _ ((compTurn (.ListComp elt [⟨target, iter, [cnd], 0⟩] scope pos) 0 it acc env).onRaise (fun x => do noteFrame x env; theTreesLotGoes x)) _ _ s
 refine wpAny_noted ?_
 unfold compTurn
 dsimp only [List.getElem?_cons_zero]
 refine wpAny_bind (wpAny_standAt (wpAny_bind (wpAny_mono (turn n s _ hI) (fun r s₁ h₁ => ?_) fun _ _ h' => h')))
 cases r with
 | none => exact wpAny_pure h₁
 | some v =>
  refine wpAny_bind (thn h₁ fun _ s₂ h₂ => wpAny_bind (thn h₂ fun _ s₃ h₃ => wpAny_bind ?_))
  rw [List.forIn_cons, if_pos rfl]
  refine wpAny_bind (wpAny_bind (thn h₃ fun b s₄ h₄ => wpAny_pure ?_))
  dsimp only
  rw [List.forIn_nil]
  refine wpAny_pure ?_
  cases b with
  | true =>
   rw [if_pos rfl] at h₄ ⊢
   exact wpAny_bind (wpAny_bind (thn h₄ fun x s₅ h₅ => wpAny_bind (thn h₅ fun _ s₆ h₆ => wpAny_pure (wpAny_pure ⟨rfl, h₆⟩))))
  | false =>
   rw [if_neg (by decide)] at h₄ ⊢
   exact wpAny_pure ⟨rfl, h₄⟩
section
variable {X : Cx} {elt iter cnd : Expr} {x : Str} {px : Pos} {fv : List (Nat × Str)} {scope : Scope} {cl : List (Str × Addr)} {pos : Pos} {te : TE} {tt : TT} {wi : TI}
def CLoopIf (J : It) (fv : List (Nat × Str)) (tt : TT) (te : TE) (Q : VK) (σ : St) (H1 : Hp) (D : Addr) : Prop := ∃ W : Nat -> Nat -> Hp -> Prop, (∃ m, W 0 m (upd H1 D (.lst []))) ∧ ∀ i m H, W i m H ->
 (J.stop i H ∧ Q (.ref D) H) ∨ (J.go i H ∧ ∃ N : Hp -> Prop, (∀ H', N H' -> ∃ m', m' < m ∧ W (i + 1) m' H') ∧ ∀ v H', J.yld i H v H' -> tt (bst fv σ (some v)) H' fun b Hb => if b = true then te (bst fv σ (some v)) Hb fun y H2 => ∃ ys, H2 D = some (.lst ys) ∧ ys.length < sizeLine ∧ N (upd H2 D (.lst (ys ++ [y]))) else N Hb)
def tCompIf (fv : List (Nat × Str)) (wi : TI) (tt : TT) (te : TE) : TE := fun σ H Q => wi σ H fun J H1 => ∀ D, H1 D = none -> CLoopIf J fv tt te Q σ H1 D
end
theorem a_compIf {fv : List (Nat × Str)} {wi : TI} {tt : TT} {te : TE} {σ : St} {H : Hp} {Q : VK} : tCompIf fv wi tt te σ H Q = wi σ H fun J H1 => ∀ D, H1 D = none -> CLoopIf J fv tt te Q σ H1 D := rfl
end L2
namespace L2
open PySem PySem.Spec PyProof.Rows
theorem ints_are : ∀ {ns : List Int} {us : List Value}, Vals (ns.map V.int) us -> IntsAre us ns
 | [], us, h => by
  cases h; exact .nil
 | n :: ns, us, h => by
  cases h with
  | cons r rr =>
   obtain ⟨t, rfl⟩ := r
   exact .cons n t (ints_are rr)
theorem at_best {zs : Array (Int × Tok)} {ns : List Int} (e : ns = zs.toList.map (·.1)) {j : Nat} (hj : j < zs.size) : numAt zs j ∈ ns := by
 rw [e, numAt_eq]
 exact PySem.getD_mem (by simpa using hj)
theorem of_best {zs : Array (Int × Tok)} {ns : List Int} (e : ns = zs.toList.map (·.1)) {x : Int} (hx : x ∈ ns) : ∃ j, j < zs.size ∧ numAt zs j = x := by
 rw [e] at hx
 obtain ⟨i, hi, h⟩ := mem_getD hx
 exact ⟨i, by simpa using hi, by rw [numAt_eq]; exact h⟩
theorem call_minL {X : Cx} (hc : X.calm = true) : CallR X (.builtin "min") (fun xs H Q => ∃ p ns, xs = [.ref p] ∧ SqL X.K H p (ns.map V.int) ∧ ns ≠ [] ∧ ∀ M, M ∈ ns -> (∀ a, a ∈ ns -> M <= a) -> Q (.int M) H) := by
 intro pins s σ H xs us Q I r h
 obtain ⟨p, ns, rfl, hq, hne, q⟩ := h
 obtain ⟨u, rfl, rx⟩ := vals1 r
 cases rx
 obtain ⟨its, r', pl, hz⟩ := I.list hq
 have hi := ints_are r'
 obtain ⟨zs, e⟩ := hi.allInts.items
 have hns : ns = zs.toList.map (·.1) := by rw [← hi.numsOf, ← nums_intItems, ← e]
 have hsz : 0 < zs.size := by
  have h3 := List.length_pos_iff.mpr hne
  rw [hns, List.length_map, Array.length_toList] at h3; exact h3
 have hl := pl.isList
 rw [e] at hl
 refine min_intList (I.ok.hd hc) hl hsz fun v h' tk hv hk => ?_
 obtain ⟨tv, rfl⟩ := intItems_at hv
 obtain ⟨g1, g2⟩ := argBest_lt (numAt zs) (zs.size - 1)
 refine ⟨.int _, H, I.kept hk, ⟨tv, rfl⟩, q _ (at_best hns (by omega)) fun x hx => ?_⟩
 obtain ⟨i, hi, rfl⟩ := of_best hns hx
 exact g2 i (by omega)
theorem call_maxL {X : Cx} (hc : X.calm = true) : CallR X (.builtin "max") (fun xs H Q => ∃ p ns, xs = [.ref p] ∧ SqL X.K H p (ns.map V.int) ∧ ns ≠ [] ∧ ∀ M, M ∈ ns -> (∀ a, a ∈ ns -> a <= M) -> Q (.int M) H) := by
 intro pins s σ H xs us Q I r h
 obtain ⟨p, ns, rfl, hq, hne, q⟩ := h
 obtain ⟨u, rfl, rx⟩ := vals1 r
 cases rx
 obtain ⟨its, r', pl, hz⟩ := I.list hq
 have hi := ints_are r'
 obtain ⟨zs, e⟩ := hi.allInts.items
 have hns : ns = zs.toList.map (·.1) := by rw [← hi.numsOf, ← nums_intItems, ← e]
 have hsz : 0 < zs.size := by
  have h3 := List.length_pos_iff.mpr hne
  rw [hns, List.length_map, Array.length_toList] at h3; exact h3
 have hl := pl.isList
 rw [e] at hl
 refine max_intList (I.ok.hd hc) hl hsz fun v h' tk hv hk => ?_
 obtain ⟨tv, rfl⟩ := intItems_at hv
 obtain ⟨g1, g2⟩ := argBest_gt (numAt zs) (zs.size - 1)
 refine ⟨.int _, H, I.kept hk, ⟨tv, rfl⟩, q _ (at_best hns (by omega)) fun x hx => ?_⟩
 obtain ⟨i, hi, rfl⟩ := of_best hns hx
 exact g2 i (by omega)
def tFst (x : Str) (te : TE) : TE := fun σ H Q => (Str.empty ++ x).length <= sizeLine ∧ te σ H fun v H1 => ∃ i, v = .int i ∧ i.natAbs.log2 < 1920 ∧ (Str.empty ++ x ++ Str.ofString (toString i)).length <= sizeLine ∧ Q (.str (Str.empty ++ x ++ Str.ofString (toString i))) H1
theorem a_fst {x : Str} {te : TE} {σ : St} {H : Hp} {Q : VK} : tFst x te σ H Q = ((Str.empty ++ x).length <= sizeLine ∧ te σ H fun v H1 => ∃ i, v = .int i ∧ i.natAbs.log2 < 1920 ∧ (Str.empty ++ x ++ Str.ofString (toString i)).length <= sizeLine ∧ Q (.str (Str.empty ++ x ++ Str.ofString (toString i))) H1) := rfl
end L2
namespace L2
open PySem PySem.Spec PyProof.Rows
@[reducible] def blk2 (X : Cx) (x z : Str) (fv : List (Nat × Str)) (scope : Scope) (cl : List (Str × Addr)) (C : Addr) (s : Shared) (H : Hp) (fp : List Addr) : Cx where
 prog := X.prog
 w := X.w
 K := X.K
 mg := X.mg
 base := X.base
 A := X.A
 N := x :: z :: fv.map (·.2)
 s₀ := s
 H₀ := H
 env := compEnvC scope cl C X.env
 outer := X.stack
 stack := X.stack
 ex := fp
 fn := fun _ => false
 calm := X.calm
 pn := []
 xe := fun _ _ => False
def bst2 (fv : List (Nat × Str)) (σ : St) (v v2 : Option V) : St := v :: v2 :: fv.map fun p => (σ[p.1]?).getD none
structure BlkOk2 (X : Cx) (x z : Str) (fv : List (Nat × Str)) (scope : Scope) (cl : List (Str × Addr)) : Prop where
 clos : closureFor scope X.env = pure cl
 nocell : ∀ y ∈ scope.names, y.2 ≠ .cell
 kind : scope.kind = .function
 names : ∀ y ∈ scope.names, y.2 = .local -> scope.names.lookup y.1 = some .local
 here : scope.names.lookup x = some .local
 here2 : scope.names.lookup z = some .local
 nd : (x :: z :: fv.map (·.2)).Nodup
 sub : ∀ y c, cl.lookup y = some c -> X.env.cells.lookup y = some c
 has : ∀ y, ((relabel scope X.env).names.lookup y = some .cell ∨ (relabel scope X.env).names.lookup y = some .free) -> ∃ c, cl.lookup y = some c
 fvs : ∀ p ∈ fv, X.N[p.1]? = some p.2 ∧ (X.env.scope.names.lookup p.2 = some .cell ∨ X.env.scope.names.lookup p.2 = some .free) ∧
  ((relabel scope X.env).names.lookup p.2 = some .cell ∨ (relabel scope X.env).names.lookup p.2 = some .free) ∧ ∃ c, cl.lookup p.2 = some c
section
variable {X : Cx} {elt iter : Expr} {x z : Str} {px pz : Pos} {tk : Nat} {tpos : Pos} {fv : List (Nat × Str)} {scope : Scope} {cl : List (Str × Addr)} {pos : Pos} {te : TE} {wi : TI}
theorem blk_ok2 {pins : List (Addr × Obj)} {σ : St} {H : Hp} {s : Shared} {fp : List Addr} {C : Addr} (B : BlkOk2 X x z fv scope cl) (I : Inv X pins σ H s) (hf : ∀ b ∈ fp, FpOk X pins H b) (hC : s.heap.objs.size <= C) (hfC : ∀ b ∈ fp, b ≠ C) :
  (blk2 X x z fv scope cl C s H fp).Ok where
 mod := I.ok.mod
 kind := B.kind
 glob := I.ok.glob
 blt := I.ok.blt
 above := hC
 inj := fun y y' c h1 h2 => I.ok.inj y y' c (B.sub y c h1) (B.sub y' c h2)
 has := fun y hy => B.has y hy
 cab := fun y c h => nomatch h
 hd := I.ok.hd
 frames := I.ok.frames
 stk := .inl rfl
 exf := fun b hb => ⟨hfC b hb, fun y c e => (hf b hb).2.2.2.2.1 y c (B.sub y c e)⟩
 bs := I.bs
 bsz := Nat.le_trans I.ok.bsz I.sz
 noex := fun b o e hb => by
  obtain ⟨_, _, _, f3, _⟩ := hf b hb
  rcases f3 with z' | z'
  ·exact I.ok.noex b o e z'
  ·exact absurd (Nat.lt_of_lt_of_le (Heap.lt_size e) (Nat.le_trans I.ok.bsz z')) (Nat.lt_irrefl _)
 exfs := fun b hb hs => by
  obtain ⟨_, f1, f2, _⟩ := hf b hb
  rcases List.mem_cons.mp (I.stkSub b hs) with z | z
  ·exact f1 z
  ·exact f2 z
 funs := I.stack
 frf := I.stkFree
theorem bst_get2 {fv : List (Nat × Str)} {σ : St} {o o2 : Option V} {j : Nat} {y : Str} {v : V} (h1 : (x :: z :: fv.map (·.2))[j + 2]? = some y) (h2 : (bst2 fv σ o o2)[j + 2]? = some (some v)) : ∃ p ∈ fv, p.2 = y ∧ σ[p.1]? = some (some v) := by
 have e1 : (fv.map (·.2))[j]? = some y := by simpa using h1
 have e2 : (fv.map fun p => (σ[p.1]?).getD none)[j]? = some (some v) := by simpa [bst2] using h2
 rw [List.getElem?_map] at e1 e2
 cases q : fv[j]? with
 | none => rw [q] at e1; cases e1
 | some p =>
  rw [q] at e1 e2
  refine ⟨p, List.mem_of_getElem? q, Option.some.inj e1, ?_⟩
  have e3 : (σ[p.1]?).getD none = some v := Option.some.inj e2
  cases r : σ[p.1]? with
  | none => rw [r] at e3; cases e3
  | some w => rw [r] at e3; exact congrArg some e3
theorem blk_start2 {pins : List (Addr × Obj)} {σ : St} {H : Hp} {s s4 : Shared} {fp : List Addr} {C : Addr} {m : Str -> Option Value} (B : BlkOk2 X x z fv scope cl) (I : Inv X pins σ H s) (hf : ∀ b ∈ fp, FpOk X pins H b) (hC : C = s.heap.objs.size)
  (hfC : ∀ b ∈ fp, b ≠ C) (os : s4.os = s.os) (gens : s4.gens = s.gens) (keep : ∀ b o, s.heap.get? b = some o -> s4.heap.get? b = some o) (ns : s4.heap.Ns C m) :
  Inv (blk2 X x z fv scope cl C s H fp) [] (bst2 fv σ none none) H s4 := by
 subst hC
 refine ⟨blk_ok2 B I hf (Nat.le_refl _) hfC, os, by rw [gens]; exact I.bare, Un.kept keep, ⟨m, ns, fun i y v h1 h2 h3 => ?_⟩, fun y c e => ?_, I.hok.fresh (Nat.le_refl _), fun y c e => I.freeC y c (B.sub y c e), fun p hp => absurd (show p ∈ ([] : List (Addr × Obj)) from hp) (by simp), I.hok.kept keep, by simp [bst2]⟩
 ·cases i with
  | zero => simp [bst2] at h2
  | succ j =>
   cases j with
   | zero => simp [bst2] at h2
   | succ j =>
   obtain ⟨p, hp, rfl, hv⟩ := bst_get2 h1 h2
   obtain ⟨hN, hk, hk2, c, hc⟩ := B.fvs p hp
   obtain ⟨m0, _, hl⟩ := I.loc
   have vis : Vis X.env.scope p.2 := hk.elim (fun z => .inr (.inl z)) fun z => .inr (.inr z)
   obtain ⟨u, r, l⟩ := hl p.1 p.2 v hN hv vis
   refine ⟨u, r, .inr ⟨hk2, c, hc, ?_⟩⟩
   rcases l with ⟨z, _⟩ | ⟨_, c', hc', o, ho, hd⟩
   ·have z' : X.env.scope.names.lookup p.2 = some .local := z
    rcases hk with k | k <;> (rw [k] at z'; cases z')
   ·have := B.sub p.2 c hc
    rw [hc'] at this; cases this
    exact ⟨o, keep _ o ho, hd⟩
 ·obtain ⟨v, o, ho, hd⟩ := I.cell y c (B.sub y c e)
  exact ⟨v, o, keep c o ho, hd⟩
theorem blk_store2 {s : Shared} {H0 : Hp} {fp : List Addr} {C : Addr} (hc : X.calm = true) (B : BlkOk2 X x z fv scope cl) :
  PG (blk2 X x z fv scope cl C s H0 fp) (.Tuple [.Name x px, .Name z pz] tk tpos) (gTup X.K 2 (gCons (gName 0) (gCons (gName 1) gNil))) := by
 have h1 : (relabel scope X.env).names.lookup x = some .local := lookup_relabel_local B.here
 have h2 : (relabel scope X.env).names.lookup z = some .local := lookup_relabel_local B.here2
 exact pg_tup (X := blk2 X x z fv scope cl C s H0 fp) hc (pgs_cons (pg_name (i := 0) B.nd rfl (.inl h1) (.inr h1)) (pgs_cons (pg_name (i := 1) B.nd rfl (.inl h2) (.inr h2)) pgs_nil))
def CLoop2 (K : PySem.W.Frag) (J : It) (fv : List (Nat × Str)) (te : TE) (Q : VK) (σ : St) (H1 : Hp) (D : Addr) : Prop := ∃ W : Nat -> Nat -> Hp -> Prop, (∃ m, W 0 m (upd H1 D (.lst []))) ∧ ∀ i m H, W i m H ->
 (J.stop i H ∧ Q (.ref D) H) ∨ (J.go i H ∧ ∃ N : Hp -> Prop, (∀ H', N H' -> ∃ m', m' < m ∧ W (i + 1) m' H') ∧ ∀ v H', J.yld i H v H' -> ∃ q x1 x2, v = .ref q ∧ SqT K H' q [x1, x2] ∧ te (bst2 fv σ (some x1) (some x2)) H' fun y H2 => ∃ ys, H2 D = some (.lst ys) ∧ ys.length < sizeLine ∧ N (upd H2 D (.lst (ys ++ [y]))))
def tComp2 (K : PySem.W.Frag) (fv : List (Nat × Str)) (wi : TI) (te : TE) : TE := fun σ H Q => wi σ H fun J H1 => ∀ D, H1 D = none -> CLoop2 K J fv te Q σ H1 D
theorem a_tComp2 {K : PySem.W.Frag} {σ : St} {H : Hp} {Q : VK} : tComp2 K fv wi te σ H Q = wi σ H fun J H1 => ∀ D, H1 D = none -> CLoop2 K J fv te Q σ H1 D := rfl
def FvOk2 (X : Cx) (scope : Scope) (cl : List (Str × Addr)) (fv : List (Nat × Str)) : Prop := ∀ p ∈ fv, X.N[p.1]? = some p.2 ∧ (X.env.scope.names.lookup p.2 = some .cell ∨ X.env.scope.names.lookup p.2 = some .free) ∧
  ((relabel scope X.env).names.lookup p.2 = some .cell ∨ (relabel scope X.env).names.lookup p.2 = some .free) ∧ ∃ c, cl.lookup p.2 = some c
theorem fv_nil2 {X : Cx} {scope : Scope} {cl : List (Str × Addr)} : FvOk2 X scope cl [] := fun _ h => nomatch h
theorem blkok2 {X : Cx} {x z : Str} {fv : List (Nat × Str)} {scope : Scope} {cl : List (Str × Addr)} (clos : closureFor scope X.env = pure cl) (sub : ∀ y c, cl.lookup y = some c -> X.env.cells.lookup y = some c) (fvs : FvOk2 X scope cl fv)
  (nd : (x :: z :: fv.map (·.2)).Nodup := by decide) (kind : scope.kind = .function := by rfl) (here : scope.names.lookup x = some .local := by rfl) (here2 : scope.names.lookup z = some .local := by rfl) (nocell : ∀ y ∈ scope.names, y.2 ≠ .cell := by decide +kernel)
  (names : ∀ y ∈ scope.names, y.2 = .local -> scope.names.lookup y.1 = some .local := by decide +kernel)
  (has : ((relabel scope X.env).names.all fun p => (p.2 != .cell && p.2 != .free) || (cl.lookup p.1).isSome) = true := by rfl) : BlkOk2 X x z fv scope cl :=
 ⟨clos, nocell, kind, names, here, here2, nd, sub, has_of has, fvs⟩
end
def Itz (K : PySem.W.Frag) (a b : Addr) : It :=
 ⟨fun i H => ∃ xs ys x y, SqL K H a xs ∧ SqL K H b ys ∧ xs[i]? = some x ∧ ys[i]? = some y, fun i H v H' => ∃ p x y, H p = none ∧ v = .ref p ∧ H' = upd H p (.tup [x, y]) ∧ (∀ xs, SqL K H a xs -> xs[i]? = some x) ∧ ∀ ys, SqL K H b ys -> ys[i]? = some y,
  fun i H => ∃ xs ys, SqL K H a xs ∧ SqL K H b ys ∧ (xs.length <= i ∨ ys.length <= i)⟩
section
variable {X : Cx}
def iZip (K : PySem.W.Frag) (ta : TA) : TI := fun σ H R => ta σ H fun vs H1 => ∃ a b xs ys, vs = [.ref a, .ref b] ∧ SqL K H1 a xs ∧ SqL K H1 b ys ∧ R (Itz K a b) H1
end
theorem a_izip {K : PySem.W.Frag} {ta : TA} {σ : St} {H : Hp} {R : It -> Hp -> Prop} : iZip K ta σ H R = ta σ H fun vs H1 => ∃ a b xs ys, vs = [.ref a, .ref b] ∧ SqL K H1 a xs ∧ SqL K H1 b ys ∧ R (Itz K a b) H1 := rfl
end L2
namespace L2
open PySem PySem.Spec PyProof.Rows
section
variable {X : Cx}
def ipC (C : Int -> Int -> Prop) (f : Int -> Int -> Int) : TIp := fun x y H Q => ∃ i j, x = .int i ∧ y = .int j ∧ C i j ∧ Q (.int (f i j)) H
theorem a_ipC {C : Int -> Int -> Prop} {f : Int -> Int -> Int} {x y : V} {H : Hp} {Q : VK} : ipC C f x y H Q = ∃ i j, x = .int i ∧ y = .int j ∧ C i j ∧ Q (.int (f i j)) H := rfl
theorem ip_mulZ : PIp X .Mult (ipC IntMulOk fun i j => i * j) := by
 intro pins s σ H x y v u Q I r1 r2 h
 obtain ⟨i, j, e1, e2, hm, q⟩ := h
 subst e1; subst e2
 obtain ⟨t, rfl⟩ := r1
 obtain ⟨t', rfl⟩ := r2
 exact imul_int ⟨.int _, H, I.tok _, ⟨_, rfl⟩, q⟩ hm
theorem call_sumL (hc : X.calm = true) : CallR X (.builtin "sum") (fun xs H Q => ∃ (p : Addr) (ns : List Int), xs = [.ref p] ∧ SqL X.K H p (ns.map V.int) ∧ Q (.int ns.sum) H) := by
 intro pins s σ H xs us Q I r h
 obtain ⟨p, ns, rfl, hq, q⟩ := h
 obtain ⟨u, rfl, rx⟩ := vals1 r
 cases rx
 obtain ⟨its, r', pl, hz⟩ := I.list hq
 have hi := ints_are r'
 obtain ⟨zs, e⟩ := hi.allInts.items
 have hns : ns = zs.toList.map (·.1) := by rw [← hi.numsOf, ← nums_intItems, ← e]
 have hl := pl.isList
 rw [e] at hl
 refine sum_intListG (I.ok.hd hc) hl fun h' tk t' hk => ?_
 have es : preSum (numAt zs) zs.size = ns.sum := by rw [preSum_eq, hns, List.take_of_length_le (by simp)]
 rw [es]
 exact ⟨.int _, H, I.kept hk, ⟨t', rfl⟩, q⟩
end
section
variable {X : Cx} {elt iter cnd : Expr} {x : Str} {px : Pos} {fv : List (Nat × Str)} {scope : Scope} {cl : List (Str × Addr)} {pos : Pos} {te : TE} {tt : TT} {wi : TI}
end
end L2
namespace L2
open PySem PySem.Spec PyProof.Rows
end L2
namespace L2
open PySem PySem.Spec PyProof.Rows
section
variable {prog : Program} {w : World} {A : Around} {R : Result -> Shared -> Prop} {I S : Addr} {fp wr : List Addr} {n : Nat} {P : Nat -> Value -> Prop} {St : Nat -> Heap -> Prop} {bt : Nat -> Nat -> Bool} {d : List (Str × Value)}
theorem maxD_name : (toString "max" ++ toString ".loop" : String) = "max.loop" := by decide
theorem maxD_go (W : Walks prog w A.in1 I fp wr n P St) (cm : CmpOf prog w A.in1 .Gt P bt) (nS : S ∉ fp) : ∀ (m i : Nat) (z : Shared) (u : Value) (cap : Nat), n = i + 1 + m -> St (i + 1) z.heap -> P (argBest bt i) u ->
  z.heap.get? S = some { cls := .type "list", dict := none, data := .seq #[u, u] cap, slots := #[] } ->
  (∀ v g tk, P (argBest bt (n - 1)) v -> (∀ b o, b ∉ wr -> b ≠ S -> z.heap.get? b = some o -> g.get? b = some o) -> R (.ok (.ret v)) { z with heap := g, toks := tk }) -> codeAny (model prog w) A (.builtin "max.loop" ⟨[.ref I, .none, .ref S], d⟩) R z
 | 0, i, z, u, cap, hn, st, hp, eS, q => by
  have nw : S ∉ wr := fun h => nS (W.sub _ h)
  refine codeAny_builtin PySem.F.entry_max_loop ?_
  rw [Around.under_plainId PySem.F.plain_max_loop _]
  show wpAny _ A.in1 (seqItems? (.ref S) >>= _) _ _ z
  refine wpAny_bind (wpAny_seqItems eS rfl ?_)
  show wpAny _ A.in1 (tryCatch (pyNext (.ref I)) _ >>= _) _ _ z
  have hin : n = i + 1 := hn
  refine wpAny_bind (wpAny_tryCatch (W.done z _ _ (by rw [hin]; exact st) fun g tk kp => ?_))
  have eS' := kp S _ nw eS
  show wpAny _ A.in1 (updateSeq S (fun _ => #[]) >>= _) _ _ _
  refine wpAny_bind (wpAny_updateSeq eS' rfl (wpAny_bind (wpAny_letGo (wpAny_pure (q u _ tk (by rw [hin]; exact hp) fun b o nb bS e => ?_)))))
  exact (Heap.get?_update_other _ _ (Ne.symm bS)).trans (kp b o nb e)
 | m + 1, i, z, u, cap, hn, st, hp, eS, q => by
  have nw : S ∉ wr := fun h => nS (W.sub _ h)
  refine codeAny_builtin PySem.F.entry_max_loop ?_
  rw [Around.under_plainId PySem.F.plain_max_loop _]
  show wpAny _ A.in1 (seqItems? (.ref S) >>= _) _ _ z
  refine wpAny_bind (wpAny_seqItems eS rfl ?_)
  show wpAny _ A.in1 (tryCatch (pyNext (.ref I)) _ >>= _) _ _ z
  refine wpAny_bind (wpAny_tryCatch (W.item (i + 1) z _ _ (by omega) st fun v g tk pv st' kp => ?_))
  have eS' := kp S _ nw eS
  show wpAny _ A.in1 (tryCatch (holding [v, v] (richCompare .Gt v u >>= _)) _ >>= _) _ _ _
  refine wpAny_bind (wpAny_tryCatch (wpAny_holding (wpAny_bind (cm (i + 1) (argBest bt i) v u _ _ _ pv hp (wpAny_bind (wpAny_holding (wpAny_truthy_bool (wpAny_bind (wpAny_letGo (wpAny_pure ?_))))))))))
  cases hb : bt (i + 1) (argBest bt i) with
  | true =>
   simp only [if_true]
   refine wpAny_bind (wpAny_updateSeq eS' rfl (wpAny_bind (wpAny_letGo ?_)))
   rw [maxD_name]
   refine wpAny_pure ⟨plainId_quiet PySem.F.plain_max_loop _, maxD_go W cm nS m (i + 1) _ v _ (by omega) (W.frame _ _ _ st' fun b bf o e => (Heap.get?_update_other _ _ (fun h : S = b => nS (h ▸ bf))).trans e) (by simp only [argBest, hb, if_true]; exact pv) (Heap.get?_update_self _ eS' rfl) fun v' g' tk' pv' kp' => ?_⟩
   exact q v' g' tk' pv' fun b o nb bS e => kp' b o nb bS ((Heap.get?_update_other _ _ (Ne.symm bS)).trans (kp b o nb e))
  | false =>
   simp only [Bool.false_eq_true, if_false]
   refine wpAny_bind (wpAny_letGo ?_)
   rw [maxD_name]
   exact wpAny_pure ⟨plainId_quiet PySem.F.plain_max_loop _, maxD_go W cm nS m (i + 1) _ u cap (by omega) st' (by simp only [argBest, hb, Bool.false_eq_true, if_false]; exact hp) eS' fun v' g' tk' pv' kp' => q v' g' tk' pv' fun b o nb bS e => kp' b o nb bS (kp b o nb e)⟩
theorem maxD_first (W : Walks prog w A.in1 I fp wr n P St) (cm : CmpOf prog w A.in1 .Gt P bt) (nS : S ∉ fp) {z : Shared} {cap : Nat} {x : Value} {k : Str} (st : St 0 z.heap) (eS : z.heap.get? S = some { cls := .type "list", dict := none, data := .seq #[] cap, slots := #[] })
  (q : ∀ v g tk, (n = 0 ∧ v = x) ∨ (0 < n ∧ P (argBest bt (n - 1)) v) -> (∀ b o, b ∉ wr -> b ≠ S -> z.heap.get? b = some o -> g.get? b = some o) -> R (.ok (.ret v)) { z with heap := g, toks := tk }) : codeAny (model prog w) A (.builtin "max.loop" ⟨[.ref I, .none, .ref S], [(k, x)]⟩) R z := by
 have nw : S ∉ wr := fun h => nS (W.sub _ h)
 refine codeAny_builtin PySem.F.entry_max_loop ?_
 rw [Around.under_plainId PySem.F.plain_max_loop _]
 show wpAny _ A.in1 (seqItems? (.ref S) >>= _) _ _ z
 refine wpAny_bind (wpAny_seqItems eS rfl ?_)
 show wpAny _ A.in1 (tryCatch (pyNext (.ref I)) _ >>= _) _ _ z
 by_cases n0 : n = 0
 ·refine wpAny_bind (wpAny_tryCatch (W.done z _ _ (by rw [n0]; exact st) fun g tk kp => ?_))
  show wpAny _ A.in1 (rule _ >>= _) _ _ _
  refine wpAny_bind (wpAny_rule ?_)
  exact wpAny_pure (q x g tk (.inl ⟨n0, rfl⟩) fun b o nb bS e => kp b o nb e)
 ·refine wpAny_bind (wpAny_tryCatch (W.item 0 z _ _ (by omega) st fun v g tk pv st' kp => ?_))
  have eS' := kp S _ nw eS
  show wpAny _ A.in1 (updateSeq S (fun _ => #[v, v]) >>= _) _ _ _
  refine wpAny_bind (wpAny_updateSeq eS' rfl ?_)
  rw [maxD_name]
  refine wpAny_pure ⟨plainId_quiet PySem.F.plain_max_loop _, maxD_go W cm nS (n - 1) 0 _ v _ (by omega) (W.frame _ _ _ st' fun b bf o e => (Heap.get?_update_other _ _ (fun h : S = b => nS (h ▸ bf))).trans e) pv (Heap.get?_update_self _ eS' rfl) fun v' g' tk' pv' kp' => ?_⟩
  exact q v' g' tk' (.inr ⟨by omega, pv'⟩) fun b o nb bS e => kp' b o nb bS ((Heap.get?_update_other _ _ (Ne.symm bS)).trans (kp b o nb e))
end
theorem maxD_args (a v : Value) : argsOk "max" ⟨[a], [(Str.ofString "default", v)]⟩ := by unfold argsOk; kernel_rfl
theorem maxD_call {prog : Program} {w : World} {A : Around} {E : Value -> Shared -> Prop} {s : Shared} {l : Addr} {xs : Array (Int × Tok)} {x : Value} {Q : Value -> Shared -> Prop} (hh : A.handled = none) (hl : s.heap.IsList l (intItems xs))
  (q : ∀ v h' tk, (xs.size = 0 ∧ v = x) ∨ (0 < xs.size ∧ (intItems xs)[argBest (fun i j => decide (numAt xs i > numAt xs j)) (xs.size - 1)]? = some v) -> (∀ b o, s.heap.get? b = some o -> h'.get? b = some o) -> Q v { s with heap := h', toks := tk }) :
  wpAny (model prog w) A (call (.builtin "max") [.ref l] [(Str.ofString "default", x)]) Q E s := by
 refine PyProof.Rows.kmk_tree PySem.F.kind_max PySem.F.plain_max PySem.F.entry_max (maxD_args _ _) ?_
 show wpAny _ A.in1 (Builtin.Builtins.bindParams "max" ["key", "default"] 0 ⟨[], [(Str.ofString "default", x)]⟩ >>= _) _ _ s
 refine wpAny_bind (wpAny_of_eq (show Builtin.Builtins.bindParams "max" ["key", "default"] 0 ⟨[], [(Str.ofString "default", x)]⟩ = pure [none, some x] from rfl) ?_)
 refine wpAny_bind (wpAny_pure (wpAny_bind (iter_intList hl fun s₂ e st hfp hlI => ?_)))
 subst e
 refine wpAny_bind (wpAny_newObj_type ?_)
 rw [maxD_name]
 have W := Walks.list (prog := prog) (w := w) (A := A.in1) hh _ l hlI (intItems xs)
 refine wpAny_pure ⟨plainId_quiet PySem.F.plain_max_loop _, maxD_first W (CmpOf.ints_gt (numAt xs) (fun _ _ => intItems_at)) (fun hm => Nat.lt_irrefl _ (hfp _ hm)) (W.frame _ _ _ st fun b _ o e => Heap.get?_push_of_some _ e) (Heap.get?_push_size _ rfl) fun v h' tk hv hk => ?_⟩
 refine q v h' tk (by simpa [intItems] using hv) (old_kept (s := s) (l := l) fun b o nb e => ?_)
 exact hk b o nb (Nat.ne_of_lt (Heap.lt_size e)) (Heap.get?_push_of_some _ e)
def tMaxD (K : PySem.W.Frag) (t tk : TA) : TE := fun σ H Q => t σ H fun vs H1 => tk σ H1 fun zs H2 => ∃ p ns d, vs = [.ref p] ∧ zs = [.int d] ∧ SqL K H2 p (ns.map V.int) ∧ ∀ M, (ns = [] ∧ M = d) ∨ (M ∈ ns ∧ ∀ a ∈ ns, a <= M) -> Q (.int M) H2
theorem pe_maxD {X : Cx} {p pos kpos : Pos} {e k : Expr} {t tk : TA} (hc : X.calm = true) (hg : Gl X "max") (hm : X.mg "max" = none) (ha : PA X [e] t) (hkw : PK X [⟨some "default", k, kpos⟩] tk)
  (he : backTo pos (starEach [e] X.env) = (false, eval e X.env) :: backTo pos (starEach [] X.env) := by rfl) (hpl : (backTo pos (starEach [e] X.env)).any (·.1) = false := by rfl)
  (hall : (backToKw pos (keywordEach [⟨some "default", k, kpos⟩] X.env)).all (·.1.isSome) = true := by rfl) (hks : (backToKw pos (keywordEach [⟨some "default", k, kpos⟩] X.env)).filterMap (·.1) = [Str.ofString "default"] := by rfl)
  (hno : (backToKw pos (keywordEach [⟨some "default", k, kpos⟩] X.env)).any (·.1.isNone) = false := by rfl) :
  PE X (.Call (.Name "max" p) [e] [⟨some "default", k, kpos⟩] pos) (tMaxD X.K t tk) := by
 intro pins s σ H Q I h
 refine wpAny_Call_Name_kw (ld_blt I hg hm bt_max ?_ (by decide) (by decide))
 refine PyProof.Rows.callWith_kw (thn (ha pos pins s σ H _ I h) fun us s1 ⟨vs, H1, I1, r, q⟩ => ?_) he hpl hall hno
 refine thn (hkw pos pins s1 σ H1 _ I1 q) fun kws s2 ⟨zs, H2, I2, rz, q2⟩ => ?_
 rw [hks]
 obtain ⟨a, ns, d, rfl, rfl, hq, q3⟩ := q2
 obtain ⟨u, rfl, rx⟩ := vals1 r
 obtain ⟨u', rfl, rx'⟩ := vals1 rz
 obtain ⟨td, rfl⟩ := rx'
 cases rx
 obtain ⟨its, r', pl, hz⟩ := I2.list hq
 have hi := ints_are r'
 obtain ⟨zs, e⟩ := hi.allInts.items
 have hns : ns = zs.toList.map (·.1) := by rw [← hi.numsOf, ← nums_intItems, ← e]
 have hl := pl.isList
 rw [e] at hl
 refine maxD_call (x := .int d td) (I2.ok.hd hc) hl fun v h' tk hv hk => ?_
 rcases hv with ⟨h0, rfl⟩ | ⟨h0, hv⟩
 ·exact ⟨.int _, H2, I2.kept hk, ⟨td, rfl⟩, q3 d (.inl ⟨by rw [hns, List.map_eq_nil_iff]; exact List.eq_nil_of_length_eq_zero (by rw [Array.length_toList]; exact h0), rfl⟩)⟩
 ·obtain ⟨tv, rfl⟩ := intItems_at hv
  obtain ⟨g1, g2⟩ := argBest_gt (numAt zs) (zs.size - 1)
  refine ⟨.int _, H2, I2.kept hk, ⟨tv, rfl⟩, q3 _ (.inr ⟨at_best hns (by omega), fun x hx => ?_⟩)⟩
  obtain ⟨i, hi, rfl⟩ := of_best hns hx
  exact g2 i (by omega)
theorem a_maxD {K : PySem.W.Frag} {t tk : TA} {σ : St} {H : Hp} {Q : VK} : tMaxD K t tk σ H Q = t σ H fun vs H1 => tk σ H1 fun zs H2 => ∃ p ns d, vs = [.ref p] ∧ zs = [.int d] ∧ SqL K H2 p (ns.map V.int) ∧ ∀ M, (ns = [] ∧ M = d) ∨ (M ∈ ns ∧ ∀ a ∈ ns, a <= M) -> Q (.int M) H2 := rfl
theorem a_inS {K : PySem.W.Frag} {neg : Bool} {x y : V} {H : Hp} {Q : VK} : rIn K neg x y H Q = ∃ p xs, y = .ref p ∧ (SqL K H p xs ∨ SqT K H p xs) ∧ flatV x = true ∧ xs.all flatV = true ∧ Q (.bl (if neg then !inV x xs else inV x xs)) H := rfl
end L2
namespace L2
open PySem
def EnAt (h : Heap) (d : Addr) (es : Array DictEntry) (ep : Nat) : Prop := ∃ o, h.get? d = some o ∧ o.ExactDict ∧ o.data = .dict es ep
theorem EnAt.ty {s : Shared} {d : Addr} {es : Array DictEntry} {ep : Nat} (x : EnAt s.heap d es ep) : s.TypeIs (.ref d) "dict" := let ⟨o, ho, hc, _⟩ := x; ⟨o, ho, hc.1⟩
theorem EnAt.at {h h' : Heap} {d : Addr} {es : Array DictEntry} {ep : Nat} (x : EnAt h d es ep) (k : ∀ o, h.get? d = some o -> h'.get? d = some o) : EnAt h' d es ep := let ⟨o, ho, r⟩ := x; ⟨o, k o ho, r⟩
section
variable {prog : Program} {w : World} {A : Around} {E : Value -> Shared -> Prop} {s : Shared} {d : Addr} {es : Array DictEntry} {ep : Nat}
theorem en_noArgs {nm : String} {Q : Addr -> Shared -> Prop} (hm : EnAt s.heap d es ep) (q : Q d s) : wpAny (model prog w) A (Builtin.Dict.noArgs nm ⟨[.ref d], []⟩) Q E s := by
 unfold Builtin.Dict.noArgs
 refine wpAny_bind (wpAny_notOrdered_dict hm.ty ?_)
 exact wpAny_pure q
theorem en_shows {Q : Unit -> Shared -> Prop} (hd : (d == sysModules) = false) (q : Q () s) : wpAny (model prog w) A (Builtin.Dict.showsAll d) Q E s := by
 unfold Builtin.Dict.showsAll
 rw [if_neg (fun z => Bool.false_ne_true (hd.symm.trans z))]
 exact wpAny_pure q
theorem en_items {Q : Value -> Shared -> Prop} (hd : (d == sysModules) = false) (hm : EnAt s.heap d es ep)
  (q : Q (.ref s.heap.objs.size) { s with heap := s.heap.push { cls := .type "dict_items", data := .fields #[.ref d] } }) : wpAny (model prog w) A (call (.builtin "dict.items") [.ref d]) Q E s := by
 refine wpAny_call_entry F.slot_dict_items hm.ty F.entry_dict_items ?_ (F.args_dict_items_1 _)
 unfold Builtin.«dict.items»
 refine wpAny_bind (en_noArgs hm (wpAny_bind (en_shows hd ?_)))
 exact wpAny_bind (wpAny_newObj_type (wpAny_pure ⟨_, rfl, q⟩))
theorem en_iter {v : Addr} {Q : Value -> Shared -> Prop} (hv : s.heap.IsItemsView v d) (hm : EnAt s.heap d es ep)
  (q : Q (.ref s.heap.objs.size) { s with heap := s.heap.push { cls := .type "dict_itemiterator", data := .fields #[.none, .bool false, .ref d, .int 0 0, .int es.size 0, .int ep 0, .none, .none] } }) :
  wpAny (model prog w) A (pyIter (.ref v)) Q E s := by
 obtain ⟨ov, a1, a2, a3⟩ := id hv
 obtain ⟨o, b1, b2, b3⟩ := id hm
 refine wpAny_pyIter_slot hv.typeIs F.slot_dict_items_iter (wpAny_call_entry F.slot_dict_items_iter hv.typeIs F.entry_dict_items_iter ?_ (F.args_dict_items_iter_1 _))
 unfold Builtin.«dict_items.__iter__» Builtin.Dict_items.dictOf Builtin.Dict_items.newIterator
 have own : Builtin.Dict_items.ownsTuple "dict_itemiterator" = true := by decide
 refine wpAny_bind (wpAny_pure (wpAny_bind (wpAny_bind (wpAny_field a1 a3 (x := .ref d) rfl (wpAny_pure (wpAny_bind (wpAny_bind (wpAny_dictEntries b1 b3 (wpAny_bind (wpAny_dictEpoch b1 b3 ?_))))))))))
 simp only [own, if_true]
 refine wpAny_newObj_type (wpAny_pure ⟨_, rfl, "dict_itemiterator", _, ⟨_, Heap.get?_push_size _ rfl, rfl⟩, F.slot_dict_itemiterator_next.lookup, ?_⟩) ?_
 ·simpa [rawInt, Builtin.Dict_items.ownedTupleFields] using q
 ·simp only [sizeOk, Builtin.Dict_items.ownedTupleFields, List.size_toArray, List.length_append, List.length_cons, List.length_nil, sizeLine_eq]; omega
end
end L2
namespace L2
open PySem
section
variable {prog : Program} {w : World} {A : Around} {E : Value -> Shared -> Prop} {s : Shared} {d it : Addr} {es : Array DictEntry} {ep i : Nat} {ok ov : Value}
theorem en_next {e : DictEntry} {Q : Option Value -> Shared -> Prop} (hi : IsItemIter s.heap it d i es.size ep ok ov) (hm : EnAt s.heap d es ep) (he : es[i]? = some e)
  (q : ∀ h', IsItemIterOut h' it d (i + 1) es.size ep e.key e.val s.heap.objs.size -> h'.get? s.heap.objs.size = some { cls := .type "tuple", data := .seq #[e.key, e.val] } -> h'.objs.size = s.heap.objs.size + 1 ->
   (∀ b o, b ≠ it -> s.heap.get? b = some o -> h'.get? b = some o) -> Q (some (.ref s.heap.objs.size)) { s with heap := h' }) : wpAny (model prog w) A (pyNext (.ref it)) Q E s := by
 obtain ⟨hp, g, dr, tk, os⟩ := s
 obtain ⟨od, o1, o2, o3⟩ := id hm
 have ty : ∀ h' : Heap, IsItemIter h' it d i es.size ep ok ov -> Shared.TypeIs ⟨h', g, dr, tk, os⟩ (.ref it) "dict_itemiterator" := fun h' z => ⟨_, z, rfl⟩
 obtain ⟨lt, ee⟩ := Array.getElem?_eq_some_iff.mp he
 have own : Builtin.Dict_items.ownsTuple "dict_itemiterator" = true := by decide
 unfold pyNext
 refine wpAny_bind (wpAny_attempt (wpAny_callSpecial?_slot (name := Str.ofString "__next__") (ty _ hi) F.slot_dict_itemiterator_next (wpAny_call_entry F.slot_dict_itemiterator_next (ty _ hi) F.entry_dict_itemiterator_next ?_ (F.args_dict_itemiterator_next_1 _))))
 refine wpAny_bind (wpAny_pure (wpAny_bind (wpAny_bind ?_)))
 first
  | refine wpAny_bind (wpAny_typeNameOfWhole_itemiter (ty _ hi) (wpAny_pure ?_))
  | refine wpAny_bind (wpAny_typeNameOf_itemiter (ty _ hi) (wpAny_pure ?_))
 refine wpAny_bind (wpAny_fieldsOf hi rfl ?_)
 simp only [own, if_true]
 show wpAny _ _ (ite ((Value.ref d == Value.none) = true) _ _) _ _ _
 rw [if_neg (show ¬ (Value.ref d == Value.none) = true from fun z => nomatch z)]
 refine wpAny_bind (wpAny_pure (wpAny_bind (wpAny_dictEntries o1 o3 ?_)))
 rw [if_neg (by simp)]
 refine wpAny_bind (wpAny_pure (wpAny_bind (wpAny_dictEpoch o1 o3 ?_)))
 rw [if_neg (by simp)]
 refine wpAny_pure ?_
 have nn : ¬ ((i : Int) < 0) := by omega
 simp only [nn, if_false, Int.toNat_natCast, he]
 refine wpAny_bind ?_
 first
  | refine wpAny_bind (wpAny_typeNameOfWhole_itemiter (ty _ hi) (wpAny_pure ?_))
  | refine wpAny_bind (wpAny_typeNameOf_itemiter (ty _ hi) (wpAny_pure ?_))
 refine wpAny_bind (wpAny_isOneOf_itemiter (ty _ hi) ?_)
 show wpAny _ _ (setField (.ref it) 3 (rawInt ((i : Int) + 1)) >>= _) _ _ (⟨hp, g, dr, tk, os⟩ : Shared)
 refine wpAny_bind (wpAny_setField_rec hi (by simp) fun h1 x1 s1 => ?_)
 have x1 : IsItemIter h1 it d (i + 1) es.size ep ok ov := by
  unfold IsItemIter
  rw [show ((i + 1 : Nat) : Int) = (i : Int) + 1 by omega]
  simpa [rawInt] using x1
 have s1 : Heap.SameBut it hp h1 := s1
 have t1 : Shared.TypeIs ⟨h1, g, dr, tk, os⟩ (.ref it) "dict_itemiterator" := ⟨_, x1, rfl⟩
 refine wpAny_bind (wpAny_holding (wpAny_bind (wpAny_isOneOf_itemiter t1 (wpAny_bind (wpAny_isOneOf_itemiter t1 ?_)))))
 show wpAny _ _ (Builtin.Dict_items.pairFromOwner (.ref it) 6 e.key e.val) _ _ (⟨h1, g, dr, tk, os⟩ : Shared)
 unfold Builtin.Dict_items.pairFromOwner
 refine wpAny_bind (wpAny_newTuple ?_)
 obtain ⟨h2, e2⟩ : ∃ h2, h2 = h1.push { cls := .type "tuple", data := .seq #[e.key, e.val] } := ⟨_, rfl⟩
 have x2 : IsItemIter h2 it d (i + 1) es.size ep ok ov := by rw [e2]; exact Heap.get?_push_of_some _ x1
 have z1 : h1.objs.size = hp.objs.size := s1.1
 have lt1 : it < hp.objs.size := Heap.lt_size hi
 have t2 : h2.get? hp.objs.size = some { cls := .type "tuple", data := .seq #[e.key, e.val] } := by rw [e2, ← z1]; exact Heap.get?_push_size _ rfl
 have z2 : h2.objs.size = hp.objs.size + 1 := by rw [e2, Heap.size_push, z1]
 have k2 : ∀ b o, b ≠ it -> hp.get? b = some o -> h2.get? b = some o := fun b o hb y => by rw [e2]; exact Heap.get?_push_of_some _ (s1.extBut b o hb y)
 rw [z1, show h1.push { cls := .type "tuple", data := .seq #[e.key, e.val] } = h2 from e2.symm]
 show wpAny _ _ (Builtin.Dict_items.ownedTupleIsFree (.ref it) >>= _) _ _ (⟨h2, g, dr, tk, os⟩ : Shared)
 unfold Builtin.Dict_items.ownedTupleIsFree
 refine wpAny_bind (wpAny_bind (wpAny_field x2 rfl (x := .none) rfl (wpAny_pure ?_)))
 simp only [if_true]
 refine wpAny_bind (wpAny_field x2 rfl (x := ok) rfl (wpAny_bind (wpAny_field x2 rfl (x := ov) rfl ?_)))
 refine wpAny_bind (wpAny_setField_rec x2 (by simp) fun h3 x3 s3 => ?_)
 have x3 : IsItemIter h3 it d (i + 1) es.size ep e.key ov := x3
 have s3 : Heap.SameBut it h2 h3 := s3
 refine wpAny_bind (wpAny_setField_rec x3 (by simp) fun h4 x4 s4 => ?_)
 have x4 : IsItemIter h4 it d (i + 1) es.size ep e.key e.val := x4
 have s4 : Heap.SameBut it h3 h4 := s4
 refine wpAny_bind (wpAny_setField_rec x4 (by simp) fun h5 x5 s5 => ?_)
 have x5 : IsItemIterOut h5 it d (i + 1) es.size ep e.key e.val hp.objs.size := x5
 have s5 : Heap.SameBut it h4 h5 := s5
 refine wpAny_bind (wpAny_setField_rec x5 (by simp) fun h6 x6 s6 => ?_)
 have x6 : IsItemIterOut h6 it d (i + 1) es.size ep e.key e.val hp.objs.size := x6
 have s6 : Heap.SameBut it h5 h6 := s6
 have up : ∀ b o, b ≠ it -> h2.get? b = some o -> h6.get? b = some o := fun b o hb y => s6.extBut b o hb (s5.extBut b o hb (s4.extBut b o hb (s3.extBut b o hb y)))
 refine wpAny_bind (wpAny_letGo (wpAny_pure (wpAny_pure ⟨_, rfl, wpAny_pure (q h6 x6 (up _ _ (Nat.ne_of_gt lt1) t2) ?_ fun b o hb y => up b o hb (k2 b o hb y))⟩)))
 show h6.objs.size = hp.objs.size + 1
 rw [s6.1, s5.1, s4.1, s3.1, z2]
theorem en_end {Q : Option Value -> Shared -> Prop} (hh : A.handled = none) (hi : IsItemIter s.heap it d i es.size ep ok ov) (hm : EnAt s.heap d es ep) (he : es.size <= i)
  (q : ∀ h', Heap.ExtBut it s.heap h' -> Q none { s with heap := h' }) : wpAny (model prog w) A (pyNext (.ref it)) Q E s := by
 obtain ⟨od, o1, o2, o3⟩ := id hm
 have ty : s.TypeIs (.ref it) "dict_itemiterator" := ⟨_, hi, rfl⟩
 have own : Builtin.Dict_items.ownsTuple "dict_itemiterator" = true := by decide
 unfold pyNext
 refine wpAny_bind (wpAny_attempt (wpAny_callSpecial?_slot (name := Str.ofString "__next__") ty F.slot_dict_itemiterator_next (wpAny_call_entry F.slot_dict_itemiterator_next ty F.entry_dict_itemiterator_next ?_ (F.args_dict_itemiterator_next_1 _))))
 refine wpAny_bind (wpAny_pure (wpAny_bind (wpAny_bind ?_)))
 first
  | refine wpAny_bind (wpAny_typeNameOfWhole_itemiter ty (wpAny_pure ?_))
  | refine wpAny_bind (wpAny_typeNameOf_itemiter ty (wpAny_pure ?_))
 refine wpAny_bind (wpAny_fieldsOf hi rfl ?_)
 simp only [own, if_true]
 show wpAny _ _ (ite ((Value.ref d == Value.none) = true) _ _) _ _ _
 rw [if_neg (show ¬ (Value.ref d == Value.none) = true from fun z => nomatch z)]
 refine wpAny_bind (wpAny_pure (wpAny_bind (wpAny_dictEntries o1 o3 ?_)))
 rw [if_neg (by simp)]
 refine wpAny_bind (wpAny_pure (wpAny_bind (wpAny_dictEpoch o1 o3 ?_)))
 rw [if_neg (by simp)]
 refine wpAny_pure ?_
 have nn : ¬ ((i : Int) < 0) := by omega
 simp only [nn, if_false, Int.toNat_natCast, Array.getElem?_eq_none he]
 refine wpAny_bind ?_
 first
  | refine wpAny_bind (wpAny_typeNameOfWhole_itemiter ty (wpAny_pure ?_))
  | refine wpAny_bind (wpAny_typeNameOf_itemiter ty (wpAny_pure ?_))
 show wpAny _ _ (setField (.ref it) 2 .none >>= _) _ _ s
 refine wpAny_bind (wpAny_setField hi rfl (by simp) ?_)
 show wpAny _ _ (newExc (.type "StopIteration") [] >>= _) _ _ _
 simp only [newExc, newTuple]
 refine wpAny_bind (wpAny_bind (wpAny_newObj_type ?_ (by size_fits)))
 refine wpAny_bind (m := firstArgMember _ _) (wpAny_of_eq (a := Value.none) (by first | rfl | (simp only [firstArgMember]; rfl)) (wpAny_newObj_type ?_ (by size_fits)))
 simp only [raiseNew]
 refine wpAny_bind (wpAny_handled ?_)
 rw [show A.in1.handled = none from hh]
 refine wpAny_bind (wpAny_pure (wpAny_throw (wpAny_bind ?_)))
 refine wpAny_isInstance (T := "StopIteration") (b := true) ⟨_, Heap.get?_push_size _ rfl, rfl⟩ isSubtype_stop ?_
 exact wpAny_pure (q _ (((Heap.SameBut.update ..).extBut.push _).push _))
end
end L2
namespace L2
open PySem
section
variable {prog : Program} {w : World} {A : Around} {E : Value -> Shared -> Prop} {s : Shared} {d o : Addr} {es : Array DictEntry} {ep epd : Nat}
end
end L2
namespace L2
open PySem
theorem cls_ne {h : Heap} {b c : Addr} {o p : Obj} {T U : String} (h1 : h.get? b = some o) (c1 : o.cls = .type T) (h2 : h.get? c = some p) (c2 : p.cls = .type U) (ne : T ≠ U) : b ≠ c := fun z => by
 subst z
 rw [h1] at h2
 have e : o = p := Option.some.inj h2
 rw [← e, c1] at c2
 exact ne (Value.type.inj c2)
theorem upd_entry : entryFor table "dict.update.loop" = some Builtin.«dict.update.loop» := entryFor_of_tree (by kernel_rfl)
theorem upd_plain : plainId "dict.update.loop" = true := by decide +kernel
section
variable {prog : Program} {w : World} {K : Type} [DecidableEq K] {kn : KeyKind prog w K} {A : Around} {E : Value -> Shared -> Prop}
abbrev Prs (K : Type) := List (Addr × List K × Addr × Value)
def accP (ps : Prs K) : List (List K × Addr × Value) := ps.foldl (fun a x => storedH a x.2.1 x.2.2.1 x.2.2.2) []
theorem accP_snoc (ps : Prs K) (x : Addr × List K × Addr × Value) : accP (ps ++ [x]) = storedH (accP ps) x.2.1 x.2.2.1 x.2.2.2 := by unfold accP; rw [List.foldl_append]; rfl
theorem accP_len (ps : Prs K) : (accP ps).length <= ps.length := by
 unfold accP
 have h : ∀ (l : Prs K) (a : List (List K × Addr × Value)), (l.foldl (fun a x => storedH a x.2.1 x.2.2.1 x.2.2.2) a).length <= a.length + l.length := by
  intro l
  induction l with
  | nil => intro a; exact Nat.le_refl _
  | cons x l ih =>
   intro a
   have h1 := ih (storedH a x.2.1 x.2.2.1 x.2.2.2)
   have h2 : (storedH a x.2.1 x.2.2.1 x.2.2.2).length <= a.length + 1 := by unfold storedH; split <;> simp
   rw [List.foldl_cons, List.length_cons]; omega
 have := h ps []
 rw [List.length_nil] at this; omega
def PairAt (kn : KeyKind prog w K) (h : Heap) (x : Addr × List K × Addr × Value) : Prop := h.IsTuple x.1 #[.ref x.2.2.1, x.2.2.2] ∧ IsTupleKey kn h x.2.1 x.2.2.1
theorem PairAt.keep {h h' : Heap} {x : Addr × List K × Addr × Value} {d it : Addr} {es : Array DictEntry} {ep : Nat} {l : Addr} {i : Nat} (p : PairAt kn h x) (hd : EnAt h d es ep) (hi : h.IsListIter it l i)
  (k : ∀ b o, b ≠ it -> b ≠ d -> h.get? b = some o -> h'.get? b = some o) : PairAt kn h' x := by
 obtain ⟨⟨o, h1, h2, h3⟩, o2, items, n, g1, g2, g3⟩ := p
 obtain ⟨od, d1, d2, _⟩ := hd
 obtain ⟨oi, i1, i2, _⟩ := hi
 have ne : ∀ b (ob : Obj), h.get? b = some ob -> ob.cls = .type "tuple" -> b ≠ it ∧ b ≠ d := fun b ob q c => ⟨cls_ne q c i1 i2 (by decide), cls_ne q c d1 d2.1 (by decide)⟩
 exact ⟨⟨o, k _ o (ne _ o h1 h2).1 (ne _ o h1 h2).2 h1, h2, h3⟩, o2, items, n, k _ o2 (ne _ o2 g1 g2).1 (ne _ o2 g1 g2).2 g1, g2, g3⟩
theorem dictH_en {h : Heap} {d : Addr} {xs : List (List K × Addr × Value)} (x : h.DictOfH (tupleKind kn) d xs) : ∃ es ep, EnAt h d es ep := let ⟨o, es, ep, h1, h2, h3, _⟩ := x; ⟨es, ep, o, h1, h2, h3⟩
theorem code_upd {R : Result -> Shared -> Prop} (hh : A.handled = none) (hu : A.in1.units < cLine) (d it L : Addr) (ps : Prs K) (hz : ps.length <= sizeLine) : ∀ (n i : Nat) (s : Shared), ps.length - i = n -> i <= ps.length -> s.heap.IsListIter it L i -> s.heap.IsList L (ps.map fun x => Value.ref x.1).toArray ->
  (∀ x ∈ ps, PairAt kn s.heap x) -> s.heap.DictOfH (tupleKind kn) d (accP (ps.take i)) ->
  (∀ h' tk, h'.DictOfH (tupleKind kn) d (accP ps) -> (∀ b o, b ≠ it -> b ≠ d -> s.heap.get? b = some o -> h'.get? b = some o) -> R (.ok (.ret .none)) { s with heap := h', toks := tk }) ->
  codeAny (model prog w) A (.builtin "dict.update.loop" ⟨[.ref d, .ref it, rawInt i, .none], []⟩) R s := by
 intro n
 induction n with
 | zero =>
  intro i s hn hi hit hl hp hd hR
  have e : i = ps.length := by omega
  subst e
  refine codeAny_builtin upd_entry ?_
  rw [Around.under_plainId upd_plain _]
  show wpAny _ A.in1 (pyNext (.ref it) >>= _) _ _ s
  refine wpAny_bind (wpAny_pyNext_list_end hh hit hl (by simp) fun h1 eb => ?_)
  rw [List.take_length] at hd
  obtain ⟨es, ep, en⟩ := dictH_en hd
  have nd : d ≠ it := by
   obtain ⟨oi, i1, i2, _⟩ := hit
   obtain ⟨od, d1, d2, _⟩ := en
   exact cls_ne d1 d2.1 i1 i2 (by decide)
  show wpAny _ A.in1 (Builtin.Dict.addKeywords d [] >>= _) _ _ _
  refine wpAny_bind (wpAny_pure (wpAny_pure (hR h1 s.toks ?_ fun b o hb _ q => eb b o hb q)))
  obtain ⟨o, es, ep, g1, g2, g3, g4, g5, g6⟩ := hd
  refine ⟨o, es, ep, eb d o nd g1, g2, g3, g4, fun x hx => ?_, g6⟩
  obtain ⟨ok, items, m, k1, k2, k3⟩ := (show IsTupleKey kn s.heap x.1 x.2.1 from g5 x hx)
  have : x.2.1 ≠ it := by
   obtain ⟨oi, i1, i2, _⟩ := hit
   exact cls_ne k1 k2 i1 i2 (by decide)
  exact ⟨ok, items, m, eb _ ok this k1, k2, k3⟩
 | succ n ih =>
  intro i s hn hi hit hl hp hd hR
  have lt : i < ps.length := by omega
  obtain ⟨x, hx⟩ : ∃ x, ps[i]? = some x := ⟨_, List.getElem?_eq_getElem lt⟩
  have hm := List.mem_of_getElem? hx
  obtain ⟨es, ep, en⟩ := dictH_en hd
  refine codeAny_builtin upd_entry ?_
  rw [Around.under_plainId upd_plain _]
  show wpAny _ A.in1 (pyNext (.ref it) >>= _) _ _ s
  refine wpAny_bind (wpAny_pyNext_list_item hit hl (x := .ref x.1) (by simp [hx]) fun h1 hit1 sb => ?_)
  have k1 : ∀ b o, b ≠ it -> b ≠ d -> s.heap.get? b = some o -> h1.get? b = some o := fun b o hb _ q => (sb.2 b hb).trans q
  have nd : d ≠ it := by
   obtain ⟨oi, i1, i2, _⟩ := hit
   obtain ⟨od, d1, d2, _⟩ := en
   exact cls_ne d1 d2.1 i1 i2 (by decide)
  have hp1 : ∀ x ∈ ps, PairAt kn h1 x := fun x hx => (hp x hx).keep en hit k1
  have hd1 : h1.DictOfH (tupleKind kn) d (accP (ps.take i)) := by
   obtain ⟨o, es, ep, g1, g2, g3, g4, g5, g6⟩ := hd
   refine ⟨o, es, ep, (sb.2 d nd).trans g1, g2, g3, g4, fun y hy => ?_, g6⟩
   obtain ⟨ok, items, m, q1, q2, q3⟩ := (show IsTupleKey kn s.heap y.1 y.2.1 from g5 y hy)
   have : y.2.1 ≠ it := by
    obtain ⟨oi, i1, i2, _⟩ := hit
    exact cls_ne q1 q2 i1 i2 (by decide)
   exact ⟨ok, items, m, (sb.2 _ this).trans q1, q2, q3⟩
  obtain ⟨⟨ot, t1, t2, m, t3⟩, hk⟩ := hp1 x hm
  refine wpAny_bind (wpAny_holding (wpAny_bind (wpAny_tryCatch ?_)))
  unfold Builtin.Dict.pairItems
  refine wpAny_bind (wpAny_typeOf (T := "tuple") ⟨ot, t1, t2⟩ ?_)
  rw [if_pos (by decide)]
  refine wpAny_bind (wpAny_seqItems t1 t3 (wpAny_pure ?_))
  show wpAny _ A.in1 (holding [Value.ref x.2.2.1, x.2.2.2] (dictSet d (.ref x.2.2.1) x.2.2.2)) _ _ _
  have hz2 : (accP (ps.take i)).length <= sizeLine := by
   have h1 := accP_len (ps.take i)
   rw [List.length_take] at h1; omega
  refine wpAny_holding (wpAny_dictSet_heap (hsz := hz2) hu hk hd1 fun h2 hd2 sb2 => ?_)
  obtain ⟨es1, ep1, en1⟩ := dictH_en hd1
  have k2 : ∀ b o, b ≠ it -> b ≠ d -> h1.get? b = some o -> h2.get? b = some o := fun b o _ hb q => (sb2.2 b hb).trans q
  have hit2 : h2.IsListIter it L (i + 1) := by
   obtain ⟨oi, q⟩ := hit1
   exact ⟨oi, (sb2.2 it (Ne.symm nd)).trans q.1, q.2⟩
  have hl2 : h2.IsList L (ps.map fun x => Value.ref x.1).toArray := by
   obtain ⟨ol, l1, l2, l3⟩ := hl
   obtain ⟨oi, i1, i2, _⟩ := hit
   obtain ⟨od, d1, d2, _⟩ := en
   have n1 : L ≠ it := cls_ne l1 l2 i1 i2 (by decide)
   have n2 : L ≠ d := cls_ne l1 l2 d1 d2.1 (by decide)
   exact ⟨ol, k2 _ _ n1 n2 (k1 _ _ n1 n2 l1), l2, l3⟩
  have et : ps.take (i + 1) = ps.take i ++ [x] := by rw [List.take_succ, hx]; rfl
  refine wpAny_pure ⟨plainId_quiet upd_plain _, ?_⟩
  have er : rawInt ((i : Int) + 1) = rawInt ((i + 1 : Nat) : Int) := by rw [Int.natCast_add]; rfl
  show codeAny _ A (.builtin "dict.update.loop" ⟨[.ref d, .ref it, rawInt ((i : Int) + 1), .none], []⟩) R _
  rw [er]
  refine ih (i + 1) _ (by omega) lt hit2 hl2 (fun y hy => (hp1 y hy).keep en1 hit1 k2) (by rw [et, accP_snoc]; exact hd2) fun h' tk hd' k3 => ?_
  exact hR h' tk hd' fun b o b1 b2 q => k3 b o b1 b2 (k2 b o b1 b2 (k1 b o b1 b2 q))
end
section
variable {prog : Program} {w : World} {A : Around} {E : Value -> Shared -> Prop} {s : Shared}
end
end L2
namespace L2
open PySem
theorem no_keys : typeLookup (.type "list") "keys" = pure none := by rw [typeLookup_type, builtinLookup_eq_fast]; kernel_rfl
theorem miss_keys {prog : Program} {w : World} {A : Around} {E : Value -> Shared -> Prop} {s : Shared} {a : Addr} {o : Obj} {xs : Array Value} {k : Nat} {Q : Option Value -> Shared -> Prop}
  (hx : s.heap.get? a = some o) (hc : o.cls = .type "list") (hdat : o.data = .seq xs k) (hd : o.dict = none) (hA : A.handled = none)
  (h : ∀ h' tk, (∀ b ob, s.heap.get? b = some ob -> h'.get? b = some ob) -> Q none { s with heap := h', toks := tk }) : wpAny (model prog w) A (getAttr? (.ref a) "keys") Q E s := by
 obtain ⟨c, dct, dat, sl⟩ := o
 simp only at hc hdat hd
 subst hc hdat hd
 obtain ⟨hp, g, d, tk, os⟩ := s
 have ty : ∀ tk', (⟨hp, g, d, tk', os⟩ : Shared).TypeIs (.ref a) "list" := fun _ => ⟨_, hx, rfl⟩
 have f1 := sub_AttributeError
 have f3 := F.slot_list_getattribute.lookup
 have f4 := F.slot_list_getattribute.bind (.ref a)
 have f5 := am_list_getattr_none
 unfold getAttr? getAttrBy? getAttrBy
 repeat (any_goals (first | assumption | exact ty _ | ((with_reducible show wpAny _ _ (call (Value.builtin "list.__getattribute__") _ _) _ _ _); refine call_meets F.slot_list_getattribute (ty _) am_entry_list_getattribute (F.args_list_getattribute_2 _ _) (meets_getattribute_miss_list a xs k sl "keys" _ no_keys (by decide +kernel)) ⟨hx, hA, fun h' tk' e hx' => ?_⟩) | wp_step))
 obtain ⟨t', u', he⟩ := hx'.there
 show wpAny _ _ (getattributeRaised _ _ _ _ _ _ _) _ _ _
 unfold getattributeRaised
 repeat (any_goals (first | assumption | wp_step))
 exact h h' tk' hx'.keeps
end L2
namespace L2
open PySem
section
variable {prog : Program} {w : World} {K : Type} [DecidableEq K] {kn : KeyKind prog w K} {A : Around} {E : Value -> Shared -> Prop} {s : Shared}
theorem PairAt.up {h h' : Heap} {x : Addr × List K × Addr × Value} (p : PairAt kn h x) (k : ∀ b o, h.get? b = some o -> h'.get? b = some o) : PairAt kn h' x := by
 obtain ⟨⟨o, h1, h2⟩, o2, items, n, g1, g2⟩ := p
 exact ⟨⟨o, k _ _ h1, h2⟩, o2, items, n, k _ _ g1, g2⟩
theorem en_pairs {L : Addr} {ps : Prs K} {ol : Obj} {c : Nat} {Q : Value -> Shared -> Prop} (hh : A.handled = none) (hu : A.units + 2 < cLine) (hz : ps.length <= sizeLine) (l1 : s.heap.get? L = some ol) (l2 : ol.cls = .type "list") (l3 : ol.dict = none)
  (l4 : ol.data = .seq (ps.map fun x => Value.ref x.1).toArray c) (hp : ∀ x ∈ ps, PairAt kn s.heap x)
  (q : ∀ h' tk, h'.DictOfH (tupleKind kn) s.heap.objs.size (accP ps) -> (∀ b o, s.heap.get? b = some o -> h'.get? b = some o) -> Q (.ref s.heap.objs.size) { s with heap := h', toks := tk }) : wpAny (model prog w) A (call (.type "dict") [.ref L]) Q E s := by
 refine callType_codes (Q₁ := fun v s1 => v = .ref s.heap.objs.size ∧ s1 = { s with heap := s.heap.push { cls := .type "dict", data := .dict #[] } }) F.kt_called_dict (F.kt_typeCall_dict_1 _) F.entry_dict_init (kt_code_dict_new _ ⟨rfl, rfl⟩) ?_
 rintro v s1 ⟨rfl, rfl⟩
 have new : EnAt (s.heap.push { cls := .type "dict", data := .dict #[] }) s.heap.objs.size #[] 0 := ⟨_, Heap.get?_push_size _ rfl, ⟨rfl, rfl, rfl⟩, rfl⟩
 have up1 : ∀ b o, s.heap.get? b = some o -> (s.heap.push { cls := .type "dict", data := .dict #[] }).get? b = some o := fun _ _ => Heap.get?_push_of_some _
 refine ⟨new.ty, F.args_dict_init_2 _ _, ?_⟩
 unfold Builtin.«dict.__init__» Builtin.Dict.selfAndRest
 refine wpAny_bind (wpAny_bind (wpAny_notOrdered_dict new.ty (wpAny_pure ?_)))
 show wpAny _ A.in1.in1 (Builtin.Dict.updateFrom "dict.__init__" s.heap.objs.size (.ref L) [] .none) _ _ _
 unfold Builtin.Dict.updateFrom
 refine wpAny_bind (wpAny_typeOf (T := "list") ⟨ol, up1 _ _ l1, l2⟩ ?_)
 rw [if_pos (by decide)]
 refine wpAny_bind (miss_keys (up1 _ _ l1) l2 l4 l3 hh fun h2 tk2 up2 => ?_)
 have up12 : ∀ b o, s.heap.get? b = some o -> h2.get? b = some o := fun b o e => up2 b o (up1 b o e)
 rw [if_pos (by rfl)]
 refine wpAny_bind (wpAny_rule (wpAny_bind (wpAny_pyIter_list (items := (ps.map fun x => Value.ref x.1).toArray) ⟨ol, up12 _ _ l1, l2, c, l4⟩ ?_)))
 refine wpAny_pure ⟨plainId_quiet upd_plain _, ?_⟩
 have up3 : ∀ b o, h2.get? b = some o -> (h2.push { cls := .type "list_iterator", data := .fields #[.ref L, .int 0 0] }).get? b = some o := fun _ _ => Heap.get?_push_of_some _
 have newd : (h2.push { cls := .type "list_iterator", data := .fields #[.ref L, .int 0 0] }).DictOfH (tupleKind kn) s.heap.objs.size (accP (ps.take 0)) := by
  obtain ⟨o, h1, h2, h3⟩ := new
  exact ⟨o, #[], 0, up3 _ _ (up2 _ _ h1), h2, h3, rfl, ⟨fun x hx => absurd (show x ∈ ([] : List (List K × Addr × Value)) from hx) List.not_mem_nil, List.nodup_nil⟩⟩
 refine code_upd (kn := kn) (A := A.in1) hh hu s.heap.objs.size _ L ps hz ps.length 0 _ (Nat.sub_zero _) (Nat.zero_le _) ⟨_, Heap.get?_push_size _ rfl, rfl, rfl⟩ ⟨ol, up3 _ _ (up12 _ _ l1), l2, c, l4⟩ (fun x hx => (hp x hx).up fun b o e => up3 b o (up12 b o e)) newd fun h' tk hd k => ?_
 refine ⟨rfl, q h' tk hd fun b o e => ?_⟩
 have lt := Heap.lt_size e
 have lt2 := Heap.lt_size (up12 b o e)
 exact k b o (Nat.ne_of_lt lt2) (Nat.ne_of_lt lt) (up3 b o (up12 b o e))
end
end L2
namespace L2
open PySem
section
variable {prog : Program} {w : World} {K : Type} [DecidableEq K] {knd : HeapKind prog w K} {A : Around} {E : Value -> Shared -> Prop} {s : Shared}
theorem en_same {nm : String} {a b : Addr} {xs ys : List (K × Addr × Value)} {Q : Bool -> Shared -> Prop} (sa : (a == sysModules) = false) (sb : (b == sysModules) = false) (hu : knd.room A) (ha : s.heap.DictOfH knd a xs) (hb : s.heap.DictOfH knd b ys) (hl : xs.length = ys.length)
  (he : ∀ x ∈ xs, ∃ p, atKey ys x.1 = some p ∧ SeqAt.EqAt A s x.2.2 p.2 true) (q : Q true s) : wpAny (model prog w) A (Builtin.Dict.samePairs nm a b) Q E s := by
 obtain ⟨oa, ea, pa, a1, a2, a3, a4, a5, a6⟩ := id ha
 obtain ⟨ob, eb, pb, b1, b2, b3, b4, b5, b6⟩ := id hb
 have za := size_of_entries a4
 have zb := size_of_entries b4
 unfold Builtin.Dict.samePairs
 refine wpAny_bind (en_shows sa (wpAny_bind (en_shows sb (wpAny_bind (wpAny_dictEntries a1 a3 (wpAny_bind (wpAny_dictEntries b1 b3 ?_)))))))
 rw [if_neg (by rw [za, zb, hl]; simp)]
 refine wpAny_bind (wpAny_dictEpoch a1 a3 (wpAny_bind ?_))
 rw [Std.Legacy.Range.forIn_eq_forIn_range']
 refine wpAny_forIn_list _ (fun rest r s' => s' = s ∧ r = (none, ()) ∧ ∃ i n, rest = List.range' i n ∧ i + n = ea.size) _ ?_ ?_ _ _ ⟨rfl, rfl, 0, ea.size, by simp [Std.Legacy.Range.size], Nat.zero_add _⟩
 ·rintro x rest r s' ⟨rfl, rfl, i, n, hr, hin⟩
  cases n with
  | zero => cases hr
  | succ n =>
   rw [List.range'_succ] at hr
   injection hr with h1 h2
   subst h1
   have lt : x < xs.length := by omega
   obtain ⟨y, hy⟩ : ∃ y, xs[x]? = some y := ⟨_, List.getElem?_eq_getElem lt⟩
   have hm := List.mem_of_getElem? hy
   have e1 : ea[x]? = some (entryOfKey knd y) := by rw [entry_at a4, hy]; rfl
   obtain ⟨p, hp, eq⟩ := he y hm
   refine wpAny_bind (wpAny_dictEntries a1 a3 ?_)
   rw [e1]
   refine wpAny_bind (wpAny_holding (wpAny_bind (wpAny_dictFind_heap (k := y.1) hu (a5 y hm) b1 b3 b4 b5 b6 (fun no => ?_) fun j p' hj => ?_)))
   ·rw [atKey_none_of_get no] at hp; cases hp
   ·rw [atKey_of_get b6 hj] at hp
    cases hp
    have e2 : eb[j]? = some (entryOfKey knd (y.1, p)) := by rw [entry_at b4, hj]; rfl
    refine wpAny_bind (wpAny_dictEntries b1 b3 ?_)
    rw [e2]
    refine wpAny_holding (eq _ _ _ _ ?_)
    rw [if_neg (by decide)]
    refine wpAny_bind (wpAny_dictEpoch a1 a3 ?_)
    rw [if_neg (by simp)]
    exact wpAny_pure ⟨rfl, rfl, _, n, h2, by omega⟩
 ·rintro r s' ⟨rfl, rfl, _⟩
  exact wpAny_pure q
end
end L2
namespace L2
open PySem
section
variable {K : Type} [DecidableEq K]
def DictAll (kn : ∀ (prog : Program) (w : World), HeapKind prog w K) (h : Heap) (a : Addr) (xs : List (K × Addr × Value)) : Prop := ∀ prog w, h.DictOfH (kn prog w) a xs
theorem dict_eq_meets (kn : ∀ (prog : Program) (w : World), HeapKind prog w K) (a b : Addr) : Meets (Builtin.«dict.__eq__» ⟨[.ref a, .ref b], []⟩) (fun A R s => ∃ xs ys, (a == sysModules) = false ∧ (b == sysModules) = false ∧ (∀ prog w, (kn prog w).room A.in1) ∧ DictAll kn s.heap a xs ∧ DictAll kn s.heap b ys ∧ xs.length = ys.length ∧
  (∀ x ∈ xs, ∃ p, atKey ys x.1 = some p ∧ SeqAt.EqAt A.in1 s x.2.2 p.2 true) ∧ R (.ok (.ret (.bool true))) s) :=
 Meets.of_wp fun prog w A R s hs => by
  obtain ⟨xs, ys, sa, sb, hu, ha, hb, hl, he, q⟩ := hs
  have ta := (ha prog w).typeIs
  have tb := (hb prog w).typeIs
  show wpAny _ A.in1 (Builtin.Dict.dictSlotArgs "__eq__" ⟨[.ref a, .ref b], []⟩ >>= _) _ _ s
  unfold Builtin.Dict.dictSlotArgs
  refine wpAny_bind (wpAny_bind (wpAny_notOrdered_dict ta ?_))
  refine wpAny_bind (wpAny_pure (wpAny_pure (wpAny_bind (wpAny_isInstance tb isSubtype_dict_dict ?_))))
  rw [if_neg (by decide)]
  refine wpAny_bind (wpAny_pure (wpAny_bind (wpAny_pure (wpAny_bind (en_same sa sb (hu prog w) (ha prog w) (hb prog w) hl he (wpAny_pure ⟨_, rfl, q⟩))))))
theorem dict_rc (kn : ∀ (prog : Program) (w : World), HeapKind prog w K) {A : Around} {s : Shared} {a b : Addr} {xs ys : List (K × Addr × Value)} (sa : (a == sysModules) = false) (sb : (b == sysModules) = false) (hu : ∀ prog w, (kn prog w).room A.in1) (hc : A.units < cLine) (ha : DictAll kn s.heap a xs) (hb : DictAll kn s.heap b ys) (hl : xs.length = ys.length)
  (he : ∀ x ∈ xs, ∃ p, atKey ys x.1 = some p ∧ SeqAt.EqAt A.in1 s x.2.2 p.2 true) : SeqAt.RcAt A s (.ref a) (.ref b) true := fun prog w E Q q =>
 richCompare_meets_room (op := .Eq) (ha prog w).typeIs (hb prog w).typeIs F.slot_dict_eq F.entry_dict_eq (F.args_dict_eq_2 _ _) (dict_eq_meets kn a b) ⟨xs, ys, sa, sb, hu, ha, hb, hl, he, ⟨(fun x => nomatch x), q⟩⟩ hc
end
end L2
namespace L2
open PySem
section
variable {prog : Program} {w : World} {A : Around} {E : Value -> Shared -> Prop} {s : Shared} {d it : Addr} {es : Array DictEntry} {ep i : Nat}
theorem en_knext {e : DictEntry} {Q : Option Value -> Shared -> Prop} (hi : s.heap.IsKeyIter it d i es.size ep) (hm : EnAt s.heap d es ep) (he : es[i]? = some e)
  (q : ∀ h', h'.IsKeyIter it d (i + 1) es.size ep -> Heap.SameBut it s.heap h' -> Q (some e.key) { s with heap := h' }) : wpAny (model prog w) A (pyNext (.ref it)) Q E s := by
 obtain ⟨oi, i1, i2, i3⟩ := id hi
 obtain ⟨od, o1, o2, o3⟩ := id hm
 have own : Builtin.Dict_items.ownsTuple "dict_keyiterator" = false := by decide
 unfold pyNext
 refine wpAny_bind (wpAny_attempt (wpAny_callSpecial?_slot (name := Str.ofString "__next__") hi.typeIs F.slot_dict_keyiterator_next (wpAny_call_entry F.slot_dict_keyiterator_next hi.typeIs F.entry_dict_keyiterator_next ?_ (F.args_dict_keyiterator_next_1 _))))
 refine wpAny_bind (wpAny_pure (wpAny_bind (wpAny_bind ?_)))
 first
  | refine wpAny_bind (wpAny_typeNameOfWhole_keyiter hi.typeIs (wpAny_pure ?_))
  | refine wpAny_bind (wpAny_typeNameOf_keyiter hi.typeIs (wpAny_pure ?_))
 refine wpAny_bind (wpAny_fieldsOf i1 i3 ?_)
 simp only [own, Bool.false_eq_true, if_false]
 show wpAny _ _ (ite ((Value.ref d == Value.none) = true) _ _) _ _ _
 rw [if_neg (show ¬ (Value.ref d == Value.none) = true from fun z => nomatch z)]
 refine wpAny_bind (wpAny_pure (wpAny_bind (wpAny_dictEntries o1 o3 ?_)))
 rw [if_neg (by simp)]
 refine wpAny_bind (wpAny_pure (wpAny_bind (wpAny_dictEpoch o1 o3 ?_)))
 rw [if_neg (by simp)]
 refine wpAny_pure ?_
 have nn : ¬ ((i : Int) < 0) := by omega
 simp only [nn, if_false, Int.toNat_natCast, he]
 refine wpAny_bind ?_
 first
  | refine wpAny_bind (wpAny_typeNameOfWhole_keyiter hi.typeIs (wpAny_pure ?_))
  | refine wpAny_bind (wpAny_typeNameOf_keyiter hi.typeIs (wpAny_pure ?_))
 refine wpAny_bind (wpAny_isOneOf_keyiter hi.typeIs ?_)
 show wpAny _ _ (setField (.ref it) 1 (rawInt ((i : Int) + 1)) >>= _) _ _ (s : Shared)
 refine wpAny_bind (wpAny_setField i1 i3 (by simp) ?_)
 obtain ⟨h1, e1⟩ : ∃ h1, h1 = s.heap.update it (Obj.mapFields (·.setIfInBounds 1 (rawInt ((i : Int) + 1)))) := ⟨_, rfl⟩
 have x1 : h1.IsKeyIter it d (i + 1) es.size ep := by
  rw [e1]
  exact ⟨_, Heap.get?_update_self _ i1 (Obj.isFreed_of_fields (Obj.data_mapFields i3 _)), (Obj.cls_mapFields ..).trans i2, by rw [Obj.data_mapFields i3]; simp [rawInt]⟩
 have sb : Heap.SameBut it s.heap h1 := by rw [e1]; exact Heap.SameBut.update ..
 rw [← e1]
 have t1 : Shared.TypeIs { s with heap := h1 } (.ref it) "dict_keyiterator" := x1.typeIs (s := { s with heap := h1 })
 refine wpAny_bind (wpAny_holding (wpAny_bind (wpAny_isOneOf_keyiter t1 ?_)))
 show wpAny _ _ (pure e.key) _ _ _
 exact wpAny_pure (wpAny_pure ⟨_, rfl, wpAny_pure (q h1 x1 sb)⟩)
theorem en_kend {Q : Option Value -> Shared -> Prop} (hh : A.handled = none) (hi : s.heap.IsKeyIter it d i es.size ep) (hm : EnAt s.heap d es ep) (he : es.size <= i)
  (q : ∀ h', Heap.ExtBut it s.heap h' -> Q none { s with heap := h' }) : wpAny (model prog w) A (pyNext (.ref it)) Q E s := by
 obtain ⟨oi, i1, i2, i3⟩ := id hi
 obtain ⟨od, o1, o2, o3⟩ := id hm
 have own : Builtin.Dict_items.ownsTuple "dict_keyiterator" = false := by decide
 unfold pyNext
 refine wpAny_bind (wpAny_attempt (wpAny_callSpecial?_slot (name := Str.ofString "__next__") hi.typeIs F.slot_dict_keyiterator_next (wpAny_call_entry F.slot_dict_keyiterator_next hi.typeIs F.entry_dict_keyiterator_next ?_ (F.args_dict_keyiterator_next_1 _))))
 refine wpAny_bind (wpAny_pure (wpAny_bind (wpAny_bind ?_)))
 first
  | refine wpAny_bind (wpAny_typeNameOfWhole_keyiter hi.typeIs (wpAny_pure ?_))
  | refine wpAny_bind (wpAny_typeNameOf_keyiter hi.typeIs (wpAny_pure ?_))
 refine wpAny_bind (wpAny_fieldsOf i1 i3 ?_)
 simp only [own, Bool.false_eq_true, if_false]
 show wpAny _ _ (ite ((Value.ref d == Value.none) = true) _ _) _ _ _
 rw [if_neg (show ¬ (Value.ref d == Value.none) = true from fun z => nomatch z)]
 refine wpAny_bind (wpAny_pure (wpAny_bind (wpAny_dictEntries o1 o3 ?_)))
 rw [if_neg (by simp)]
 refine wpAny_bind (wpAny_pure (wpAny_bind (wpAny_dictEpoch o1 o3 ?_)))
 rw [if_neg (by simp)]
 refine wpAny_pure ?_
 have nn : ¬ ((i : Int) < 0) := by omega
 simp only [nn, if_false, Int.toNat_natCast, Array.getElem?_eq_none he]
 refine wpAny_bind ?_
 first
  | refine wpAny_bind (wpAny_typeNameOfWhole_keyiter hi.typeIs (wpAny_pure ?_))
  | refine wpAny_bind (wpAny_typeNameOf_keyiter hi.typeIs (wpAny_pure ?_))
 show wpAny _ _ (setField (.ref it) 0 .none >>= _) _ _ (s : Shared)
 refine wpAny_bind (wpAny_setField i1 i3 (by simp) ?_)
 show wpAny _ _ (newExc (.type "StopIteration") [] >>= _) _ _ _
 simp only [newExc, newTuple]
 refine wpAny_bind (wpAny_bind (wpAny_newObj_type ?_ (by size_fits)))
 refine wpAny_bind (m := firstArgMember _ _) (wpAny_of_eq (a := Value.none) (by first | rfl | (simp only [firstArgMember]; rfl)) (wpAny_newObj_type ?_ (by size_fits)))
 simp only [raiseNew]
 refine wpAny_bind (wpAny_handled ?_)
 rw [show A.in1.handled = none from hh]
 refine wpAny_bind (wpAny_pure (wpAny_throw (wpAny_bind ?_)))
 refine wpAny_isInstance (T := "StopIteration") (b := true) ⟨_, Heap.get?_push_size _ rfl, rfl⟩ isSubtype_stop ?_
 exact wpAny_pure (q _ (((Heap.SameBut.update ..).extBut.push _).push _))
end
end L2
namespace L2
open PySem
inductive Tr where | lf | nd (l : Tr) (k : Nat) (r : Tr)
def Tr.ins (k : Nat) : Tr -> Option Tr
 | .lf => some (.nd .lf k .lf)
 | .nd l m r => match Nat.blt k m with
  | true => match Tr.ins k l with | some l' => some (.nd l' m r) | none => none
  | false => match Nat.blt m k with
   | true => match Tr.ins k r with | some r' => some (.nd l m r') | none => none
   | false => none
def Tr.all : List Nat -> Tr -> Bool
 | [], _ => true
 | k :: ks, t => match t.ins k with | some t' => Tr.all ks t' | none => false
def Tr.mem (x : Nat) : Tr -> Prop
 | .lf => False
 | .nd l k r => x = k ∨ l.mem x ∨ r.mem x
end L2
namespace L2
abbrev P2 := Int × Int
abbrev PD := List (P2 × Int)
def gtD (f : PD) (k : P2) : Option Int := (f.find? fun x => decide (x.1 = k)).map (·.2)
def ptD (f : PD) (k : P2) (v : Int) : PD :=
 if (f.any fun x => decide (x.1 = k)) = true then f.map (fun x => if x.1 = k then (x.1, v) else x) else f ++ [(k, v)]
def cfD (f : PD) (k : P2) : Int := (gtD f k).getD 0
def ndD (f : PD) : Prop := (f.map (·.1)).Nodup
def nzD (f : PD) : PD := f.filter fun x => decide (x.2 ≠ 0)
def adD (f : PD) (k : P2) (v : Int) : PD := ptD f k (cfD f k + v)
def smD (l : PD) (k : P2) : Int := (l.map fun x => if x.1 = k then x.2 else 0).sum
theorem gtD_nil (k : P2) : gtD [] k = none := rfl
theorem gtD_cons (x : P2 × Int) (f : PD) (k : P2) : gtD (x :: f) k = if x.1 = k then some x.2 else gtD f k := by
 unfold gtD
 rw [List.find?_cons]
 by_cases h : x.1 = k
 ·rw [decide_eq_true h, if_pos h]; rfl
 ·rw [decide_eq_false h, if_neg h]
theorem gtD_none {f : PD} {k : P2} : gtD f k = none ↔ ∀ x ∈ f, x.1 ≠ k := by
 induction f with
 | nil => rw [gtD_nil]; simp
 | cons x f ih =>
  rw [gtD_cons]
  by_cases h : x.1 = k
  ·rw [if_pos h]
   constructor
   ·intro z; cases z
   ·intro z; exact absurd h (z x List.mem_cons_self)
  ·rw [if_neg h, ih]
   constructor
   ·intro z y hy
    rcases List.mem_cons.mp hy with e | hy
    ·subst e; exact h
    ·exact z y hy
   ·intro z y hy; exact z y (List.mem_cons_of_mem _ hy)
theorem gtD_any (f : PD) (k : P2) : (f.any fun x => decide (x.1 = k)) = (gtD f k).isSome := by
 induction f with
 | nil => rfl
 | cons x f ih =>
  rw [List.any_cons, gtD_cons, ih]
  by_cases h : x.1 = k
  ·rw [decide_eq_true h, if_pos h]; rfl
  ·rw [decide_eq_false h, if_neg h]; rfl
theorem gtD_append (f g : PD) (k : P2) : gtD (f ++ g) k = (gtD f k).or (gtD g k) := by
 induction f with
 | nil => rfl
 | cons x f ih =>
  rw [List.cons_append, gtD_cons, gtD_cons, ih]
  by_cases h : x.1 = k
  ·rw [if_pos h, if_pos h]; rfl
  ·rw [if_neg h, if_neg h]
theorem gtD_pt (f : PD) (k : P2) (v : Int) (j : P2) : gtD (ptD f k v) j = if j = k then some v else gtD f j := by
 unfold ptD
 rw [gtD_any]
 by_cases h : (gtD f k).isSome = true
 ·rw [if_pos h]
  have hm : ∀ g : PD, gtD (g.map fun x => if x.1 = k then (x.1, v) else x) j = if j = k then (gtD g j).map (fun _ => v) else gtD g j := by
   intro g
   induction g with
   | nil => split <;> rfl
   | cons x g ih =>
    rw [List.map_cons, gtD_cons, gtD_cons, ih]
    by_cases e : x.1 = k
    ·by_cases e2 : j = k
     ·rw [if_pos e, if_pos e2, if_pos e2]
      have e3 : x.1 = j := e.trans e2.symm
      simp [e3]
     ·rw [if_pos e, if_neg e2, if_neg e2]
      have e3 : ¬ x.1 = j := fun z => e2 (z.symm.trans e)
      rw [if_neg e3, if_neg e3]
    ·rw [if_neg e]
     by_cases e2 : j = k
     ·rw [if_pos e2, if_pos e2]
      have e3 : ¬ x.1 = j := fun z => e (z.trans e2)
      simp [e3]
     ·rw [if_neg e2, if_neg e2]
  rw [hm]
  by_cases e : j = k
  ·subst e
   rw [if_pos rfl, if_pos rfl]
   obtain ⟨y, hy⟩ := Option.isSome_iff_exists.mp h
   rw [hy]; rfl
  ·rw [if_neg e, if_neg e]
 ·rw [if_neg h, gtD_append, gtD_cons, gtD_nil]
  have hn : gtD f k = none := by
   cases q : gtD f k with
   | none => rfl
   | some y => rw [q] at h; exact absurd rfl h
  by_cases e : j = k
  ·subst e
   rw [if_pos rfl, hn, if_pos rfl]; rfl
  ·rw [if_neg e, if_neg (fun z => e z.symm)]
   cases gtD f j <;> rfl
theorem cfD_pt (f : PD) (k : P2) (v : Int) (j : P2) : cfD (ptD f k v) j = if j = k then v else cfD f j := by
 unfold cfD
 rw [gtD_pt]
 split <;> rfl
theorem cfD_ad (f : PD) (k : P2) (v : Int) (j : P2) : cfD (adD f k v) j = cfD f j + if k = j then v else 0 := by
 unfold adD
 rw [cfD_pt]
 by_cases e : j = k
 ·subst e; rw [if_pos rfl, if_pos rfl]
 ·rw [if_neg e, if_neg (fun z => e z.symm)]; omega
theorem keys_pt (f : PD) (k : P2) (v : Int) : (ptD f k v).map (·.1) = if (gtD f k).isSome = true then f.map (·.1) else f.map (·.1) ++ [k] := by
 unfold ptD
 rw [gtD_any]
 split
 ·rw [List.map_map]
  apply List.map_congr_left
  intro x _
  show (if x.1 = k then (x.1, v) else x).1 = x.1
  split <;> rfl
 ·rw [List.map_append]; rfl
theorem ndD_pt {f : PD} (h : ndD f) (k : P2) (v : Int) : ndD (ptD f k v) := by
 unfold ndD at *
 rw [keys_pt]
 split
 ·exact h
 ·rename_i hn
  have q : gtD f k = none := by
   cases q : gtD f k with
   | none => rfl
   | some y => rw [q] at hn; exact absurd rfl hn
  rw [List.nodup_append]
  refine ⟨h, List.nodup_cons.mpr ⟨List.not_mem_nil, List.nodup_nil⟩, ?_⟩
  intro a ha b hb
  rw [List.mem_singleton.mp hb]
  intro z
  obtain ⟨x, hx, e⟩ := List.mem_map.mp ha
  exact gtD_none.mp q x hx (e.trans z)
theorem ndD_ad {f : PD} (h : ndD f) (k : P2) (v : Int) : ndD (adD f k v) := ndD_pt h k _
theorem ndD_nil : ndD [] := List.nodup_nil
theorem len_pt (f : PD) (k : P2) (v : Int) : (ptD f k v).length <= f.length + 1 := by
 have h := congrArg List.length (keys_pt f k v)
 rw [List.length_map] at h
 rw [h]
 split
 ·rw [List.length_map]; omega
 ·rw [List.length_append, List.length_map]; exact Nat.le_refl _
theorem len_ad (f : PD) (k : P2) (v : Int) : (adD f k v).length <= f.length + 1 := len_pt f k _
theorem ndD_cons {x : P2 × Int} {f : PD} : ndD (x :: f) ↔ gtD f x.1 = none ∧ ndD f := by
 unfold ndD
 rw [List.map_cons, List.nodup_cons, gtD_none]
 constructor
 ·rintro ⟨h1, h2⟩
  exact ⟨fun y hy e => h1 (List.mem_map.mpr ⟨y, hy, e⟩), h2⟩
 ·rintro ⟨h1, h2⟩
  refine ⟨fun hm => ?_, h2⟩
  obtain ⟨y, hy, e⟩ := List.mem_map.mp hm
  exact h1 y hy e
theorem gtD_of_mem {f : PD} (h : ndD f) {x : P2 × Int} (hx : x ∈ f) : gtD f x.1 = some x.2 := by
 induction f with
 | nil => exact nomatch hx
 | cons y f ih =>
  obtain ⟨h1, h2⟩ := ndD_cons.mp h
  rw [gtD_cons]
  rcases List.mem_cons.mp hx with e | hx
  ·subst e; rw [if_pos rfl]
  ·rw [if_neg (fun e => gtD_none.mp h1 x hx e.symm)]
   exact ih h2 hx
theorem mem_of_gtD {f : PD} {k : P2} {v : Int} (h : gtD f k = some v) : (k, v) ∈ f := by
 induction f with
 | nil => rw [gtD_nil] at h; cases h
 | cons y f ih =>
  rw [gtD_cons] at h
  by_cases e : y.1 = k
  ·rw [if_pos e] at h
   cases h
   subst e
   exact List.mem_cons_self
  ·rw [if_neg e] at h
   exact List.mem_cons_of_mem _ (ih h)
theorem nzD_cons (x : P2 × Int) (f : PD) : nzD (x :: f) = if x.2 = 0 then nzD f else x :: nzD f := by
 unfold nzD
 rw [List.filter_cons]
 by_cases h : x.2 = 0
 ·rw [if_pos h, decide_eq_false (fun z => z h)]; rfl
 ·rw [if_neg h, decide_eq_true h]; rfl
theorem gtD_nz {f : PD} (h : ndD f) (k : P2) : gtD (nzD f) k = if cfD f k = 0 then none else some (cfD f k) := by
 induction f with
 | nil => rfl
 | cons x f ih =>
  obtain ⟨h1, h2⟩ := ndD_cons.mp h
  have e2 := ih h2
  rw [nzD_cons]
  by_cases e : x.1 = k
  ·have e3 : cfD (x :: f) k = x.2 := by unfold cfD; rw [gtD_cons, if_pos e]; rfl
   rw [e3]
   by_cases z : x.2 = 0
   ·rw [if_pos z, if_pos z, e2]
    have e4 : cfD f k = 0 := by unfold cfD; rw [← e, h1]; rfl
    rw [if_pos e4]
   ·rw [if_neg z, if_neg z, gtD_cons, if_pos e]
  ·have e3 : cfD (x :: f) k = cfD f k := by unfold cfD; rw [gtD_cons, if_neg e]
   rw [e3]
   by_cases z : x.2 = 0
   ·rw [if_pos z, e2]
   ·rw [if_neg z, gtD_cons, if_neg e, e2]
theorem ndD_nz {f : PD} (h : ndD f) : ndD (nzD f) := by
 unfold ndD nzD at *
 exact List.Sublist.nodup (List.Sublist.map _ List.filter_sublist) h
theorem nzD_nz (f : PD) : ∀ x ∈ nzD f, x.2 ≠ 0 := fun x hx => of_decide_eq_true (List.mem_filter.mp hx).2
theorem nzD_mem {f : PD} {x : P2 × Int} (h : x ∈ nzD f) : x ∈ f := (List.mem_filter.mp h).1
theorem nzD_len (f : PD) : (nzD f).length <= f.length := List.length_filter_le _ _
theorem put_all {f : PD} (h : ndD f) : ∀ a : PD, (∀ x ∈ f, gtD a x.1 = none) -> f.foldl (fun a x => ptD a x.1 x.2) a = a ++ f := by
 induction f with
 | nil => intro a _; rw [List.append_nil]; rfl
 | cons x f ih =>
  intro a ha
  obtain ⟨h1, h2⟩ := ndD_cons.mp h
  have e : ptD a x.1 x.2 = a ++ [x] := by
   unfold ptD
   rw [gtD_any, ha x List.mem_cons_self]
   rfl
  rw [List.foldl_cons, e, ih h2 (a ++ [x]) fun y hy => ?_]
  ·rw [List.append_assoc]; rfl
  ·rw [gtD_append, ha y (List.mem_cons_of_mem _ hy), gtD_cons, gtD_nil, if_neg (fun z => gtD_none.mp h1 y hy z.symm)]
   rfl
def foD (l : PD) (a : PD) : PD := l.foldl (fun a x => adD a x.1 x.2) a
theorem foD_cons (x : P2 × Int) (l a : PD) : foD (x :: l) a = foD l (adD a x.1 x.2) := rfl
theorem foD_snoc (l : PD) (x : P2 × Int) (a : PD) : foD (l ++ [x]) a = adD (foD l a) x.1 x.2 := by
 unfold foD; rw [List.foldl_append]; rfl
theorem cf_fo : ∀ (l a : PD) (k : P2), cfD (foD l a) k = cfD a k + smD l k
 | [], a, k => by show cfD a k = cfD a k + 0; omega
 | x :: l, a, k => by
  rw [foD_cons, cf_fo l, cfD_ad]
  unfold smD
  rw [List.map_cons, List.sum_cons]
  omega
theorem nd_fo : ∀ (l : PD) {a : PD}, ndD a -> ndD (foD l a)
 | [], _, h => h
 | x :: l, _, h => by rw [foD_cons]; exact nd_fo l (ndD_ad h _ _)
theorem len_fo : ∀ (l a : PD), (foD l a).length <= a.length + l.length
 | [], a => Nat.le_refl _
 | x :: l, a => by
  rw [foD_cons, List.length_cons]
  have h1 := len_fo l (adD a x.1 x.2)
  have h2 := len_ad a x.1 x.2
  omega
def rowD (x : P2 × Int) (g : PD) : PD := g.map fun y => ((x.1.1 + y.1.1, x.1.2 + y.1.2), x.2 * y.2)
def prD (f g : PD) : PD := f.flatMap fun x => rowD x g
def timesD (f g : PD) : PD := nzD (foD (prD f g) [])
theorem foD_app (l m a : PD) : foD (l ++ m) a = foD m (foD l a) := by unfold foD; rw [List.foldl_append]
theorem prD_snoc (f : PD) (x : P2 × Int) (g : PD) : prD (f ++ [x]) g = prD f g ++ rowD x g := by
 unfold prD; rw [List.flatMap_append]; simp
theorem rowD_snoc (x : P2 × Int) (g : PD) (y : P2 × Int) : rowD x (g ++ [y]) = rowD x g ++ [((x.1.1 + y.1.1, x.1.2 + y.1.2), x.2 * y.2)] := by
 unfold rowD; rw [List.map_append]; rfl
theorem smD_app (l m : PD) (k : P2) : smD (l ++ m) k = smD l k + smD m k := by
 unfold smD; rw [List.map_append, List.sum_append]
theorem smD_cons (x : P2 × Int) (l : PD) (k : P2) : smD (x :: l) k = (if x.1 = k then x.2 else 0) + smD l k := by
 unfold smD; rw [List.map_cons, List.sum_cons]
def SameD (f g : PD) : Prop := f.length = g.length ∧ ∀ x ∈ f, gtD g x.1 = some x.2
theorem len_le_of_keys : ∀ {l m : List P2}, l.Nodup -> (∀ x ∈ l, x ∈ m) -> l.length <= m.length
 | [], m, _, _ => Nat.zero_le _
 | x :: l, m, h, hs => by
  obtain ⟨h1, h2⟩ := List.nodup_cons.mp h
  have hx := hs x List.mem_cons_self
  have e := List.length_erase_of_mem hx
  have r := len_le_of_keys (l := l) (m := m.erase x) h2 fun y hy => by
   refine (List.mem_erase_of_ne ?_).mpr (hs y (List.mem_cons_of_mem _ hy))
   intro z; subst z; exact h1 hy
  have : 0 < m.length := List.length_pos_of_mem hx
  rw [List.length_cons]; omega
end L2
namespace L2
open PySem PySem.Spec PyProof.Rows
def bkH (H : Hp) (a : Addr) (H' : Hp) : Hp := fun b => if b = a then H a else H' b
theorem bk_at {H H' : Hp} {a : Addr} : bkH H a H' a = H a := by unfold bkH; rw [if_pos rfl]
theorem bk_ne {H H' : Hp} {a b : Addr} (h : b ≠ a) : bkH H a H' b = H' b := by unfold bkH; rw [if_neg h]
def Thw (X : Cx) (H : Hp) (a : Addr) (o : Obj) (kvs : List (List Key × V)) : Prop := H a = some (.frz o (.dT kvs)) ∨ (H a = some (.dT kvs) ∧ ∀ o' u', X.H₀ a ≠ some (.frz o' u'))
theorem pget {α β : Type} {F : α -> β -> Prop} : ∀ {l : List α} {m : List β} {i : Nat} {p : α}, Paired F l m -> l[i]? = some p -> ∃ q, m[i]? = some q ∧ F p q
 | _, _, _, _, .nil, e => by simp at e
 | _, _, 0, _, .cons r _, e => by simp at e; subst e; exact ⟨_, rfl, r⟩
 | _, _, i + 1, p, .cons _ t, e => by
  obtain ⟨q, h1, h2⟩ := pget (i := i) (p := p) t (by simpa using e)
  exact ⟨q, by simpa using h1, h2⟩
section
variable {X : Cx} {pins : List (Addr × Obj)} {σ : St} {H H' : Hp} {s : Shared} {a : Addr} {o : Obj} {kvs : List (List Key × V)}
theorem frz_ok (ok : HOk X.prog X.w H s.heap) (e : H a = some (.frz o (.dT kvs))) : kvs.length <= sizeLine ∧ (a == sysModules) = false ∧ ∃ (xs : List (List Key × Addr × Value)) (es : Array DictEntry) (ep : Nat),
  Paired (fun (p : List Key × V) (q : List Key × Addr × Value) => p.1 = q.1 ∧ H q.2.1 = some (.tup (p.1.map kV)) ∧ RelV p.2 q.2.2) kvs xs ∧ s.heap.get? a = some o ∧ o.ExactDict ∧ o.data = .dict es ep ∧ es.toList = xs.map (entryOfKey (tupleKind (mixKind X.prog X.w))) ∧ (xs.map (·.1)).Nodup := by
 obtain ⟨g1, z, y, xs, rel, o', es, ep, h1, h2, h3, h4, h5⟩ := (show ObjOk X.prog X.w H s.heap a (.frz o (.dT kvs)) from ok a _ e)
 rw [g1] at h1
 cases h1
 exact ⟨z, y, xs, es, ep, rel, g1, h2, h3, h4, h5⟩
theorem Inv.freeze (I : Inv X pins σ H s) (r : Rd H a (.dT kvs)) : ∃ o es ep, s.heap.get? a = some o ∧ o.ExactDict ∧ o.data = .dict es ep ∧ (a == sysModules) = false ∧ Thw X H a o kvs ∧ Inv X pins σ (upd H a (.frz o (.dT kvs))) s := by
 rcases r with e | ⟨o, e⟩
 ·obtain ⟨z, y, xs, rel, o, es, ep, h1, h2, h3, h4, h5⟩ := (show ObjOk X.prog X.w H s.heap a (.dT kvs) from I.hok a _ e)
  have nt : ∀ b ys, H b = some (.tup ys) -> b ≠ a := fun b ys q => ne_of q e (fun z => nomatch z)
  have no : ∀ b y, H b = some (.own y) -> b ≠ a := fun b y q => ne_of q e (fun z => nomatch z)
  refine ⟨o, es, ep, h1, h2, h3, y, .inr ⟨e, fun o' u' q => ?_⟩, ?_⟩
  ·have := I.base.frzs a o' u' q
   rw [e] at this; cases this
  ·have hok : HOk X.prog X.w (upd H a (.frz o (.dT kvs))) s.heap := fun b u q => by
    by_cases hb : b = a
    ·subst hb
     rw [upd_same] at q; cases q
     exact ⟨h1, z, y, xs, Paired.mapP rel fun p q x => ⟨x.1, by rw [upd_ne (nt _ _ x.2.1)]; exact x.2.1, x.2.2⟩, o, es, ep, h1, h2, h3, h4, h5⟩
    ·rw [upd_ne hb] at q
     exact (I.hok b u q).stay (fun _ _ _ x => x) (fun c x => by rw [upd_ne (no _ _ x)]; exact x) fun c ys x => by rw [upd_ne (nt _ _ x)]; exact x
   have un : Un X.fs [] H (upd H a (.frz o (.dT kvs))) s.heap s.heap :=
    ⟨fun b ob q _ _ _ => q, fun b ob q _ _ _ => ⟨ob.slots, q⟩, fun b ob q n _ => by rw [upd_ne (Ne.symm (ne_of_none e n))]; exact n, fun b ob q _ => ⟨ob, q⟩,
     fun b xs q => by rw [upd_ne (nt _ _ q)]; exact q, fun b ob u q => by rw [upd_ne (ne_of q e (fun z => nomatch z))]; exact q, fun b ps q => ⟨#[], by rw [upd_ne (ne_of q e (fun z => nomatch z)), q]; simp⟩⟩
   exact I.un (h' := s.heap) (t' := s.toks) un hok
 ·obtain ⟨z, y, xs, es, ep, rel, h1, h2, h3, h4, h5⟩ := frz_ok I.hok e
  have eq : upd H a (.frz o (.dT kvs)) = H := by
   funext b
   by_cases hb : b = a
   ·subst hb; rw [upd_same, e]
   ·rw [upd_ne hb]
  exact ⟨o, es, ep, h1, h2, h3, y, .inl e, by rw [eq]; exact I⟩
theorem Inv.thaw (I : Inv X pins σ H' s) (h : H' a = some (.frz o (.dT kvs))) (t : Thw X H a o kvs) : Inv X pins σ (bkH H a H') s := by
 rcases t with e | ⟨e, n⟩
 ·have eq : bkH H a H' = H' := by
   funext b
   by_cases hb : b = a
   ·subst hb; rw [bk_at, e, h]
   ·rw [bk_ne hb]
  rw [eq]; exact I
 ·have ba : bkH H a H' a = some (.dT kvs) := by rw [bk_at, e]
  have nn : ∀ b, H' b = none -> b ≠ a := fun b q z => by subst z; rw [h] at q; cases q
  have nt : ∀ b ys, H' b = some (.tup ys) -> b ≠ a := fun b ys q => ne_of q h (fun z => nomatch z)
  have no : ∀ b y, H' b = some (.own y) -> b ≠ a := fun b y q => ne_of q h (fun z => nomatch z)
  obtain ⟨z, y, xs, es, ep, rel, h1, h2, h3, h4, h5⟩ := frz_ok I.hok h
  refine ⟨I.ok, I.os, I.bare, ⟨I.base.keep, I.base.slot, fun b ob q m x => ?_, I.base.there, fun b xs q => ?_, fun b ob u q => ?_, fun b ps q => ?_⟩, I.loc, I.cell, ?_, fun x c q => ?_, fun p hp => ?_, fun b u q => ?_, I.len⟩
  ·have w := I.base.free b ob q m x
   rw [bk_ne (nn b w)]; exact w
  ·have w := I.base.tups b xs q
   rw [bk_ne (nt b xs w)]; exact w
  ·have w := I.base.frzs b ob u q
   rw [bk_ne (fun z => n ob u (by rw [← z]; exact q))]; exact w
  ·obtain ⟨m, w⟩ := I.base.tbls b ps q
   exact ⟨m, by rw [bk_ne (ne_of w h (fun z => nomatch z))]; exact w⟩
  ·rw [bk_ne (nn _ I.free)]; exact I.free
  ·rw [bk_ne (nn _ (I.freeC x c q))]; exact I.freeC x c q
  ·obtain ⟨p1, p2, p3⟩ := I.pin p hp
   exact ⟨p1, by rw [bk_ne (nn _ p2)]; exact p2, p3⟩
  ·by_cases hb : b = a
   ·subst hb
    rw [ba] at q; cases q
    exact ⟨z, y, xs, Paired.mapP rel fun p q x => ⟨x.1, by rw [bk_ne (nt _ _ x.2.1)]; exact x.2.1, x.2.2⟩, o, es, ep, h1, h2, h3, h4, h5⟩
   ·rw [bk_ne hb] at q
    exact (I.hok b u q).stay (fun _ _ _ x => x) (fun c x => by rw [bk_ne (no _ _ x)]; exact x) fun c ys x => by rw [bk_ne (nt _ _ x)]; exact x
end
def Itd (a : Addr) (o : Obj) (kvs : List (List Key × V)) : It :=
 ⟨fun i H => H a = some (.frz o (.dT kvs)) ∧ i < kvs.length, fun i H v H' => ∃ p b k x, H p = none ∧ v = .ref p ∧ kvs[i]? = some (k, x) ∧ H b = some (.tup (k.map kV)) ∧ H' = upd H p (.tup [.ref b, x]),
  fun i H => H a = some (.frz o (.dT kvs)) ∧ kvs.length <= i⟩
theorem turn_items {P : Program} {w : World} {K : PySem.W.Frag} {elts : List Expr} {tk : Nat} {tpos : Pos} {o : Obj} {kvs : List (List Key × V)} {es : Array DictEntry} {ep : Nat} (a it : Addr) (hod : o.data = .dict es ep) :
  Turn P w K (.Tuple elts tk tpos) (Itd a o kvs) [it] it (fun i h => ∃ ok ov, IsItemIter h it a i es.size ep ok ov) where
 mem := by simp
 obj := fun i h st c hb => by
  obtain ⟨ok, ov, hi⟩ := st
  rw [List.mem_singleton.mp hb]
  exact ⟨_, hi, fun v z => by
   have z' : Data.fields _ = Data.cell v := z
   cases z'⟩
 keep := fun i h h' st k => by
  obtain ⟨ok, ov, hi⟩ := st
  exact ⟨ok, ov, k it (by simp) _ hi⟩
 item := by
  intro X hP hw hK hc i pins s σ H E I hf st hg
  subst hP hw hK
  obtain ⟨ok, ov, hi⟩ := st
  obtain ⟨hfz, hlt⟩ := hg
  obtain ⟨z, y, xs, es', ep', rel, h1, h2, h3, h4, h5⟩ := frz_ok I.hok hfz
  rw [hod] at h3
  cases h3
  obtain ⟨⟨k, x⟩, hk⟩ : ∃ p, kvs[i]? = some p := ⟨_, List.getElem?_eq_getElem hlt⟩
  obtain ⟨⟨k', b, u⟩, hq, e1, e2, e3⟩ := pget rel hk
  have he : es[i]? = some (entryOfKey (tupleKind (mixKind X.prog X.w)) (k', b, u)) := by rw [entry_at h4, hq]; rfl
  obtain ⟨f0, f1, f2, f3, f4, f5⟩ := hf it (by simp)
  refine en_next hi ⟨o, h1, h2, hod⟩ he fun g1 ho hT hsz hk1 => ⟨_, rfl, wpAny_letOwnedTupleGo_items ho fun g2 he2 hs2 => ?_⟩
  have hp : H s.heap.objs.size = none := I.hok.fresh (Nat.le_refl _)
  have hpi : s.heap.objs.size ≠ it := Nat.ne_of_gt (Heap.lt_size hi)
  have k2 : ∀ c ob, c ∉ [it] -> s.heap.get? c = some ob -> g2.get? c = some ob := fun c ob hb q => (hs2.2 c fun e => hb (by simp [e])).trans (hk1 c ob (fun e => hb (by simp [e])) q)
  have hT2 : g2.get? s.heap.objs.size = some { cls := .type "tuple", data := .seq #[.ref b, u] } := (hs2.2 _ hpi).trans hT
  have nch : ∀ c v, H c = some v -> c ∉ [it] := fun c v q hb => by rw [(hf c hb).1] at q; cases q
  have up : ∀ c, c < s.heap.objs.size -> c ≠ s.heap.objs.size := fun c hb => Nat.ne_of_lt hb
  have I2 : Inv X pins σ (upd H s.heap.objs.size (.tup [.ref b, x])) { s with heap := g2 } := by
   refine I.step (g' := s.gens) (d' := s.drawn) (t' := s.toks) (ch := [it]) (fun c hb => ?_) (fun c ob _ _ hc q _ => k2 c ob hc q) (fun c ob _ _ hc q _ => ⟨ob.slots, k2 c ob hc q⟩) (fun c ob _ q n => by rw [upd_ne (up c (Heap.lt_size q))]; exact n)
    (fun c ob hc q => ⟨ob, k2 c ob hc q⟩) (fun c ys q => by rw [upd_ne (ne_of_none q hp)]; exact q) (fun c ob v q => by rw [upd_ne (ne_of_none q hp)]; exact q) (fun c ps q => ⟨#[], by rw [upd_ne (ne_of_none q hp), q]; simp⟩) (fun m hm => ?_) (fun c v q => ?_) I.bare
   ·rw [List.mem_singleton.mp hb]; exact ⟨f3, f1, f4, f5⟩
   ·obtain ⟨ob, es, ep, q, r⟩ := hm
    exact ⟨ob, es, ep, k2 _ ob (fun e => (hf _ e).2.1 rfl) q, r⟩
   ·by_cases hb : c = s.heap.objs.size
    ·subst hb
     rw [upd_same] at q; cases q
     exact ⟨by show 2 <= sizeLine; decide, [.ref b, u], .cons rfl (.cons e3 .nil), ⟨_, hT2, rfl, _, rfl⟩⟩
    ·rw [upd_ne hb] at q
     refine (I.hok c v q).stay (fun c' ob hc r => k2 c' ob ?_ r) (fun c' r => by rw [upd_ne (ne_of_none r hp)]; exact r) fun c' ys r => by rw [upd_ne (ne_of_none r hp)]; exact r
     rcases hc with e | e
     ·rw [e]; exact nch c v q
     ·exact nch c' _ e
  refine ⟨.ref s.heap.objs.size, _, I2, rfl, ⟨_, b, k, x, hp, rfl, hk, e2, rfl⟩, ⟨_, _, he2⟩, fun c hb => ?_⟩
  rw [List.mem_singleton.mp hb, upd_ne (Ne.symm hpi)]
  exact f0
 done := by
  intro X hP hw hK hc i pins s σ H E I hf st hg
  subst hP hw hK
  obtain ⟨ok, ov, hi⟩ := st
  obtain ⟨hfz, hge⟩ := hg
  obtain ⟨z, y, xs, es', ep', rel, h1, h2, h3, h4, h5⟩ := frz_ok I.hok hfz
  rw [hod] at h3
  cases h3
  have hl := Paired.length rel
  have hsz := size_of_entries h4
  obtain ⟨f0, f1, f2, f3, f4, f5⟩ := hf it (by simp)
  exact en_end (I.ok.hd hc) hi ⟨o, h1, h2, hod⟩ (by omega) fun h' eb => ⟨rfl, I.turned (t' := s.toks) (fun b ob hb e => eb b ob hb e) f0 f1 f3 f4 f5⟩
 self := fun A i s Q E st h => by
  obtain ⟨ok, ov, hi⟩ := st
  exact PySem.W.kcp_self hi h
section
variable {X : Cx}
def iItems (X : Cx) (td : TE) : TI := fun σ H R => td σ H fun x H1 => ∃ a kvs, x = .ref a ∧ Rd H1 a (.dT kvs) ∧ ∀ o, Thw X H1 a o kvs -> R (Itd a o kvs) (upd H1 a (.frz o (.dT kvs)))
theorem pi_items {elts : List Expr} {tk : Nat} {tpos apos cpos : Pos} {e : Expr} {td : TE} (ho : PE X e td) (hbase : attributeBase e "items" X.env (eval e X.env) = eval e X.env := by rfl) (hline : (apos.endLine == cpos.line) = true := by rfl) :
  PI X (.Tuple elts tk tpos) (.Call (.Attribute e "items" apos) [] [] cpos) (iItems X td) := by
 intro pins s σ H R I h
 refine wpAny_Call_method0_late hbase hline (thn (ho pins s σ H _ I h) fun v s1 ⟨x, H1, I1, r1, a, kvs, ex, rd, q⟩ => ?_)
 subst ex
 cases r1
 obtain ⟨o, es, ep, h1, h2, h3, hd, tw, I2⟩ := I1.freeze rd
 have en : EnAt s1.heap a es ep := ⟨o, h1, h2, h3⟩
 refine ⟨"dict", "dict.items", PySem.F.plainAttrs_dict, PySem.F.slot_dict_items, PySem.F.type_dict_items, en.ty, fun b eb => ?_, Calls.callWith_builtin rfl (PySem.evalArgs_none (en_items hd en ?_))⟩
 ·cases eb; exact ⟨o, h1, h2.2.1⟩
 have I3 : Inv X pins σ (upd H1 a (.frz o (.dT kvs))) { s1 with heap := s1.heap.push { cls := .type "dict_items", data := .fields #[.ref a] } } := I2.kept (t' := s1.toks) fun b ob q => Heap.get?_push_of_some _ q
 refine en_iter (v := s1.heap.objs.size) ⟨_, Heap.get?_push_size _ rfl, rfl, rfl⟩ (en.at fun ob q => Heap.get?_push_of_some _ q) ?_
 refine ⟨_, [_], _, _, upd H1 a (.frz o (.dT kvs)), rfl, I3.kept (t' := s1.toks) fun b ob q => Heap.get?_push_of_some _ q, turn_items a _ h3, ⟨.none, .none, Heap.get?_push_size _ rfl⟩, fun b hb => ?_, q o tw⟩
 rw [List.mem_singleton.mp hb]
 exact I3.fpOk (Nat.le_refl _) (I3.hok.fresh (Nat.le_refl _))
def thD (X : Cx) (D : Ends) : Ends := { D with nx := fun σ' H' => ∃ H1 a o kvs, Thw X H1 a o kvs ∧ H' a = some (.frz o (.dT kvs)) ∧ D.nx σ' (bkH H1 a H') }
theorem ps_forD {iter : Expr} {tg : Expr} {body : List Stmt} {wi : TI} {g : TG} {tb : TS} {pos : Pos} (h : PS X (.For tg iter body [] pos) (tFor wi g tb)) : PS X (.For tg iter body [] pos) (fun D σ H => tFor wi g tb (thD X D) σ H) := by
 intro pins s σ H D I r
 refine thn (h pins s σ H (thD X D) I r) fun f s' q => ?_
 cases f with
 | next =>
  obtain ⟨σ', H', I', H1, a, o, kvs, tw, e, n⟩ := q
  exact ⟨σ', _, I'.thaw e tw, n⟩
 | brk => exact q
 | cont => exact q
 | ret u => exact q
def thQ (X : Cx) (Q : VK) : VK := fun v H' => ∃ H1 a o kvs, Thw X H1 a o kvs ∧ H' a = some (.frz o (.dT kvs)) ∧ Q v (bkH H1 a H')
theorem pe_thaw {e : Expr} {t : TE} (h : PE X e t) : PE X e (fun σ H Q => t σ H (thQ X Q)) := by
 intro pins s σ H Q I r
 refine thn (h pins s σ H (thQ X Q) I r) fun u s' ⟨v, H', I', rv, H1, a, o, kvs, tw, e, n⟩ => ⟨v, _, I'.thaw e tw, rv, n⟩
end
end L2
namespace L2
open PySem PySem.Spec PyProof.Rows
section
variable {X : Cx} {elt iter cnd : Expr} {x z : Str} {px pz : Pos} {tk : Nat} {tpos : Pos} {fv : List (Nat × Str)} {scope : Scope} {cl : List (Str × Addr)} {pos : Pos} {te : TE} {tt : TT} {wi : TI}
theorem blk_run2If {pins : List (Addr × Obj)} {σ : St} {H : Hp} {s2 : Shared} {it : Addr} {fp : List Addr} {tn : Nat -> Heap -> Prop} {J : It} {Q : VK} {E : Value -> Shared -> Prop} {RR : Value -> Addr -> Result -> Shared -> Prop}
  (hc : X.calm = true) (B : BlkOk2 X x z fv scope cl) (hcn : ∀ C s H fp, PT (blk2 X x z fv scope cl C s H fp) cnd tt) (he : ∀ C s H fp, PE (blk2 X x z fv scope cl C s H fp) elt te) (I : Inv X pins σ H s2) (T : Turn X.prog X.w X.K (.Tuple [.Name x px, .Name z pz] tk tpos) J fp it tn) (st : tn 0 s2.heap) (hf : ∀ b ∈ fp, FpOk X pins H b)
  (rd : ∀ D, H D = none -> ∃ W : Nat -> Nat -> Hp -> Prop, (∃ m, W 0 m (upd H D (.lst []))) ∧ ∀ i m H, W i m H ->
   (J.stop i H ∧ Q (.ref D) H) ∨ (J.go i H ∧ ∃ N : Hp -> Prop, (∀ H', N H' -> ∃ m', m' < m ∧ W (i + 1) m' H') ∧ ∀ v H', J.yld i H v H' -> ∃ q x1 x2, v = .ref q ∧ SqT X.K H' q [x1, x2] ∧ tt (bst2 fv σ (some x1) (some x2)) H' fun b Hb => if b = true then te (bst2 fv σ (some x1) (some x2)) Hb fun y H2 => ∃ ys, H2 D = some (.lst ys) ∧ ys.length < sizeLine ∧ N (upd H2 D (.lst (ys ++ [y]))) else N Hb))
  (hRR : ∀ D C s' H' m', Inv X pins σ H' s' -> FpOk X pins H' C -> s'.heap.Ns C m' -> Q (.ref D) H' -> RR (.ref D) C (.ok .next) s') :
  wpAny (model X.prog X.w) X.A (newList []) (fun acc s₃ => wpAny (model X.prog X.w) X.A (newFunctionEnv scope X.env.globals cl [] X.env.qual none .none (some X.env)) (fun cenv s₄ =>
   codeAny (model X.prog X.w) X.A (.compStart (.ListComp elt [⟨(.Tuple [.Name x px, .Name z pz] tk tpos), iter, [cnd], 0⟩] scope pos) 0 (.ref it) acc { cenv with scope := relabel scope X.env }) (RR acc cenv.locals) s₄) E s₃) E s2 := by
 refine wpAny_newObj_type ?_ (by show 0 <= sizeLine; exact Nat.zero_le _)
 have hD : H s2.heap.objs.size = none := I.hok.fresh (Nat.le_refl _)
 have I3 := I.lnew (ys := []) (its := []) (t' := s2.toks) .nil (Nat.zero_le _)
 generalize hs3 : ({ s2 with heap := s2.heap.push { cls := .type "list", data := .seq ([] : List Value).toArray }, toks := s2.toks } : Shared) = s3 at I3
 have sz3 : s3.heap.objs.size = s2.heap.objs.size + 1 := by rw [← hs3]; exact Heap.size_push ..
 have up3 : ∀ b o, s2.heap.get? b = some o -> s3.heap.get? b = some o := fun b o e => by rw [← hs3]; exact Heap.get?_push_of_some _ e
 have hf3 : ∀ b ∈ fp, FpOk X pins (upd H s2.heap.objs.size (.lst [])) b := fun b hb => by
  obtain ⟨f0, r⟩ := hf b hb
  refine ⟨?_, r⟩
  obtain ⟨o, e, _⟩ := T.obj 0 _ st b hb
  rw [upd_ne (Nat.ne_of_lt (Heap.lt_size e))]; exact f0
 have ltf : ∀ b ∈ fp, b < s2.heap.objs.size := fun b hb => by
  obtain ⟨o, e, _⟩ := T.obj 0 _ st b hb
  exact Heap.lt_size e
 have st3 : tn 0 s3.heap := T.keep 0 _ _ st fun b _ o e => up3 b o e
 obtain ⟨W, ⟨m0, w0⟩, turn⟩ := rd _ hD
 refine wpAny_newFunctionEnv B.nocell (by intro y hy; simp at hy) (fun h₁ hns₁ hsb₁ => ?_) B.kind
 have hfC : ∀ b ∈ fp, b ≠ s3.heap.objs.size := fun b hb => Nat.ne_of_lt (by rw [sz3]; exact Nat.lt_succ_of_lt (ltf b hb))
 have up4 : ∀ b o, s3.heap.get? b = some o -> h₁.get? b = some o := fun b o e => hsb₁.extBut b o (Nat.ne_of_lt (Heap.lt_size e)) (Heap.get?_push_of_some _ e)
 generalize hs4 : ({ s3 with heap := h₁, toks := s3.toks + ([] : List (Str × Value)).length } : Shared) = s4
 have h4 : s4.heap = h₁ := by rw [← hs4]
 have I4 : Inv (blk2 X x z fv scope cl s3.heap.objs.size s3 (upd H s2.heap.objs.size (.lst [])) fp) [] (bst2 fv σ none none) (upd H s2.heap.objs.size (.lst [])) s4 :=
  blk_start2 B I3 hf3 rfl hfC (by rw [← hs4]) (by rw [← hs4]) (fun b o e => by rw [h4]; exact up4 b o e) (by rw [h4]; exact hns₁)
 have st4 : tn 0 s4.heap := by rw [h4]; exact T.keep 0 _ _ st3 fun b _ o e => up4 b o e
 have stat : ∀ {H' : Hp}, (∀ b ∈ fp, H' b = none) -> ∀ b ∈ fp, FpOk (blk2 X x z fv scope cl s3.heap.objs.size s3 (upd H s2.heap.objs.size (.lst [])) fp) [] H' b := fun {H'} hn b hb => by
  obtain ⟨_, f1, f2, f3, f4, f5⟩ := hf b hb
  refine ⟨hn b hb, hfC b hb, fun z' => ?_, .inl hb, fun y c e => f4 y c (B.sub y c e), fun p hp => absurd (show p ∈ ([] : List (Addr × Obj)) from hp) (by simp)⟩
  rcases List.mem_cons.mp (I.stkSub b z') with q | q
  ·exact f1 q
  ·exact f2 q
 have loop : codeAny (model X.prog X.w) X.A (.compLoop (.ListComp elt [⟨(.Tuple [.Name x px, .Name z pz] tk tpos), iter, [cnd], 0⟩] scope pos) 0 (.ref it) (.ref s2.heap.objs.size) (compEnvC scope cl s3.heap.objs.size X.env)) (RR (.ref s2.heap.objs.size) s3.heap.objs.size) s4 := by
  refine compLoop_if (fun n s' => ∃ i H' o o2, Inv (blk2 X x z fv scope cl s3.heap.objs.size s3 (upd H s2.heap.objs.size (.lst [])) fp) [] (bst2 fv σ o o2) H' s' ∧ tn i s'.heap ∧ (∀ b ∈ fp, H' b = none) ∧ W i n H') ?_ m0
   ⟨0, _, none, none, I4, st4, fun b hb => (hf3 b hb).1, w0⟩
  rintro n s5 E' ⟨i, H5, o5, o6, I5, st5, fr5, w5⟩
  rcases turn i n H5 w5 with ⟨stop, q⟩ | ⟨go, N, hN, step⟩
  ·refine thn (T.done (blk2 X x z fv scope cl s3.heap.objs.size s3 (upd H s2.heap.objs.size (.lst [])) fp) rfl rfl rfl hc i [] s5 _ H5 _ I5 (stat fr5) st5 stop) fun r s6 ⟨hr, I6⟩ => ?_
   subst hr
   obtain ⟨m6, hn6, _⟩ := I6.loc
   have un : Un (frs X.stack) fp H H5 s2.heap s6.heap := by
    have u1 : Un (frs X.stack) fp H (upd H s2.heap.objs.size (.lst [])) s2.heap s3.heap := Un.laid up3 (Nat.le_refl _) hD
    exact u1.trans I6.base
   have J6 : Inv X pins σ H5 s6 := by
    refine I.call' ?_ un I6.hok I6.bare fun b hb => ?_
    ·have := I6.os
     rw [show (blk2 X x z fv scope cl s3.heap.objs.size s3 (upd H s2.heap.objs.size (.lst [])) fp).s₀.os = s2.os by rw [← hs3]] at this
     exact this
    ·obtain ⟨_, f1, f2, f3, f4, f5⟩ := hf b hb
     exact ⟨f3, f1, f4, f5⟩
   refine hRR _ _ s6 H5 m6 J6 ?_ hn6 q
   exact I3.fpOk (Nat.le_refl _) I6.free
  ·refine thn (T.item (blk2 X x z fv scope cl s3.heap.objs.size s3 (upd H s2.heap.objs.size (.lst [])) fp) rfl rfl rfl hc i [] s5 _ H5 _ I5 (stat fr5) st5 go) fun r s6 ⟨u, hr, h6⟩ => ?_
   subst hr
   refine thn h6 fun _ s7 ⟨v, H7, I7, r7, y7, st7, fr7⟩ => ?_
   have I7' := I7.pinned (stat fr7) (T.obj _ _ st7)
   obtain ⟨q7, x1, x2, ev, sq7, rd7⟩ := step v H7 y7
   refine wpAny_mono (blk_store2 (px := px) (pz := pz) (tk := tk) (tpos := tpos) hc B _ s7 _ H7 v u (fun σ' H' => σ' = bst2 fv σ (some x1) (some x2) ∧ H' = H7) I7' r7 ⟨q7, [x1, x2], ev, sq7, rfl, x1, [x2], rfl, x2, [], rfl, rfl, rfl, rfl⟩) (fun _ s8 ⟨σ8, H8, I8, e8a, e8b⟩ => ?_) fun _ _ z => False.elim z
   subst e8a e8b
   have c8 := hcn _ _ _ _ _ s8 _ _ _ I8 rd7
   refine wpAny_mono c8 (fun bb sb ⟨Hb, Ib, qb⟩ => ?_) fun _ _ z => False.elim z
   cases bb with
   | false =>
    rw [if_neg (by decide)] at qb
    show (if false = true then _ else _)
    rw [if_neg (by decide)]
    obtain ⟨m', hm, w9⟩ := hN _ qb
    refine ⟨m', hm, i + 1, _, some x1, some x2, Ib.unpinned, T.keep _ _ _ st7 fun b hb o e => (Ib.pin (b, o) (List.mem_append_right _ (List.mem_append_right _ (mem_pinsAt hb e)))).1, fun b hb => ?_, w9⟩
    obtain ⟨o, e, _⟩ := T.obj _ _ st7 b hb
    exact (Ib.pin (b, o) (List.mem_append_right _ (List.mem_append_right _ (mem_pinsAt hb e)))).2.1
   | true =>
    rw [if_pos rfl] at qb
    show (if true = true then _ else _)
    rw [if_pos rfl]
    have e8 := he _ _ _ _ _ sb _ Hb _ Ib qb
    refine wpAny_mono e8 (fun y s9 ⟨yv, H9, I9, r9, ys, hD9, hz, n9⟩ => ?_) fun _ _ z => False.elim z
    have a9 := mt_append (X := blk2 X x z fv scope cl s3.heap.objs.size s3 (upd H s2.heap.objs.size (.lst [])) fp) _ s9 _ H9 (.ref s2.heap.objs.size) [yv] (.ref s2.heap.objs.size) [y] (fun _ H10 => H10 = upd H9 s2.heap.objs.size (.lst (ys ++ [yv]))) I9 rfl (.cons r9 .nil)
     ⟨_, ys, yv, rfl, rfl, hD9, hz, rfl⟩
    refine wpAny_mono a9 (fun _ s10 ⟨_, H10, I10, _, e10⟩ => ?_) fun _ _ z => False.elim z
    subst e10
    obtain ⟨m', hm, w9⟩ := hN _ n9
    refine ⟨m', hm, i + 1, _, some x1, some x2, I10.unpinned, T.keep _ _ _ st7 fun b hb o e => (I10.pin (b, o) (List.mem_append_right _ (List.mem_append_right _ (mem_pinsAt hb e)))).1, fun b hb => ?_, w9⟩
    obtain ⟨o, e, _⟩ := T.obj _ _ st7 b hb
    exact (I10.pin (b, o) (List.mem_append_right _ (List.mem_append_right _ (mem_pinsAt hb e)))).2.1
 exact codeAny_compStart_list loop (T.self _ 0 _ _ _ st4 loop)
def CLoop2If (K : PySem.W.Frag) (J : It) (fv : List (Nat × Str)) (tt : TT) (te : TE) (Q : VK) (σ : St) (H1 : Hp) (D : Addr) : Prop := ∃ W : Nat -> Nat -> Hp -> Prop, (∃ m, W 0 m (upd H1 D (.lst []))) ∧ ∀ i m H, W i m H ->
 (J.stop i H ∧ Q (.ref D) H) ∨ (J.go i H ∧ ∃ N : Hp -> Prop, (∀ H', N H' -> ∃ m', m' < m ∧ W (i + 1) m' H') ∧ ∀ v H', J.yld i H v H' -> ∃ q x1 x2, v = .ref q ∧ SqT K H' q [x1, x2] ∧ tt (bst2 fv σ (some x1) (some x2)) H' fun b Hb => if b = true then te (bst2 fv σ (some x1) (some x2)) Hb fun y H2 => ∃ ys, H2 D = some (.lst ys) ∧ ys.length < sizeLine ∧ N (upd H2 D (.lst (ys ++ [y]))) else N Hb)
def tComp2If (K : PySem.W.Frag) (fv : List (Nat × Str)) (wi : TI) (tt : TT) (te : TE) : TE := fun σ H Q => wi σ H fun J H1 => ∀ D, H1 D = none -> CLoop2If K J fv tt te Q σ H1 D
theorem a_tComp2If {K : PySem.W.Frag} {σ : St} {H : Hp} {Q : VK} : tComp2If K fv wi tt te σ H Q = wi σ H fun J H1 => ∀ D, H1 D = none -> CLoop2If K J fv tt te Q σ H1 D := rfl
theorem pe_lcomp2If (hc : X.calm = true) (B : BlkOk2 X x z fv scope cl) (hi : PI X (.Tuple [.Name x px, .Name z pz] tk tpos) iter wi) (hcn : ∀ C s H fp, PT (blk2 X x z fv scope cl C s H fp) cnd tt) (he : ∀ C s H fp, PE (blk2 X x z fv scope cl C s H fp) elt te)
  (hs : ∀ v, foldedSetIterable iter X.env v = pure v := by intro _; rfl) : PE X (.ListComp elt [⟨.Tuple [.Name x px, .Name z pz] tk tpos, iter, [cnd], 0⟩] scope pos) (tComp2If X.K fv wi tt te) := by
 intro pins s σ H Q I h
 rw [eval_ListComp]
 refine wpAny_comprehension_free (use := none) rfl hs B.clos B.kind B.names (thn (hi pins s σ H _ I h) fun v s1 h1 => thn h1 fun itv s2 h2 => ?_)
 obtain ⟨it, fp, tn, J, H2, e, I2, T, st2, f2, rd⟩ := h2
 subst e
 refine blk_run2If (RR := fun acc C => compPost (model X.prog X.w) X.A X.xe none (EP X pins σ Q) acc C) hc B hcn he I2 T st2 f2 rd ?_
 intro D C s' H' m' I' fC hn q
 exact ⟨m', hn, fun h' sb => ⟨.ref D, H', I'.turned (t' := s'.toks) (fun b o hb e => (sb.2 b hb).trans e) fC.1 fC.2.1 fC.2.2.2.1 fC.2.2.2.2.1 fC.2.2.2.2.2, rfl, q⟩⟩
end
end L2
namespace L2
open PySem PySem.Spec PyProof.Rows
section
variable {X : Cx}
def putAll (ps : List (Addr × List Key × Addr × V)) : List (List Key × V) := ps.foldl (fun a x => putK a x.2.1 x.2.2.2) []
def PrsV (ps : List (Addr × List Key × Addr × V)) (qs : Prs Key) : Prop := Paired (fun (p : Addr × List Key × Addr × V) (q : Addr × List Key × Addr × Value) => p.1 = q.1 ∧ p.2.1 = q.2.1 ∧ p.2.2.1 = q.2.2.1 ∧ RelV p.2.2.2 q.2.2.2) ps qs
theorem put_kt {H : Hp} : ∀ {ps : List (Addr × List Key × Addr × V)} {qs : Prs Key} {a : List (List Key × V)} {b : List (List Key × Addr × Value)}, PrsV ps qs -> (∀ x ∈ ps, H x.2.2.1 = some (.tup (x.2.1.map kV))) -> KT H a b ->
  KT H (ps.foldl (fun a x => putK a x.2.1 x.2.2.2) a) (qs.foldl (fun a x => storedH a x.2.1 x.2.2.1 x.2.2.2) b) := by
 intro ps qs a b r
 unfold PrsV at r
 induction r generalizing a b with
 | nil => intro _ k; exact k
 | @cons p q ps qs h t ih =>
  intro hk k
  rw [List.foldl_cons, List.foldl_cons]
  refine ih (fun x hx => hk x (List.mem_cons_of_mem _ hx)) ?_
  rw [← h.2.1, ← h.2.2.1]
  exact k.put p.2.1 (hk p List.mem_cons_self) h.2.2.2
theorem putAll_len (ps : List (Addr × List Key × Addr × V)) : (putAll ps).length <= ps.length := by
 unfold putAll
 have h : ∀ (l : List (Addr × List Key × Addr × V)) (a : List (List Key × V)), (l.foldl (fun a x => putK a x.2.1 x.2.2.2) a).length <= a.length + l.length := by
  intro l
  induction l with
  | nil => intro a; exact Nat.le_refl _
  | cons x l ih =>
   intro a
   have h1 := ih (putK a x.2.1 x.2.2.2)
   have h2 := length_putK a x.2.1 x.2.2.2
   rw [List.foldl_cons, List.length_cons]; omega
 have := h ps []
 rw [List.length_nil] at this; omega
theorem call_dictP (hc : X.calm = true) (hu : X.A.units + 2 < cLine) : CallR X (.type "dict") (fun xs H Q => ∃ L ps, xs = [V.ref L] ∧ H L = some (.lst (ps.map fun x => V.ref x.1)) ∧ (∀ x ∈ ps, H x.1 = some (.tup [.ref x.2.2.1, x.2.2.2]) ∧ H x.2.2.1 = some (.tup (x.2.1.map kV))) ∧ ∀ p, H p = none -> Q (.ref p) (upd H p (.dT (putAll ps)))) := by
 intro pins s σ H xs us Q I r h
 obtain ⟨L, ps, rfl, hL, hp, q⟩ := h
 obtain ⟨u, rfl, ru⟩ := vals1 r
 cases ru
 obtain ⟨z, its, n, rv, h1⟩ := (show ObjOk X.prog X.w H s.heap L (.lst (ps.map fun x => V.ref x.1)) from I.hok L _ hL)
 rw [List.length_map] at z
 have mk : ∀ (l : List (Addr × List Key × Addr × V)), (∀ x ∈ l, H x.1 = some (.tup [.ref x.2.2.1, x.2.2.2]) ∧ H x.2.2.1 = some (.tup (x.2.1.map kV))) -> ∃ qs : Prs Key, PrsV l qs ∧ (qs.map fun x => Value.ref x.1) = l.map (fun x => Value.ref x.1) ∧ ∀ x ∈ qs, PairAt (mixKind X.prog X.w) s.heap x := by
  intro l
  induction l with
  | nil => intro _; exact ⟨[], .nil, rfl, fun _ h => nomatch h⟩
  | cons p l ih =>
   intro hp
   obtain ⟨qs, q1, q2, q3⟩ := ih fun x hx => hp x (List.mem_cons_of_mem _ hx)
   obtain ⟨t1, t2⟩ := hp p List.mem_cons_self
   obtain ⟨_, its, rv, ob, g1, g2, n, g3⟩ := (show ObjOk X.prog X.w H s.heap p.1 (.tup [.ref p.2.2.1, p.2.2.2]) from I.hok _ _ t1)
   cases rv with
   | @cons _ a _ _ r1 rv =>
    cases rv with
    | @cons _ b _ _ r2 rv =>
     cases rv
     cases r1
     refine ⟨(p.1, p.2.1, p.2.2.1, b) :: qs, .cons ⟨rfl, rfl, rfl, r2⟩ q1, by rw [List.map_cons, List.map_cons, q2], fun x hx => ?_⟩
     rcases List.mem_cons.mp hx with e | hx
     ·subst e; exact ⟨⟨ob, g1, g2, n, g3⟩, key_of I.hok t2⟩
     ·exact q3 x hx
 obtain ⟨qs, q1, q2, q3⟩ := mk ps hp
 have ei : its = ps.map fun x => Value.ref x.1 := by
  clear hL hp q z h1 mk q1 q2 q3
  have go : ∀ (l : List (Addr × List Key × Addr × V)) (us : List Value), Vals (l.map fun x => V.ref x.1) us -> us = l.map fun x => Value.ref x.1 := by
   intro l
   induction l with
   | nil => intro us r; cases r; rfl
   | cons p l ih =>
    intro us r
    rw [List.map_cons] at r
    cases r with
    | cons r t => rw [List.map_cons, ← ih _ t]; cases r; rfl
  exact go ps its rv
 have hl : qs.length = ps.length := (Paired.length q1).symm
 have hn := I.hok.fresh (Nat.le_refl s.heap.objs.size)
 refine en_pairs (kn := mixKind X.prog X.w) (ps := qs) (I.ok.hd hc) hu (by omega) h1 rfl rfl (by rw [q2, ← ei]) q3 fun h' tk dd up => ⟨.ref s.heap.objs.size, _, ?_, rfl, q _ hn⟩
 obtain ⟨o', es, ep, g1, g2, g3, g4, _, g5⟩ := dd
 have kt : KT H (putAll ps) (accP qs) := put_kt q1 (fun x hx => (hp x hx).2) .nil
 have hz : (putAll ps).length <= sizeLine := by have := putAll_len ps; omega
 exact I.laid (a := s.heap.objs.size) (o := .dT (putAll ps)) (t' := tk) up (Nat.le_refl _) ⟨hz, beq_eq_false_iff_ne.mpr (Ne.symm (Nat.ne_of_lt I.big)), accP qs, kt.keeps fun b ys e => by rw [upd_ne (ne_of_none e hn)]; exact e, o', es, ep, g1, g2, g3, g4, g5⟩
end
end L2
namespace L2
open PySem PySem.Spec PyProof.Rows
section
variable {X : Cx} {pins : List (Addr × Obj)} {σ : St} {H : Hp} {s : Shared} {A : Around} {E : Value -> Shared -> Prop}
theorem d_dictSet {a b : Addr} {kvs : List (List Key × V)} {k : List Key} {v : V} {r : Value} {Q : Unit -> Shared -> Prop} (hu : A.units < cLine) (I : Inv X pins σ H s) (e : H a = some (.dT kvs)) (eb : H b = some (.tup (k.map kV))) (l : kvs.length < sizeLine) (rv : RelV v r)
  (h : ∀ s', Inv X pins σ (upd H a (.dT (putK kvs k v))) s' -> Q () s') : wpAny (model X.prog X.w) A (dictSet a (.ref b) r) Q E s := by
 obtain ⟨z, hd, xs, rel, dd⟩ := dt_of I.hok e
 have hz : xs.length <= sizeLine := by rw [← Paired.length rel]; exact z
 have hl : (putK kvs k v).length <= sizeLine := by have := length_putK kvs k v; omega
 refine wpAny_dictSet_heap (hsz := hz) hu (key_of I.hok eb) dd fun h' dd' hs => h _ ?_
 obtain ⟨q, es, ep, hq, h2, h3, h4, _, h5⟩ := dd'
 refine d_write I (by rw [e]; exact True.intro) hs ⟨q, hq⟩ ⟨hl, hd, _, (rel.put k eb rv).keeps fun c ys ec => ?_, q, es, ep, hq, h2, h3, h4, h5⟩
 rw [upd_ne (ne_of ec e (fun z => nomatch z))]
 exact ec
def putAs (ks : List (List Key × Addr × V)) (kvs : List (List Key × V)) : List (List Key × V) := ks.foldl (fun a x => putK a x.1 x.2.2) kvs
theorem st_all {p : Addr} (hu : A.units < cLine) : ∀ {ks : List (List Key × Addr × V)} {vs : List (Value × Value)} {kvs : List (List Key × V)} {H : Hp} {s : Shared} {Q : PUnit -> Shared -> Prop}, Paired (fun (x : List Key × Addr × V) (v : Value × Value) => RelV (.ref x.2.1) v.1 ∧ RelV x.2.2 v.2) ks vs -> Inv X pins σ H s -> H p = some (.dT kvs) ->
  (∀ x ∈ ks, H x.2.1 = some (.tup (x.1.map kV))) -> kvs.length + ks.length <= sizeLine -> (∀ s', Inv X pins σ (upd H p (.dT (putAs ks kvs))) s' -> Q PUnit.unit s') -> wpAny (model X.prog X.w) A (storeAll p vs) Q E s := by
 intro ks vs kvs H s Q r
 induction r generalizing kvs H s with
 | nil =>
  intro I e _ _ q
  unfold storeAll
  rw [List.forIn_nil]
  refine wpAny_pure (q s ?_)
  have : upd H p (.dT (putAs [] kvs)) = H := by
   funext b
   by_cases hb : b = p
   ·subst hb; rw [upd_same, e]; rfl
   ·rw [upd_ne hb]
  rw [this]; exact I
 | @cons x v ks vs h t ih =>
  intro I e hk hl q
  rw [List.length_cons] at hl
  unfold storeAll
  rw [List.forIn_cons]
  obtain ⟨v1, v2⟩ := v
  cases (show v1 = Value.ref x.2.1 from h.1)
  refine wpAny_bind (wpAny_bind (d_dictSet hu I e (hk x List.mem_cons_self) (by omega) h.2 fun s1 I1 => wpAny_pure ?_))
  have ln := length_putK kvs x.1 x.2.2
  refine ih I1 upd_same (fun y hy => ?_) (by omega) fun s' I' => q s' ?_
  ·have hy' := hk y (List.mem_cons_of_mem _ hy)
   rw [upd_ne (ne_of hy' e (fun z => nomatch z))]; exact hy'
  ·rw [upd_upd] at I'; exact I'
def tDispT (trs : List (TE × TE)) : TE := fun σ H Q => ∀ p, H p = none -> tPairs trs σ (upd H p (.dT [])) fun ps H2 => H2 p = some (.dT []) ∧ ∃ ks : List (List Key × Addr × V), ps = ks.map (fun x => (V.ref x.2.1, x.2.2)) ∧ (∀ x ∈ ks, H2 x.2.1 = some (.tup (x.1.map kV))) ∧ ks.length <= 15 ∧ Q (.ref p) (upd H2 p (.dT (putAs ks [])))
theorem pe_dispT {pos : Pos} {keys : List (Option Expr)} {values : List Expr} {trs : List (TE × TE)} (hu : X.A.units < cLine) (h : PPs X pos keys values trs) (hall : keys.all (·.isSome) = true) (hl : keys.length = values.length) (h0 : keys ≠ [])
  (h15 : keys.length <= 15) : PE X (.Dict keys values pos) (tDispT trs) := by
 intro pins s σ H Q I q
 have hn := I.hok.fresh (Nat.le_refl s.heap.objs.size)
 have I1 := I.laid (a := s.heap.objs.size) (o := .dT []) (h' := s.heap.push { cls := .type "dict", data := .dict #[] }) (t' := s.toks) (fun _ _ q => Heap.get?_push_of_some _ q) (Nat.le_refl _) (dt_empty s.heap I.big)
 refine wpAny_Dict_any hall hl h0 h15 (thn (h pins _ σ _ _ I1 (q _ hn)) fun ws s2 ⟨ps, H2, I2, rel, e, ks, ep, ht, lk, q2⟩ => ?_)
 subst ep
 have go : ∀ (ks : List (List Key × Addr × V)) (ws : List (Value × Value)), VV (ks.map fun x => (V.ref x.2.1, x.2.2)) ws -> Paired (fun (x : List Key × Addr × V) (v : Value × Value) => RelV (.ref x.2.1) v.1 ∧ RelV x.2.2 v.2) ks ws := by
  intro ks
  induction ks with
  | nil => intro ws r; cases r; exact .nil
  | cons x ks ih =>
   intro ws r
   rw [List.map_cons] at r
   cases r with
   | cons r t => exact .cons r (ih _ t)
 have rel' := go ks ws rel
 exact st_all hu rel' I2 e ht (by rw [sizeLine_eq]; show 0 + ks.length <= _; omega) fun s3 I3 => ⟨.ref s.heap.objs.size, _, I3, rfl, q2⟩
end
def kz (k : P2) : List Key := [Sum.inl k.1, Sum.inl k.2]
def dz (f : PD) : List (List Key × V) := f.map fun x => (kz x.1, V.int x.2)
theorem kz_inj {a b : P2} : kz a = kz b ↔ a = b := by
 constructor
 ·intro h
  unfold kz at h
  injection h with h1 h2
  injection h2 with h2 _
  exact Prod.ext (Sum.inl.inj h1) (Sum.inl.inj h2)
 ·intro h; rw [h]
theorem valV_dz (f : PD) (k : P2) : valV (dz f) (kz k) = (gtD f k).map V.int := by
 induction f with
 | nil => rfl
 | cons x f ih =>
  rw [gtD_cons]
  show valV ((kz x.1, V.int x.2) :: dz f) (kz k) = _
  by_cases h : x.1 = k
  ·rw [if_pos h, valV_pos (by rw [h])]; rfl
  ·rw [if_neg h, valV_neg (fun z => h (kz_inj.mp z)), ih]
theorem any_dz (f : PD) (k : P2) : ((dz f).any fun kv => decide (kv.1 = kz k)) = (gtD f k).isSome := by
 rw [valV_any, valV_dz, Option.isSome_map]
theorem putK_dz (f : PD) (k : P2) (v : Int) : putK (dz f) (kz k) (V.int v) = dz (ptD f k v) := by
 unfold putK ptD
 rw [any_dz, gtD_any]
 split
 ·unfold dz
  rw [List.map_map, List.map_map]
  apply List.map_congr_left
  intro x _
  show (if kz x.1 = kz k then (kz x.1, V.int v) else (kz x.1, V.int x.2)) = _
  by_cases h : x.1 = k
  ·rw [if_pos (kz_inj.mpr h)]
   simp [h]
  ·rw [if_neg (fun z => h (kz_inj.mp z))]
   simp [h]
 ·unfold dz; rw [List.map_append]; rfl
theorem len_dz (f : PD) : (dz f).length = f.length := List.length_map _
section
variable {X : Cx}
theorem items_any {p p' : Program} {w w' : World} {ks : List Key} {vs : List Value} (h : ItemsAre (mixKind p w) ks vs) : ItemsAre (mixKind p' w') ks vs := by
 induction h with
 | nil => exact .nil
 | cons r _ ih => exact .cons r ih
theorem dz_all {pins : List (Addr × Obj)} {σ : St} {H : Hp} {s : Shared} {a : Addr} {f : PD} (I : Inv X pins σ H s) (r : Rd H a (.dT (dz f))) : (a == sysModules) = false ∧ ∃ xs : List (List Key × Addr × Value), DictAll (fun p w => tupleKind (mixKind p w)) s.heap a xs ∧
  Paired (fun (p : P2 × Int) (q : List Key × Addr × Value) => kz p.1 = q.1 ∧ ∃ t, q.2.2 = Value.int p.2 t) f xs := by
 obtain ⟨z, y, xs, rel, o, es, ep, h1, h2, h3, h4, h5⟩ := (show ObjOk X.prog X.w H s.heap a (.dT (dz f)) from rd_of I.hok r)
 have rel2 : Paired (fun (p : P2 × Int) (q : List Key × Addr × Value) => (kz p.1 = q.1 ∧ ∃ t, q.2.2 = Value.int p.2 t) ∧ H q.2.1 = some (.tup (q.1.map kV))) f xs := by
  clear z h4 h5 r
  unfold dz at rel
  induction f generalizing xs with
  | nil => cases rel; exact .nil
  | cons x f ih =>
   rw [List.map_cons] at rel
   cases rel with
   | @cons _ q _ _ h t => exact .cons ⟨⟨h.1, h.2.2⟩, by rw [← h.1]; exact h.2.1⟩ (ih _ t)
 refine ⟨y, xs, fun p w => ⟨o, es, ep, h1, h2, h3, ?_, fun x hx => ?_, h5⟩, Paired.mapP rel2 fun _ _ z => z.1⟩
 ·rw [h4]
  apply List.map_congr_left
  intro x hx
  obtain ⟨i, hi⟩ := List.getElem?_of_mem hx
  have : ∃ k : P2, kz k = x.1 := by
   have go : ∀ {l : PD} {m : List (List Key × Addr × Value)}, Paired (fun (p : P2 × Int) (q : List Key × Addr × Value) => (kz p.1 = q.1 ∧ ∃ t, q.2.2 = Value.int p.2 t) ∧ H q.2.1 = some (.tup (q.1.map kV))) l m -> ∀ x ∈ m, ∃ k : P2, kz k = x.1 := by
    intro l m r
    induction r with
    | nil => intro x hx; exact nomatch hx
    | @cons p q ps qs h t ih =>
     intro x hx
     rcases List.mem_cons.mp hx with e | hx
     ·subst e; exact ⟨p.1, h.1.1⟩
     ·exact ih x hx
   exact go rel2 x hx
  obtain ⟨k, hk⟩ := this
  unfold entryOfKey
  show DictEntry.mk (tupleKeyHash (mixKind X.prog X.w) x.1) _ _ = DictEntry.mk (tupleKeyHash (mixKind p w) x.1) _ _
  rw [← hk]
  rfl
 ·have go : ∀ {l : PD} {m : List (List Key × Addr × Value)}, Paired (fun (p : P2 × Int) (q : List Key × Addr × Value) => (kz p.1 = q.1 ∧ ∃ t, q.2.2 = Value.int p.2 t) ∧ H q.2.1 = some (.tup (q.1.map kV))) l m -> ∀ x ∈ m, H x.2.1 = some (.tup (x.1.map kV)) := by
   intro l m r
   induction r with
   | nil => intro x hx; exact nomatch hx
   | @cons p q ps qs h t ih =>
    intro x hx
    rcases List.mem_cons.mp hx with e | hx
    ·subst e; exact h.2
    ·exact ih x hx
  have k1 : IsTupleKey (mixKind X.prog X.w) s.heap x.1 x.2.1 := key_of I.hok (go rel2 x hx)
  obtain ⟨ok, items, n, t1, t2, t3, t4⟩ := k1
  refine ⟨ok, items, n, t1, t2, t3, ?_⟩
  exact items_any t4
theorem dz_rc {pins : List (Addr × Obj)} {σ : St} {H : Hp} {s : Shared} {a b : Addr} {f g : PD} {A : Around} (hu : A.units + 1 < cLine) (I : Inv X pins σ H s) (ra : Rd H a (.dT (dz f))) (rb : Rd H b (.dT (dz g))) (sd : SameD f g) : SeqAt.RcAt A s (.ref a) (.ref b) true := by
 obtain ⟨sa, xs, da, pa⟩ := dz_all I ra
 obtain ⟨sb, ys, db, pb⟩ := dz_all I rb
 refine dict_rc (fun p w => tupleKind (mixKind p w)) sa sb (fun _ _ => hu) (by omega) da db (by rw [← Paired.length pa, ← Paired.length pb]; exact sd.1) fun x hx => ?_
 have go : ∀ {l : PD} {m : List (List Key × Addr × Value)}, Paired (fun (p : P2 × Int) (q : List Key × Addr × Value) => kz p.1 = q.1 ∧ ∃ t, q.2.2 = Value.int p.2 t) l m -> ∀ x ∈ m, ∃ p ∈ l, kz p.1 = x.1 ∧ ∃ t, x.2.2 = Value.int p.2 t := by
  intro l m r
  induction r with
  | nil => intro x hx; exact nomatch hx
  | @cons p q ps qs h t ih =>
   intro x hx
   rcases List.mem_cons.mp hx with e | hx
   ·subst e; exact ⟨p, List.mem_cons_self, h⟩
   ·obtain ⟨p', m', r'⟩ := ih x hx
    exact ⟨p', List.mem_cons_of_mem _ m', r'⟩
 obtain ⟨p, hp, e1, t, e2⟩ := go pa x hx
 have hg := sd.2 p hp
 have fnd : ∀ {l : PD} {m : List (List Key × Addr × Value)}, Paired (fun (p : P2 × Int) (q : List Key × Addr × Value) => kz p.1 = q.1 ∧ ∃ t, q.2.2 = Value.int p.2 t) l m -> ∀ {k : P2} {v : Int}, gtD l k = some v -> ∃ q, atKey m (kz k) = some q ∧ ∃ t, q.2 = Value.int v t := by
  intro l m r
  induction r with
  | nil => intro k v h; rw [gtD_nil] at h; cases h
  | @cons p q ps qs h t ih =>
   intro k v e
   rw [gtD_cons] at e
   by_cases z : p.1 = k
   ·rw [if_pos z] at e
    cases e
    refine ⟨q.2, ?_, h.2⟩
    have : q.1 = kz k := by rw [← h.1, z]
    simp [atKey, List.find?_cons, this]
   ·rw [if_neg z] at e
    obtain ⟨r, r1, r2⟩ := ih e
    refine ⟨r, ?_, r2⟩
    have : ¬ q.1 = kz k := fun y => z (kz_inj.mp (h.1.trans y))
    simpa [atKey, List.find?_cons, this] using r1
 obtain ⟨q, q1, t', q2⟩ := fnd pb hg
 refine ⟨q, by rw [← e1]; exact q1, ?_⟩
 rw [e2, q2]
 exact fun prog w E Q hq => wpAny_eqBool_int (by simpa using hq)
end
end L2
namespace L2
open PySem PySem.Spec PyProof.Rows
section
variable {X : Cx} {td ty tv tx to : TE} {σ : St} {H : Hp} {Q : VK} {D : Ends}
theorem a_dget : tDGet td ty σ H Q = td σ H fun x H1 => ty σ H1 fun y H2 => ∃ a v, x = .ref a ∧ DGet H2 a y (some v) ∧ Q v H2 := rfl
theorem a_dnot : tDNotIn ty td σ H Q = ty σ H fun y H1 => td σ H1 fun x H2 => ∃ a o, x = .ref a ∧ DGet H2 a y o ∧ Q (.bl (!o.isSome)) H2 := rfl
theorem a_dput : sDPut td ty tv D σ H = tv σ H fun v H1 => td σ H1 fun x H2 => ty σ H2 fun y H3 => ∃ a H4, x = .ref a ∧ DPut H3 a y v H4 ∧ D.nx σ H4 := rfl
theorem a_dget2 : tDGet2 td ty tx σ H Q = td σ H fun x H1 => ∃ a, x = .ref a ∧ IsD H1 a ∧ ty σ H1 fun y H2 => tx σ H2 fun z H3 => ∃ o, DGet H3 a y o ∧ Q (o.getD z) H3 := rfl
theorem a_dnew : tDNewT σ H Q = ∀ p, H p = none -> Q (.ref p) (upd H p (.dT [])) := rfl
theorem a_disp {trs : List (TE × TE)} : tDispT trs σ H Q = ∀ p, H p = none -> tPairs trs σ (upd H p (.dT [])) fun ps H2 => H2 p = some (.dT []) ∧ ∃ ks : List (List Key × Addr × V), ps = ks.map (fun x => (V.ref x.2.1, x.2.2)) ∧ (∀ x ∈ ks, H2 x.2.1 = some (.tup (x.1.map kV))) ∧ ks.length <= 15 ∧ Q (.ref p) (upd H2 p (.dT (putAs ks []))) := rfl
theorem a_pnil {R : List (V × V) -> Hp -> Prop} : tPairs [] σ H R = R [] H := rfl
theorem a_pcons {r : List (TE × TE)} {R : List (V × V) -> Hp -> Prop} : tPairs ((td, tv) :: r) σ H R = td σ H fun x H1 => tv σ H1 fun y H2 => tPairs r σ H2 fun ps H3 => R ((x, y) :: ps) H3 := rfl
theorem a_items {R : It -> Hp -> Prop} : iItems X td σ H R = td σ H fun x H1 => ∃ a kvs, x = .ref a ∧ Rd H1 a (.dT kvs) ∧ ∀ o, Thw X H1 a o kvs -> R (Itd a o kvs) (upd H1 a (.frz o (.dT kvs))) := rfl
end
theorem u_le {n k : Nat} (h : n + 64 < cLine) (hk : k <= 64) : n + k < cLine := by omega
theorem u_le0 {n : Nat} (h : n + 64 < cLine) : n < cLine := by omega
theorem bt_dict : bootBuiltins "dict" = some (.type "dict") := by decide +kernel
theorem lp_items {a : Addr} {o : Obj} {kvs : List (List Key × V)} {g : TG} {tb : TS} {D : Ends} {σ : St} {H : Hp} (Pv : Nat -> St -> Hp -> Prop) (h0 : Pv 0 σ H) (hz : ∀ i σ H, i <= kvs.length -> Pv i σ H -> H a = some (.frz o (.dT kvs)))
  (hs : ∀ i k x p b σ H, kvs[i]? = some (k, x) -> Pv i σ H -> H p = none -> H b = some (.tup (k.map kV)) -> g (.ref p) σ (upd H p (.tup [.ref b, x])) fun σ2 H2 => tb { D with nx := Pv (i + 1), ct := Pv (i + 1), bk := D.nx } σ2 H2)
  (hd : ∀ σ H, Pv kvs.length σ H -> D.nx σ H) : Loop (Itd a o kvs) g tb D σ H := by
 refine ⟨fun i m σ H => m = kvs.length - i ∧ i <= kvs.length ∧ Pv i σ H, ⟨_, rfl, Nat.zero_le _, h0⟩, ?_⟩
 rintro i m σ H ⟨rfl, hi, p⟩
 have fz := hz i σ H hi p
 by_cases hlt : i < kvs.length
 ·refine .inr ⟨⟨fz, hlt⟩, Pv (i + 1), fun σ' H' p' => ⟨kvs.length - (i + 1), by omega, rfl, hlt, p'⟩, fun x H' y => ?_⟩
  obtain ⟨q, b, k, v, hn, e1, hk, hb, e2⟩ := y
  subst e1 e2
  exact hs i k v q b σ H hk p hn hb
 ·have e : i = kvs.length := by omega
  subst e
  exact .inl ⟨⟨fz, Nat.le_refl _⟩, hd σ H p⟩
theorem cl_items {K : PySem.W.Frag} {a : Addr} {o : Obj} {kvs : List (List Key × V)} {fv : List (Nat × Str)} {tt : TT} {te : TE} {Q : VK} {σ : St} {H1 : Hp} {D : Addr} (W : Nat -> Hp -> Prop) (h0 : W 0 (upd H1 D (.lst []))) (hz : ∀ i H, i <= kvs.length -> W i H -> H a = some (.frz o (.dT kvs)))
  (hs : ∀ i k x p b H, kvs[i]? = some (k, x) -> W i H -> H p = none -> H b = some (.tup (k.map kV)) -> tt (bst2 fv σ (some (.ref b)) (some x)) (upd H p (.tup [.ref b, x])) fun c Hb => if c = true then te (bst2 fv σ (some (.ref b)) (some x)) Hb fun y H2 => ∃ ys, H2 D = some (.lst ys) ∧ ys.length < sizeLine ∧ W (i + 1) (upd H2 D (.lst (ys ++ [y]))) else W (i + 1) Hb)
  (hd : ∀ H, W kvs.length H -> Q (.ref D) H) : CLoop2If K (Itd a o kvs) fv tt te Q σ H1 D := by
 refine ⟨fun i m H => m = kvs.length - i ∧ i <= kvs.length ∧ W i H, ⟨_, rfl, Nat.zero_le _, h0⟩, ?_⟩
 rintro i m H ⟨rfl, hi, p⟩
 have fz := hz i H hi p
 by_cases hlt : i < kvs.length
 ·refine .inr ⟨⟨fz, hlt⟩, W (i + 1), fun H' p' => ⟨kvs.length - (i + 1), by omega, rfl, hlt, p'⟩, fun v H' y => ?_⟩
  obtain ⟨q, b, k, x, hn, e1, hk, hb, e2⟩ := y
  subst e1 e2
  exact ⟨q, .ref b, x, rfl, .inl (.inl upd_same), hs i k x q b H hk p hn hb⟩
 ·have e : i = kvs.length := by omega
  subst e
  exact .inl ⟨⟨fz, Nat.le_refl _⟩, hd H p⟩
end L2
namespace L2
open PySem PySem.Spec PyProof.Rows
section
variable {prog : Program} {w : World} {A : Around} {E : Value -> Shared -> Prop} {s : Shared} {d : Addr} {es : Array DictEntry} {ep : Nat}
theorem en_diter {Q : Value -> Shared -> Prop} (hd : (d == sysModules) = false) (hm : EnAt s.heap d es ep)
  (q : Q (.ref s.heap.objs.size) { s with heap := s.heap.push { cls := .type "dict_keyiterator", data := .fields #[.ref d, .int 0 0, .int es.size 0, .int ep 0] } }) : wpAny (model prog w) A (pyIter (.ref d)) Q E s := by
 obtain ⟨o, b1, b2, b3⟩ := id hm
 refine wpAny_pyIter_slot hm.ty F.slot_dict_iter (wpAny_call_entry F.slot_dict_iter hm.ty F.entry_dict_iter ?_ (F.args_dict_iter_1 _))
 unfold Builtin.«dict.__iter__» Builtin.Dict.dictSlotNone
 refine wpAny_bind (wpAny_bind (wpAny_notOrdered_dict hm.ty (wpAny_pure (wpAny_bind (wpAny_pure (wpAny_bind (en_shows hd (wpAny_bind (wpAny_dictEntries b1 b3 (wpAny_bind (wpAny_dictEpoch b1 b3 ?_)))))))))))
 refine wpAny_bind (wpAny_newObj_type (wpAny_pure ⟨_, rfl, "dict_keyiterator", _, ⟨_, Heap.get?_push_size _ rfl, rfl⟩, F.slot_dict_keyiterator_next.lookup, ?_⟩))
 simpa [rawInt] using q
end
def Itk (a : Addr) (o : Obj) (kvs : List (List Key × V)) : It :=
 ⟨fun i H => H a = some (.frz o (.dT kvs)) ∧ i < kvs.length, fun i H v H' => ∃ b k x, H' = H ∧ v = .ref b ∧ kvs[i]? = some (k, x) ∧ H b = some (.tup (k.map kV)), fun i H => H a = some (.frz o (.dT kvs)) ∧ kvs.length <= i⟩
theorem turn_keys {P : Program} {w : World} {K : PySem.W.Frag} {tg : Expr} {o : Obj} {kvs : List (List Key × V)} {es : Array DictEntry} {ep : Nat} (a it : Addr) (hod : o.data = .dict es ep) :
  Turn P w K tg (Itk a o kvs) [it] it (fun i h => h.IsKeyIter it a i es.size ep) where
 mem := by simp
 obj := fun i h st c hb => by
  obtain ⟨oi, i1, i2, i3⟩ := st
  rw [List.mem_singleton.mp hb]
  exact ⟨oi, i1, fun v z => by rw [i3] at z; cases z⟩
 keep := fun i h h' st k => st.at fun o e => k it (by simp) o e
 item := by
  intro X hP hw hK hc i pins s σ H E I hf st hg
  subst hP hw hK
  obtain ⟨hfz, hlt⟩ := hg
  obtain ⟨z, y, xs, es', ep', rel, h1, h2, h3, h4, h5⟩ := frz_ok I.hok hfz
  rw [hod] at h3
  cases h3
  obtain ⟨⟨k, x⟩, hk⟩ : ∃ p, kvs[i]? = some p := ⟨_, List.getElem?_eq_getElem hlt⟩
  obtain ⟨⟨k', b, u⟩, hq, e1, e2, e3⟩ := pget rel hk
  have he : es[i]? = some (entryOfKey (tupleKind (mixKind X.prog X.w)) (k', b, u)) := by rw [entry_at h4, hq]; rfl
  obtain ⟨f0, f1, f2, f3, f4, f5⟩ := hf it (by simp)
  refine en_knext st ⟨o, h1, h2, hod⟩ he fun g1 st1 sb => ?_
  have I1 : Inv X pins σ H { s with heap := g1 } := I.turned (t' := s.toks) (fun c ob hb e => (sb.2 c hb).trans e) f0 f1 f3 f4 f5
  obtain ⟨oi, i1, i2, i3⟩ := id st1
  exact ⟨_, rfl, go_of (s := { s with heap := g1 }) i1 i2 i3 (by decide) ⟨.ref b, H, I1, rfl, ⟨b, k, x, rfl, rfl, hk, e2⟩, st1, fun c hb => (hf c hb).1⟩⟩
 done := by
  intro X hP hw hK hc i pins s σ H E I hf st hg
  subst hP hw hK
  obtain ⟨hfz, hge⟩ := hg
  obtain ⟨z, y, xs, es', ep', rel, h1, h2, h3, h4, h5⟩ := frz_ok I.hok hfz
  rw [hod] at h3
  cases h3
  have hl := Paired.length rel
  have hsz := size_of_entries h4
  obtain ⟨f0, f1, f2, f3, f4, f5⟩ := hf it (by simp)
  exact en_kend (I.ok.hd hc) st ⟨o, h1, h2, hod⟩ (by omega) fun h' eb => ⟨rfl, I.turned (t' := s.toks) (fun b ob hb e => eb b ob hb e) f0 f1 f3 f4 f5⟩
 self := fun _ _ _ _ _ st h => wpAny_pyIter_keyiter st h
section
variable {X : Cx}
def iKeys (X : Cx) (td : TE) : TI := fun σ H R => td σ H fun x H1 => ∃ a kvs, x = .ref a ∧ Rd H1 a (.dT kvs) ∧ ∀ o, Thw X H1 a o kvs -> R (Itk a o kvs) (upd H1 a (.frz o (.dT kvs)))
theorem pi_dict {tg e : Expr} {td : TE} (ho : PE X e td) : PI X tg e (iKeys X td) := by
 intro pins s σ H R I h
 refine thn (ho pins s σ H _ I h) fun v s1 ⟨x, H1, I1, r1, a, kvs, ex, rd, q⟩ => ?_
 subst ex
 cases r1
 obtain ⟨o, es, ep, h1, h2, h3, hd, tw, I2⟩ := I1.freeze rd
 have en : EnAt s1.heap a es ep := ⟨o, h1, h2, h3⟩
 refine en_diter hd en ?_
 refine ⟨_, [_], _, _, upd H1 a (.frz o (.dT kvs)), rfl, I2.kept (t' := s1.toks) fun b ob q => Heap.get?_push_of_some _ q, turn_keys a _ h3, ⟨_, Heap.get?_push_size _ rfl, rfl, rfl⟩, fun b hb => ?_, q o tw⟩
 rw [List.mem_singleton.mp hb]
 exact I2.fpOk (Nat.le_refl _) (I2.hok.fresh (Nat.le_refl _))
end
theorem a_keys {X : Cx} {td : TE} {σ : St} {H : Hp} {R : It -> Hp -> Prop} : iKeys X td σ H R = td σ H fun x H1 => ∃ a kvs, x = .ref a ∧ Rd H1 a (.dT kvs) ∧ ∀ o, Thw X H1 a o kvs -> R (Itk a o kvs) (upd H1 a (.frz o (.dT kvs))) := rfl
theorem lp_keys {a : Addr} {o : Obj} {kvs : List (List Key × V)} {g : TG} {tb : TS} {D : Ends} {σ : St} {H : Hp} (Pv : Nat -> St -> Hp -> Prop) (h0 : Pv 0 σ H) (hz : ∀ i σ H, i <= kvs.length -> Pv i σ H -> H a = some (.frz o (.dT kvs)))
  (hs : ∀ i k x b σ H, kvs[i]? = some (k, x) -> Pv i σ H -> H b = some (.tup (k.map kV)) -> g (.ref b) σ H fun σ2 H2 => tb { D with nx := Pv (i + 1), ct := Pv (i + 1), bk := D.nx } σ2 H2)
  (hd : ∀ σ H, Pv kvs.length σ H -> D.nx σ H) : Loop (Itk a o kvs) g tb D σ H := by
 refine ⟨fun i m σ H => m = kvs.length - i ∧ i <= kvs.length ∧ Pv i σ H, ⟨_, rfl, Nat.zero_le _, h0⟩, ?_⟩
 rintro i m σ H ⟨rfl, hi, p⟩
 have fz := hz i σ H hi p
 by_cases hlt : i < kvs.length
 ·refine .inr ⟨⟨fz, hlt⟩, Pv (i + 1), fun σ' H' p' => ⟨kvs.length - (i + 1), by omega, rfl, hlt, p'⟩, fun x H' y => ?_⟩
  obtain ⟨b, k, v, e1, e2, hk, hb⟩ := y
  subst e1 e2
  exact hs i k v b σ _ hk p hb
 ·have e : i = kvs.length := by omega
  subst e
  exact .inl ⟨⟨fz, Nat.le_refl _⟩, hd σ H p⟩
theorem cl_keys {a : Addr} {o : Obj} {kvs : List (List Key × V)} {fv : List (Nat × Str)} {te : TE} {Q : VK} {σ : St} {H1 : Hp} {D : Addr} (W : Nat -> Hp -> Prop) (h0 : W 0 (upd H1 D (.lst []))) (hz : ∀ i H, i <= kvs.length -> W i H -> H a = some (.frz o (.dT kvs)))
  (hs : ∀ i k x b H, kvs[i]? = some (k, x) -> W i H -> H b = some (.tup (k.map kV)) -> te (bst fv σ (some (.ref b))) H fun y H2 => ∃ ys, H2 D = some (.lst ys) ∧ ys.length < sizeLine ∧ W (i + 1) (upd H2 D (.lst (ys ++ [y]))))
  (hd : ∀ H, W kvs.length H -> Q (.ref D) H) : CLoop (Itk a o kvs) fv te Q σ H1 D := by
 refine ⟨fun i m H => m = kvs.length - i ∧ i <= kvs.length ∧ W i H, ⟨_, rfl, Nat.zero_le _, h0⟩, ?_⟩
 rintro i m H ⟨rfl, hi, p⟩
 have fz := hz i H hi p
 by_cases hlt : i < kvs.length
 ·refine .inr ⟨⟨fz, hlt⟩, W (i + 1), fun H' p' => ⟨kvs.length - (i + 1), by omega, rfl, hlt, p'⟩, fun v H' y => ?_⟩
  obtain ⟨b, k, x, e1, e2, hk, hb⟩ := y
  subst e1 e2
  exact hs i k x b _ hk p hb
 ·have e : i = kvs.length := by omega
  subst e
  exact .inl ⟨⟨fz, Nat.le_refl _⟩, hd H p⟩
end L2
namespace L2
open PySem PySem.Spec PyProof.Rows
section
variable {X : Cx} {k : Nat} {f C : Addr} {fd : FuncData} {ps : List Str} {sp : Sp} {m : Str} {pos apos : Pos} {o e : Expr} {es : List Expr} {ta : TE} {t : TA}
end
section
variable {K : PySem.W.Frag} {C : Addr} {m f : Str} {sp : Sp} {dvs : List V} {E : XK} {ta tv : TE} {t : TA} {σ : St} {H : Hp} {Q : VK} {D : Ends}
theorem a_fld : tFld K ta f σ H Q = ta σ H fun x H1 => ∃ a C dx fs v, x = .ref a ∧ H1 a = some (.ins C dx fs) ∧ Cls K C ∧ NoAttr K C f ∧ fs.lookup f = some v ∧ Q v H1 := rfl
theorem a_sfld : sFld K ta tv f D σ H = tv σ H fun y H1 => ta σ H1 fun x H2 => ∃ a C dx fs, x = .ref a ∧ H2 a = some (.ins C dx fs) ∧ Cls K C ∧ NoAttr K C f ∧ fs.length < 1000 ∧ D.nx σ (upd H2 a (.ins C dx (putF f y fs))) := rfl
theorem a_meth : tMeth C m sp dvs E ta t σ H Q = ta σ H fun x H1 => ∃ a dx fs, x = .ref a ∧ H1 a = some (.ins C dx fs) ∧ fs.lookup m = none ∧ t σ H1 fun vs H2 => sp (x :: (vs ++ dvs)) H2 Q E := rfl
theorem a_make : tMake C sp dvs E t σ H Q = t σ H fun vs H1 => ∀ x dx, H1 x = none -> H1 dx = none -> dx ≠ x -> sp (.ref x :: (vs ++ dvs)) (upd (upd H1 dx (.own x)) x (.ins C dx [])) (fun v H2 => v = .non ∧ Q (.ref x) H2) E := rfl
end
end L2
namespace L2
open PySem PySem.Spec PyProof.Rows
section
variable {prog : Program} {w : World} {A : Around} {E : Value -> Shared -> Prop} {s : Shared}
theorem nxT_item {it t : Addr} {i : Nat} {items : Array Value} {x : Value} {Q : Value -> Shared -> Prop} (hit : s.heap.IsTupleIter it t i) (ht : s.heap.IsTuple t items) (hx : items[i]? = some x)
  (hQ : ∀ h', h'.IsTupleIter it t (i + 1) -> Heap.SameBut it s.heap h' -> Q x { s with heap := h' }) : wpAny (model prog w) A (Builtin.SmallTypes.nextOf (.ref it)) Q E s := by
 have ⟨o, ho, hc, hd⟩ := hit
 have ⟨ol, hol, _, nl, hdl⟩ := ht
 refine wpAny_bind (wpAny_callSpecial?_slot (name := Str.ofString "__next__") hit.typeIs F.slot_tuple_iterator_next (wpAny_call_entry F.slot_tuple_iterator_next hit.typeIs F.entry_tuple_iterator_next ?_ (F.args_tuple_iterator_next_1 _)))
 refine wpAny_bind (m := field (.ref it) 0) (wpAny_field ho hd (x := .ref t) rfl ?_)
 refine wpAny_bind (m := field (.ref it) 1) (wpAny_field ho hd (x := .int i 0) rfl ?_)
 refine wpAny_bind (m := seqItems? (.ref t)) (wpAny_seqItems hol hdl ?_)
 simp only [Int.toNat_natCast, hx]
 refine wpAny_bind (wpAny_setField ho hd (by simp) (wpAny_pure ⟨x, rfl, wpAny_pure (hQ _ ⟨_, Heap.get?_update_self _ ho (Obj.isFreed_of_fields (Obj.data_mapFields hd _)), (Obj.cls_mapFields ..).trans hc, ?_⟩ (Heap.SameBut.update ..))⟩))
 rw [Obj.data_mapFields hd]; simp [rawInt]
theorem nxT_end {it t : Addr} {i : Nat} {items : Array Value} {Q : Value -> Shared -> Prop} (hh : A.handled = none) (hit : s.heap.IsTupleIter it t i) (ht : s.heap.IsTuple t items) (hx : items[i]? = none)
  (hE : ∀ h' e, Heap.ExtBut it s.heap h' -> (∃ o, h'.get? e = some o ∧ o.cls = .type "StopIteration") -> E (.ref e) { s with heap := h' }) : wpAny (model prog w) A (Builtin.SmallTypes.nextOf (.ref it)) Q E s := by
 have ⟨o, ho, hc, hd⟩ := hit
 have ⟨ol, hol, _, nl, hdl⟩ := ht
 refine wpAny_bind (wpAny_callSpecial?_slot (name := Str.ofString "__next__") hit.typeIs F.slot_tuple_iterator_next (wpAny_call_entry F.slot_tuple_iterator_next hit.typeIs F.entry_tuple_iterator_next ?_ (F.args_tuple_iterator_next_1 _)))
 refine wpAny_bind (m := field (.ref it) 0) (wpAny_field ho hd (x := .ref t) rfl ?_)
 refine wpAny_bind (m := field (.ref it) 1) (wpAny_field ho hd (x := .int i 0) rfl ?_)
 refine wpAny_bind (m := seqItems? (.ref t)) (wpAny_seqItems hol hdl ?_)
 simp only [Int.toNat_natCast, hx]
 refine wpAny_bind (wpAny_rule (wpAny_bind (wpAny_setField ho hd (by simp) (wpAny_bind (m := newExc (.type "StopIteration") []) ?_))))
 simp only [newExc, newTuple]
 refine wpAny_bind (wpAny_newObj_type (wpAny_bind (m := firstArgMember _ _) (wpAny_of_eq (a := Value.none) (by first | rfl | (simp only [firstArgMember]; rfl)) (wpAny_newObj_type ?_ (by size_fits)))) (by size_fits))
 simp only [raiseNew]
 refine wpAny_bind (wpAny_handled ?_)
 first | rw [show A.in1.handled = none from hh] | rw [hh]
 exact wpAny_bind (wpAny_pure (wpAny_throw (hE _ _ (((Heap.SameBut.update ..).extBut.push _).push _) ⟨_, Heap.get?_push_size _ rfl, rfl⟩)))
end
section
variable {prog : Program} {w : World} {A : Around} {E : Value -> Shared -> Prop} {s : Shared}
end
section
variable {X : Cx}
end
end L2
namespace L2
open PySem PySem.Spec PyProof.Rows
theorem pe_either {X : Cx} {e : Expr} {t u : TE} (h1 : PE X e t) (h2 : PE X e u) : PE X e (fun σ H Q => t σ H Q ∨ u σ H Q) := fun pins s σ H Q I h => h.elim (h1 pins s σ H Q I) (h2 pins s σ H Q I)
end L2
namespace L2
open PySem PySem.Spec PyProof.Rows
abbrev IsTrip (h : Heap) (T : Addr) (a b c : Value) : Prop := h.get? T = some { cls := .type "tuple", data := .seq #[a, b, c] }
structure Zip3 (z TI TO i1 i2 i3 l1 l2 l3 : Addr) : Prop where
 TIz : TI ≠ z
 TOz : TO ≠ z
 i1z : i1 ≠ z
 i2z : i2 ≠ z
 i3z : i3 ≠ z
 TITO : TI ≠ TO
 TIi1 : TI ≠ i1
 TIi2 : TI ≠ i2
 TIi3 : TI ≠ i3
 TOi1 : TO ≠ i1
 TOi2 : TO ≠ i2
 TOi3 : TO ≠ i3
 i12 : i1 ≠ i2
 i13 : i1 ≠ i3
 i23 : i2 ≠ i3
 l1z : l1 ≠ z
 l2z : l2 ≠ z
 l3z : l3 ≠ z
 l2TO : l2 ≠ TO
 l3TO : l3 ≠ TO
 l2i1 : l2 ≠ i1
 l3i1 : l3 ≠ i1
 l3i2 : l3 ≠ i2
theorem zip3_new {n l1 l2 l3 : Addr} (h1 : l1 < n) (h2 : l2 < n) (h3 : l3 < n) : Zip3 (n + 5) (n + 3) (n + 4) n (n + 1) (n + 2) l1 l2 l3 := by
 constructor <;> (intro h; have h' : (_ : Nat) = (_ : Nat) := h; simp only [Addr] at *; omega)
section
variable {prog : Program} {w : World} {A : Around} {E : Value -> Shared -> Prop} {s : Shared}
theorem updateSeq_trip {T : Addr} {a b c x : Value} {k : Nat} {Q : Unit -> Shared -> Prop} (hT : IsTrip s.heap T a b c)
  (h : ∀ h', h'.get? T = some { cls := .type "tuple", data := .seq ((#[a, b, c] : Array Value).setIfInBounds k x) } -> Heap.SameBut T s.heap h' -> Q () { s with heap := h' }) :
  wpAny (model prog w) A (updateSeq T (·.setIfInBounds k x)) Q E s := by
 refine wpAny_updateSeq hT rfl (h _ ?_ (Heap.SameBut.update ..))
 rw [Heap.get?_update_self _ hT rfl]
 simp [Obj.mapSeq]
theorem zip3_item {z TI TO i1 i2 i3 l1 l2 l3 : Addr} {k : Nat} {xs ys zs : Array Value} {x y v a b c : Value} {Q : Value -> Shared -> Prop} (D : Zip3 z TI TO i1 i2 i3 l1 l2 l3)
  (hz : IsZip s.heap z TI TO .none) (hTI : IsTrip s.heap TI (.ref i1) (.ref i2) (.ref i3)) (hTO : IsTrip s.heap TO a b c) (h1 : s.heap.IsTupleIter i1 l1 k) (h2 : s.heap.IsTupleIter i2 l2 k) (h3 : s.heap.IsTupleIter i3 l3 k)
  (t1 : s.heap.IsTuple l1 xs) (t2 : s.heap.IsTuple l2 ys) (t3 : s.heap.IsTuple l3 zs) (hx : xs[k]? = some x) (hy : ys[k]? = some y) (hv : zs[k]? = some v)
  (hQ : ∀ h', IsZip h' z TI TO (rawInt s.heap.objs.size) -> IsTrip h' TO x y v -> h'.IsTupleIter i1 l1 (k + 1) -> h'.IsTupleIter i2 l2 (k + 1) -> h'.IsTupleIter i3 l3 (k + 1) -> IsTrip h' s.heap.objs.size x y v ->
   (∀ c o, c ∉ [z, TO, i1, i2, i3] -> s.heap.get? c = some o -> h'.get? c = some o) -> Q (.ref s.heap.objs.size) { s with heap := h' }) :
  wpAny (model prog w) A (Builtin.«zip.__next__» ⟨[.ref z], []⟩) (fun fin s' => ∃ v, fin = .done (.ret v) ∧ Q v s') E s := by
 refine wpAny_bind (m := field (.ref z) 2) (wpAny_field hz rfl (x := .bool false) rfl ?_)
 refine wpAny_bind (m := field (.ref z) 3) (wpAny_field hz rfl (x := .ref TI) rfl (wpAny_bind (wpAny_seqItems hTI rfl ?_)))
 refine wpAny_bind (m := Builtin.SmallTypes.ownedTupleIsFree (.ref z)) (wpAny_bind (m := field (.ref z) 0) (wpAny_field hz rfl (x := .none) rfl (wpAny_pure ?_)))
 simp only [if_true]
 refine wpAny_bind (wpAny_rule (wpAny_bind (wpAny_field hz rfl (x := .ref TO) rfl (wpAny_bind (wpAny_setField_rec hz (by simp) fun g₁ z₁ c₁ => wpAny_bind ?_)))))
 replace z₁ : IsZip g₁ z TI TO .ellipsis := z₁
 simp only [List.zipIdx_cons, List.zipIdx_nil, List.forIn_cons, List.forIn_nil]
 have b₁ := c₁.extBut
 refine wpAny_bind (wpAny_bind (wpAny_onRaise (wpAny_bind (m := Builtin.SmallTypes.nextOf (.ref i1)) (nxT_item (h1.extBut b₁ D.i1z) (t1.extBut b₁ D.l1z) hx fun g₂ j₂ c₂ => wpAny_pure ?_))))
 have b₂ := c₂.extBut
 have o₂ : IsTrip g₂ TO a b c := b₂ _ _ D.TOi1 (b₁ _ _ D.TOz hTO)
 refine wpAny_bind (wpAny_seqItems o₂ rfl (wpAny_bind (updateSeq_trip o₂ fun g₃ o₃ c₃ => wpAny_bind (wpAny_letGo (wpAny_pure ?_)))))
 replace o₃ : IsTrip g₃ TO x b c := o₃
 have b₃ := c₃.extBut
 have e2 : ∀ c o, c ≠ z -> c ≠ i1 -> c ≠ TO -> s.heap.get? c = some o -> g₃.get? c = some o := fun c o n1 n2 n3 e => b₃ _ _ n3 (b₂ _ _ n2 (b₁ _ _ n1 e))
 refine wpAny_bind (wpAny_bind (wpAny_onRaise (wpAny_bind (m := Builtin.SmallTypes.nextOf (.ref i2)) (nxT_item (s := { s with heap := g₃ }) (h2.at fun o e => e2 _ o D.i2z D.i12.symm D.TOi2.symm e) (t2.at fun o e => e2 _ o D.l2z D.l2i1 D.l2TO e) hy fun g₄ j₄ c₄ => wpAny_pure ?_))))
 have b₄ := c₄.extBut
 have o₄ : IsTrip g₄ TO x b c := b₄ _ _ D.TOi2 o₃
 refine wpAny_bind (wpAny_seqItems o₄ rfl (wpAny_bind (updateSeq_trip o₄ fun g₅ o₅ c₅ => wpAny_bind (wpAny_letGo (wpAny_pure ?_)))))
 replace o₅ : IsTrip g₅ TO x y c := o₅
 have b₅ := c₅.extBut
 have e3 : ∀ c o, c ≠ z -> c ≠ i1 -> c ≠ TO -> c ≠ i2 -> s.heap.get? c = some o -> g₅.get? c = some o := fun c o n1 n2 n3 n4 e => b₅ _ _ n3 (b₄ _ _ n4 (e2 c o n1 n2 n3 e))
 refine wpAny_bind (wpAny_bind (wpAny_onRaise (wpAny_bind (m := Builtin.SmallTypes.nextOf (.ref i3)) (nxT_item (s := { s with heap := g₅ }) (h3.at fun o e => e3 _ o D.i3z D.i13.symm D.TOi3.symm D.i23.symm e) (t3.at fun o e => e3 _ o D.l3z D.l3i1 D.l3TO D.l3i2 e) hv fun g₆ j₆ c₆ => wpAny_pure ?_))))
 have b₆ := c₆.extBut
 have o₆ : IsTrip g₆ TO x y c := b₆ _ _ D.TOi3 o₅
 refine wpAny_bind (wpAny_seqItems o₆ rfl (wpAny_bind (updateSeq_trip o₆ fun g₇ o₇ c₇ => wpAny_bind (wpAny_letGo (wpAny_pure (wpAny_pure (wpAny_bind ?_)))))))
 replace o₇ : IsTrip g₇ TO x y v := o₇
 have b₇ := c₇.extBut
 refine wpAny_seqItems o₇ rfl (wpAny_bind (wpAny_newTuple ?_))
 have sz : g₇.objs.size = s.heap.objs.size := by rw [c₇.1, c₆.1, c₅.1, c₄.1, c₃.1, c₂.1, c₁.1]
 have z₇ : IsZip g₇ z TI TO .ellipsis := b₇ _ _ D.TOz.symm (b₆ _ _ D.i3z.symm (b₅ _ _ D.TOz.symm (b₄ _ _ D.i2z.symm (b₃ _ _ D.TOz.symm (b₂ _ _ D.i1z.symm z₁)))))
 have j₁ : g₇.IsTupleIter i1 l1 (k + 1) := j₂.at fun o e => b₇ _ _ D.TOi1.symm (b₆ _ _ D.i13 (b₅ _ _ D.TOi1.symm (b₄ _ _ D.i12 (b₃ _ _ D.TOi1.symm e))))
 have j₅ : g₇.IsTupleIter i2 l2 (k + 1) := j₄.at fun o e => b₇ _ _ D.TOi2.symm (b₆ _ _ D.i23 (b₅ _ _ D.TOi2.symm e))
 have j₇ : g₇.IsTupleIter i3 l3 (k + 1) := j₆.at fun o e => b₇ _ _ D.TOi3.symm e
 have lz : z < g₇.objs.size := Heap.lt_size z₇
 refine wpAny_bind (m := Builtin.SmallTypes.ownedTupleHandOut (.ref z) (.ref g₇.objs.size)) (wpAny_bind (wpAny_setField_rec (Heap.get?_push_of_some _ z₇) (by simp) fun g₈ z₈ c₈ => ?_))
 replace z₈ : IsZip g₈ z TI TO (rawInt g₇.objs.size) := z₈
 refine wpAny_setField_rec z₈ (by simp) fun g₉ z₉ c₉ => ?_
 replace z₉ : IsZip g₉ z TI TO (rawInt g₇.objs.size) := z₉
 have up : ∀ c o, c ≠ z -> (g₇.push { cls := .type "tuple", data := .seq #[x, y, v] }).get? c = some o -> g₉.get? c = some o := fun c o n e => c₉.extBut _ _ n (c₈.extBut _ _ n e)
 have T₉ : IsTrip g₉ g₇.objs.size x y v := up _ _ (Nat.ne_of_gt lz) (Heap.get?_push_size _ rfl)
 have up7 : ∀ c o, c ≠ z -> g₇.get? c = some o -> g₉.get? c = some o := fun c o n e => up c o n (Heap.get?_push_of_some _ e)
 refine wpAny_pure ⟨_, rfl, ?_⟩
 show Q (.ref g₇.objs.size) _
 rw [sz] at z₉ T₉ ⊢
 refine hQ g₉ z₉ (up7 _ _ D.TOz o₇) (j₁.at fun o e => up7 _ o D.i1z e) (j₅.at fun o e => up7 _ o D.i2z e) (j₇.at fun o e => up7 _ o D.i3z e) T₉ fun c o hc e => ?_
 have n1 : c ≠ z := fun h => hc (by simp [h])
 have n2 : c ≠ TO := fun h => hc (by simp [h])
 have n3 : c ≠ i1 := fun h => hc (by simp [h])
 have n4 : c ≠ i2 := fun h => hc (by simp [h])
 have n5 : c ≠ i3 := fun h => hc (by simp [h])
 exact up7 c o n1 (b₇ _ _ n2 (b₆ _ _ n5 (e3 c o n1 n3 n2 n4 e)))
theorem zip3_end {z TI TO i1 i2 i3 l1 l2 l3 : Addr} {k : Nat} {xs : Array Value} {a b c : Value} {Q : Fin -> Shared -> Prop} (hh : A.handled = none) (D : Zip3 z TI TO i1 i2 i3 l1 l2 l3)
  (hz : IsZip s.heap z TI TO .none) (hTI : IsTrip s.heap TI (.ref i1) (.ref i2) (.ref i3)) (h1 : s.heap.IsTupleIter i1 l1 k) (t1 : s.heap.IsTuple l1 xs) (hx : xs[k]? = none)
  (hE : ∀ h' e, (∀ c o, c ∉ [z, TO, i1, i2, i3] -> s.heap.get? c = some o -> h'.get? c = some o) -> (∃ o, h'.get? e = some o ∧ o.cls = .type "StopIteration") -> E (.ref e) { s with heap := h' }) :
  wpAny (model prog w) A (Builtin.«zip.__next__» ⟨[.ref z], []⟩) Q E s := by
 refine wpAny_bind (m := field (.ref z) 2) (wpAny_field hz rfl (x := .bool false) rfl ?_)
 refine wpAny_bind (m := field (.ref z) 3) (wpAny_field hz rfl (x := .ref TI) rfl (wpAny_bind (wpAny_seqItems hTI rfl ?_)))
 refine wpAny_bind (m := Builtin.SmallTypes.ownedTupleIsFree (.ref z)) (wpAny_bind (m := field (.ref z) 0) (wpAny_field hz rfl (x := .none) rfl (wpAny_pure ?_)))
 simp only [if_true]
 refine wpAny_bind (wpAny_rule (wpAny_bind (wpAny_field hz rfl (x := .ref TO) rfl (wpAny_bind (wpAny_setField_rec hz (by simp) fun g₁ z₁ c₁ => wpAny_bind ?_)))))
 replace z₁ : IsZip g₁ z TI TO .ellipsis := z₁
 simp only [List.zipIdx_cons, List.zipIdx_nil, List.forIn_cons, List.forIn_nil]
 have b₁ := c₁.extBut
 have nz : ∀ {g : Heap} {e : Addr} {o : Obj}, IsZip g z TI TO .ellipsis -> g.get? e = some o -> o.cls = .type "StopIteration" -> e ≠ z := fun {g e o} q r c h => by
  subst h
  rw [q] at r; cases r; simp at c
 refine wpAny_bind (wpAny_bind (wpAny_onRaise (wpAny_bind (m := Builtin.SmallTypes.nextOf (.ref i1)) (nxT_end hh (h1.extBut b₁ D.i1z) (t1.extBut b₁ D.l1z) hx fun g₂ e b₂ ⟨oe, he, ce⟩ => ?_))))
 have z₂ : IsZip g₂ z TI TO .ellipsis := b₂ _ _ D.i1z.symm z₁
 refine wpAny_setField_rec z₂ (by simp) fun g₃ _ c₃ => hE g₃ e (fun c o hc q => ?_) ⟨oe, c₃.extBut _ _ (nz z₂ he ce) he, ce⟩
 exact c₃.extBut _ _ (fun h => hc (by simp [h])) (b₂ _ _ (fun h => hc (by simp [h])) (b₁ _ _ (fun h => hc (by simp [h])) q))
theorem pyNext_zip3 {z TI TO i1 i2 i3 l1 l2 l3 : Addr} {k : Nat} {xs ys zs : Array Value} {x y v a b c : Value} {Q : Option Value -> Shared -> Prop} (D : Zip3 z TI TO i1 i2 i3 l1 l2 l3)
  (hz : IsZip s.heap z TI TO .none) (hTI : IsTrip s.heap TI (.ref i1) (.ref i2) (.ref i3)) (hTO : IsTrip s.heap TO a b c) (h1 : s.heap.IsTupleIter i1 l1 k) (h2 : s.heap.IsTupleIter i2 l2 k) (h3 : s.heap.IsTupleIter i3 l3 k)
  (t1 : s.heap.IsTuple l1 xs) (t2 : s.heap.IsTuple l2 ys) (t3 : s.heap.IsTuple l3 zs) (hx : xs[k]? = some x) (hy : ys[k]? = some y) (hv : zs[k]? = some v)
  (hQ : ∀ h', IsZip h' z TI TO (rawInt s.heap.objs.size) -> IsTrip h' TO x y v -> h'.IsTupleIter i1 l1 (k + 1) -> h'.IsTupleIter i2 l2 (k + 1) -> h'.IsTupleIter i3 l3 (k + 1) -> IsTrip h' s.heap.objs.size x y v ->
   (∀ c o, c ∉ [z, TO, i1, i2, i3] -> s.heap.get? c = some o -> h'.get? c = some o) -> Q (some (.ref s.heap.objs.size)) { s with heap := h' }) : wpAny (model prog w) A (pyNext (.ref z)) Q E s := by
 have hT : s.TypeIs (.ref z) "zip" := ⟨_, hz, rfl⟩
 exact wpAny_bind (wpAny_attempt (wpAny_callSpecial?_slot (name := Str.ofString "__next__") hT F.slot_zip_next (wpAny_call_entry F.slot_zip_next hT F.entry_zip_next
  (zip3_item D hz hTI hTO h1 h2 h3 t1 t2 t3 hx hy hv fun h' a1 a2 a3 a4 a5 a6 a7 => wpAny_pure (hQ h' a1 a2 a3 a4 a5 a6 a7)) (F.args_zip_next_1 _))))
theorem pyNext_zip3End {z TI TO i1 i2 i3 l1 l2 l3 : Addr} {k : Nat} {xs : Array Value} {Q : Option Value -> Shared -> Prop} (hh : A.handled = none) (D : Zip3 z TI TO i1 i2 i3 l1 l2 l3)
  (hz : IsZip s.heap z TI TO .none) (hTI : IsTrip s.heap TI (.ref i1) (.ref i2) (.ref i3)) (h1 : s.heap.IsTupleIter i1 l1 k) (t1 : s.heap.IsTuple l1 xs) (hx : xs[k]? = none)
  (hQ : ∀ h', (∀ c o, c ∉ [z, TO, i1, i2, i3] -> s.heap.get? c = some o -> h'.get? c = some o) -> Q none { s with heap := h' }) : wpAny (model prog w) A (pyNext (.ref z)) Q E s := by
 have hT : s.TypeIs (.ref z) "zip" := ⟨_, hz, rfl⟩
 refine wpAny_bind (wpAny_attempt (wpAny_callSpecial?_slot (name := Str.ofString "__next__") hT F.slot_zip_next (wpAny_call_entry F.slot_zip_next hT F.entry_zip_next (zip3_end (a := .none) (b := .none) (c := .none) hh D hz hTI h1 t1 hx fun h' e hk ⟨o, ho, hc⟩ => ?_) (F.args_zip_next_1 _))))
 exact wpAny_bind (wpAny_isInstance (T := "StopIteration") (b := true) ⟨o, ho, hc⟩ isSubtype_stop (wpAny_pure (hQ _ hk)))
end
def zp3 (h : Heap) (a b c : Addr) : Heap :=
 (((((h.push { cls := .type "tuple_iterator", data := .fields #[.ref a, .int 0 0] }).push { cls := .type "tuple_iterator", data := .fields #[.ref b, .int 0 0] }).push { cls := .type "tuple_iterator", data := .fields #[.ref c, .int 0 0] }).push
  { cls := .type "tuple", data := .seq #[.ref h.objs.size, .ref (h.push { cls := .type "tuple_iterator", data := .fields #[.ref a, .int 0 0] }).objs.size, .ref ((h.push { cls := .type "tuple_iterator", data := .fields #[.ref a, .int 0 0] }).push { cls := .type "tuple_iterator", data := .fields #[.ref b, .int 0 0] }).objs.size] }).push { cls := .type "tuple", data := .seq #[.none, .none, .none] }).push
  { cls := .type "zip", data := .fields #[.none, .bool false, .bool false, .ref (((h.push { cls := .type "tuple_iterator", data := .fields #[.ref a, .int 0 0] }).push { cls := .type "tuple_iterator", data := .fields #[.ref b, .int 0 0] }).push { cls := .type "tuple_iterator", data := .fields #[.ref c, .int 0 0] }).objs.size,
   .ref ((((h.push { cls := .type "tuple_iterator", data := .fields #[.ref a, .int 0 0] }).push { cls := .type "tuple_iterator", data := .fields #[.ref b, .int 0 0] }).push { cls := .type "tuple_iterator", data := .fields #[.ref c, .int 0 0] }).push { cls := .type "tuple", data := .seq #[.ref h.objs.size, .ref (h.push { cls := .type "tuple_iterator", data := .fields #[.ref a, .int 0 0] }).objs.size, .ref ((h.push { cls := .type "tuple_iterator", data := .fields #[.ref a, .int 0 0] }).push { cls := .type "tuple_iterator", data := .fields #[.ref b, .int 0 0] }).objs.size] }).objs.size] }
theorem zp3_size (h : Heap) (a b c : Addr) : (zp3 h a b c).objs.size = h.objs.size + 6 := by unfold zp3; rw [Heap.size_push, Heap.size_push, Heap.size_push, Heap.size_push, Heap.size_push, Heap.size_push]
theorem meets3 (l1 l2 l3 : Addr) (xs ys zs : Array Value) : Meets (Builtin.«zip.__new__» ⟨[.type "zip", .ref l1, .ref l2, .ref l3], []⟩) (fun _ R s => s.heap.IsTuple l1 xs ∧ s.heap.IsTuple l2 ys ∧ s.heap.IsTuple l3 zs ∧ R (.ok (.ret (.ref (s.heap.objs.size + 5)))) { s with heap := zp3 s.heap l1 l2 l3 }) :=
 .of_wp fun prog w A R s h => by
  obtain ⟨hp, g, d, tk, os⟩ := s
  obtain ⟨q1, q2, q3, h⟩ := h
  have hsub := sub_zip
  have k1 : Heap.IsTuple (Shared.heap ⟨hp, g, d, tk, os⟩) l1 xs := q1
  have k2 : Heap.IsTuple (Shared.heap ⟨hp.push { cls := .type "tuple_iterator", data := .fields #[.ref l1, .int 0 0] }, g, d, tk, os⟩) l2 ys := Heap.IsTuple.push q2 _
  have k3 : Heap.IsTuple (Shared.heap ⟨(hp.push { cls := .type "tuple_iterator", data := .fields #[.ref l1, .int 0 0] }).push { cls := .type "tuple_iterator", data := .fields #[.ref l2, .int 0 0] }, g, d, tk, os⟩) l3 zs := Heap.IsTuple.push (Heap.IsTuple.push q3 _) _
  wp_walk using wpAny_pyIter_tuple k1, wpAny_pyIter_tuple k2, wpAny_pyIter_tuple k3
  refine ⟨_, rfl, ?_⟩
  have e : (zp3 hp l1 l2 l3).objs.size = hp.objs.size + 6 := zp3_size hp l1 l2 l3
  unfold zp3 at e h
  rw [Heap.size_push] at e
  have e4 := Nat.succ.inj e
  rw [← e4] at h
  exact h
theorem tc_zip_3 (a b c : Value) : checkTypeCall "zip" ⟨[a, b, c], []⟩ = pure () := by kernel_rfl
theorem nc_zip_3 (a b c : Value) : checkBuiltinCall "zip.__new__" ⟨[.type "zip", a, b, c], []⟩ = pure () := by kernel_rfl
theorem ao_init_4 (a b c d : Value) : argsOk "object.__init__" ⟨[a, b, c, d], []⟩ := by
 unfold argsOk; rw [signature?_of (id := "object.__init__") (n := ['_', '_', 't', 'i', 'n', 'i', '_', '_']) (o := ['t', 'c', 'e', 'j', 'b', 'o']) (by kernel_rfl) F.owner_object]; kernel_rfl
section
variable {prog : Program} {w : World} {A : Around} {E : Value -> Shared -> Prop} {s : Shared}
theorem call_zip3 {l1 l2 l3 : Addr} {xs ys zs : Array Value} {Q : Value -> Shared -> Prop} (q1 : s.heap.IsTuple l1 xs) (q2 : s.heap.IsTuple l2 ys) (q3 : s.heap.IsTuple l3 zs)
  (h : ∀ h', IsZip h' (s.heap.objs.size + 5) (s.heap.objs.size + 3) (s.heap.objs.size + 4) .none -> IsTrip h' (s.heap.objs.size + 3) (.ref s.heap.objs.size) (.ref (s.heap.objs.size + 1)) (.ref (s.heap.objs.size + 2)) ->
   IsTrip h' (s.heap.objs.size + 4) .none .none .none -> h'.IsTupleIter s.heap.objs.size l1 0 -> h'.IsTupleIter (s.heap.objs.size + 1) l2 0 -> h'.IsTupleIter (s.heap.objs.size + 2) l3 0 -> (∀ c o, s.heap.get? c = some o -> h'.get? c = some o) -> Q (.ref (s.heap.objs.size + 5)) { s with heap := h' }) :
  wpAny (model prog w) A (call (.type "zip") [.ref l1, .ref l2, .ref l3]) Q E s := by
 refine callType_new F.called_zip (by decide) (tc_zip_3 _ _ _) (nc_zip_3 _ _ _) (fun obj => ao_init_4 obj _ _ _) F.entry_zip_new (meets3 l1 l2 l3 xs ys zs) ⟨q1, q2, q3, ?_⟩
 obtain ⟨H1, e1⟩ : ∃ H1, H1 = s.heap.push { cls := .type "tuple_iterator", data := .fields #[.ref l1, .int 0 0] } := ⟨_, rfl⟩
 obtain ⟨H2, e2⟩ : ∃ H2, H2 = H1.push { cls := .type "tuple_iterator", data := .fields #[.ref l2, .int 0 0] } := ⟨_, rfl⟩
 obtain ⟨H2', e2'⟩ : ∃ H2', H2' = H2.push { cls := .type "tuple_iterator", data := .fields #[.ref l3, .int 0 0] } := ⟨_, rfl⟩
 obtain ⟨H3, e3⟩ : ∃ H3, H3 = H2'.push { cls := .type "tuple", data := .seq #[.ref s.heap.objs.size, .ref H1.objs.size, .ref H2.objs.size] } := ⟨_, rfl⟩
 obtain ⟨H4, e4⟩ : ∃ H4, H4 = H3.push { cls := .type "tuple", data := .seq #[.none, .none, .none] } := ⟨_, rfl⟩
 have e5 : zp3 s.heap l1 l2 l3 = H4.push { cls := .type "zip", data := .fields #[.none, .bool false, .bool false, .ref H2'.objs.size, .ref H3.objs.size] } := by subst e4 e3 e2' e2 e1; rfl
 have z1 : H1.objs.size = s.heap.objs.size + 1 := by rw [e1, Heap.size_push]
 have z2 : H2.objs.size = s.heap.objs.size + 2 := by rw [e2, Heap.size_push, z1]
 have z2' : H2'.objs.size = s.heap.objs.size + 3 := by rw [e2', Heap.size_push, z2]
 have z3 : H3.objs.size = s.heap.objs.size + 4 := by rw [e3, Heap.size_push, z2']
 have z4 : H4.objs.size = s.heap.objs.size + 5 := by rw [e4, Heap.size_push, z3]
 have g1 : H1.get? s.heap.objs.size = some { cls := .type "tuple_iterator", data := .fields #[.ref l1, .int 0 0] } := by rw [e1]; exact Heap.get?_push_size _ rfl
 have g2 : H2.get? H1.objs.size = some { cls := .type "tuple_iterator", data := .fields #[.ref l2, .int 0 0] } := by rw [e2]; exact Heap.get?_push_size _ rfl
 have g2' : H2'.get? H2.objs.size = some { cls := .type "tuple_iterator", data := .fields #[.ref l3, .int 0 0] } := by rw [e2']; exact Heap.get?_push_size _ rfl
 have g3 : H3.get? H2'.objs.size = some { cls := .type "tuple", data := .seq #[.ref s.heap.objs.size, .ref H1.objs.size, .ref H2.objs.size] } := by rw [e3]; exact Heap.get?_push_size _ rfl
 have g4 : H4.get? H3.objs.size = some { cls := .type "tuple", data := .seq #[.none, .none, .none] } := by rw [e4]; exact Heap.get?_push_size _ rfl
 have u2 : ∀ c o, H1.get? c = some o -> H2.get? c = some o := fun c o e => by rw [e2]; exact Heap.get?_push_of_some _ e
 have u2' : ∀ c o, H2.get? c = some o -> H2'.get? c = some o := fun c o e => by rw [e2']; exact Heap.get?_push_of_some _ e
 have u3 : ∀ c o, H2'.get? c = some o -> H3.get? c = some o := fun c o e => by rw [e3]; exact Heap.get?_push_of_some _ e
 have u4 : ∀ c o, H3.get? c = some o -> H4.get? c = some o := fun c o e => by rw [e4]; exact Heap.get?_push_of_some _ e
 have u5 : ∀ c o, H4.get? c = some o -> (zp3 s.heap l1 l2 l3).get? c = some o := fun c o e => by rw [e5]; exact Heap.get?_push_of_some _ e
 have g5 : (zp3 s.heap l1 l2 l3).get? H4.objs.size = some { cls := .type "zip", data := .fields #[.none, .bool false, .bool false, .ref H2'.objs.size, .ref H3.objs.size] } := by rw [e5]; exact Heap.get?_push_size _ rfl
 have f1 := u5 _ _ (u4 _ _ (u3 _ _ (u2' _ _ (u2 _ _ g1))))
 have f2 := u5 _ _ (u4 _ _ (u3 _ _ (u2' _ _ g2)))
 have f2' := u5 _ _ (u4 _ _ (u3 _ _ g2'))
 have f3 := u5 _ _ (u4 _ _ g3)
 have f4 := u5 _ _ g4
 rw [z4, z2', z3] at g5
 rw [z1] at f2
 rw [z2] at f2'
 rw [z2', z1, z2] at f3
 rw [z3] at f4
 exact ⟨⟨_, g5, rfl⟩, h _ g5 f3 f4 ⟨_, f1, rfl, rfl⟩ ⟨_, f2, rfl, rfl⟩ ⟨_, f2', rfl, rfl⟩ fun c o x => u5 _ _ (u4 _ _ (u3 _ _ (u2' _ _ (u2 _ _ (by rw [e1]; exact Heap.get?_push_of_some _ x)))))⟩
end
@[reducible] def blk3 (X : Cx) (x z z3 : Str) (fv : List (Nat × Str)) (scope : Scope) (cl : List (Str × Addr)) (C : Addr) (s : Shared) (H : Hp) (fp : List Addr) : Cx where
 prog := X.prog
 w := X.w
 K := X.K
 mg := X.mg
 base := X.base
 A := X.A
 N := x :: z :: z3 :: fv.map (·.2)
 s₀ := s
 H₀ := H
 env := compEnvC scope cl C X.env
 outer := X.stack
 stack := X.stack
 ex := fp
 fn := fun _ => false
 calm := X.calm
 pn := []
 xe := fun _ _ => False
def bst3 (fv : List (Nat × Str)) (σ : St) (v v2 v3 : Option V) : St := v :: v2 :: v3 :: fv.map fun p => (σ[p.1]?).getD none
structure BlkOk3 (X : Cx) (x z z3 : Str) (fv : List (Nat × Str)) (scope : Scope) (cl : List (Str × Addr)) : Prop where
 clos : closureFor scope X.env = pure cl
 nocell : ∀ y ∈ scope.names, y.2 ≠ .cell
 kind : scope.kind = .function
 names : ∀ y ∈ scope.names, y.2 = .local -> scope.names.lookup y.1 = some .local
 here : scope.names.lookup x = some .local
 here2 : scope.names.lookup z = some .local
 here3 : scope.names.lookup z3 = some .local
 nd : (x :: z :: z3 :: fv.map (·.2)).Nodup
 sub : ∀ y c, cl.lookup y = some c -> X.env.cells.lookup y = some c
 has : ∀ y, ((relabel scope X.env).names.lookup y = some .cell ∨ (relabel scope X.env).names.lookup y = some .free) -> ∃ c, cl.lookup y = some c
 fvs : ∀ p ∈ fv, X.N[p.1]? = some p.2 ∧ (X.env.scope.names.lookup p.2 = some .cell ∨ X.env.scope.names.lookup p.2 = some .free) ∧
  ((relabel scope X.env).names.lookup p.2 = some .cell ∨ (relabel scope X.env).names.lookup p.2 = some .free) ∧ ∃ c, cl.lookup p.2 = some c
section
variable {X : Cx} {elt iter : Expr} {x z z3 : Str} {px pz p3 : Pos} {tk : Nat} {tpos : Pos} {fv : List (Nat × Str)} {scope : Scope} {cl : List (Str × Addr)} {pos : Pos} {te : TE} {wi : TI}
theorem blk_ok3 {pins : List (Addr × Obj)} {σ : St} {H : Hp} {s : Shared} {fp : List Addr} {C : Addr} (B : BlkOk3 X x z z3 fv scope cl) (I : Inv X pins σ H s) (hf : ∀ b ∈ fp, FpOk X pins H b) (hC : s.heap.objs.size <= C) (hfC : ∀ b ∈ fp, b ≠ C) :
  (blk3 X x z z3 fv scope cl C s H fp).Ok where
 mod := I.ok.mod
 kind := B.kind
 glob := I.ok.glob
 blt := I.ok.blt
 above := hC
 inj := fun y y' c h1 h2 => I.ok.inj y y' c (B.sub y c h1) (B.sub y' c h2)
 has := fun y hy => B.has y hy
 cab := fun y c h => nomatch h
 hd := I.ok.hd
 frames := I.ok.frames
 stk := .inl rfl
 exf := fun b hb => ⟨hfC b hb, fun y c e => (hf b hb).2.2.2.2.1 y c (B.sub y c e)⟩
 bs := I.bs
 bsz := Nat.le_trans I.ok.bsz I.sz
 noex := fun b o e hb => by
  obtain ⟨_, _, _, f3, _⟩ := hf b hb
  rcases f3 with z' | z'
  ·exact I.ok.noex b o e z'
  ·exact absurd (Nat.lt_of_lt_of_le (Heap.lt_size e) (Nat.le_trans I.ok.bsz z')) (Nat.lt_irrefl _)
 exfs := fun b hb hs => by
  obtain ⟨_, f1, f2, _⟩ := hf b hb
  rcases List.mem_cons.mp (I.stkSub b hs) with z | z
  ·exact f1 z
  ·exact f2 z
 funs := I.stack
 frf := I.stkFree
theorem bst_get3 {fv : List (Nat × Str)} {σ : St} {o o2 o3 : Option V} {j : Nat} {y : Str} {v : V} (h1 : (x :: z :: z3 :: fv.map (·.2))[j + 3]? = some y) (h2 : (bst3 fv σ o o2 o3)[j + 3]? = some (some v)) : ∃ p ∈ fv, p.2 = y ∧ σ[p.1]? = some (some v) := by
 have e1 : (fv.map (·.2))[j]? = some y := by simpa using h1
 have e2 : (fv.map fun p => (σ[p.1]?).getD none)[j]? = some (some v) := by simpa [bst3] using h2
 rw [List.getElem?_map] at e1 e2
 cases q : fv[j]? with
 | none => rw [q] at e1; cases e1
 | some p =>
  rw [q] at e1 e2
  refine ⟨p, List.mem_of_getElem? q, Option.some.inj e1, ?_⟩
  have e3 : (σ[p.1]?).getD none = some v := Option.some.inj e2
  cases r : σ[p.1]? with
  | none => rw [r] at e3; cases e3
  | some w => rw [r] at e3; exact congrArg some e3
theorem blk_start3 {pins : List (Addr × Obj)} {σ : St} {H : Hp} {s s4 : Shared} {fp : List Addr} {C : Addr} {m : Str -> Option Value} (B : BlkOk3 X x z z3 fv scope cl) (I : Inv X pins σ H s) (hf : ∀ b ∈ fp, FpOk X pins H b) (hC : C = s.heap.objs.size)
  (hfC : ∀ b ∈ fp, b ≠ C) (os : s4.os = s.os) (gens : s4.gens = s.gens) (keep : ∀ b o, s.heap.get? b = some o -> s4.heap.get? b = some o) (ns : s4.heap.Ns C m) :
  Inv (blk3 X x z z3 fv scope cl C s H fp) [] (bst3 fv σ none none none) H s4 := by
 subst hC
 refine ⟨blk_ok3 B I hf (Nat.le_refl _) hfC, os, by rw [gens]; exact I.bare, Un.kept keep, ⟨m, ns, fun i y v h1 h2 h3 => ?_⟩, fun y c e => ?_, I.hok.fresh (Nat.le_refl _), fun y c e => I.freeC y c (B.sub y c e), fun p hp => absurd (show p ∈ ([] : List (Addr × Obj)) from hp) (by simp), I.hok.kept keep, by simp [bst3]⟩
 ·cases i with
  | zero => simp [bst3] at h2
  | succ j =>
   cases j with
   | zero => simp [bst3] at h2
   | succ j =>
   cases j with
   | zero => simp [bst3] at h2
   | succ j =>
   obtain ⟨p, hp, rfl, hv⟩ := bst_get3 h1 h2
   obtain ⟨hN, hk, hk2, c, hc⟩ := B.fvs p hp
   obtain ⟨m0, _, hl⟩ := I.loc
   have vis : Vis X.env.scope p.2 := hk.elim (fun z => .inr (.inl z)) fun z => .inr (.inr z)
   obtain ⟨u, r, l⟩ := hl p.1 p.2 v hN hv vis
   refine ⟨u, r, .inr ⟨hk2, c, hc, ?_⟩⟩
   rcases l with ⟨z, _⟩ | ⟨_, c', hc', o, ho, hd⟩
   ·have z' : X.env.scope.names.lookup p.2 = some .local := z
    rcases hk with k | k <;> (rw [k] at z'; cases z')
   ·have := B.sub p.2 c hc
    rw [hc'] at this; cases this
    exact ⟨o, keep _ o ho, hd⟩
 ·obtain ⟨v, o, ho, hd⟩ := I.cell y c (B.sub y c e)
  exact ⟨v, o, keep c o ho, hd⟩
theorem blk_store3 {s : Shared} {H0 : Hp} {fp : List Addr} {C : Addr} (hc : X.calm = true) (B : BlkOk3 X x z z3 fv scope cl) :
  PG (blk3 X x z z3 fv scope cl C s H0 fp) (.Tuple [.Name x px, .Name z pz, .Name z3 p3] tk tpos) (gTup X.K 3 (gCons (gName 0) (gCons (gName 1) (gCons (gName 2) gNil)))) := by
 have h1 : (relabel scope X.env).names.lookup x = some .local := lookup_relabel_local B.here
 have h2 : (relabel scope X.env).names.lookup z = some .local := lookup_relabel_local B.here2
 have h3 : (relabel scope X.env).names.lookup z3 = some .local := lookup_relabel_local B.here3
 exact pg_tup (X := blk3 X x z z3 fv scope cl C s H0 fp) hc (pgs_cons (pg_name (i := 0) B.nd rfl (.inl h1) (.inr h1)) (pgs_cons (pg_name (i := 1) B.nd rfl (.inl h2) (.inr h2)) (pgs_cons (pg_name (i := 2) B.nd rfl (.inl h3) (.inr h3)) pgs_nil)))
theorem blk_run3 {pins : List (Addr × Obj)} {σ : St} {H : Hp} {s2 : Shared} {it : Addr} {fp : List Addr} {tn : Nat -> Heap -> Prop} {J : It} {Q : VK} {E : Value -> Shared -> Prop} {RR : Value -> Addr -> Result -> Shared -> Prop}
  (hc : X.calm = true) (B : BlkOk3 X x z z3 fv scope cl) (he : ∀ C s H fp, PE (blk3 X x z z3 fv scope cl C s H fp) elt te) (I : Inv X pins σ H s2) (T : Turn X.prog X.w X.K (.Tuple [.Name x px, .Name z pz, .Name z3 p3] tk tpos) J fp it tn) (st : tn 0 s2.heap) (hf : ∀ b ∈ fp, FpOk X pins H b)
  (rd : ∀ D, H D = none -> ∃ W : Nat -> Nat -> Hp -> Prop, (∃ m, W 0 m (upd H D (.lst []))) ∧ ∀ i m H, W i m H ->
   (J.stop i H ∧ Q (.ref D) H) ∨ (J.go i H ∧ ∃ N : Hp -> Prop, (∀ H', N H' -> ∃ m', m' < m ∧ W (i + 1) m' H') ∧ ∀ v H', J.yld i H v H' -> ∃ q x1 x2 x3, v = .ref q ∧ SqT X.K H' q [x1, x2, x3] ∧ te (bst3 fv σ (some x1) (some x2) (some x3)) H' fun y H2 => ∃ ys, H2 D = some (.lst ys) ∧ ys.length < sizeLine ∧ N (upd H2 D (.lst (ys ++ [y])))))
  (hRR : ∀ D C s' H' m', Inv X pins σ H' s' -> FpOk X pins H' C -> s'.heap.Ns C m' -> Q (.ref D) H' -> RR (.ref D) C (.ok .next) s') :
  wpAny (model X.prog X.w) X.A (newList []) (fun acc s₃ => wpAny (model X.prog X.w) X.A (newFunctionEnv scope X.env.globals cl [] X.env.qual none .none (some X.env)) (fun cenv s₄ =>
   codeAny (model X.prog X.w) X.A (.compStart (.ListComp elt [⟨(.Tuple [.Name x px, .Name z pz, .Name z3 p3] tk tpos), iter, [], 0⟩] scope pos) 0 (.ref it) acc { cenv with scope := relabel scope X.env }) (RR acc cenv.locals) s₄) E s₃) E s2 := by
 refine wpAny_newObj_type ?_ (by show 0 <= sizeLine; exact Nat.zero_le _)
 have hD : H s2.heap.objs.size = none := I.hok.fresh (Nat.le_refl _)
 have I3 := I.lnew (ys := []) (its := []) (t' := s2.toks) .nil (Nat.zero_le _)
 generalize hs3 : ({ s2 with heap := s2.heap.push { cls := .type "list", data := .seq ([] : List Value).toArray }, toks := s2.toks } : Shared) = s3 at I3
 have sz3 : s3.heap.objs.size = s2.heap.objs.size + 1 := by rw [← hs3]; exact Heap.size_push ..
 have up3 : ∀ b o, s2.heap.get? b = some o -> s3.heap.get? b = some o := fun b o e => by rw [← hs3]; exact Heap.get?_push_of_some _ e
 have hf3 : ∀ b ∈ fp, FpOk X pins (upd H s2.heap.objs.size (.lst [])) b := fun b hb => by
  obtain ⟨f0, r⟩ := hf b hb
  refine ⟨?_, r⟩
  obtain ⟨o, e, _⟩ := T.obj 0 _ st b hb
  rw [upd_ne (Nat.ne_of_lt (Heap.lt_size e))]; exact f0
 have ltf : ∀ b ∈ fp, b < s2.heap.objs.size := fun b hb => by
  obtain ⟨o, e, _⟩ := T.obj 0 _ st b hb
  exact Heap.lt_size e
 have st3 : tn 0 s3.heap := T.keep 0 _ _ st fun b _ o e => up3 b o e
 obtain ⟨W, ⟨m0, w0⟩, turn⟩ := rd _ hD
 refine wpAny_newFunctionEnv B.nocell (by intro y hy; simp at hy) (fun h₁ hns₁ hsb₁ => ?_) B.kind
 have hfC : ∀ b ∈ fp, b ≠ s3.heap.objs.size := fun b hb => Nat.ne_of_lt (by rw [sz3]; exact Nat.lt_succ_of_lt (ltf b hb))
 have up4 : ∀ b o, s3.heap.get? b = some o -> h₁.get? b = some o := fun b o e => hsb₁.extBut b o (Nat.ne_of_lt (Heap.lt_size e)) (Heap.get?_push_of_some _ e)
 generalize hs4 : ({ s3 with heap := h₁, toks := s3.toks + ([] : List (Str × Value)).length } : Shared) = s4
 have h4 : s4.heap = h₁ := by rw [← hs4]
 have I4 : Inv (blk3 X x z z3 fv scope cl s3.heap.objs.size s3 (upd H s2.heap.objs.size (.lst [])) fp) [] (bst3 fv σ none none none) (upd H s2.heap.objs.size (.lst [])) s4 :=
  blk_start3 B I3 hf3 rfl hfC (by rw [← hs4]) (by rw [← hs4]) (fun b o e => by rw [h4]; exact up4 b o e) (by rw [h4]; exact hns₁)
 have st4 : tn 0 s4.heap := by rw [h4]; exact T.keep 0 _ _ st3 fun b _ o e => up4 b o e
 have stat : ∀ {H' : Hp}, (∀ b ∈ fp, H' b = none) -> ∀ b ∈ fp, FpOk (blk3 X x z z3 fv scope cl s3.heap.objs.size s3 (upd H s2.heap.objs.size (.lst [])) fp) [] H' b := fun {H'} hn b hb => by
  obtain ⟨_, f1, f2, f3, f4, f5⟩ := hf b hb
  refine ⟨hn b hb, hfC b hb, fun z' => ?_, .inl hb, fun y c e => f4 y c (B.sub y c e), fun p hp => absurd (show p ∈ ([] : List (Addr × Obj)) from hp) (by simp)⟩
  rcases List.mem_cons.mp (I.stkSub b z') with q | q
  ·exact f1 q
  ·exact f2 q
 have loop : codeAny (model X.prog X.w) X.A (.compLoop (.ListComp elt [⟨(.Tuple [.Name x px, .Name z pz, .Name z3 p3] tk tpos), iter, [], 0⟩] scope pos) 0 (.ref it) (.ref s2.heap.objs.size) (compEnvC scope cl s3.heap.objs.size X.env)) (RR (.ref s2.heap.objs.size) s3.heap.objs.size) s4 := by
  refine compLoop_one (fun n s' => ∃ i H' o o2 o3, Inv (blk3 X x z z3 fv scope cl s3.heap.objs.size s3 (upd H s2.heap.objs.size (.lst [])) fp) [] (bst3 fv σ o o2 o3) H' s' ∧ tn i s'.heap ∧ (∀ b ∈ fp, H' b = none) ∧ W i n H') ?_ m0
   ⟨0, _, none, none, none, I4, st4, fun b hb => (hf3 b hb).1, w0⟩
  rintro n s5 E' ⟨i, H5, o5, o6, o7, I5, st5, fr5, w5⟩
  rcases turn i n H5 w5 with ⟨stop, q⟩ | ⟨go, N, hN, step⟩
  ·refine thn (T.done (blk3 X x z z3 fv scope cl s3.heap.objs.size s3 (upd H s2.heap.objs.size (.lst [])) fp) rfl rfl rfl hc i [] s5 _ H5 _ I5 (stat fr5) st5 stop) fun r s6 ⟨hr, I6⟩ => ?_
   subst hr
   obtain ⟨m6, hn6, _⟩ := I6.loc
   have un : Un (frs X.stack) fp H H5 s2.heap s6.heap := by
    have u1 : Un (frs X.stack) fp H (upd H s2.heap.objs.size (.lst [])) s2.heap s3.heap := Un.laid up3 (Nat.le_refl _) hD
    exact u1.trans I6.base
   have J6 : Inv X pins σ H5 s6 := by
    refine I.call' ?_ un I6.hok I6.bare fun b hb => ?_
    ·have := I6.os
     rw [show (blk3 X x z z3 fv scope cl s3.heap.objs.size s3 (upd H s2.heap.objs.size (.lst [])) fp).s₀.os = s2.os by rw [← hs3]] at this
     exact this
    ·obtain ⟨_, f1, f2, f3, f4, f5⟩ := hf b hb
     exact ⟨f3, f1, f4, f5⟩
   refine hRR _ _ s6 H5 m6 J6 ?_ hn6 q
   exact I3.fpOk (Nat.le_refl _) I6.free
  ·refine thn (T.item (blk3 X x z z3 fv scope cl s3.heap.objs.size s3 (upd H s2.heap.objs.size (.lst [])) fp) rfl rfl rfl hc i [] s5 _ H5 _ I5 (stat fr5) st5 go) fun r s6 ⟨u, hr, h6⟩ => ?_
   subst hr
   refine thn h6 fun _ s7 ⟨v, H7, I7, r7, y7, st7, fr7⟩ => ?_
   have I7' := I7.pinned (stat fr7) (T.obj _ _ st7)
   obtain ⟨q7, x1, x2, x3, ev, sq7, rd7⟩ := step v H7 y7
   refine wpAny_mono (blk_store3 (px := px) (pz := pz) (p3 := p3) (tk := tk) (tpos := tpos) hc B _ s7 _ H7 v u (fun σ' H' => σ' = bst3 fv σ (some x1) (some x2) (some x3) ∧ H' = H7) I7' r7 ⟨q7, [x1, x2, x3], ev, sq7, rfl, x1, [x2, x3], rfl, x2, [x3], rfl, x3, [], rfl, rfl, rfl, rfl⟩) (fun _ s8 ⟨σ8, H8, I8, e8a, e8b⟩ => ?_) fun _ _ z => False.elim z
   subst e8a e8b
   have e8 := he _ _ _ _ _ s8 _ _ _ I8 rd7
   refine wpAny_mono e8 (fun y s9 ⟨yv, H9, I9, r9, ys, hD9, hz, n9⟩ => ?_) fun _ _ z => False.elim z
   have a9 := mt_append (X := blk3 X x z z3 fv scope cl s3.heap.objs.size s3 (upd H s2.heap.objs.size (.lst [])) fp) _ s9 _ H9 (.ref s2.heap.objs.size) [yv] (.ref s2.heap.objs.size) [y] (fun _ H10 => H10 = upd H9 s2.heap.objs.size (.lst (ys ++ [yv]))) I9 rfl (.cons r9 .nil)
    ⟨_, ys, yv, rfl, rfl, hD9, hz, rfl⟩
   refine wpAny_mono a9 (fun _ s10 ⟨_, H10, I10, _, e10⟩ => ?_) fun _ _ z => False.elim z
   subst e10
   obtain ⟨m', hm, w9⟩ := hN _ n9
   refine ⟨m', hm, i + 1, _, some x1, some x2, some x3, I10.unpinned, T.keep _ _ _ st7 fun b hb o e => (I10.pin (b, o) (List.mem_append_right _ (List.mem_append_right _ (mem_pinsAt hb e)))).1, fun b hb => ?_, w9⟩
   obtain ⟨o, e, _⟩ := T.obj _ _ st7 b hb
   exact (I10.pin (b, o) (List.mem_append_right _ (List.mem_append_right _ (mem_pinsAt hb e)))).2.1
 exact codeAny_compStart_list loop (T.self _ 0 _ _ _ st4 loop)
def CLoop3 (K : PySem.W.Frag) (J : It) (fv : List (Nat × Str)) (te : TE) (Q : VK) (σ : St) (H1 : Hp) (D : Addr) : Prop := ∃ W : Nat -> Nat -> Hp -> Prop, (∃ m, W 0 m (upd H1 D (.lst []))) ∧ ∀ i m H, W i m H ->
 (J.stop i H ∧ Q (.ref D) H) ∨ (J.go i H ∧ ∃ N : Hp -> Prop, (∀ H', N H' -> ∃ m', m' < m ∧ W (i + 1) m' H') ∧ ∀ v H', J.yld i H v H' -> ∃ q x1 x2 x3, v = .ref q ∧ SqT K H' q [x1, x2, x3] ∧ te (bst3 fv σ (some x1) (some x2) (some x3)) H' fun y H2 => ∃ ys, H2 D = some (.lst ys) ∧ ys.length < sizeLine ∧ N (upd H2 D (.lst (ys ++ [y]))))
def tComp3 (K : PySem.W.Frag) (fv : List (Nat × Str)) (wi : TI) (te : TE) : TE := fun σ H Q => wi σ H fun J H1 => ∀ D, H1 D = none -> CLoop3 K J fv te Q σ H1 D
theorem a_tComp3 {K : PySem.W.Frag} {σ : St} {H : Hp} {Q : VK} : tComp3 K fv wi te σ H Q = wi σ H fun J H1 => ∀ D, H1 D = none -> CLoop3 K J fv te Q σ H1 D := rfl
theorem pe_lcomp3 (hc : X.calm = true) (B : BlkOk3 X x z z3 fv scope cl) (hi : PI X (.Tuple [.Name x px, .Name z pz, .Name z3 p3] tk tpos) iter wi) (he : ∀ C s H fp, PE (blk3 X x z z3 fv scope cl C s H fp) elt te)
  (hs : ∀ v, foldedSetIterable iter X.env v = pure v := by intro _; rfl) : PE X (.ListComp elt [⟨.Tuple [.Name x px, .Name z pz, .Name z3 p3] tk tpos, iter, [], 0⟩] scope pos) (tComp3 X.K fv wi te) := by
 intro pins s σ H Q I h
 rw [eval_ListComp]
 refine wpAny_comprehension_free (use := none) rfl hs B.clos B.kind B.names (thn (hi pins s σ H _ I h) fun v s1 h1 => thn h1 fun itv s2 h2 => ?_)
 obtain ⟨it, fp, tn, J, H2, e, I2, T, st2, f2, rd⟩ := h2
 subst e
 refine blk_run3 (RR := fun acc C => compPost (model X.prog X.w) X.A X.xe none (EP X pins σ Q) acc C) hc B he I2 T st2 f2 rd ?_
 intro D C s' H' m' I' fC hn q
 exact ⟨m', hn, fun h' sb => ⟨.ref D, H', I'.turned (t' := s'.toks) (fun b o hb e => (sb.2 b hb).trans e) fC.1 fC.2.1 fC.2.2.2.1 fC.2.2.2.2.1 fC.2.2.2.2.2, rfl, q⟩⟩
theorem blkok3 {X : Cx} {x z z3 : Str} {fv : List (Nat × Str)} {scope : Scope} {cl : List (Str × Addr)} (clos : closureFor scope X.env = pure cl) (sub : ∀ y c, cl.lookup y = some c -> X.env.cells.lookup y = some c) (fvs : FvOk2 X scope cl fv)
  (nd : (x :: z :: z3 :: fv.map (·.2)).Nodup := by decide) (kind : scope.kind = .function := by rfl) (here : scope.names.lookup x = some .local := by rfl) (here2 : scope.names.lookup z = some .local := by rfl) (here3 : scope.names.lookup z3 = some .local := by rfl) (nocell : ∀ y ∈ scope.names, y.2 ≠ .cell := by decide +kernel)
  (names : ∀ y ∈ scope.names, y.2 = .local -> scope.names.lookup y.1 = some .local := by decide +kernel)
  (has : ((relabel scope X.env).names.all fun p => (p.2 != .cell && p.2 != .free) || (cl.lookup p.1).isSome) = true := by rfl) : BlkOk3 X x z z3 fv scope cl :=
 ⟨clos, nocell, kind, names, here, here2, here3, nd, sub, has_of has, fvs⟩
end
def Itz3 (K : PySem.W.Frag) (a b c : Addr) : It :=
 ⟨fun i H => ∃ xs ys zs x y v, SqT K H a xs ∧ SqT K H b ys ∧ SqT K H c zs ∧ xs[i]? = some x ∧ ys[i]? = some y ∧ zs[i]? = some v,
  fun i H v H' => ∃ p x y u, H p = none ∧ v = .ref p ∧ H' = upd H p (.tup [x, y, u]) ∧ (∀ xs, SqT K H a xs -> xs[i]? = some x) ∧ (∀ ys, SqT K H b ys -> ys[i]? = some y) ∧ ∀ zs, SqT K H c zs -> zs[i]? = some u,
  fun i H => ∃ xs, SqT K H a xs ∧ xs.length <= i⟩
theorem turn_zip3 {P : Program} {w : World} {K : PySem.W.Frag} {elts : List Expr} {tk : Nat} {tpos : Pos} (a b c z TI TO i1 i2 i3 : Addr) (D : Zip3 z TI TO i1 i2 i3 a b c) :
  Turn P w K (.Tuple elts tk tpos) (Itz3 K a b c) [z, TI, TO, i1, i2, i3] z (fun i h => IsZip h z TI TO .none ∧ IsTrip h TI (.ref i1) (.ref i2) (.ref i3) ∧ (∃ u v q, IsTrip h TO u v q) ∧ h.IsTupleIter i1 a i ∧ h.IsTupleIter i2 b i ∧ h.IsTupleIter i3 c i) where
 mem := by simp
 obj := fun i h st c hb => by
  obtain ⟨hz, hTI, ⟨u, v, q, hTO⟩, ⟨o1, e1, c1, d1⟩, ⟨o2, e2, c2, d2⟩, ⟨o3, e3, c3, d3⟩⟩ := st
  simp only [List.mem_cons, List.not_mem_nil, or_false] at hb
  rcases hb with rfl | rfl | rfl | rfl | rfl | rfl
  ·exact ⟨_, hz, fun v z => by
    have z' : Data.fields _ = Data.cell v := z
    cases z'⟩
  ·exact ⟨_, hTI, fun v z => by
    have z' : Data.seq _ = Data.cell v := z
    cases z'⟩
  ·exact ⟨_, hTO, fun v z => by
    have z' : Data.seq _ = Data.cell v := z
    cases z'⟩
  ·exact ⟨o1, e1, fun v z => by rw [d1] at z; cases z⟩
  ·exact ⟨o2, e2, fun v z => by rw [d2] at z; cases z⟩
  ·exact ⟨o3, e3, fun v z => by rw [d3] at z; cases z⟩
 keep := fun i h h' st k => by
  obtain ⟨hz, hTI, ⟨u, v, q, hTO⟩, h1, h2, h3⟩ := st
  exact ⟨k z (by simp) _ hz, k TI (by simp) _ hTI, ⟨u, v, q, k TO (by simp) _ hTO⟩, h1.at fun o q => k i1 (by simp) o q, h2.at fun o q => k i2 (by simp) o q, h3.at fun o q => k i3 (by simp) o q⟩
 item := by
  intro X hP hw hK hc i pins s σ H E I hf st hg
  subst hP hw hK
  obtain ⟨xs, ys, zs, x, y, v, hq1, hq2, hq3, hx, hy, hv⟩ := hg
  obtain ⟨its1, rv1, pl1, hz1⟩ := I.tuple hq1
  obtain ⟨its2, rv2, pl2, hz2⟩ := I.tuple hq2
  obtain ⟨its3, rv3, pl3, hz3⟩ := I.tuple hq3
  obtain ⟨u1, hu1, ru1⟩ := rv1.get hx
  obtain ⟨u2, hu2, ru2⟩ := rv2.get hy
  obtain ⟨u3, hu3, ru3⟩ := rv3.get hv
  obtain ⟨hz, hTI, ⟨_, _, _, hTO⟩, hit1, hit2, hit3⟩ := st
  refine pyNext_zip3 D hz hTI hTO hit1 hit2 hit3 pl1 pl2 pl3 (x := u1) (y := u2) (v := u3) (by simpa using hu1) (by simpa using hu2) (by simpa using hu3) fun h1 ho hTO1 hi1 hi2 hi3 hT hk' => ?_
  have hk : ∀ c o, c ≠ z -> c ≠ TO -> c ≠ i1 -> c ≠ i2 -> c ≠ i3 -> s.heap.get? c = some o -> h1.get? c = some o := fun c o n1 n2 n3 n4 n5 e => hk' c o (by simp [n1, n2, n3, n4, n5]) e
  refine ⟨_, rfl, wpAny_letOwnedTupleGo_zip ho fun h2 he2 hs2 => ?_⟩
  have hp : H s.heap.objs.size = none := I.hok.fresh (Nat.le_refl _)
  have hpz : s.heap.objs.size ≠ z := Nat.ne_of_gt (Heap.lt_size hz)
  have k2 : ∀ c o, c ∉ [z, TI, TO, i1, i2, i3] -> s.heap.get? c = some o -> h2.get? c = some o := fun c o hb q =>
   (hs2.2 c fun e => hb (by simp [e])).trans (hk c o (fun e => hb (by simp [e])) (fun e => hb (by simp [e])) (fun e => hb (by simp [e])) (fun e => hb (by simp [e])) (fun e => hb (by simp [e])) q)
  have hT2 : h2.get? s.heap.objs.size = some { cls := .type "tuple", data := .seq #[u1, u2, u3] } := (hs2.2 _ hpz).trans hT
  have nch : ∀ c u, H c = some u -> c ∉ [z, TI, TO, i1, i2, i3] := fun c u q hb => by
   rw [(hf c hb).1] at q; cases q
  have up : ∀ c, c < s.heap.objs.size -> c ≠ s.heap.objs.size := fun c hb => Nat.ne_of_lt hb
  have I2 : Inv X pins σ (upd H s.heap.objs.size (.tup [x, y, v])) { s with heap := h2 } := by
   refine I.step (g' := s.gens) (d' := s.drawn) (t' := s.toks) (ch := [z, TI, TO, i1, i2, i3]) (fun c hb => ?_) (fun c o _ _ hc q _ => k2 c o hc q) (fun c o _ _ hc q _ => ⟨o.slots, k2 c o hc q⟩)
    (fun c o _ q n => by rw [upd_ne (up c (Heap.lt_size q))]; exact n) (fun c o hc q => ⟨o, k2 c o hc q⟩) (fun c ys q => by rw [upd_ne (ne_of_none q hp)]; exact q) (fun c o v q => by rw [upd_ne (ne_of_none q hp)]; exact q)
    (fun c ps q => ⟨#[], by rw [upd_ne (ne_of_none q hp), q]; simp⟩) (fun m hm => ?_) (fun c v q => ?_) I.bare
   ·obtain ⟨f0, f1, f2, f3, f4, f5⟩ := hf c hb
    exact ⟨f3, f1, f4, f5⟩
   ·obtain ⟨o, es, ep, q, r⟩ := hm
    refine ⟨o, es, ep, k2 _ o (fun e => ?_) q, r⟩
    exact (hf _ e).2.1 rfl
   ·by_cases hb : c = s.heap.objs.size
    ·subst hb
     rw [upd_same] at q; cases q
     exact ⟨by show 3 <= sizeLine; decide, [u1, u2, u3], .cons ru1 (.cons ru2 (.cons ru3 .nil)), ⟨_, hT2, rfl, _, rfl⟩⟩
    ·rw [upd_ne hb] at q
     refine (I.hok c v q).stay (fun c' o hc r => k2 c' o ?_ r) (fun c' r => by rw [upd_ne (ne_of_none r hp)]; exact r) fun c' ys r => by rw [upd_ne (ne_of_none r hp)]; exact r
     rcases hc with e | e
     ·rw [e]; exact nch c v q
     ·exact nch c' _ e
  refine ⟨.ref s.heap.objs.size, _, I2, rfl, ⟨_, x, y, v, hp, rfl, rfl, fun zs hz' => by rw [I.tuple_inj hz' hq1]; exact hx, fun zs hz' => by rw [I.tuple_inj hz' hq2]; exact hy, fun zs hz' => by rw [I.tuple_inj hz' hq3]; exact hv⟩,
   ⟨he2, (hs2.2 TI D.TIz).trans (hk TI _ D.TIz D.TITO D.TIi1 D.TIi2 D.TIi3 hTI), ⟨_, _, _, (hs2.2 TO D.TOz).trans hTO1⟩, hi1.at fun o q => (hs2.2 i1 D.i1z).trans q, hi2.at fun o q => (hs2.2 i2 D.i2z).trans q, hi3.at fun o q => (hs2.2 i3 D.i3z).trans q⟩, fun c hb => ?_⟩
  have lb : c < s.heap.objs.size := by
   simp only [List.mem_cons, List.not_mem_nil, or_false] at hb
   rcases hb with rfl | rfl | rfl | rfl | rfl | rfl
   ·exact Heap.lt_size hz
   ·exact Heap.lt_size hTI
   ·exact Heap.lt_size hTO
   ·obtain ⟨_, q, _⟩ := hit1; exact Heap.lt_size q
   ·obtain ⟨_, q, _⟩ := hit2; exact Heap.lt_size q
   ·obtain ⟨_, q, _⟩ := hit3; exact Heap.lt_size q
  rw [upd_ne (up c lb)]
  exact (hf c hb).1
 done := by
  intro X hP hw hK hc i pins s σ H E I hf st hg
  subst hP hw hK
  obtain ⟨xs, hq1, hx⟩ := hg
  obtain ⟨its1, rv1, pl1, hz1⟩ := I.tuple hq1
  obtain ⟨hz, hTI, ⟨_, _, _, hTO⟩, hit1, hit2, hit3⟩ := st
  have hl1 := rv1.length
  refine pyNext_zip3End (I.ok.hd hc) D hz hTI hit1 pl1 (by simp; omega) fun h' eb' => ⟨rfl, ?_⟩
  have k2 : ∀ c o, c ∉ [z, TI, TO, i1, i2, i3] -> s.heap.get? c = some o -> h'.get? c = some o := fun c o hb q => eb' c o (fun e => hb (by
   simp only [List.mem_cons, List.not_mem_nil, or_false] at e ⊢
   rcases e with e | e | e | e | e <;> simp [e])) q
  refine I.step (g' := s.gens) (d' := s.drawn) (t' := s.toks) (ch := [z, TI, TO, i1, i2, i3]) (fun c hb => ?_) (fun c o _ _ hc q _ => k2 c o hc q) (fun c o _ _ hc q _ => ⟨o.slots, k2 c o hc q⟩)
   (fun c o _ q n => n) (fun c o hc q => ⟨o, k2 c o hc q⟩) (fun c ys q => q) (fun c o v q => q) (fun c ps q => ⟨#[], by rw [q]; simp⟩) (fun m hm => ?_) (fun c v q => ?_) I.bare
  ·obtain ⟨f0, f1, f2, f3, f4, f5⟩ := hf c hb
   exact ⟨f3, f1, f4, f5⟩
  ·obtain ⟨o, es, ep, q, r⟩ := hm
   exact ⟨o, es, ep, k2 _ o (fun e => (hf _ e).2.1 rfl) q, r⟩
  ·refine (I.hok c v q).stay (fun c' o hc r => k2 c' o ?_ r) (fun c' r => r) fun c' ys r => r
   have nch : ∀ c u, H c = some u -> c ∉ [z, TI, TO, i1, i2, i3] := fun c u q hb => by
    rw [(hf c hb).1] at q; cases q
   rcases hc with e | e
   ·rw [e]; exact nch c v q
   ·exact nch c' _ e
 self := fun _ _ _ _ _ st h => wpAny_pyIter_zip st.1 h
section
variable {X : Cx}
def iZip3 (K : PySem.W.Frag) (ta : TA) : TI := fun σ H R => ta σ H fun vs H1 => ∃ a b c xs ys zs, vs = [.ref a, .ref b, .ref c] ∧ SqT K H1 a xs ∧ SqT K H1 b ys ∧ SqT K H1 c zs ∧ R (Itz3 K a b c) H1
theorem a_izip3 {K : PySem.W.Frag} {ta : TA} {σ : St} {H : Hp} {R : It -> Hp -> Prop} : iZip3 K ta σ H R = ta σ H fun vs H1 => ∃ a b c xs ys zs, vs = [.ref a, .ref b, .ref c] ∧ SqT K H1 a xs ∧ SqT K H1 b ys ∧ SqT K H1 c zs ∧ R (Itz3 K a b c) H1 := rfl
theorem pi_zip3 {elts : List Expr} {tk : Nat} {tpos : Pos} {a b c : Expr} {ta : TA} {p pos : Pos} (hg : Gl X "zip") (hm : X.mg "zip" = none) (ha : PA X [a, b, c] ta) (hs : starEach [a, b, c] X.env = (false, eval a X.env) :: starEach [b, c] X.env := by rfl)
  (hs2 : (backTo pos (starEach [b, c] X.env)).any (·.1) = false := by rfl) :
  PI X (.Tuple elts tk tpos) (.Call (.Name "zip" p) [a, b, c] [] pos) (iZip3 X.K ta) := by
 intro pins s σ H R I h
 refine Call_ (ld_blt I hg hm boot_zip (PyProof.Rows.callWith_type1 (thn (ha pos pins s σ H _ I h) fun us s1 ⟨vs, H1, I1, r1, q1⟩ => ?_) hs hs2))
 obtain ⟨a, b, c, xs, ys, zs, e, hq1, hq2, hq3, q⟩ := q1
 subst e
 cases r1 with
 | cons r rr =>
  cases rr with
  | cons r' rr =>
  cases rr with
  | cons r'' rr =>
  cases rr
  cases r
  cases r'
  cases r''
  have fr : ∀ c, c ∈ [s1.heap.objs.size + 5, s1.heap.objs.size + 3, s1.heap.objs.size + 4, s1.heap.objs.size, s1.heap.objs.size + 1, s1.heap.objs.size + 2] -> s1.heap.objs.size <= c := fun c hb => by
   simp only [List.mem_cons, List.not_mem_nil, or_false] at hb
   rcases hb with rfl | rfl | rfl | rfl | rfl | rfl <;> omega
  obtain ⟨its1, rv1, pl1, hz1⟩ := I1.tuple hq1
  obtain ⟨its2, rv2, pl2, hz2⟩ := I1.tuple hq2
  obtain ⟨its3, rv3, pl3, hz3⟩ := I1.tuple hq3
  have a1 : a < s1.heap.objs.size := by obtain ⟨_, e, _⟩ := pl1; exact Heap.lt_size e
  have a2 : b < s1.heap.objs.size := by obtain ⟨_, e, _⟩ := pl2; exact Heap.lt_size e
  have a3 : c < s1.heap.objs.size := by obtain ⟨_, e, _⟩ := pl3; exact Heap.lt_size e
  refine call_zip3 pl1 pl2 pl3 fun h1 hz hTI hTO hi1 hi2 hi3 hk => wpAny_pyIter_zip hz ?_
  exact ⟨_, _, _, _, H1, rfl, I1.kept (t' := s1.toks) hk, turn_zip3 a b c _ _ _ _ _ _ (zip3_new a1 a2 a3), ⟨hz, hTI, ⟨_, _, _, hTO⟩, hi1, hi2, hi3⟩, fun c hb => I1.fpOk (fr c hb) (I1.hok.fresh (fr c hb)), q⟩
end
theorem bools_are {bs : List Bool} {us : List Value} : Vals (bs.map V.bl) us -> PyProof.Rows.LSm.BoolsAre us bs := by
 induction bs generalizing us with
 | nil => intro h; cases h; exact .nil
 | cons b bs ih => intro h; cases h with | cons r rr => cases r; exact .cons b (ih rr)
section
variable {X : Cx}
theorem call_allL (hc : X.calm = true) : CallR X (.builtin "all") (fun xs H Q => ∃ (p : Addr) (bs : List Bool), xs = [.ref p] ∧ SqL X.K H p (bs.map V.bl) ∧ Q (.bl (bs.all id)) H) := by
 intro pins s σ H xs us Q I r h
 obtain ⟨p, bs, rfl, hq, q⟩ := h
 obtain ⟨u, rfl, rx⟩ := vals1 r
 cases rx
 obtain ⟨its, r', pl, hz⟩ := I.list hq
 have hb := bools_are r'
 have hl := pl.isList
 have hlt : p < s.heap.objs.size := by obtain ⟨_, e, _⟩ := hl; exact Heap.lt_size e
 refine call_all_walk (wpAny_pyIter_list hl ?_)
 refine ⟨s.heap.objs.size, [s.heap.objs.size, p], [s.heap.objs.size], its.toArray.size, _, _, fun i => (bs[i]?).getD true, rfl, Walks.list (A := X.A.in1) (I.ok.hd hc) _ p (Nat.ne_of_lt hlt) its.toArray,
  ⟨⟨_, Heap.get?_push_size _ rfl, rfl, rfl⟩, hl.push _⟩, fun i v s' Q' E' hP hQ => ?_, fun h' tk hk => ?_⟩
 ·obtain ⟨b, e, rfl⟩ := hb.get i v (by simpa using hP)
  simp only [e, Option.getD_some] at hQ
  exact wpAny_truthy_bool hQ
 ·have e : ((List.range its.toArray.size).all fun i => (bs[i]?).getD true) = bs.all id := by
   rw [List.size_toArray, hb.length]; exact PyProof.Rows.LSm.range_all bs
  rw [e]
  exact ⟨.bl _, H, I.kept (PyProof.Rows.LSm.kept_iter hk), rfl, q⟩
def tMake0 (C : Addr) : TE := fun _ H Q => ∀ x dx, H x = none -> H dx = none -> dx ≠ x -> Q (.ref x) (upd (upd H dx (.own x)) x (.ins C dx []))
theorem a_make0 {C : Addr} {σ : St} {H : Hp} {Q : VK} : tMake0 C σ H Q = ∀ x dx, H x = none -> H dx = none -> dx ≠ x -> Q (.ref x) (upd (upd H dx (.own x)) x (.ins C dx [])) := rfl
end
theorem a_eqS {x y : Str} {H : Hp} {Q : VK} : rEq (.str x) (.str y) H Q = Q (.bl (decide (x = y))) H := by
 unfold rEq
 simp [scal]
end L2
namespace L2
open PySem PySem.Spec PyProof.Rows
theorem a_ext {x : V} {vs : List V} {H : Hp} {Q : VK} : rExtend x vs H Q = ∃ l b xs zs, x = .ref l ∧ vs = [.ref b] ∧ H l = some (.lst xs) ∧ H b = some (.lst zs) ∧ xs.length + zs.length <= sizeLine ∧ Q .non (upd H l (.lst (xs ++ zs))) := rfl
end L2
namespace L2
open PySem PySem.Spec PyProof.Rows
@[reducible] def blkC (X : Cx) (x : Str) (fv : List (Nat × Str)) (scope : Scope) (cl : List (Str × Addr)) (C : Addr) (s : Shared) (H : Hp) (fp : List Addr) : Cx :=
 { blk X x fv scope cl C s H fp with env := { compEnvC scope cl C X.env with cells := (x, C + 1) :: cl }, fn := fun y => y == x }
structure BlkOkC (X : Cx) (x : Str) (fv : List (Nat × Str)) (scope : Scope) (cl : List (Str × Addr)) : Prop where
 clos : closureFor scope X.env = pure cl
 one : ∀ n, cellsFrom n scope.names cl = (x, n) :: cl
 push : ∀ h, pushCells h scope.names = h.push { cls := .type "cell", data := .cell none }
 kind : scope.kind = .function
 names : ∀ y ∈ scope.names, y.2 = .local -> scope.names.lookup y.1 = some .local
 here : (relabel scope X.env).names.lookup x = some .cell
 sub : ∀ y c, cl.lookup y = some c -> X.env.cells.lookup y = some c
 has : ∀ y, y ≠ x -> ((relabel scope X.env).names.lookup y = some .cell ∨ (relabel scope X.env).names.lookup y = some .free) -> ∃ c, cl.lookup y = some c
 nd : (x :: fv.map (·.2)).Nodup
 fvs : ∀ p ∈ fv, p.2 ≠ x ∧ X.N[p.1]? = some p.2 ∧ (X.env.scope.names.lookup p.2 = some .cell ∨ X.env.scope.names.lookup p.2 = some .free) ∧
  ((relabel scope X.env).names.lookup p.2 = some .cell ∨ (relabel scope X.env).names.lookup p.2 = some .free) ∧ ∃ c, cl.lookup p.2 = some c
theorem look1 {x y : Str} {n c : Addr} {cl : List (Str × Addr)} (h : ((x, n) :: cl).lookup y = some c) : (y = x ∧ c = n) ∨ (y ≠ x ∧ cl.lookup y = some c) := by
 rw [List.lookup_cons] at h
 cases e : y == x with
 | true => rw [e] at h; cases h; exact .inl ⟨eq_of_beq e, rfl⟩
 | false => rw [e] at h; exact .inr ⟨fun z => by rw [z] at e; simp at e, h⟩
theorem look1_ne {x y : Str} {n c : Addr} {cl : List (Str × Addr)} (ne : y ≠ x) (h : cl.lookup y = some c) : ((x, n) :: cl).lookup y = some c := by
 rw [List.lookup_cons, show (y == x) = false by simpa using ne]; exact h
theorem look1_self {x : Str} {n : Addr} {cl : List (Str × Addr)} : ((x, n) :: cl).lookup x = some n := by
 rw [List.lookup_cons, show (x == x) = true by simp]
section
variable {X : Cx} {elt iter : Expr} {x : Str} {px : Pos} {fv : List (Nat × Str)} {scope : Scope} {cl : List (Str × Addr)} {pos : Pos} {te : TE} {wi : TI}
theorem blkC_ok {pins : List (Addr × Obj)} {σ : St} {H : Hp} {s : Shared} {fp : List Addr} {C : Addr} (B : BlkOkC X x fv scope cl) (I : Inv X pins σ H s) (hf : ∀ b ∈ fp, FpOk X pins H b) (hC : s.heap.objs.size <= C) (hfC : ∀ b ∈ fp, b ≠ C) (hfD : ∀ b ∈ fp, b ≠ C + 1) :
  (blkC X x fv scope cl C s H fp).Ok where
 mod := I.ok.mod
 kind := B.kind
 glob := I.ok.glob
 blt := I.ok.blt
 above := hC
 inj := fun y z c h1 h2 => by
  have old : ∀ {y : Str}, cl.lookup y = some (C + 1) -> False := fun {y} h => by
   obtain ⟨v, o, ho, _⟩ := I.cell y _ (B.sub y _ h)
   exact absurd (Heap.lt_size ho) (Nat.not_lt.mpr (Nat.le_succ_of_le hC))
  rcases look1 h1 with ⟨rfl, rfl⟩ | ⟨n1, h1⟩
  ·rcases look1 h2 with ⟨rfl, _⟩ | ⟨n2, h2⟩
   ·rfl
   ·exact (old h2).elim
  ·rcases look1 h2 with ⟨_, e⟩ | ⟨n2, h2⟩
   ·rw [e] at h1; exact (old h1).elim
   ·exact I.ok.inj y z c (B.sub y c h1) (B.sub z c h2)
 has := fun y hy => by
  by_cases e : y = x
  ·exact ⟨C + 1, by rw [e]; exact look1_self⟩
  ·obtain ⟨c, hc⟩ := B.has y e hy
   exact ⟨c, look1_ne e hc⟩
 cab := fun y c hy h => by
  have e : y = x := eq_of_beq hy
  rcases look1 h with ⟨_, rfl⟩ | ⟨n, _⟩
  ·exact Nat.le_succ_of_le hC
  ·exact absurd e n
 hd := I.ok.hd
 frames := I.ok.frames
 stk := .inl rfl
 exf := fun b hb => ⟨hfC b hb, fun y c e => by
  rcases look1 e with ⟨_, rfl⟩ | ⟨_, e⟩
  ·exact Ne.symm (hfD b hb)
  ·exact (hf b hb).2.2.2.2.1 y c (B.sub y c e)⟩
 bs := I.bs
 bsz := Nat.le_trans I.ok.bsz I.sz
 noex := fun b o e hb => by
  obtain ⟨_, _, _, f3, _⟩ := hf b hb
  rcases f3 with z | z
  ·exact I.ok.noex b o e z
  ·exact absurd (Nat.lt_of_lt_of_le (Heap.lt_size e) (Nat.le_trans I.ok.bsz z)) (Nat.lt_irrefl _)
 exfs := fun b hb hs => by
  obtain ⟨_, f1, f2, _⟩ := hf b hb
  rcases List.mem_cons.mp (I.stkSub b hs) with z | z
  ·exact f1 z
  ·exact f2 z
 funs := I.stack
 frf := I.stkFree
theorem blkC_start {pins : List (Addr × Obj)} {σ : St} {H : Hp} {s s4 : Shared} {fp : List Addr} {C : Addr} {m : Str -> Option Value} (B : BlkOkC X x fv scope cl) (I : Inv X pins σ H s) (hf : ∀ b ∈ fp, FpOk X pins H b) (hC : C = s.heap.objs.size)
  (hfC : ∀ b ∈ fp, b ≠ C) (hfD : ∀ b ∈ fp, b ≠ C + 1) (os : s4.os = s.os) (gens : s4.gens = s.gens) (keep : ∀ b o, s.heap.get? b = some o -> s4.heap.get? b = some o) (ns : s4.heap.Ns C m) (ce : s4.heap.IsCell (C + 1) none) :
  Inv (blkC X x fv scope cl C s H fp) [] (bst fv σ none) H s4 := by
 subst hC
 refine ⟨blkC_ok B I hf (Nat.le_refl _) hfC hfD, os, by rw [gens]; exact I.bare, Un.kept keep, ⟨m, ns, fun i y v h1 h2 h3 => ?_⟩, fun y c e => ?_, I.hok.fresh (Nat.le_refl _), fun y c e => ?_, fun p hp => absurd (show p ∈ ([] : List (Addr × Obj)) from hp) (by simp), I.hok.kept keep, by simp [bst]⟩
 ·cases i with
  | zero => simp [bst] at h2
  | succ j =>
   obtain ⟨p, hp, rfl, hv⟩ := bst_get h1 h2
   obtain ⟨hne, hN, hk, hk2, c, hc⟩ := B.fvs p hp
   obtain ⟨m0, _, hl⟩ := I.loc
   have vis : Vis X.env.scope p.2 := hk.elim (fun z => .inr (.inl z)) fun z => .inr (.inr z)
   obtain ⟨u, r, l⟩ := hl p.1 p.2 v hN hv vis
   refine ⟨u, r, .inr ⟨hk2, c, look1_ne hne hc, ?_⟩⟩
   rcases l with ⟨z, _⟩ | ⟨_, c', hc', o, ho, hd⟩
   ·have z' : X.env.scope.names.lookup p.2 = some .local := z
    rcases hk with k | k <;> (rw [k] at z'; cases z')
   ·have := B.sub p.2 c hc
    rw [hc'] at this; cases this
    exact ⟨o, keep _ o ho, hd⟩
 ·rcases look1 e with ⟨_, rfl⟩ | ⟨_, e⟩
  ·exact ⟨none, ce⟩
  ·obtain ⟨v, o, ho, hd⟩ := I.cell y c (B.sub y c e)
   exact ⟨v, o, keep c o ho, hd⟩
 ·rcases look1 e with ⟨_, rfl⟩ | ⟨_, e⟩
  ·exact I.hok.fresh (Nat.le_succ _)
  ·exact I.freeC y c (B.sub y c e)
theorem newEnvC {s : Shared} {g : Addr} {q : Str} {env : Env} {M : Model} {A : Around} {E : Value -> Shared -> Prop} {Q : Env -> Shared -> Prop}
  (one : ∀ n, cellsFrom n scope.names cl = (x, n) :: cl) (push : ∀ h, pushCells h scope.names = h.push { cls := .type "cell", data := .cell none })
  (h : Q { scope := scope, locals := s.heap.objs.size, globals := g, cells := (x, s.heap.objs.size + 1) :: cl, qual := q, func := none, code := env.code, frame := env.frame, builtins := env.builtins }
   { s with heap := (s.heap.push { cls := .type "dict", data := .dict #[] }).push { cls := .type "cell", data := .cell none } }) :
  wpAny M A (newFunctionEnv scope g cl [] q none .none (some env)) Q E s := by
 simp only [newFunctionEnv, Option.isSome_some, if_true]
 refine wpAny_bind (wpAny_alloc ?_)
 refine wpAny_bind (wpAny_layCells _ (fun name kind cells => by cases hkc : kind == NameKind.cell <;> simp [hkc]) _ _ _ _ ?_)
 rw [show ({ s with heap := s.heap.push { cls := .type "dict", data := .dict #[] } } : Shared).heap.objs.size = s.heap.objs.size + 1 from Heap.size_push ..]
 dsimp only
 rw [one, push]
 rw [List.forIn_nil]
 exact wpAny_bind (wpAny_pure (wpAny_pure h))
theorem blkC_store {pins' : List (Addr × Obj)} {σ : St} {H H0 : Hp} {s s5 : Shared} {fp : List Addr} {C : Addr} {o : Option V} {v : V} {u : Value} {E : Value -> Shared -> Prop} {Q : Unit -> Shared -> Prop} (B : BlkOkC X x fv scope cl)
  (I : Inv (blkC X x fv scope cl C s H0 fp) pins' (bst fv σ o) H s5) (r : RelV v u) (h : ∀ s6, Inv (blkC X x fv scope cl C s H0 fp) pins' (bst fv σ (some v)) H s6 -> Q () s6) :
  wpAny (model X.prog X.w) X.A (assign (.Name x px) { compEnvC scope cl C X.env with cells := (x, C + 1) :: cl } u) Q E s5 :=
 wpAny_assign_Name (store_ok (X := blkC X x fv scope cl C s H0 fp) (i := 0) I B.nd rfl (.inr B.here) r h (.inl (by show (x == x) = true; simp)))
end
end L2
namespace L2
open PySem PySem.Spec PyProof.Rows
section
variable {X : Cx} {elt iter : Expr} {x : Str} {px : Pos} {fv : List (Nat × Str)} {scope : Scope} {cl : List (Str × Addr)} {pos : Pos} {te : TE} {wi : TI}
theorem blkC_run {pins : List (Addr × Obj)} {σ : St} {H : Hp} {s2 : Shared} {it : Addr} {fp : List Addr} {tn : Nat -> Heap -> Prop} {J : It} {Q : VK} {E : Value -> Shared -> Prop} {RR : Value -> Addr -> Result -> Shared -> Prop}
  (hc : X.calm = true) (B : BlkOkC X x fv scope cl) (he : ∀ C s H fp, PE (blkC X x fv scope cl C s H fp) elt te) (I : Inv X pins σ H s2) (T : Turn X.prog X.w X.K (.Name x px) J fp it tn) (st : tn 0 s2.heap) (hf : ∀ b ∈ fp, FpOk X pins H b)
  (rd : ∀ D, H D = none -> ∃ W : Nat -> Nat -> Hp -> Prop, (∃ m, W 0 m (upd H D (.lst []))) ∧ ∀ i m H, W i m H ->
   (J.stop i H ∧ Q (.ref D) H) ∨ (J.go i H ∧ ∃ N : Hp -> Prop, (∀ H', N H' -> ∃ m', m' < m ∧ W (i + 1) m' H') ∧ ∀ v H', J.yld i H v H' -> te (bst fv σ (some v)) H' fun y H2 => ∃ ys, H2 D = some (.lst ys) ∧ ys.length < sizeLine ∧ N (upd H2 D (.lst (ys ++ [y])))))
  (hRR : ∀ D C s' H' m', Inv X pins σ H' s' -> FpOk X pins H' C -> s'.heap.Ns C m' -> Q (.ref D) H' -> RR (.ref D) C (.ok .next) s') :
  wpAny (model X.prog X.w) X.A (newList []) (fun acc s₃ => wpAny (model X.prog X.w) X.A (newFunctionEnv scope X.env.globals cl [] X.env.qual none .none (some X.env)) (fun cenv s₄ =>
   codeAny (model X.prog X.w) X.A (.compStart (.ListComp elt [⟨.Name x px, iter, [], 0⟩] scope pos) 0 (.ref it) acc { cenv with scope := relabel scope X.env }) (RR acc cenv.locals) s₄) E s₃) E s2 := by
 refine wpAny_newObj_type ?_ (by show 0 <= sizeLine; exact Nat.zero_le _)
 have hD : H s2.heap.objs.size = none := I.hok.fresh (Nat.le_refl _)
 have I3 := I.lnew (ys := []) (its := []) (t' := s2.toks) .nil (Nat.zero_le _)
 generalize hs3 : ({ s2 with heap := s2.heap.push { cls := .type "list", data := .seq ([] : List Value).toArray }, toks := s2.toks } : Shared) = s3 at I3
 have sz3 : s3.heap.objs.size = s2.heap.objs.size + 1 := by rw [← hs3]; exact Heap.size_push ..
 have up3 : ∀ b o, s2.heap.get? b = some o -> s3.heap.get? b = some o := fun b o e => by rw [← hs3]; exact Heap.get?_push_of_some _ e
 have hf3 : ∀ b ∈ fp, FpOk X pins (upd H s2.heap.objs.size (.lst [])) b := fun b hb => by
  obtain ⟨f0, r⟩ := hf b hb
  refine ⟨?_, r⟩
  obtain ⟨o, e, _⟩ := T.obj 0 _ st b hb
  rw [upd_ne (Nat.ne_of_lt (Heap.lt_size e))]; exact f0
 have ltf : ∀ b ∈ fp, b < s2.heap.objs.size := fun b hb => by
  obtain ⟨o, e, _⟩ := T.obj 0 _ st b hb
  exact Heap.lt_size e
 have st3 : tn 0 s3.heap := T.keep 0 _ _ st fun b _ o e => up3 b o e
 obtain ⟨W, ⟨m0, w0⟩, turn⟩ := rd _ hD
 refine newEnvC B.one B.push ?_
 have hfC : ∀ b ∈ fp, b ≠ s3.heap.objs.size := fun b hb => Nat.ne_of_lt (by rw [sz3]; exact Nat.lt_succ_of_lt (ltf b hb))
 have hfD : ∀ b ∈ fp, b ≠ s3.heap.objs.size + 1 := fun b hb => Nat.ne_of_lt (by rw [sz3]; exact Nat.lt_succ_of_lt (Nat.lt_succ_of_lt (ltf b hb)))
 generalize hh1 : (s3.heap.push { cls := .type "dict", data := .dict #[] }).push { cls := .type "cell", data := .cell none } = h₁
 have up4 : ∀ b o, s3.heap.get? b = some o -> h₁.get? b = some o := fun b o e => by rw [← hh1]; exact Heap.get?_push_of_some _ (Heap.get?_push_of_some _ e)
 have ns4 : h₁.Ns s3.heap.objs.size (fun _ => none) := by
  rw [← hh1]
  exact (Heap.Ns.new s3.heap (.type "dict")).keeps fun b o e => Heap.get?_push_of_some _ e
 have ce4 : h₁.IsCell (s3.heap.objs.size + 1) none := by
  rw [← hh1, show s3.heap.objs.size + 1 = (s3.heap.push { cls := .type "dict", data := .dict #[] }).objs.size from (Heap.size_push ..).symm]
  exact ⟨{ cls := .type "cell", data := .cell none }, Heap.get?_push_size _ rfl, rfl⟩
 generalize hs4 : ({ s3 with heap := h₁ } : Shared) = s4
 have h4 : s4.heap = h₁ := by rw [← hs4]
 have I4 : Inv (blkC X x fv scope cl s3.heap.objs.size s3 (upd H s2.heap.objs.size (.lst [])) fp) [] (bst fv σ none) (upd H s2.heap.objs.size (.lst [])) s4 :=
  blkC_start B I3 hf3 rfl hfC hfD (by rw [← hs4]) (by rw [← hs4]) (fun b o e => by rw [h4]; exact up4 b o e) (by rw [h4]; exact ns4) (by rw [h4]; exact ce4)
 have st4 : tn 0 s4.heap := by rw [h4]; exact T.keep 0 _ _ st3 fun b _ o e => up4 b o e
 have stat : ∀ {H' : Hp}, (∀ b ∈ fp, H' b = none) -> ∀ b ∈ fp, FpOk (blkC X x fv scope cl s3.heap.objs.size s3 (upd H s2.heap.objs.size (.lst [])) fp) [] H' b := fun {H'} hn b hb => by
  obtain ⟨_, f1, f2, f3, f4, f5⟩ := hf b hb
  refine ⟨hn b hb, hfC b hb, fun z => ?_, .inl hb, fun y c e => ?_, fun p hp => absurd (show p ∈ ([] : List (Addr × Obj)) from hp) (by simp)⟩
  ·rcases List.mem_cons.mp (I.stkSub b z) with q | q
   ·exact f1 q
   ·exact f2 q
  ·rcases look1 e with ⟨_, rfl⟩ | ⟨_, e⟩
   ·exact Ne.symm (hfD b hb)
   ·exact f4 y c (B.sub y c e)
 have loop : codeAny (model X.prog X.w) X.A (.compLoop (.ListComp elt [⟨.Name x px, iter, [], 0⟩] scope pos) 0 (.ref it) (.ref s2.heap.objs.size) { compEnvC scope cl s3.heap.objs.size X.env with cells := (x, s3.heap.objs.size + 1) :: cl }) (RR (.ref s2.heap.objs.size) s3.heap.objs.size) s4 := by
  refine compLoop_one (fun n s' => ∃ i H' o, Inv (blkC X x fv scope cl s3.heap.objs.size s3 (upd H s2.heap.objs.size (.lst [])) fp) [] (bst fv σ o) H' s' ∧ tn i s'.heap ∧ (∀ b ∈ fp, H' b = none) ∧ W i n H') ?_ m0
   ⟨0, _, none, I4, st4, fun b hb => (hf3 b hb).1, w0⟩
  rintro n s5 E' ⟨i, H5, o5, I5, st5, fr5, w5⟩
  rcases turn i n H5 w5 with ⟨stop, q⟩ | ⟨go, N, hN, step⟩
  ·refine thn (T.done (blkC X x fv scope cl s3.heap.objs.size s3 (upd H s2.heap.objs.size (.lst [])) fp) rfl rfl rfl hc i [] s5 _ H5 _ I5 (stat fr5) st5 stop) fun r s6 ⟨hr, I6⟩ => ?_
   subst hr
   obtain ⟨m6, hn6, _⟩ := I6.loc
   have un : Un (frs X.stack) fp H H5 s2.heap s6.heap := by
    have u1 : Un (frs X.stack) fp H (upd H s2.heap.objs.size (.lst [])) s2.heap s3.heap := Un.laid up3 (Nat.le_refl _) hD
    exact u1.trans I6.base
   have J6 : Inv X pins σ H5 s6 := by
    refine I.call' ?_ un I6.hok I6.bare fun b hb => ?_
    ·have := I6.os
     rw [show (blkC X x fv scope cl s3.heap.objs.size s3 (upd H s2.heap.objs.size (.lst [])) fp).s₀.os = s2.os by rw [← hs3]] at this
     exact this
    ·obtain ⟨_, f1, f2, f3, f4, f5⟩ := hf b hb
     exact ⟨f3, f1, f4, f5⟩
   refine hRR _ _ s6 H5 m6 J6 ?_ hn6 q
   exact I3.fpOk (Nat.le_refl _) I6.free
  ·refine thn (T.item (blkC X x fv scope cl s3.heap.objs.size s3 (upd H s2.heap.objs.size (.lst [])) fp) rfl rfl rfl hc i [] s5 _ H5 _ I5 (stat fr5) st5 go) fun r s6 ⟨u, hr, h6⟩ => ?_
   subst hr
   refine thn h6 fun _ s7 ⟨v, H7, I7, r7, y7, st7, fr7⟩ => ?_
   have I7' := I7.pinned (stat fr7) (T.obj _ _ st7)
   refine blkC_store B I7' r7 fun s8 I8 => ?_
   have e8 := he _ _ _ _ _ s8 _ H7 _ I8 (step v H7 y7)
   refine wpAny_mono e8 (fun y s9 ⟨yv, H9, I9, r9, ys, hD9, hz, n9⟩ => ?_) fun _ _ z => False.elim z
   have a9 := mt_append (X := blkC X x fv scope cl s3.heap.objs.size s3 (upd H s2.heap.objs.size (.lst [])) fp) _ s9 _ H9 (.ref s2.heap.objs.size) [yv] (.ref s2.heap.objs.size) [y] (fun _ H10 => H10 = upd H9 s2.heap.objs.size (.lst (ys ++ [yv]))) I9 rfl (.cons r9 .nil)
    ⟨_, ys, yv, rfl, rfl, hD9, hz, rfl⟩
   refine wpAny_mono a9 (fun _ s10 ⟨_, H10, I10, _, e10⟩ => ?_) fun _ _ z => False.elim z
   subst e10
   obtain ⟨m', hm, w9⟩ := hN _ n9
   refine ⟨m', hm, i + 1, _, some v, I10.unpinned, T.keep _ _ _ st7 fun b hb o e => (I10.pin (b, o) (List.mem_append_right _ (List.mem_append_right _ (mem_pinsAt hb e)))).1, fun b hb => ?_, w9⟩
   obtain ⟨o, e, _⟩ := T.obj _ _ st7 b hb
   exact (I10.pin (b, o) (List.mem_append_right _ (List.mem_append_right _ (mem_pinsAt hb e)))).2.1
 exact codeAny_compStart_list loop (T.self _ 0 _ _ _ st4 loop)
theorem pe_lcompC (hc : X.calm = true) (B : BlkOkC X x fv scope cl) (hi : PI X (.Name x px) iter wi) (he : ∀ C s H fp, PE (blkC X x fv scope cl C s H fp) elt te)
  (hs : ∀ v, foldedSetIterable iter X.env v = pure v := by intro _; rfl) : PE X (.ListComp elt [⟨.Name x px, iter, [], 0⟩] scope pos) (tComp fv wi te) := by
 intro pins s σ H Q I h
 rw [eval_ListComp]
 refine wpAny_comprehension_free (use := none) rfl hs B.clos B.kind B.names (thn (hi pins s σ H _ I h) fun v s1 h1 => thn h1 fun itv s2 h2 => ?_)
 obtain ⟨it, fp, tn, J, H2, e, I2, T, st2, f2, rd⟩ := h2
 subst e
 refine blkC_run (RR := fun acc C => compPost (model X.prog X.w) X.A X.xe none (EP X pins σ Q) acc C) hc B he I2 T st2 f2 rd ?_
 intro D C s' H' m' I' fC hn q
 exact ⟨m', hn, fun h' sb => ⟨.ref D, H', I'.turned (t' := s'.toks) (fun b o hb e => (sb.2 b hb).trans e) fC.1 fC.2.1 fC.2.2.2.1 fC.2.2.2.2.1 fC.2.2.2.2.2, rfl, q⟩⟩
theorem blkokC (clos : closureFor scope X.env = pure cl) (sub : ∀ y c, cl.lookup y = some c -> X.env.cells.lookup y = some c) (fvs : FvOk X x scope cl fv)
  (one : ∀ n, cellsFrom n scope.names cl = (x, n) :: cl := by intro _; rfl) (push : ∀ h, pushCells h scope.names = h.push { cls := .type "cell", data := .cell none } := by intro _; rfl)
  (kind : scope.kind = .function := by rfl) (here : (relabel scope X.env).names.lookup x = some .cell := by rfl) (nd : (x :: fv.map (·.2)).Nodup := by decide +kernel)
  (names : ∀ y ∈ scope.names, y.2 = .local -> scope.names.lookup y.1 = some .local := by decide +kernel)
  (has : ((relabel scope X.env).names.all fun p => (p.2 != .cell && p.2 != .free) || (((x, 0) :: cl).lookup p.1).isSome) = true := by rfl) : BlkOkC X x fv scope cl :=
 ⟨clos, one, push, kind, names, here, sub, fun y ne hy => by
  obtain ⟨c, h⟩ := has_of has y hy
  rcases look1 h with ⟨e, _⟩ | ⟨_, h⟩
  ·exact absurd e ne
  ·exact ⟨c, h⟩, nd, fvs⟩
end
end L2
namespace L2
open PySem PySem.Spec PyProof.Rows
theorem pe_fldK {X : Cx} {K : PySem.W.Frag} {e : Expr} {ta : TE} {f : Str} {pos : Pos} (hK : X.K = K) (he : PE X e ta) (hb : attributeBase e f X.env (eval e X.env) = eval e X.env) : PE X (.Attribute e f pos) (tFld K ta f) := by subst hK; exact pe_fld he hb
end L2
namespace L2
open PySem PySem.Spec PyProof.Rows
section
variable {X : Cx} {k : Nat} {f : Addr} {fd : FuncData} {ps : List Str} {sp : Sp} {x : Str} {p pos : Pos} {e : Expr} {es : List Expr} {t : TA} {CX : CXT} {ds : List Value} {dvs : List V} {E : XK} {i : Nat}
def tCallV (i : Nat) (f : Addr) (sp : Sp) (dvs : List V) (E : XK) (t : TA) : TE := fun σ H Q => σ[i]? = some (some (.ref f)) ∧ tCall sp dvs E t σ H Q
theorem a_callV {σ : St} {H : Hp} {Q : VK} : tCallV i f sp dvs E t σ H Q = (σ[i]? = some (some (.ref f)) ∧ tCall sp dvs E t σ H Q) := rfl
theorem pe_callV (F : FnOk X.prog X.w X.K X.mg X.base CX k f fd ps sp) (hr : Room k X.A) (hk : PySem.W.keepIn X.K (.ref f) = true) (hb : Binds X.K fd ps ds) (hd : Vals dvs ds) (hx : Passes CX X E) (i : Nat)
  (ha : PA X (e :: es) t) (hN : X.N[i]? = some x := by rfl) (hv : Vis X.env.scope x := by first | exact Or.inl rfl | exact Or.inr (Or.inl rfl) | exact Or.inr (Or.inr rfl)) (hdb : (x == ("__debug__" : Str)) = false := by decide) (hcd : (x == ("__classdict__" : Str)) = false := by decide)
  (he : starEach (e :: es) X.env = (false, eval e X.env) :: starEach es X.env := by rfl) (hpl : (backTo pos (starEach es X.env)).any (·.1) = false := by rfl) :
  PE X (.Call (.Name x p) (e :: es) [] pos) (tCallV i f sp dvs E t) := by
 intro pins s σ H Q I h
 obtain ⟨hσ, h⟩ := h
 refine wpAny_Call_Name_kw (thn (pe_var hN hv hdb hcd pins s σ H (fun v H' => v = .ref f ∧ H' = H) I ⟨_, hσ, rfl, rfl⟩) fun u s0 ⟨v, H0, I0, r0, e1, e2⟩ => ?_)
 subst e1 e2
 cases r0
 refine PySem.W.callWith_K (h₀ := X.base) I0.ok.mod.kin hk (thn (ha pos pins s0 σ H0 _ I0 h) fun us s1 ⟨vs, H1, I1, r, q⟩ => ⟨I1.kIn, ?_⟩) he hpl
 exact run_fn F hr hb hd hx I1 r q
theorem range_any : ∀ bs : List Bool, ((List.range bs.length).any fun i => (bs[i]?).getD false) = bs.any id := fun bs => by
 rw [Bool.eq_iff_iff, List.any_eq_true, List.any_eq_true]
 constructor
 ·rintro ⟨i, hi, h⟩
  have := List.mem_range.mp hi
  rw [List.getElem?_eq_getElem this] at h
  exact ⟨_, List.getElem_mem this, h⟩
 ·rintro ⟨b, hb, h⟩
  obtain ⟨i, hi, rfl⟩ := List.getElem_of_mem hb
  exact ⟨i, List.mem_range.mpr hi, by rw [List.getElem?_eq_getElem hi]; exact h⟩
theorem call_anyL (hc : X.calm = true) : CallR X (.builtin "any") (fun xs H Q => ∃ (p : Addr) (bs : List Bool), xs = [.ref p] ∧ SqL X.K H p (bs.map V.bl) ∧ Q (.bl (bs.any id)) H) := by
 intro pins s σ H xs us Q I r h
 obtain ⟨p, bs, rfl, hq, q⟩ := h
 obtain ⟨u, rfl, rx⟩ := vals1 r
 cases rx
 obtain ⟨its, r', pl, hz⟩ := I.list hq
 have hb := bools_are r'
 have hl := pl.isList
 have hlt : p < s.heap.objs.size := by obtain ⟨_, e, _⟩ := hl; exact Heap.lt_size e
 refine call_any_walk (wpAny_pyIter_list hl ?_)
 refine ⟨s.heap.objs.size, [s.heap.objs.size, p], [s.heap.objs.size], its.toArray.size, _, _, fun i => (bs[i]?).getD false, rfl, Walks.list (A := X.A.in1) (I.ok.hd hc) _ p (Nat.ne_of_lt hlt) its.toArray,
  ⟨⟨_, Heap.get?_push_size _ rfl, rfl, rfl⟩, hl.push _⟩, fun i v s' Q' E' hP hQ => ?_, fun h' tk hk => ?_⟩
 ·obtain ⟨b, e, rfl⟩ := hb.get i v (by simpa using hP)
  simp only [e, Option.getD_some] at hQ
  exact wpAny_truthy_bool hQ
 ·have e : ((List.range its.toArray.size).any fun i => (bs[i]?).getD false) = bs.any id := by
   rw [List.size_toArray, hb.length]; exact range_any bs
  rw [e]
  exact ⟨.bl _, H, I.kept (PyProof.Rows.LSm.kept_iter hk), rfl, q⟩
end
end L2
namespace L2
open PySem
section
variable {K : Type} [DecidableEq K] {prog : Program} {w : World} {A : Around} {E : Value -> Shared -> Prop} {s : Shared} {knd : HeapKind prog w K}
theorem en_diff {nm : String} {a b : Addr} {xs ys : List (K × Addr × Value)} {Q : Bool -> Shared -> Prop} (sa : (a == sysModules) = false) (sb : (b == sysModules) = false) (ha : s.heap.DictOfH knd a xs) (hb : s.heap.DictOfH knd b ys) (hl : xs.length ≠ ys.length)
  (q : Q false s) : wpAny (model prog w) A (Builtin.Dict.samePairs nm a b) Q E s := by
 obtain ⟨oa, ea, pa, a1, a2, a3, a4, a5, a6⟩ := id ha
 obtain ⟨ob, eb, pb, b1, b2, b3, b4, b5, b6⟩ := id hb
 have za := size_of_entries a4
 have zb := size_of_entries b4
 unfold Builtin.Dict.samePairs
 refine wpAny_bind (en_shows sa (wpAny_bind (en_shows sb (wpAny_bind (wpAny_dictEntries a1 a3 (wpAny_bind (wpAny_dictEntries b1 b3 ?_)))))))
 rw [if_pos (by rw [za, zb]; simpa using hl)]
 exact wpAny_bind (wpAny_rule (wpAny_pure q))
end
section
variable {K : Type} [DecidableEq K]
theorem dict_ne_meets (kn : ∀ (prog : Program) (w : World), HeapKind prog w K) (a b : Addr) : Meets (Builtin.«dict.__eq__» ⟨[.ref a, .ref b], []⟩) (fun A R s => ∃ xs ys, (a == sysModules) = false ∧ (b == sysModules) = false ∧ DictAll kn s.heap a xs ∧ DictAll kn s.heap b ys ∧ xs.length ≠ ys.length ∧
  R (.ok (.ret (.bool false))) s) :=
 Meets.of_wp fun prog w A R s hs => by
  obtain ⟨xs, ys, sa, sb, ha, hb, hl, q⟩ := hs
  have ta := (ha prog w).typeIs
  have tb := (hb prog w).typeIs
  show wpAny _ A.in1 (Builtin.Dict.dictSlotArgs "__eq__" ⟨[.ref a, .ref b], []⟩ >>= _) _ _ s
  unfold Builtin.Dict.dictSlotArgs
  refine wpAny_bind (wpAny_bind (wpAny_notOrdered_dict ta ?_))
  refine wpAny_bind (wpAny_pure (wpAny_pure (wpAny_bind (wpAny_isInstance tb isSubtype_dict_dict ?_))))
  rw [if_neg (by decide)]
  refine wpAny_bind (wpAny_pure (wpAny_bind (wpAny_pure (wpAny_bind (en_diff sa sb (ha prog w) (hb prog w) hl (wpAny_pure ⟨_, rfl, q⟩))))))
theorem dict_rcN (kn : ∀ (prog : Program) (w : World), HeapKind prog w K) {A : Around} {s : Shared} {a b : Addr} {xs ys : List (K × Addr × Value)} (sa : (a == sysModules) = false) (sb : (b == sysModules) = false) (hc : A.units < cLine) (ha : DictAll kn s.heap a xs) (hb : DictAll kn s.heap b ys) (hl : xs.length ≠ ys.length) : SeqAt.RcAt A s (.ref a) (.ref b) false := fun prog w E Q q =>
 richCompare_meets_room (op := .Eq) (ha prog w).typeIs (hb prog w).typeIs F.slot_dict_eq F.entry_dict_eq (F.args_dict_eq_2 _ _) (dict_ne_meets kn a b) ⟨xs, ys, sa, sb, ha, hb, hl, ⟨(fun x => nomatch x), q⟩⟩ hc
end
end L2
namespace L2
open PySem PySem.Spec PyProof.Rows
section
variable {X : Cx}
theorem op_inLD (hu : X.A.units + 2 < cLine) : OpR X (compareOp .In) (fun x y H Q => ∃ (p l : Addr) (as : List Addr) (fs : List PD), x = .ref p ∧ y = .ref l ∧ Rd H p (.dT (dz [])) ∧ H l = some (.lst (as.map V.ref)) ∧ as.length = fs.length ∧ p ∉ as ∧
  (∀ (i : Nat) (a : Addr) (f : PD), as[i]? = some a -> fs[i]? = some f -> Rd H a (.dT (dz f))) ∧ Q (.bl (fs.any fun f => f.isEmpty)) H) := by
 intro pins s σ H x y v u Q I rx ry h
 obtain ⟨p, l, as, fs, rfl, rfl, hp, hl, ln, np, all, q⟩ := h
 cases rx
 cases ry
 obtain ⟨_, its, n, rv, h1⟩ := (show ObjOk X.prog X.w H s.heap l (.lst (as.map V.ref)) from I.hok l _ hl)
 have refs : ∀ (l : List Addr) (us : List Value), Vals (l.map V.ref) us -> us = l.map Value.ref := by
  intro l
  induction l with
  | nil => intro us r; cases r; rfl
  | cons p l ih =>
   intro us r
   rw [List.map_cons] at r
   cases r with
   | cons r t => rw [List.map_cons, ← ih _ t]; cases r; rfl
 have e1 := refs as its rv
 subst e1
 obtain ⟨sp, ys, dp, pp⟩ := dz_all I hp
 have ly : ys.length = 0 := (Paired.length pp).symm
 have one : ∀ {a : Addr} {f : PD}, Rd H a (.dT (dz f)) -> Rd H a (.dT (dz [])) -> f = [] := fun {a f} r1 r2 => by
  have e : dz f = dz [] := by
   rcases r1 with e | ⟨o, e⟩ <;> rcases r2 with e' | ⟨o', e'⟩ <;> rw [e] at e' <;> have e' := Option.some.inj e'
   ·exact HO.dT.inj e'
   ·exact nomatch e'
   ·exact nomatch e'
   ·exact HO.dT.inj (HO.frz.inj e').2
  have := congrArg List.length e
  rw [len_dz] at this
  exact List.eq_nil_of_length_eq_zero this
 obtain ⟨g, hg⟩ : ∃ g : Value -> Bool, ∀ (a : Addr), g (.ref a) = true ↔ Rd H a (.dT (dz [])) := by
  classical
  exact ⟨fun v => match v with | .ref a => decide (Rd H a (.dT (dz []))) | _ => false, fun a => by simp⟩
 have gi : ∀ (i : Nat) (a : Addr) (f : PD), as[i]? = some a -> fs[i]? = some f -> g (.ref a) = f.isEmpty := fun i a f e1 e2 => by
  have r := all i a f e1 e2
  cases f with
  | nil => exact (hg a).mpr r
  | cons x f =>
   cases h : g (.ref a) with
   | false => rfl
   | true => exact absurd (one r ((hg a).mp h)) (by simp)
 refine SeqAt.in_listAt g ⟨_, h1, rfl, n, rfl⟩ (fun w hw => ?_) ⟨.bl _, H, I, rfl, ?_⟩
 ·have hw' : w ∈ as.map Value.ref := by simpa using hw
  obtain ⟨a, ha, rfl⟩ := List.mem_map.mp hw'
  obtain ⟨i, hi, rfl⟩ := List.getElem_of_mem ha
  have hi2 : i < fs.length := by omega
  have r := all i _ _ (List.getElem?_eq_getElem hi) (List.getElem?_eq_getElem hi2)
  have e := gi i _ _ (List.getElem?_eq_getElem hi) (List.getElem?_eq_getElem hi2)
  have ne : as[i] ≠ p := fun z => np (z ▸ ha)
  refine SeqAt.EqAt.of_refs ne ?_
  rw [e]
  cases hf : fs[i] with
  | nil =>
   rw [hf] at r
   exact dz_rc hu I r hp ⟨rfl, fun p hp => nomatch hp⟩
  | cons y f =>
   rw [hf] at r
   obtain ⟨sa, xs, da, pa⟩ := dz_all I r
   have hu' : X.A.in1.units + 1 < cLine := hu
   exact dict_rcN (fun p w => tupleKind (mixKind p w)) sa sp (by omega) da dp (by rw [← Paired.length pa, ly]; simp)
 ·have e : (as.map Value.ref).any g = fs.any fun f => f.isEmpty := by
   rw [Bool.eq_iff_iff, List.any_eq_true, List.any_eq_true]
   constructor
   ·rintro ⟨v, hv, h⟩
    obtain ⟨a, ha, rfl⟩ := List.mem_map.mp hv
    obtain ⟨i, hi, rfl⟩ := List.getElem_of_mem ha
    have hi2 : i < fs.length := by omega
    exact ⟨fs[i], List.getElem_mem hi2, by rw [← gi i _ _ (List.getElem?_eq_getElem hi) (List.getElem?_eq_getElem hi2)]; exact h⟩
   ·rintro ⟨f, hf, h⟩
    obtain ⟨i, hi, rfl⟩ := List.getElem_of_mem hf
    have hi2 : i < as.length := by omega
    exact ⟨.ref as[i], List.mem_map.mpr ⟨_, List.getElem_mem hi2, rfl⟩, by rw [gi i _ _ (List.getElem?_eq_getElem hi2) (List.getElem?_eq_getElem hi)]; exact h⟩
  rw [show (as.map Value.ref).toArray.any g = fs.any fun f => f.isEmpty by rw [← e]; simp]
  exact q
end
end L2
namespace My
def co (xs : List Int) (k : Nat) : Int := xs.getD k 0
end My
namespace My
def sumN : Nat -> (Nat -> Int) -> Int
 | 0, _ => 0
 | n + 1, f => sumN n f + f n
end My
namespace My
def val (n : Int) : List Int -> Int
 | [] => 0
 | c :: r => c + n * val n r
def hd (xs : List Int) : Int := xs.headD 0
end My
namespace My
end My
namespace My
end My
namespace My
end My
namespace My
def pm (f g : Nat -> Int) (k : Nat) : Int := sumN (k + 1) fun j => f j * g (k - j)
end My
namespace My
end My
namespace My
end My
namespace My
def sh (g : Nat -> Int) (j : Nat) : Int := if j = 0 then 0 else g (j - 1)
def ev (p : Int) (f : Nat -> Int) : Nat -> Nat -> Int
 | 0, _ => 0
 | n + 1, s => f s + p * ev p f n (s + 1)
theorem ev_lin (p a b : Int) (f g : Nat -> Int) : ∀ n s, ev p (fun j => a * f j - b * g j) n s = a * ev p f n s - b * ev p g n s
 | 0, _ => by simp [ev]
 | n + 1, s => by
  simp only [ev]
  rw [ev_lin p a b f g n (s + 1), Int.mul_sub, Int.mul_add, Int.mul_add, ← Int.mul_assoc p a, ← Int.mul_assoc p b, Int.mul_comm p a, Int.mul_comm p b, Int.mul_assoc, Int.mul_assoc]
  omega
theorem down (p : Int) {K Z : Nat -> Int} {e : Nat} (hK : ∀ j, e + 1 <= j -> K j = 0) (hZ : ∀ j, e <= j -> Z j = 0) :
  ∃ Z' : Nat -> Int, (∀ j, e <= j -> Z' j = 0) ∧ ∀ j, p * Z' j - sh Z' j = ev p K (e + 1) 0 * Z j - ev p Z (e + 1) 0 * K j := by
 let k0 := ev p K (e + 1) 0
 let z0 := ev p Z (e + 1) 0
 let F : Nat -> Int := fun j => k0 * Z j - z0 * K j
 let v : Nat -> Int := fun j => ev p F (e + 1 - j) j
 have hF : ∀ j, e + 1 <= j -> F j = 0 := fun j hj => by show k0 * Z j - z0 * K j = 0; rw [hZ j (by omega), hK j hj]; simp
 have hv : ∀ j, v j = F j + p * v (j + 1) := fun j => by
  show ev p F (e + 1 - j) j = F j + p * ev p F (e + 1 - (j + 1)) (j + 1)
  by_cases h : j <= e
  ·rw [show e + 1 - j = (e - j) + 1 by omega, show e + 1 - (j + 1) = e - j by omega]; rfl
  ·rw [show e + 1 - j = 0 by omega, show e + 1 - (j + 1) = 0 by omega, hF j (by omega)]; simp [ev]
 have h0 : v 0 = 0 := by
  show ev p (fun j => k0 * Z j - z0 * K j) (e + 1) 0 = 0
  rw [ev_lin]
  show k0 * z0 - z0 * k0 = 0
  rw [Int.mul_comm]; omega
 refine ⟨fun j => - v (j + 1), fun j hj => ?_, fun j => ?_⟩
 ·show - ev p F (e + 1 - (j + 1)) (j + 1) = 0
  rw [show e + 1 - (j + 1) = 0 by omega]; rfl
 ·show p * (- v (j + 1)) - sh (fun j => - v (j + 1)) j = F j
  have a := hv j
  unfold sh
  by_cases h : j = 0
  ·subst h
   rw [if_pos rfl]
   rw [h0] at a
   rw [Int.mul_neg]; omega
  ·rw [if_neg h]
   show p * (- v (j + 1)) - (- v (j - 1 + 1)) = F j
   rw [show j - 1 + 1 = j by omega, Int.mul_neg]; omega
section
variable {p : Int} {K L : Nat -> Int} {e t M : Nat} (he : 1 <= e) (hK : ∀ j, e + 1 <= j -> K j = 0) (kt : K e ≠ 0) (hL : ∀ j, t + 1 <= j -> L j = 0) (lt : L t ≠ 0) (hM : ∀ j, (pm L K j).natAbs <= M) (hp : (ev p K (e + 1) 0).natAbs + M + 1 < p.natAbs)
include he hK kt hL lt hM hp
end
end My
namespace My
end My
namespace My
end My
namespace My
end My
namespace My
end My
namespace My
end My
namespace My
open L2
end My
namespace My
open L2
end My
namespace My
open L2
def Deg (d : Nat) (f : PD) : Prop := ∀ x ∈ f, 0 <= x.1.1 ∧ x.1.1 <= d ∧ 0 <= x.1.2 ∧ x.1.2 <= d
theorem key_pt {f : PD} {k : P2} {v : Int} {x : P2 × Int} (h : x ∈ ptD f k v) : x.1 = k ∨ ∃ y ∈ f, y.1 = x.1 := by
 have : x.1 ∈ (ptD f k v).map (·.1) := List.mem_map.mpr ⟨x, h, rfl⟩
 rw [keys_pt] at this
 split at this
 ·obtain ⟨y, hy, e⟩ := List.mem_map.mp this; exact .inr ⟨y, hy, e⟩
 ·rcases List.mem_append.mp this with z | z
  ·obtain ⟨y, hy, e⟩ := List.mem_map.mp z; exact .inr ⟨y, hy, e⟩
  ·exact .inl (by simpa using z)
theorem key_fo : ∀ (l a : PD) {x : P2 × Int}, x ∈ foD l a -> (∃ y ∈ l, y.1 = x.1) ∨ ∃ y ∈ a, y.1 = x.1
 | [], a, x, h => .inr ⟨x, h, rfl⟩
 | z :: l, a, x, h => by
  rw [foD_cons] at h
  rcases key_fo l _ h with ⟨y, hy, e⟩ | ⟨y, hy, e⟩
  ·exact .inl ⟨y, List.mem_cons_of_mem _ hy, e⟩
  ·rcases key_pt hy with e2 | ⟨y2, hy2, e2⟩
   ·exact .inl ⟨z, by simp, by rw [← e2]; exact e⟩
   ·exact .inr ⟨y2, hy2, by rw [e2]; exact e⟩
theorem deg_times {d e : Nat} {f g : PD} (hf : Deg d f) (hg : Deg e g) : Deg (d + e) (timesD f g) := fun x hx => by
 unfold timesD at hx
 rcases key_fo _ _ (nzD_mem hx) with ⟨y, hy, e⟩ | ⟨y, hy, _⟩
 ·unfold prD at hy
  obtain ⟨u, hu, hy⟩ := List.mem_flatMap.mp hy
  obtain ⟨v, hv, rfl⟩ := List.mem_map.mp hy
  have h1 := hf u hu
  have h2 := hg v hv
  rw [← e]
  exact ⟨by show 0 <= u.1.1 + v.1.1; omega, by show u.1.1 + v.1.1 <= _; omega, by show 0 <= u.1.2 + v.1.2; omega, by show u.1.2 + v.1.2 <= _; omega⟩
 ·simp at hy
theorem deg_mono {d e : Nat} {f : PD} (h : Deg d f) (l : d <= e) : Deg e f := fun x hx => by have := h x hx; omega
theorem nd_times (f g : PD) : ndD (timesD f g) := ndD_nz (nd_fo _ ndD_nil)
theorem deg_fo_pr {d e : Nat} {f g : PD} (hf : Deg d f) (hg : Deg e g) : Deg (d + e) (foD (prD f g) []) := fun x hx => by
 rcases key_fo _ _ hx with ⟨y, hy, e⟩ | ⟨y, hy, _⟩
 ·unfold prD at hy
  obtain ⟨u, hu, hy⟩ := List.mem_flatMap.mp hy
  obtain ⟨v, hv, rfl⟩ := List.mem_map.mp hy
  have h1 := hf u hu
  have h2 := hg v hv
  rw [← e]
  exact ⟨by show 0 <= u.1.1 + v.1.1; omega, by show u.1.1 + v.1.1 <= _; omega, by show 0 <= u.1.2 + v.1.2; omega, by show u.1.2 + v.1.2 <= _; omega⟩
 ·simp at hy
def grid (d : Nat) : List P2 := (List.range (d + 1)).flatMap fun (i : Nat) => (List.range (d + 1)).map fun (j : Nat) => ((i : Int), (j : Int))
theorem sum_rep (m : Nat) : ∀ n : Nat, (List.replicate n m).sum = n * m
 | 0 => by simp
 | n + 1 => by rw [List.replicate_succ, List.sum_cons, sum_rep m n, Nat.add_mul]; omega
theorem grid_len (d : Nat) : (grid d).length = (d + 1) * (d + 1) := by
 unfold grid
 rw [List.length_flatMap]
 have : (List.range (d + 1)).map (fun (i : Nat) => ((List.range (d + 1)).map fun (j : Nat) => ((i : Int), (j : Int))).length) = List.replicate (d + 1) (d + 1) := by
  rw [List.eq_replicate_iff]
  refine ⟨by simp, fun b hb => ?_⟩
  obtain ⟨i, _, rfl⟩ := List.mem_map.mp hb
  simp
 rw [this, sum_rep]
theorem len_deg {d : Nat} {f : PD} (nd : ndD f) (h : Deg d f) : f.length <= (d + 1) * (d + 1) := by
 rw [← grid_len, ← List.length_map (·.1) (as := f)]
 refine len_le_of_keys nd fun p hp => ?_
 obtain ⟨x, hx, rfl⟩ := List.mem_map.mp hp
 have := h x hx
 unfold grid
 refine List.mem_flatMap.mpr ⟨x.1.1.toNat, List.mem_range.mpr (by omega), List.mem_map.mpr ⟨x.1.2.toNat, List.mem_range.mpr (by omega), ?_⟩⟩
 exact Prod.ext (by show ((x.1.1.toNat : Nat) : Int) = _; omega) (by show ((x.1.2.toNat : Nat) : Int) = _; omega)
def Szn (B : Nat) (f : PD) : Prop := ∀ x ∈ f, x.2.natAbs <= B
theorem sm_le {B : Nat} (k : P2) : ∀ {l : PD}, Szn B l -> (smD l k).natAbs <= l.length * B
 | [], _ => by simp [smD]
 | x :: l, h => by
  have ih := sm_le k (l := l) (B := B) fun z hz => h z (List.mem_cons_of_mem _ hz)
  have hx := h x (by simp)
  rw [smD_cons, List.length_cons, Nat.add_mul, Nat.one_mul]
  have : (if x.1 = k then x.2 else 0).natAbs <= B := by
   split
   ·exact hx
   ·exact Nat.zero_le _
  have := Int.natAbs_add_le (if x.1 = k then x.2 else 0) (smD l k)
  omega
theorem prD_len' (f g : PD) : (prD f g).length = f.length * g.length := by
 induction f with
 | nil => simp [prD]
 | cons x f ih =>
  show (rowD x g ++ prD f g).length = _
  rw [List.length_append, ih, List.length_cons, Nat.add_mul]
  show (g.map _).length + _ = _
  rw [List.length_map]; omega
theorem szn_pr {A B : Nat} {f g : PD} (hf : Szn A f) (hg : Szn B g) : Szn (A * B) (prD f g) := fun x hx => by
 unfold prD at hx
 obtain ⟨u, hu, hx⟩ := List.mem_flatMap.mp hx
 obtain ⟨v, hv, rfl⟩ := List.mem_map.mp hx
 show (u.2 * v.2).natAbs <= _
 rw [Int.natAbs_mul]; exact Nat.mul_le_mul (hf u hu) (hg v hv)
theorem szn_fo {B : Nat} {l : PD} (h : Szn B l) : Szn (l.length * B) (foD l []) := fun x hx => by
 have e := gtD_of_mem (nd_fo l ndD_nil) hx
 have e2 : cfD (foD l []) x.1 = x.2 := by unfold cfD; rw [e]; rfl
 have e3 := cf_fo l [] x.1
 rw [e2] at e3
 rw [e3, show cfD [] x.1 = 0 from rfl, Int.zero_add]
 exact sm_le x.1 h
theorem szn_times {A B : Nat} {f g : PD} (hf : Szn A f) (hg : Szn B g) : Szn (f.length * g.length * (A * B)) (timesD f g) := fun x hx => by
 have := szn_fo (szn_pr hf hg) x (nzD_mem hx)
 rw [prD_len'] at this; exact this
def fmD (a b c : Int) : PD := nzD [((1, 0), a), ((0, 1), b), ((0, 0), c)]
theorem deg_form (a b c : Int) : Deg 1 (fmD a b c) := fun x hx => by
 have := nzD_mem hx
 simp only [List.mem_cons, List.not_mem_nil, or_false] at this
 rcases this with rfl | rfl | rfl <;> (dsimp only; omega)
theorem nd_form (a b c : Int) : ndD (fmD a b c) := ndD_nz (show [((1 : Int), (0 : Int)), (0, 1), (0, 0)].Nodup by decide)
theorem szn_form {B : Nat} {a b c : Int} (ha : a.natAbs <= B) (hb : b.natAbs <= B) (hc : c.natAbs <= B) : Szn B (fmD a b c) := fun x hx => by
 have := nzD_mem hx
 simp only [List.mem_cons, List.not_mem_nil, or_false] at this
 rcases this with rfl | rfl | rfl <;> assumption
def onD : PD := [((0, 0), 1)]
def pdD (fs : List PD) : PD := fs.foldl timesD onD
theorem pdD_snoc (fs : List PD) (f : PD) : pdD (fs ++ [f]) = timesD (pdD fs) f := by unfold pdD; rw [List.foldl_append]; rfl
theorem deg_one : Deg 0 onD := fun x hx => by simp [onD] at hx; subst hx; decide
structure PdOk (d B : Nat) (f : PD) : Prop where
 dg : Deg d f
 nd : ndD f
 sz : Szn (2 ^ B) f
theorem pd_one : PdOk 0 0 onD := ⟨deg_one, by unfold ndD onD; decide, fun x hx => by simp [onD] at hx; subst hx; decide⟩
theorem pd_times {d e A B : Nat} {f g : PD} (hf : PdOk d A f) (hg : PdOk e B g) (hd : d + e <= 60) : PdOk (d + e) (A + B + 24) (timesD f g) := by
 refine ⟨deg_times hf.dg hg.dg, nd_times f g, fun x hx => ?_⟩
 have h1 := szn_times hf.sz hg.sz x hx
 have h2 := len_deg hf.nd hf.dg
 have h3 := len_deg hg.nd hg.dg
 have h4 : f.length * g.length <= 2 ^ 24 := by
  have a1 : f.length <= 2 ^ 12 := Nat.le_trans h2 (Nat.le_trans (Nat.mul_le_mul (show d + 1 <= 61 by omega) (show d + 1 <= 61 by omega)) (by decide))
  have a2 : g.length <= 2 ^ 12 := Nat.le_trans h3 (Nat.le_trans (Nat.mul_le_mul (show e + 1 <= 61 by omega) (show e + 1 <= 61 by omega)) (by decide))
  exact Nat.le_trans (Nat.mul_le_mul a1 a2) (by decide)
 refine Nat.le_trans h1 (Nat.le_trans (Nat.mul_le_mul_right _ h4) ?_)
 rw [← Nat.pow_add, ← Nat.pow_add]
 exact Nat.pow_le_pow_right (by decide) (by omega)
end My
namespace My
open L2
def pl (b : Bool) (p : P2) : Int := if b then p.2 else p.1
def DegB (b : Bool) (f : PD) (M : Int) : Prop := (f = [] ∧ M = 0) ∨ ((∃ x ∈ f, pl b x.1 = M) ∧ ∀ x ∈ f, pl b x.1 <= M)
theorem deg_one' {b : Bool} {f : PD} {M N : Int} (h : DegB b f M) (k : DegB b f N) : M = N := by
 rcases h with ⟨rfl, rfl⟩ | ⟨⟨x, hx, rfl⟩, h2⟩ <;> rcases k with ⟨e, rfl⟩ | ⟨⟨y, hy, rfl⟩, k2⟩
 ·rfl
 ·exact nomatch hy
 ·rw [e] at hx; exact nomatch hx
 ·have := h2 y hy; have := k2 x hx; omega
theorem sum_one {α : Type} {F : α -> Int} {p : α} : ∀ {l : List α}, l.Nodup -> p ∈ l -> (∀ x ∈ l, x ≠ p -> F x = 0) -> (l.map F).sum = F p
 | x :: l, nd, hp, h => by
  obtain ⟨n1, n2⟩ := List.nodup_cons.mp nd
  rw [List.map_cons, List.sum_cons]
  have z : ∀ {l : List α}, (∀ x ∈ l, F x = 0) -> (l.map F).sum = 0 := fun {l} h => by
   induction l with
   | nil => rfl
   | cons y l ih => rw [List.map_cons, List.sum_cons, h y List.mem_cons_self, ih fun x hx => h x (List.mem_cons_of_mem _ hx)]; rfl
  rcases List.mem_cons.mp hp with rfl | hp
  ·rw [z fun y hy => h y (List.mem_cons_of_mem _ hy) fun e => n1 (e ▸ hy)]; omega
  ·rw [h x List.mem_cons_self fun e => n1 (e ▸ hp), sum_one n2 hp fun y hy => h y (List.mem_cons_of_mem _ hy)]; omega
theorem smD_pr (g : PD) (k : P2) : ∀ f : PD, smD (prD f g) k = (f.map fun x => smD (rowD x g) k).sum
 | [] => rfl
 | x :: f => by
  rw [List.map_cons, List.sum_cons, ← smD_pr g k f, ← smD_app]; rfl
theorem smD_row (x : P2 × Int) (g : PD) (k : P2) : smD (rowD x g) k = (g.map fun y => if (x.1.1 + y.1.1, x.1.2 + y.1.2) = k then x.2 * y.2 else 0).sum := by
 unfold smD rowD
 rw [List.map_map]; rfl
def lex (b : Bool) (p q : P2) : Prop := pl b p < pl b q ∨ (pl b p = pl b q ∧ pl (!b) p <= pl (!b) q)
theorem lex_tot (b : Bool) (p q : P2) : lex b p q ∨ lex b q p := by unfold lex; omega
theorem lex_trans {b : Bool} {p q r : P2} (h : lex b p q) (k : lex b q r) : lex b p r := by unfold lex at *; omega
theorem top_of (b : Bool) : ∀ f : PD, f ≠ [] -> ∃ x ∈ f, ∀ y ∈ f, lex b y.1 x.1
 | [x], _ => ⟨x, List.mem_cons_self, fun y hy => by rw [List.mem_singleton.mp hy]; unfold lex; omega⟩
 | x :: z :: f, _ => by
  obtain ⟨t, ht, h⟩ := top_of b (z :: f) (by simp)
  rcases lex_tot b x.1 t.1 with e | e
  ·exact ⟨t, List.mem_cons_of_mem _ ht, fun y hy => by
    rcases List.mem_cons.mp hy with rfl | hy
    ·exact e
    ·exact h y hy⟩
  ·exact ⟨x, List.mem_cons_self, fun y hy => by
    rcases List.mem_cons.mp hy with rfl | hy
    ·unfold lex; omega
    ·exact lex_trans (h y hy) e⟩
theorem lex_sum {b : Bool} {p q p' q' : P2} (h : lex b p' p) (k : lex b q' q) (e : (p'.1 + q'.1, p'.2 + q'.2) = (p.1 + q.1, p.2 + q.2)) : p' = p ∧ q' = q := by
 injection e with e1 e2
 obtain ⟨p1, p2⟩ := p; obtain ⟨q1, q2⟩ := q; obtain ⟨a1, a2⟩ := p'; obtain ⟨c1, c2⟩ := q'
 unfold lex pl at h k
 cases b <;> simp at h k e1 e2 <;> simp only [Prod.mk.injEq] <;> omega
theorem nd_list {f : PD} (h : ndD f) : f.Nodup := List.Pairwise.imp (fun h e => h (by rw [e])) (List.pairwise_map.mp h)
theorem nd_key {f : PD} (h : ndD f) {x y : P2 × Int} (hx : x ∈ f) (hy : y ∈ f) (e : x.1 = y.1) : x = y := by
 have a := gtD_of_mem h hx
 have b := gtD_of_mem h hy
 rw [e, b] at a
 exact Prod.ext e (Option.some.inj a).symm
structure Nz (f : PD) : Prop where
 nd : ndD f
 nz : ∀ x ∈ f, x.2 ≠ 0
 ne : f ≠ []
theorem times_top {b : Bool} {f g : PD} {x y : P2 × Int} (hf : Nz f) (hg : Nz g) (hx : x ∈ f) (hy : y ∈ g) (tx : ∀ z ∈ f, lex b z.1 x.1) (ty : ∀ z ∈ g, lex b z.1 y.1) :
  ((x.1.1 + y.1.1, x.1.2 + y.1.2), x.2 * y.2) ∈ timesD f g := by
 have sm : smD (prD f g) (x.1.1 + y.1.1, x.1.2 + y.1.2) = x.2 * y.2 := by
  rw [smD_pr, sum_one (nd_list hf.nd) hx fun x' hx' ne => ?_]
  ·rw [smD_row, sum_one (nd_list hg.nd) hy fun y' hy' ne => ?_]
   ·rw [if_pos rfl]
   ·rw [if_neg fun e => ne (nd_key hg.nd hy' hy (lex_sum (tx x hx) (ty y' hy') e).2)]
  ·rw [smD_row]
   have : ∀ l : PD, (∀ z ∈ l, z ∈ g) -> (l.map fun y' => if (x'.1.1 + y'.1.1, x'.1.2 + y'.1.2) = (x.1.1 + y.1.1, x.1.2 + y.1.2) then x'.2 * y'.2 else 0).sum = 0 := fun l hl => by
    induction l with
    | nil => rfl
    | cons z l ih =>
     rw [List.map_cons, List.sum_cons, ih fun w hw => hl w (List.mem_cons_of_mem _ hw), if_neg fun e => ne (nd_key hf.nd hx' hx (lex_sum (tx x' hx') (ty z (hl z List.mem_cons_self)) e).1)]; rfl
   exact this g fun z hz => hz
 have ndf : ndD (foD (prD f g) []) := nd_fo _ ndD_nil
 have cf : cfD (foD (prD f g) []) (x.1.1 + y.1.1, x.1.2 + y.1.2) = x.2 * y.2 := by
  rw [cf_fo, sm]
  show 0 + x.2 * y.2 = _
  omega
 apply mem_of_gtD
 unfold timesD
 rw [gtD_nz ndf, cf, if_neg (Int.mul_ne_zero (hf.nz x hx) (hg.nz y hy))]
theorem deg_times' {b : Bool} {f g : PD} {M N : Int} (hf : Nz f) (hg : Nz g) (df : DegB b f M) (dg : DegB b g N) : Nz (timesD f g) ∧ DegB b (timesD f g) (M + N) := by
 obtain ⟨x, hx, tx⟩ := top_of b f hf.ne
 obtain ⟨y, hy, ty⟩ := top_of b g hg.ne
 have mem := times_top hf hg hx hy tx ty
 have dx : pl b x.1 = M := by
  rcases df with ⟨e, _⟩ | ⟨⟨z, hz, rfl⟩, h2⟩
  ·exact absurd e hf.ne
  ·have := h2 x hx; have := tx z hz; unfold lex at this; omega
 have dy : pl b y.1 = N := by
  rcases dg with ⟨e, _⟩ | ⟨⟨z, hz, rfl⟩, h2⟩
  ·exact absurd e hg.ne
  ·have := h2 y hy; have := ty z hz; unfold lex at this; omega
 have ad : ∀ p q : P2, pl b (p.1 + q.1, p.2 + q.2) = pl b p + pl b q := fun p q => by unfold pl; cases b <;> rfl
 refine ⟨⟨ndD_nz (nd_fo _ ndD_nil), nzD_nz _, fun e => by rw [e] at mem; exact nomatch mem⟩, .inr ⟨⟨_, mem, by rw [ad, dx, dy]⟩, fun z hz => ?_⟩⟩
 rcases key_fo _ _ (nzD_mem hz) with ⟨w, hw, e⟩ | ⟨w, hw, _⟩
 ·unfold prD at hw
  obtain ⟨p, hp, hw⟩ := List.mem_flatMap.mp hw
  unfold rowD at hw
  obtain ⟨q, hq, rfl⟩ := List.mem_map.mp hw
  rw [← e, ad]
  have h1 : pl b p.1 <= M := by have := tx p hp; unfold lex at this; omega
  have h2 : pl b q.1 <= N := by have := ty q hq; unfold lex at this; omega
  omega
 ·exact nomatch hw
theorem deg_on (b : Bool) : Nz onD ∧ DegB b onD 0 := ⟨⟨by unfold ndD onD; decide, fun x hx => by simp [onD] at hx; subst hx; decide, by simp [onD]⟩, .inr ⟨⟨((0, 0), 1), by simp [onD], by cases b <;> rfl⟩, fun x hx => by simp [onD] at hx; subst hx; cases b <;> decide⟩⟩
theorem deg_pd {b : Bool} {d : PD -> Int} : ∀ (fs : List PD) (a : PD) (M : Int), Nz a -> DegB b a M -> (∀ f ∈ fs, Nz f ∧ DegB b f (d f)) -> Nz (fs.foldl timesD a) ∧ DegB b (fs.foldl timesD a) (M + (fs.map d).sum)
 | [], a, M, h1, h2, _ => ⟨h1, by simpa using h2⟩
 | f :: fs, a, M, h1, h2, h => by
  obtain ⟨k1, k2⟩ := h f List.mem_cons_self
  obtain ⟨m1, m2⟩ := deg_times' h1 k1 h2 k2
  rw [List.foldl_cons, List.map_cons, List.sum_cons, ← Int.add_assoc]
  exact deg_pd fs _ _ m1 m2 fun g hg => h g (List.mem_cons_of_mem _ hg)
theorem deg_prod {b : Bool} {d : PD -> Int} {fs : List PD} (h : ∀ f ∈ fs, Nz f ∧ DegB b f (d f)) : Nz (pdD fs) ∧ DegB b (pdD fs) (fs.map d).sum := by
 have := deg_pd fs onD 0 (deg_on b).1 (deg_on b).2 h
 rw [Int.zero_add] at this; exact this
def ne1 (c : Int) : Int := if c = 0 then 0 else 1
def cfB (b : Bool) (f : Int × Int × Int) : Int := if b then f.2.1 else f.1
theorem deg_form' (b : Bool) (a c e : Int) : DegB b (fmD a c e) (ne1 (cfB b (a, c, e))) := by
 unfold fmD ne1 cfB
 rw [nzD_cons, nzD_cons, nzD_cons]
 show DegB b _ _
 have en : nzD [] = [] := rfl
 rw [en]
 cases b <;> by_cases h1 : a = 0 <;> by_cases h2 : c = 0 <;> by_cases h3 : e = 0 <;> simp [h1, h2, h3, DegB, pl]
theorem form_nz {a c e : Int} (h : a ≠ 0 ∨ c ≠ 0) : Nz (fmD a c e) := by
 refine ⟨nd_form a c e, nzD_nz _, fun z => ?_⟩
 unfold fmD at z
 rw [nzD_cons, nzD_cons] at z
 rcases h with h | h
 ·rw [if_neg (show ¬ a = 0 from h)] at z; cases z
 ·by_cases h2 : a = 0
  ·rw [if_pos (show a = 0 from h2), if_neg (show ¬ c = 0 from h)] at z; cases z
  ·rw [if_neg (show ¬ a = 0 from h2)] at z; cases z
theorem form_nil {a c e : Int} : fmD a c e = [] ↔ a = 0 ∧ c = 0 ∧ e = 0 := by
 unfold fmD
 rw [nzD_cons, nzD_cons, nzD_cons]
 have en : nzD [] = [] := rfl
 rw [en]
 by_cases h1 : a = 0 <;> by_cases h2 : c = 0 <;> by_cases h3 : e = 0 <;> simp [h1, h2, h3]
end My
namespace My
open PySem PySem.Spec PyProof.Rows L2
seal L2.PE L2.PS L2.PSs L2.PA
local macro_rules | `(tactic| k_units) => `(tactic| ((try dsimp only [a_fld, a_sfld, a_meth, a_make, a_dget2, a_dget, a_dnot, a_dput, a_dnew, a_disp, a_pnil, a_pcons, a_items, a_keys, a_tComp2If, a_maxD, a_inS, a_ipC, a_izip, a_tComp2, a_izip3, a_tComp3, a_make0, a_eqS, a_ext, a_callV, a_tryAs, a_drop_nx, a_raise, a_try, a_fst, a_compIf, a_seq, a_next, a_brk, a_cnt, a_drop, a_ret, a_retN, a_if, a_asg, a_gname, a_gsub, a_gtup, a_gnil, a_gcons, a_aug, a_augS, a_ipI, a_var, a_c, a_op, a_un, a_rI, a_rI0, a_rU, a_eqI, a_neI, a_eqB, a_neB, a_tB, a_test, a_and, a_or, a_not, a_andV, a_orV, a_notV, a_ifE, a_chain, a_nil, a_cons, a_lst, a_tup, a_call, a_cb, a_bm0, a_bm, a_sl, a_nopart, a_part, a_tyI, a_for, a_comp, a_ilist, a_itup, a_irng1, a_irng2, a_irng3, a_cxK, a_irev, a_ienum, a_cat, a_rep, a_pop, a_clear, a_rslL, a_ixL, a_ixT, a_setL, a_app]); (try simp only [a_fld, a_sfld, a_meth, a_make, a_dget2, a_dget, a_dnot, a_dput, a_dnew, a_disp, a_pnil, a_pcons, a_items, a_keys, a_tComp2If, a_maxD, a_inS, a_ipC, a_izip, a_tComp2, a_izip3, a_tComp3, a_make0, a_eqS, V.str.injEq, a_ext, a_callV, a_tryAs, a_drop_nx, a_raise, a_try, a_fst, a_compIf, a_seq, a_next, a_brk, a_cnt, a_drop, a_ret, a_retN, a_if, a_asg, a_gname, a_gsub, a_gtup, a_gnil, a_gcons, a_aug, a_augS, a_ipI, a_var, a_c, a_op, a_un, a_rI, a_rI0, a_rU, a_eqI, a_neI, a_eqB, a_neB, a_tB, a_test, a_and, a_or, a_not, a_andV, a_orV, a_notV, a_ifE, a_chain, a_nil, a_cons, a_lst, a_tup, a_call, a_cb, a_bm0, a_bm, a_sl, a_nopart, a_part, a_tyI, a_for, a_comp, a_ilist, a_itup, a_irng1, a_irng2, a_irng3, a_cxK, and_assoc, a_irev, a_ienum, a_cat, a_rep, a_pop, a_clear, a_rslL, a_ixL, a_ixT, a_setL, a_app, List.getElem?_cons_zero, List.getElem?_cons_succ, List.set_cons_zero, List.set_cons_succ, Option.some.injEq, V.int.injEq, V.bl.injEq, V.ref.injEq, V.ty.injEq, exists_eq_left', exists_eq_left, exists_and_left, decide_eq_true_eq, List.cons_append, List.nil_append, List.append_nil, List.cons.injEq, and_true, true_and, Bool.not_eq_true', decide_eq_false_iff_not, ite_true, ite_false, Bool.false_eq_true, if_true, if_false, List.length_cons, List.length_nil, L2.start, List.map_cons, List.map_nil, List.replicate_succ, List.replicate_zero])))
local macro_rules | `(tactic| k_typeOf) => `(tactic| ((try dsimp only [a_fld, a_sfld, a_meth, a_make, a_dget2, a_dget, a_dnot, a_dput, a_dnew, a_disp, a_pnil, a_pcons, a_items, a_keys, a_tComp2If, a_maxD, a_inS, a_ipC, a_izip, a_tComp2, a_izip3, a_tComp3, a_make0, a_eqS, a_ext, a_callV, a_tryAs, a_drop_nx, a_raise, a_try, a_fst, a_compIf, a_next, a_brk, a_cnt, a_drop, a_ret, a_retN, a_if, a_asg, a_gname, a_gsub, a_gtup, a_gnil, a_gcons, a_aug, a_augS, a_ipI, a_var, a_c, a_op, a_un, a_rI, a_rI0, a_rU, a_eqI, a_neI, a_eqB, a_neB, a_tB, a_test, a_and, a_or, a_not, a_andV, a_orV, a_notV, a_ifE, a_chain, a_nil, a_cons, a_lst, a_tup, a_call, a_cb, a_bm0, a_bm, a_sl, a_nopart, a_part, a_tyI, a_for, a_comp, a_ilist, a_itup, a_irng1, a_irng2, a_irng3, a_cxK, a_irev, a_ienum, a_cat, a_rep, a_pop, a_clear, a_rslL, a_ixL, a_ixT, a_setL, a_app]); (try simp only [a_fld, a_sfld, a_meth, a_make, a_dget2, a_dget, a_dnot, a_dput, a_dnew, a_disp, a_pnil, a_pcons, a_items, a_keys, a_tComp2If, a_maxD, a_inS, a_ipC, a_izip, a_tComp2, a_izip3, a_tComp3, a_make0, a_eqS, V.str.injEq, a_ext, a_callV, a_tryAs, a_drop_nx, a_raise, a_try, a_fst, a_compIf, a_next, a_brk, a_cnt, a_drop, a_ret, a_retN, a_if, a_asg, a_gname, a_gsub, a_gtup, a_gnil, a_gcons, a_aug, a_augS, a_ipI, a_var, a_c, a_op, a_un, a_rI, a_rI0, a_rU, a_eqI, a_neI, a_eqB, a_neB, a_tB, a_test, a_and, a_or, a_not, a_andV, a_orV, a_notV, a_ifE, a_chain, a_nil, a_cons, a_lst, a_tup, a_call, a_cb, a_bm0, a_bm, a_sl, a_nopart, a_part, a_tyI, a_for, a_comp, a_ilist, a_itup, a_irng1, a_irng2, a_irng3, a_cxK, and_assoc, a_irev, a_ienum, a_cat, a_rep, a_pop, a_clear, a_rslL, a_ixL, a_ixT, a_setL, a_app, List.getElem?_cons_zero, List.getElem?_cons_succ, List.set_cons_zero, List.set_cons_succ, Option.some.injEq, V.int.injEq, V.bl.injEq, V.ref.injEq, V.ty.injEq, exists_eq_left', exists_eq_left, exists_and_left, decide_eq_true_eq, List.cons_append, List.nil_append, List.append_nil, List.cons.injEq, and_true, true_and, Bool.not_eq_true', decide_eq_false_iff_not, ite_true, ite_false, Bool.false_eq_true, if_true, if_false, List.length_cons, List.length_nil, L2.start, List.map_cons, List.map_nil, List.replicate_succ, List.replicate_zero])))
local macro_rules | `(tactic| w_on) => `(tactic| exact ⟨rfl, rfl, rfl, by decide +kernel, rfl, by decide +kernel, by decide +kernel⟩)
theorem sc_bare : FnScope ["pair"] ["pair"] (defScope s_bare) := by w_on
theorem sc_pair_times : FnScope ["one", "other", "answer", "low", "number", "high", "factor", "powers"] ["one", "other"] (defScope s_pair_times) := by w_on
theorem sc_pair_of_form : FnScope ["form"] ["form"] (defScope s_pair_of_form) := by w_on
theorem sc_degree_in_k : FnScope ["one"] ["one"] (defScope s_degree_in_k) := by w_on
theorem sc_pair_product : FnScope ["pairs", "answer", "pair"] ["pairs"] (defScope s_pair_product) := by w_on
theorem sc_raised : FnScope ["form", "by"] ["form", "by"] (defScope s_raised) := by w_on
theorem sc_raised_from : FnScope ["form", "low", "high"] ["form", "low", "high"] (defScope s_raised_from) := by w_on
theorem sc_low_forms : FnScope ["upper", "lower"] ["upper", "lower"] (defScope s_low_forms) := by w_on
theorem sc_power_of : FnScope ["number", "exponent", "answer", "step"] ["number", "exponent"] (defScope s_power_of) := by w_on
theorem sc_has_ends : FnScope ["term", "lows", "part", "falls", "begins"] ["term"] (defScope s_has_ends) := by w_on
theorem sc_degree_in_n : FnScope ["pair"] ["pair"] (defScope s_degree_in_n) := by w_on
theorem sc_product_degree : FnScope ["pairs", "degree"] ["pairs", "degree"] (defScope s_product_degree) := by w_on
theorem sc_steps_degree : FnScope ["term", "far", "degree"] ["term", "far", "degree"] (defScope s_steps_degree) := by w_on
theorem sc_ends_degree : FnScope ["term", "far", "degree", "up", "down"] ["term", "far", "degree"] (defScope s_ends_degree) := by w_on
theorem sc_breadth_of : FnScope ["term"] ["term"] (defScope s_breadth_of) := by w_on
theorem sc_height_of : FnScope ["term", "far"] ["term", "far"] (defScope s_height_of) := by w_on
theorem sc_length_of : FnScope ["term", "far"] ["term", "far"] (defScope s_length_of) := by w_on
theorem sc_within : FnScope ["form", "least"] ["form", "least"] (defScope s_within) := by w_on
theorem sc_check_choose : FnScope ["upper", "lower", "low"] ["upper", "lower"] (defScope s_check_choose) := by w_on
theorem sc_check_base : FnScope ["fraction"] ["fraction"] (defScope s_check_base) := by w_on
theorem sc_piece_of : FnScope ["part"] ["part"] (defScope s_piece_of) := by w_on
theorem sc__law_cell_at : FnScope ["_law_script", "_law_k"] ["_law_script", "_law_k"] (defScope s__law_cell_at) := by w_on
theorem sc__law_less : FnScope ["_law_one", "_law_other"] ["_law_one", "_law_other"] (defScope s__law_less) := by w_on
theorem sc__law_any : FnScope ["_law_cell", "_law_more", "_law_upper", "_law_lower", "_law_low"] ["_law_cell", "_law_more"] (defScope s__law_any) := by w_on
theorem sc__law_choose : FnScope ["_law_script", "_law_at", "_law_cell", "_law_kind", "_law_j"] ["_law_script", "_law_at"] (defScope s__law_choose) := by w_on
theorem sc__law_fraction : FnScope ["_law_cell"] ["_law_cell"] (defScope s__law_fraction) := by w_on
theorem sc__law_parts : FnScope ["_law_script", "_law_first", "_law_found", "_law_k", "_law_cell", "_law_turn"] ["_law_script"] (defScope s__law_parts) := by w_on
theorem sc__law_lows : FnScope ["_law_part"] ["_law_part"] (defScope s__law_lows) := by w_on
theorem sc__law_ends : FnScope ["_law_parts_here", "_law_behind", "_law_before", "_law_part", "_law_x"] ["_law_parts_here"] (defScope s__law_ends) := by w_on
theorem sc__law_up_and_down : FnScope ["_law_parts_here", "_law_place", "_law_up", "_law_down", "_law_part", "_law_x"] ["_law_parts_here", "_law_place"] (defScope s__law_up_and_down) := by w_on
theorem sc__law_step : FnScope ["_law_parts_here", "_law_i", "_law_far", "_law_place", "_law_found", "_law_part", "_law_x"] ["_law_parts_here", "_law_i", "_law_far", "_law_place"] (defScope s__law_step) := by w_on
theorem sc__law_is : FnScope ["_law_found", "_law_due"] ["_law_found", "_law_due"] (defScope s__law_is) := by w_on
theorem sc__law_for : FnScope ["_law_term", "_law_parts_here", "_law_far", "_law_due"] ["_law_term", "_law_parts_here", "_law_far"] (defScope s__law_for) := by w_on
theorem sc_law : FnScope ["_law_script", "_law_parts_here", "_law_handed", "_law_term", "_law_told", "_law_start", "_law_k"] ["_law_script"] (defScope s_law) := by w_on
theorem sc_Part_step : FnScope ["self", "i", "far"] ["self", "i", "far"] (defScope s_Part_step) := by w_on
theorem sc_Part_up : FnScope ["self", "far"] ["self", "far"] (defScope s_Part_up) := by w_on
theorem sc_Part_down : FnScope ["self", "far"] ["self", "far"] (defScope s_Part_down) := by w_on
theorem sc_Choose___init__ : FnScope ["self", "upper", "lower"] ["self", "upper", "lower"] (defScope s_Choose___init__) := by w_on
theorem sc_Choose_lifted : FnScope ["self", "far"] ["self", "far"] (defScope s_Choose_lifted) := by w_on
theorem sc_Choose_step : FnScope ["self", "i", "far", "factors", "low"] ["self", "i", "far"] (defScope s_Choose_step) := by w_on
theorem sc_Choose_up : FnScope ["self", "far", "factors", "low"] ["self", "far"] (defScope s_Choose_up) := by w_on
theorem sc_Choose_down : FnScope ["self", "far", "factors", "low"] ["self", "far"] (defScope s_Choose_down) := by w_on
theorem sc_Weight___init__ : FnScope ["self", "form"] ["self", "form"] (defScope s_Weight___init__) := by w_on
theorem sc_Weight_step : FnScope ["self", "i", "far"] ["self", "i", "far"] (defScope s_Weight_step) := by w_on
theorem sc_Power___init__ : FnScope ["self", "fraction"] ["self", "fraction"] (defScope s_Power___init__) := by w_on
theorem sc_Power_up : FnScope ["self", "far"] ["self", "far"] (defScope s_Power_up) := by w_on
theorem sc_Power_down : FnScope ["self", "far"] ["self", "far"] (defScope s_Power_down) := by w_on
theorem sc_Growth___init__ : FnScope ["self", "fraction"] ["self", "fraction"] (defScope s_Growth___init__) := by w_on
theorem sc_Growth_step : FnScope ["self", "i", "far"] ["self", "i", "far"] (defScope s_Growth_step) := by w_on
theorem sc_Term___init__ : FnScope ["self", "parts"] ["self", "parts"] (defScope s_Term___init__) := by w_on
theorem sc_Term_told : FnScope ["self"] ["self"] (defScope s_Term_told) := by w_on
set_option genInjectivity false in
set_option genSizeOf false in
structure Tx (K : PySem.W.Frag) (mg : Str -> Option Value) where
 a_bare : Addr
 fd_bare : FuncData
 F_bare : Fun K "bare" "bare" s_bare a_bare fd_bare
 m_bare : mg "bare" = some (.ref a_bare)
 b_bare : Binds K fd_bare ["pair"] []
 a_pair_times : Addr
 fd_pair_times : FuncData
 F_pair_times : Fun K "pair_times" "pair_times" s_pair_times a_pair_times fd_pair_times
 m_pair_times : mg "pair_times" = some (.ref a_pair_times)
 b_pair_times : Binds K fd_pair_times ["one", "other"] []
 a_pair_of_form : Addr
 fd_pair_of_form : FuncData
 F_pair_of_form : Fun K "pair_of_form" "pair_of_form" s_pair_of_form a_pair_of_form fd_pair_of_form
 m_pair_of_form : mg "pair_of_form" = some (.ref a_pair_of_form)
 b_pair_of_form : Binds K fd_pair_of_form ["form"] []
 a_degree_in_k : Addr
 fd_degree_in_k : FuncData
 F_degree_in_k : Fun K "degree_in_k" "degree_in_k" s_degree_in_k a_degree_in_k fd_degree_in_k
 m_degree_in_k : mg "degree_in_k" = some (.ref a_degree_in_k)
 b_degree_in_k : Binds K fd_degree_in_k ["one"] []
 a_pair_product : Addr
 fd_pair_product : FuncData
 F_pair_product : Fun K "pair_product" "pair_product" s_pair_product a_pair_product fd_pair_product
 m_pair_product : mg "pair_product" = some (.ref a_pair_product)
 b_pair_product : Binds K fd_pair_product ["pairs"] []
 a_raised : Addr
 fd_raised : FuncData
 F_raised : Fun K "raised" "raised" s_raised a_raised fd_raised
 m_raised : mg "raised" = some (.ref a_raised)
 b_raised : Binds K fd_raised ["form", "by"] []
 a_raised_from : Addr
 fd_raised_from : FuncData
 F_raised_from : Fun K "raised_from" "raised_from" s_raised_from a_raised_from fd_raised_from
 m_raised_from : mg "raised_from" = some (.ref a_raised_from)
 b_raised_from : Binds K fd_raised_from ["form", "low", "high"] []
 a_low_forms : Addr
 fd_low_forms : FuncData
 F_low_forms : Fun K "low_forms" "low_forms" s_low_forms a_low_forms fd_low_forms
 m_low_forms : mg "low_forms" = some (.ref a_low_forms)
 b_low_forms : Binds K fd_low_forms ["upper", "lower"] []
 a_power_of : Addr
 fd_power_of : FuncData
 F_power_of : Fun K "power_of" "power_of" s_power_of a_power_of fd_power_of
 m_power_of : mg "power_of" = some (.ref a_power_of)
 b_power_of : Binds K fd_power_of ["number", "exponent"] []
 a_has_ends : Addr
 fd_has_ends : FuncData
 F_has_ends : Fun K "has_ends" "has_ends" s_has_ends a_has_ends fd_has_ends
 m_has_ends : mg "has_ends" = some (.ref a_has_ends)
 b_has_ends : Binds K fd_has_ends ["term"] []
 a_degree_in_n : Addr
 fd_degree_in_n : FuncData
 F_degree_in_n : Fun K "degree_in_n" "degree_in_n" s_degree_in_n a_degree_in_n fd_degree_in_n
 m_degree_in_n : mg "degree_in_n" = some (.ref a_degree_in_n)
 b_degree_in_n : Binds K fd_degree_in_n ["pair"] []
 a_product_degree : Addr
 fd_product_degree : FuncData
 F_product_degree : Fun K "product_degree" "product_degree" s_product_degree a_product_degree fd_product_degree
 m_product_degree : mg "product_degree" = some (.ref a_product_degree)
 b_product_degree : Binds K fd_product_degree ["pairs", "degree"] []
 a_steps_degree : Addr
 fd_steps_degree : FuncData
 F_steps_degree : Fun K "steps_degree" "steps_degree" s_steps_degree a_steps_degree fd_steps_degree
 m_steps_degree : mg "steps_degree" = some (.ref a_steps_degree)
 b_steps_degree : Binds K fd_steps_degree ["term", "far", "degree"] []
 a_ends_degree : Addr
 fd_ends_degree : FuncData
 F_ends_degree : Fun K "ends_degree" "ends_degree" s_ends_degree a_ends_degree fd_ends_degree
 m_ends_degree : mg "ends_degree" = some (.ref a_ends_degree)
 b_ends_degree : Binds K fd_ends_degree ["term", "far", "degree"] []
 a_breadth_of : Addr
 fd_breadth_of : FuncData
 F_breadth_of : Fun K "breadth_of" "breadth_of" s_breadth_of a_breadth_of fd_breadth_of
 m_breadth_of : mg "breadth_of" = some (.ref a_breadth_of)
 b_breadth_of : Binds K fd_breadth_of ["term"] []
 a_height_of : Addr
 fd_height_of : FuncData
 F_height_of : Fun K "height_of" "height_of" s_height_of a_height_of fd_height_of
 m_height_of : mg "height_of" = some (.ref a_height_of)
 b_height_of : Binds K fd_height_of ["term", "far"] []
 a_length_of : Addr
 fd_length_of : FuncData
 F_length_of : Fun K "length_of" "length_of" s_length_of a_length_of fd_length_of
 m_length_of : mg "length_of" = some (.ref a_length_of)
 b_length_of : Binds K fd_length_of ["term", "far"] []
 a_within : Addr
 fd_within : FuncData
 F_within : Fun K "within" "within" s_within a_within fd_within
 m_within : mg "within" = some (.ref a_within)
 b_within : Binds K fd_within ["form", "least"] []
 a_check_choose : Addr
 fd_check_choose : FuncData
 F_check_choose : Fun K "check_choose" "check_choose" s_check_choose a_check_choose fd_check_choose
 m_check_choose : mg "check_choose" = some (.ref a_check_choose)
 b_check_choose : Binds K fd_check_choose ["upper", "lower"] []
 a_check_base : Addr
 fd_check_base : FuncData
 F_check_base : Fun K "check_base" "check_base" s_check_base a_check_base fd_check_base
 m_check_base : mg "check_base" = some (.ref a_check_base)
 b_check_base : Binds K fd_check_base ["fraction"] []
 a_piece_of : Addr
 fd_piece_of : FuncData
 F_piece_of : Fun K "piece_of" "piece_of" s_piece_of a_piece_of fd_piece_of
 m_piece_of : mg "piece_of" = some (.ref a_piece_of)
 b_piece_of : Binds K fd_piece_of ["part"] []
 a__law_cell_at : Addr
 fd__law_cell_at : FuncData
 F__law_cell_at : Fun K "_law_cell_at" "_law_cell_at" s__law_cell_at a__law_cell_at fd__law_cell_at
 m__law_cell_at : mg "_law_cell_at" = some (.ref a__law_cell_at)
 b__law_cell_at : Binds K fd__law_cell_at ["_law_script", "_law_k"] []
 a__law_less : Addr
 fd__law_less : FuncData
 F__law_less : Fun K "_law_less" "_law_less" s__law_less a__law_less fd__law_less
 m__law_less : mg "_law_less" = some (.ref a__law_less)
 b__law_less : Binds K fd__law_less ["_law_one", "_law_other"] []
 a__law_any : Addr
 fd__law_any : FuncData
 F__law_any : Fun K "_law_any" "_law_any" s__law_any a__law_any fd__law_any
 m__law_any : mg "_law_any" = some (.ref a__law_any)
 b__law_any : Binds K fd__law_any ["_law_cell", "_law_more"] []
 a__law_choose : Addr
 fd__law_choose : FuncData
 F__law_choose : Fun K "_law_choose" "_law_choose" s__law_choose a__law_choose fd__law_choose
 m__law_choose : mg "_law_choose" = some (.ref a__law_choose)
 b__law_choose : Binds K fd__law_choose ["_law_script", "_law_at"] []
 a__law_fraction : Addr
 fd__law_fraction : FuncData
 F__law_fraction : Fun K "_law_fraction" "_law_fraction" s__law_fraction a__law_fraction fd__law_fraction
 m__law_fraction : mg "_law_fraction" = some (.ref a__law_fraction)
 b__law_fraction : Binds K fd__law_fraction ["_law_cell"] []
 a__law_parts : Addr
 fd__law_parts : FuncData
 F__law_parts : Fun K "_law_parts" "_law_parts" s__law_parts a__law_parts fd__law_parts
 m__law_parts : mg "_law_parts" = some (.ref a__law_parts)
 b__law_parts : Binds K fd__law_parts ["_law_script"] []
 a__law_lows : Addr
 fd__law_lows : FuncData
 F__law_lows : Fun K "_law_lows" "_law_lows" s__law_lows a__law_lows fd__law_lows
 m__law_lows : mg "_law_lows" = some (.ref a__law_lows)
 b__law_lows : Binds K fd__law_lows ["_law_part"] []
 a__law_ends : Addr
 fd__law_ends : FuncData
 F__law_ends : Fun K "_law_ends" "_law_ends" s__law_ends a__law_ends fd__law_ends
 m__law_ends : mg "_law_ends" = some (.ref a__law_ends)
 b__law_ends : Binds K fd__law_ends ["_law_parts_here"] []
 a__law_up_and_down : Addr
 fd__law_up_and_down : FuncData
 F__law_up_and_down : Fun K "_law_up_and_down" "_law_up_and_down" s__law_up_and_down a__law_up_and_down fd__law_up_and_down
 m__law_up_and_down : mg "_law_up_and_down" = some (.ref a__law_up_and_down)
 b__law_up_and_down : Binds K fd__law_up_and_down ["_law_parts_here", "_law_place"] []
 a__law_step : Addr
 fd__law_step : FuncData
 F__law_step : Fun K "_law_step" "_law_step" s__law_step a__law_step fd__law_step
 m__law_step : mg "_law_step" = some (.ref a__law_step)
 b__law_step : Binds K fd__law_step ["_law_parts_here", "_law_i", "_law_far", "_law_place"] []
 a__law_is : Addr
 fd__law_is : FuncData
 F__law_is : Fun K "_law_is" "_law_is" s__law_is a__law_is fd__law_is
 m__law_is : mg "_law_is" = some (.ref a__law_is)
 b__law_is : Binds K fd__law_is ["_law_found", "_law_due"] []
 a__law_for : Addr
 fd__law_for : FuncData
 F__law_for : Fun K "_law_for" "_law_for" s__law_for a__law_for fd__law_for
 m__law_for : mg "_law_for" = some (.ref a__law_for)
 b__law_for : Binds K fd__law_for ["_law_term", "_law_parts_here", "_law_far"] []
 a_law : Addr
 fd_law : FuncData
 F_law : Fun K "law" "law" s_law a_law fd_law
 m_law : mg "law" = some (.ref a_law)
 b_law : Binds K fd_law ["_law_script"] []
 a_Part_step : Addr
 fd_Part_step : FuncData
 F_Part_step : Fun K "step" "Part.step" s_Part_step a_Part_step fd_Part_step
 b_Part_step : Binds K fd_Part_step ["self", "i", "far"] []
 a_Part_up : Addr
 fd_Part_up : FuncData
 F_Part_up : Fun K "up" "Part.up" s_Part_up a_Part_up fd_Part_up
 b_Part_up : Binds K fd_Part_up ["self", "far"] []
 a_Part_down : Addr
 fd_Part_down : FuncData
 F_Part_down : Fun K "down" "Part.down" s_Part_down a_Part_down fd_Part_down
 b_Part_down : Binds K fd_Part_down ["self", "far"] []
 a_Choose___init__ : Addr
 fd_Choose___init__ : FuncData
 F_Choose___init__ : Fun K "__init__" "Choose.__init__" s_Choose___init__ a_Choose___init__ fd_Choose___init__
 b_Choose___init__ : Binds K fd_Choose___init__ ["self", "upper", "lower"] []
 a_Choose_lifted : Addr
 fd_Choose_lifted : FuncData
 F_Choose_lifted : Fun K "lifted" "Choose.lifted" s_Choose_lifted a_Choose_lifted fd_Choose_lifted
 b_Choose_lifted : Binds K fd_Choose_lifted ["self", "far"] []
 a_Choose_step : Addr
 fd_Choose_step : FuncData
 F_Choose_step : Fun K "step" "Choose.step" s_Choose_step a_Choose_step fd_Choose_step
 b_Choose_step : Binds K fd_Choose_step ["self", "i", "far"] []
 a_Choose_up : Addr
 fd_Choose_up : FuncData
 F_Choose_up : Fun K "up" "Choose.up" s_Choose_up a_Choose_up fd_Choose_up
 b_Choose_up : Binds K fd_Choose_up ["self", "far"] []
 a_Choose_down : Addr
 fd_Choose_down : FuncData
 F_Choose_down : Fun K "down" "Choose.down" s_Choose_down a_Choose_down fd_Choose_down
 b_Choose_down : Binds K fd_Choose_down ["self", "far"] []
 a_Weight___init__ : Addr
 fd_Weight___init__ : FuncData
 F_Weight___init__ : Fun K "__init__" "Weight.__init__" s_Weight___init__ a_Weight___init__ fd_Weight___init__
 b_Weight___init__ : Binds K fd_Weight___init__ ["self", "form"] []
 a_Weight_step : Addr
 fd_Weight_step : FuncData
 F_Weight_step : Fun K "step" "Weight.step" s_Weight_step a_Weight_step fd_Weight_step
 b_Weight_step : Binds K fd_Weight_step ["self", "i", "far"] []
 a_Power___init__ : Addr
 fd_Power___init__ : FuncData
 F_Power___init__ : Fun K "__init__" "Power.__init__" s_Power___init__ a_Power___init__ fd_Power___init__
 b_Power___init__ : Binds K fd_Power___init__ ["self", "fraction"] []
 a_Power_up : Addr
 fd_Power_up : FuncData
 F_Power_up : Fun K "up" "Power.up" s_Power_up a_Power_up fd_Power_up
 b_Power_up : Binds K fd_Power_up ["self", "far"] []
 a_Power_down : Addr
 fd_Power_down : FuncData
 F_Power_down : Fun K "down" "Power.down" s_Power_down a_Power_down fd_Power_down
 b_Power_down : Binds K fd_Power_down ["self", "far"] []
 a_Growth___init__ : Addr
 fd_Growth___init__ : FuncData
 F_Growth___init__ : Fun K "__init__" "Growth.__init__" s_Growth___init__ a_Growth___init__ fd_Growth___init__
 b_Growth___init__ : Binds K fd_Growth___init__ ["self", "fraction"] []
 a_Growth_step : Addr
 fd_Growth_step : FuncData
 F_Growth_step : Fun K "step" "Growth.step" s_Growth_step a_Growth_step fd_Growth_step
 b_Growth_step : Binds K fd_Growth_step ["self", "i", "far"] []
 a_Term___init__ : Addr
 fd_Term___init__ : FuncData
 F_Term___init__ : Fun K "__init__" "Term.__init__" s_Term___init__ a_Term___init__ fd_Term___init__
 b_Term___init__ : Binds K fd_Term___init__ ["self", "parts"] []
 a_Term_told : Addr
 fd_Term_told : FuncData
 F_Term_told : Fun K "told" "Term.told" s_Term_told a_Term_told fd_Term_told
 b_Term_told : Binds K fd_Term_told ["self"] []
 c_NoTerm : Addr
 mc_NoTerm : mg "NoTerm" = some (.ref c_NoTerm)
 xc_NoTerm : PySem.W.excIn K c_NoTerm bmV "ValueError.__new__" = true
 c_Choose : Addr
 mc_Choose : mg "Choose" = some (.ref c_Choose)
 cl_Choose : Cls K c_Choose
 mk_Choose : Mk K c_Choose a_Choose___init__
 me_Choose_lifted : Meth K c_Choose "lifted" a_Choose_lifted
 me_Choose_step : Meth K c_Choose "step" a_Choose_step
 me_Choose_up : Meth K c_Choose "up" a_Choose_up
 me_Choose_down : Meth K c_Choose "down" a_Choose_down
 na_Choose_above : NoAttr K c_Choose "above"
 na_Choose_lows : NoAttr K c_Choose "lows"
 c_Growth : Addr
 mc_Growth : mg "Growth" = some (.ref c_Growth)
 cl_Growth : Cls K c_Growth
 mk_Growth : Mk K c_Growth a_Growth___init__
 me_Growth_step : Meth K c_Growth "step" a_Growth_step
 me_Growth_down : Meth K c_Growth "down" a_Part_down
 me_Growth_up : Meth K c_Growth "up" a_Part_up
 na_Growth_fraction : NoAttr K c_Growth "fraction"
 c_Part : Addr
 mc_Part : mg "Part" = some (.ref c_Part)
 cl_Part : Cls K c_Part
 me_Part_step : Meth K c_Part "step" a_Part_step
 me_Part_up : Meth K c_Part "up" a_Part_up
 me_Part_down : Meth K c_Part "down" a_Part_down
 c_Power : Addr
 mc_Power : mg "Power" = some (.ref c_Power)
 cl_Power : Cls K c_Power
 mk_Power : Mk K c_Power a_Power___init__
 me_Power_up : Meth K c_Power "up" a_Power_up
 me_Power_down : Meth K c_Power "down" a_Power_down
 me_Power_step : Meth K c_Power "step" a_Part_step
 na_Power_fraction : NoAttr K c_Power "fraction"
 c_Term : Addr
 mc_Term : mg "Term" = some (.ref c_Term)
 cl_Term : Cls K c_Term
 mk_Term : Mk K c_Term a_Term___init__
 me_Term_told : Meth K c_Term "told" a_Term_told
 na_Term_parts : NoAttr K c_Term "parts"
 na_Term_pieces : NoAttr K c_Term "pieces"
 c_Weight : Addr
 mc_Weight : mg "Weight" = some (.ref c_Weight)
 cl_Weight : Cls K c_Weight
 mk_Weight : Mk K c_Weight a_Weight___init__
 me_Weight_step : Meth K c_Weight "step" a_Weight_step
 me_Weight_down : Meth K c_Weight "down" a_Part_down
 me_Weight_up : Meth K c_Weight "up" a_Part_up
 na_Weight_form : NoAttr K c_Weight "form"
 z_dict : mg "dict" = none
 z_max : mg "max" = none
 z_range : mg "range" = none
 z_any : mg "any" = none
 z_sum : mg "sum" = none
 z_all : mg "all" = none
 z_zip : mg "zip" = none
 z_len : mg "len" = none
 z_int : mg "int" = none
 z_isinstance : mg "isinstance" = none
 z_bool : mg "bool" = none
 z_list : mg "list" = none
 g_MOST_PARTS : { t : Tok // mg "MOST_PARTS" = some (.int 6 t) }
 gt_GREATEST : { u : Addr // mg "GREATEST" = some (.ref u) ∧ ∀ H : Hp, SqT K H u [.int (3), .int (3), .int (9)] }
 gt_UPPER_LEAST : { u : Addr // mg "UPPER_LEAST" = some (.ref u) ∧ ∀ H : Hp, SqT K H u [.int (0), .int (0), .int (0)] }
 gt_LOWER_LEAST : { u : Addr // mg "LOWER_LEAST" = some (.ref u) ∧ ∀ H : Hp, SqT K H u [.int (-3), .int (-3), .int (-9)] }
def spPowOf : Sp := fun vs H Q _ => ∃ (c : Int) (n : Nat), vs = [.int c, .int (n : Int)] ∧ Bd 100 c ∧ n <= 500 ∧ Q (.int (c ^ n)) H
theorem ok_power_of {P : Program} {w : World} {K : PySem.W.Frag} {mg : Str -> Option Value} {base : Heap} (T : Tx K mg) : FnOk P w K mg base CX0 1 T.a_power_of T.fd_power_of ["number", "exponent"] spPowOf := by
 refine T.F_power_of.ok sc_power_of (fun vs H Q E h => ?_) (fun cdv A outer s H vs Q E hr h => ?_)
 ·obtain ⟨c, n, rfl, _⟩ := h
  rfl
 obtain ⟨c, n, rfl, bc, n5, q⟩ := h
 refine ⟨_, ((pss_cons (ps_set (i := 2) sc_power_of.nd rfl (Or.inl rfl) pe_int)
  (pss_cons (ps_for PassesOwn.never rfl (pi_range1 rfl T.z_range (pa_cons (pv 1) pa_nil)) (pg_name (i := 3) sc_power_of.nd rfl (Or.inl rfl)) (pss_one (ps_aug (i := 2) sc_power_of.nd rfl (Or.inl rfl) (pv 0) ip_mulZ)))
  (pss_one (ps_ret (pv 2)))))), ?_⟩
 k_units
 refine ⟨by omega, by omega, ?_⟩
 rw [Int.toNat_natCast]
 have bp : ∀ n : Nat, Bd (100 * n + 1) (c ^ n) := fun n => by
  induction n with
  | zero => rw [Int.pow_zero]; exact Bd.one (by decide)
  | succ n ih => rw [Int.pow_succ]; exact (ih.mul bc).mono (by omega)
 refine lp_range (fun i σ H' => ∃ r : Option V, σ = [some (V.int c), some (V.int (n : Int)), some (V.int (c ^ i)), r] ∧ H' = H) ⟨none, by simp, rfl⟩ ?_ ?_
 ·rintro i σ H' hi ⟨r, rfl, rfl⟩
  k_units
  exact ⟨(bp i).fits bc (by omega), (Int.pow_succ c i).symm, _, rfl⟩
 ·rintro σ H' ⟨r, rfl, rfl⟩
  k_units
  exact q
def Frc (f : Int × Int) : Prop := 1 <= f.2 ∧ Nat.gcd f.1.natAbs f.2.natAbs = 1
theorem ix_tupK {X : Cx} {K : PySem.W.Frag} (hK : X.K = K) : IxR X (rIxT K) := by subst hK; exact ix_tup
def spLowF (K : PySem.W.Frag) : Sp := fun vs H Q _ => ∃ (p q : Addr) (a b c d e f : Int), vs = [.ref p, .ref q] ∧ SqT K H p [.int a, .int b, .int c] ∧ SqT K H q [.int d, .int e, .int f] ∧
 ∀ (L t : Addr) (H' : Hp), Same H H' -> H L = none -> H t = none -> H' L = some (.lst [.ref q, .ref t]) -> H' t = some (.tup [.int (a - d), .int (b - e), .int (c - f)]) -> Q (.ref L) H'
theorem ok_low_forms {P : Program} {w : World} {K : PySem.W.Frag} {mg : Str -> Option Value} {base : Heap} (T : Tx K mg) : FnOk P w K mg base CX0 1 T.a_low_forms T.fd_low_forms ["upper", "lower"] (spLowF K) := by
 refine T.F_low_forms.ok sc_low_forms (fun vs H Q E h => ?_) (fun cdv A outer s H vs Q E hr h => ?_)
 ·obtain ⟨p, q, a, b, c, d, e, f, rfl, _⟩ := h
  rfl
 obtain ⟨p, q, a, b, c, d, e, f, rfl, hp, hq, z⟩ := h
 refine ⟨_, ((pss_one (ps_ret (pe_lst (pa_cons (pv 1) (pa_cons (pe_tup (pa_cons (pe_op op_sub (pe_ix ix_tup (pv 0) pe_int (fun _ _ => rfl)) (pe_ix ix_tup (pv 1) pe_int (fun _ _ => rfl))) (pa_cons (pe_op op_sub (pe_ix ix_tup (pv 0) pe_int (fun _ _ => rfl)) (pe_ix ix_tup (pv 1) pe_int (fun _ _ => rfl))) (pa_cons (pe_op op_sub (pe_ix ix_tup (pv 0) pe_int (fun _ _ => rfl)) (pe_ix ix_tup (pv 1) pe_int (fun _ _ => rfl))) pa_nil)))) pa_nil)))))), ?_⟩
 k_units
 refine ⟨_, hp, _, rfl, _, hq, _, rfl, _, rfl, _, rfl, _, hp, _, rfl, _, hq, _, rfl, _, rfl, _, rfl, _, hp, _, rfl, _, hq, _, rfl, _, rfl, _, rfl, by decide, fun t nt => ⟨by decide, fun L nL => ?_⟩⟩
 have u1 := same_upd nt (.tup [V.int (a - d), V.int (b - e), V.int (c - f)])
 have u2 := same_upd nL (.lst [V.ref q, V.ref t])
 exact z L t _ (u1.trans u2) (u1.free nL) nt upd_same (u2 _ _ upd_same)
def wgtF (p : Addr) : List (Str × V) := [(Str.ofString "form", .ref p)]
def spWInit (C : Addr) : Sp := fun vs H Q _ => ∃ x dx p : Addr, vs = [.ref x, .ref p] ∧ H x = some (.ins C dx []) ∧ Q .non (upd H x (.ins C dx (wgtF p)))
theorem ok_Weight___init__ {P : Program} {w : World} {K : PySem.W.Frag} {mg : Str -> Option Value} {base : Heap} (T : Tx K mg) : FnOk P w K mg base CX0 1 T.a_Weight___init__ T.fd_Weight___init__ ["self", "form"] (spWInit T.c_Weight) := by
 refine T.F_Weight___init__.ok sc_Weight___init__ (fun vs H Q E h => ?_) (fun cdv A outer s H vs Q E hr h => ?_)
 ·obtain ⟨x, dx, p, rfl, _⟩ := h
  rfl
 obtain ⟨x, dx, p, rfl, hx, q⟩ := h
 refine ⟨_, ((pss_one (ps_fld (pv 0) (pv 1) rfl))), ?_⟩
 k_units
 exact ⟨T.c_Weight, dx, [], hx, T.cl_Weight, T.na_Weight_form, by decide, q⟩
def powF (p : Addr) : List (Str × V) := [(Str.ofString "fraction", .ref p)]
def spPInit (C : Addr) : Sp := fun vs H Q _ => ∃ x dx p : Addr, vs = [.ref x, .ref p] ∧ H x = some (.ins C dx []) ∧ Q .non (upd H x (.ins C dx (powF p)))
theorem ok_Power___init__ {P : Program} {w : World} {K : PySem.W.Frag} {mg : Str -> Option Value} {base : Heap} (T : Tx K mg) : FnOk P w K mg base CX0 1 T.a_Power___init__ T.fd_Power___init__ ["self", "fraction"] (spPInit T.c_Power) := by
 refine T.F_Power___init__.ok sc_Power___init__ (fun vs H Q E h => ?_) (fun cdv A outer s H vs Q E hr h => ?_)
 ·obtain ⟨x, dx, p, rfl, _⟩ := h
  rfl
 obtain ⟨x, dx, p, rfl, hx, q⟩ := h
 refine ⟨_, ((pss_one (ps_fld (pv 0) (pv 1) rfl))), ?_⟩
 k_units
 exact ⟨T.c_Power, dx, [], hx, T.cl_Power, T.na_Power_fraction, by decide, q⟩
theorem ok_Growth___init__ {P : Program} {w : World} {K : PySem.W.Frag} {mg : Str -> Option Value} {base : Heap} (T : Tx K mg) : FnOk P w K mg base CX0 1 T.a_Growth___init__ T.fd_Growth___init__ ["self", "fraction"] (spPInit T.c_Growth) := by
 refine T.F_Growth___init__.ok sc_Growth___init__ (fun vs H Q E h => ?_) (fun cdv A outer s H vs Q E hr h => ?_)
 ·obtain ⟨x, dx, p, rfl, _⟩ := h
  rfl
 obtain ⟨x, dx, p, rfl, hx, q⟩ := h
 refine ⟨_, ((pss_one (ps_fld (pv 0) (pv 1) rfl))), ?_⟩
 k_units
 exact ⟨T.c_Growth, dx, [], hx, T.cl_Growth, T.na_Growth_fraction, by decide, q⟩
def chsF (p L : Addr) : List (Str × V) := [(Str.ofString "above", .ref p), (Str.ofString "lows", .ref L)]
def spCInit (K : PySem.W.Frag) (C : Addr) : Sp := fun vs H Q _ => ∃ (x dx p q : Addr) (a b c d e f : Int), vs = [.ref x, .ref p, .ref q] ∧ H x = some (.ins C dx []) ∧ SqT K H p [.int a, .int b, .int c] ∧ SqT K H q [.int d, .int e, .int f] ∧
 ∀ (L t : Addr) (H' : Hp), (∀ y o, y ≠ x -> H y = some o -> H' y = some o) -> H L = none -> H t = none -> H' x = some (.ins C dx (chsF p L)) -> H' L = some (.lst [.ref q, .ref t]) -> H' t = some (.tup [.int (a - d), .int (b - e), .int (c - f)]) -> Q .non H'
theorem SqT.updI {K : PySem.W.Frag} {H : Hp} {a x C dx : Addr} {xs : List V} {fs : List (Str × V)} {o : HO} (h : SqT K H a xs) (e : H x = some (.ins C dx fs)) : SqT K (L2.upd H x o) a xs := by
 rcases h with (h | ⟨u, h⟩) | h
 ·exact .inl (.inl (by rw [upd_ne (ne_of h e (fun z => nomatch z))]; exact h))
 ·exact .inl (.inr ⟨u, by rw [upd_ne (ne_of h e (fun z => nomatch z))]; exact h⟩)
 ·exact .inr h
theorem ok_Choose___init__ {P : Program} {w : World} {K : PySem.W.Frag} {mg : Str -> Option Value} {base : Heap} (T : Tx K mg) : FnOk P w K mg base CX0 2 T.a_Choose___init__ T.fd_Choose___init__ ["self", "upper", "lower"] (spCInit K T.c_Choose) := by
 refine T.F_Choose___init__.ok sc_Choose___init__ (fun vs H Q E h => ?_) (fun cdv A outer s H vs Q E hr h => ?_)
 ·obtain ⟨x, dx, p, q, a, b, c, d, e, f, rfl, _⟩ := h
  rfl
 obtain ⟨x, dx, p, q, a, b, c, d, e, f, rfl, hx, hp, hq, z⟩ := h
 refine ⟨_, ((pss_cons (ps_fld (pv 0) (pv 1) rfl)
  (pss_one (ps_fld (pv 0) (pe_call (FnOk.mono (ok_low_forms T) (by decide)) hr rfl T.m_low_forms T.F_low_forms.kp T.b_low_forms .nil pass0 (pa_cons (pv 1) (pa_cons (pv 2) pa_nil))) rfl)))), ?_⟩
 k_units
 refine ⟨T.c_Choose, dx, [], hx, T.cl_Choose, T.na_Choose_above, by decide, ?_⟩
 have ex1 : upd H x (.ins T.c_Choose dx (putF "above" (.ref p) [])) x = some (.ins T.c_Choose dx [("above", .ref p)]) := upd_same
 have hp1 := SqT.updI (o := .ins T.c_Choose dx (putF "above" (.ref p) [])) hp hx
 have hq1 := SqT.updI (o := .ins T.c_Choose dx (putF "above" (.ref p) [])) hq hx
 have k1 : ∀ y o, y ≠ x -> H y = some o -> upd H x (.ins T.c_Choose dx (putF "above" (.ref p) [])) y = some o := fun y o hy e => by rw [upd_ne hy]; exact e
 have n1 : ∀ y, upd H x (.ins T.c_Choose dx (putF "above" (.ref p) [])) y = none -> H y = none := fun y e => by
  by_cases hy : y = x
  ·rw [hy, upd_same] at e; cases e
  ·rw [upd_ne hy] at e; exact e
 generalize upd H x (.ins T.c_Choose dx (putF "above" (.ref p) [])) = G at ex1 hp1 hq1 k1 n1 ⊢
 refine ⟨p, q, a, b, c, d, e, f, rfl, hp1, hq1, fun L t H1 s1 nL nt eL et => ?_⟩
 refine ⟨T.c_Choose, dx, _, s1 _ _ ex1, T.cl_Choose, T.na_Choose_lows, by show 1 < 1000; decide, ?_⟩
 have pf : putF "lows" (.ref L) [("above", V.ref p)] = chsF p L := rfl
 rw [pf]
 have nLx : L ≠ x := fun hz => by rw [hz, ex1] at nL; cases nL
 have ntx : t ≠ x := fun hz => by rw [hz, ex1] at nt; cases nt
 exact z L t _ (fun y o hy e => by rw [upd_ne hy]; exact s1 _ _ (k1 y o hy e)) (n1 _ nL) (n1 _ nt) upd_same (by rw [upd_ne nLx]; exact eL) (by rw [upd_ne ntx]; exact et)
def spRaised (K : PySem.W.Frag) : Sp := fun vs H Q _ => ∃ (p : Addr) (a b c y : Int), vs = [.ref p, .int y] ∧ SqT K H p [.int a, .int b, .int c] ∧ ∀ r, H r = none -> Q (.ref r) (upd H r (.tup [.int a, .int b, .int (c + y)]))
theorem ok_raised {P : Program} {w : World} {K : PySem.W.Frag} {mg : Str -> Option Value} {base : Heap} (T : Tx K mg) : FnOk P w K mg base CX0 1 T.a_raised T.fd_raised ["form", "by"] (spRaised K) := by
 refine T.F_raised.ok sc_raised (fun vs H Q E h => ?_) (fun cdv A outer s H vs Q E hr h => ?_)
 ·obtain ⟨p, a, b, c, y, rfl, _⟩ := h
  rfl
 obtain ⟨p, a, b, c, y, rfl, hp, q⟩ := h
 refine ⟨_, ((pss_one (ps_ret (pe_tup (pa_cons (pe_ix ix_tup (pv 0) pe_int (fun _ _ => rfl)) (pa_cons (pe_ix ix_tup (pv 0) pe_int (fun _ _ => rfl)) (pa_cons (pe_op op_add (pe_ix ix_tup (pv 0) pe_int (fun _ _ => rfl)) (pv 1)) pa_nil))))))), ?_⟩
 k_units
 exact ⟨_, hp, _, rfl, _, hp, _, rfl, _, hp, _, rfl, _, rfl, by decide, q⟩
def liftF (far : Int) (f : Int × Int × Int) : Int × Int × Int := (f.1, f.2.1, f.2.2 + if 0 > far * f.1 then 0 else far * f.1)
def spLift (K : PySem.W.Frag) (C : Addr) : Sp := fun vs H Q _ => ∃ (x dx p L q t : Addr) (f g : Int × Int × Int) (far : Int), vs = [.ref x, .int far] ∧ H x = some (.ins C dx (chsF p L)) ∧ H L = some (.lst [.ref q, .ref t]) ∧ SqT K H q [.int f.1, .int f.2.1, .int f.2.2] ∧ SqT K H t [.int g.1, .int g.2.1, .int g.2.2] ∧ Bd 20 far ∧ Bd 20 f.1 ∧ Bd 20 g.1 ∧
 ∀ (D u v : Addr) (H' : Hp), Same H H' -> H D = none -> H' D = some (.lst [.ref u, .ref v]) -> H' u = some (.tup [.int (liftF far f).1, .int (liftF far f).2.1, .int (liftF far f).2.2]) -> H' v = some (.tup [.int (liftF far g).1, .int (liftF far g).2.1, .int (liftF far g).2.2]) -> Q (.ref D) H'
theorem ok_Choose_lifted {P : Program} {w : World} {K : PySem.W.Frag} {mg : Str -> Option Value} {base : Heap} (T : Tx K mg) : FnOk P w K mg base CX0 2 T.a_Choose_lifted T.fd_Choose_lifted ["self", "far"] (spLift K T.c_Choose) := by
 refine T.F_Choose_lifted.ok sc_Choose_lifted (fun vs H Q E h => ?_) (fun cdv A outer s H vs Q E hr h => ?_)
 ·obtain ⟨x, dx, p, L, q, t, f, g, far, rfl, _⟩ := h
  rfl
 obtain ⟨x, dx, p, L, q, t, f, g, far, rfl, hx, hL, hq, ht, bf, b1, b2, z⟩ := h
 refine ⟨_, ((pss_one (ps_ret (pe_lcomp rfl (blkok rfl (sub_cons rfl sub_nil) (fv_cons 1 "far" (by decide) rfl (Or.inl rfl) (Or.inl rfl) ⟨_, rfl⟩ fv_nil)) (pi_list (pe_fld (pv 0) rfl)) (fun _ _ _ _ => (pe_call (FnOk.mono (ok_raised T) (by decide)) hr rfl T.m_raised T.F_raised.kp T.b_raised .nil pass0 (pa_cons (pv 0) (pa_cons (pe_callB (call_max2 rfl) rfl T.z_max bt_max (pa_cons (pe_op op_mulZ (pv 1) (pe_ix (ix_tupK (K := K) rfl) (pv 0) pe_int (fun _ _ => rfl))) (pa_cons pe_int pa_nil))) pa_nil)))))))), ?_⟩
 k_units
 refine ⟨T.c_Choose, dx, _, hx, T.cl_Choose, T.na_Choose_lows, _, rfl, L, rfl, ⟨_, SqL.of hL⟩, fun D nD => ?_⟩
 obtain ⟨Pc, hPc⟩ : ∃ Pc : Nat -> Hp -> Prop, ∀ j Hx, Pc j Hx ↔ ∃ us : List Addr, Hx D = some (.lst (us.map V.ref)) ∧ us.length = j ∧ (∀ (i : Nat) (u : Addr) (h : Int × Int × Int), us[i]? = some u -> [f, g][i]? = some h -> Hx u = some (.tup [.int (liftF far h).1, .int (liftF far h).2.1, .int (liftF far h).2.2])) ∧ Same H Hx := ⟨_, fun _ _ => Iff.rfl⟩
 refine cl_list (xs := [V.ref q, V.ref t]) Pc ((hPc _ _).mpr ⟨[], upd_same, rfl, fun i u h h1 => by simp at h1, same_upd nD _⟩) (fun i Hx _ z => by obtain ⟨_, _, _, _, z⟩ := (hPc i Hx).mp z; exact z.seq (SqL.of hL)) ?_ ?_
 ·intro j v Hx hv hc
  obtain ⟨us, k1, k2, k3, k4⟩ := (hPc _ _).mp hc
  obtain ⟨r, h, rfl, hh, er, bh⟩ : ∃ (r : Addr) (h : Int × Int × Int), v = V.ref r ∧ [f, g][j]? = some h ∧ SqT K H r [.int h.1, .int h.2.1, .int h.2.2] ∧ Bd 20 h.1 := by
   match j, hv with
   | 0, hv => exact ⟨q, f, (Option.some.inj hv).symm, rfl, hq, b1⟩
   | 1, hv => exact ⟨t, g, (Option.some.inj hv).symm, rfl, ht, b2⟩
   | j + 2, hv => simp at hv
  (iterate 3 (k_units; (try simp only [bst, Option.getD_some])); k_units)
  have er' := k4.seqT er
  have hj2 : j < 2 := by have := (List.getElem?_eq_some_iff.mp hh).1; simpa using this
  refine ⟨_, er', _, rfl, _, rfl, bf.fits bh (by decide), r, h.1, h.2.1, h.2.2, _, rfl, er', fun u nu => ?_⟩
  have uu := same_upd nu (.tup [V.int h.1, V.int h.2.1, V.int (h.2.2 + if 0 > far * h.1 then 0 else far * h.1)])
  refine ⟨_, uu _ _ k1, by rw [List.length_map]; exact small1000 (by omega), (hPc _ _).mpr ⟨us ++ [u], by rw [upd_same]; simp, by simp [k2], fun i u' h' q1 q2 => ?_, (k4.trans uu).more nD⟩⟩
  have nuD : u ≠ D := fun hz => by rw [hz, k1] at nu; cases nu
  by_cases hi : i < us.length
  ·rw [List.getElem?_append_left hi] at q1
   have e := uu _ _ (k3 i u' h' q1 q2)
   rw [upd_ne (ne_of e (uu _ _ k1) (fun z => nomatch z))]; exact e
  ·rw [List.getElem?_append_right (by omega)] at q1
   have hi2 : i - us.length = 0 := by
    have := (List.getElem?_eq_some_iff.mp q1).1
    simp at this; omega
   rw [hi2] at q1
   obtain rfl := Option.some.inj q1
   have hij : i = j := by omega
   rw [hij, hh] at q2
   obtain rfl := Option.some.inj q2
   rw [upd_ne nuD, upd_same]; rfl
 intro H' hc
 obtain ⟨us, k1, k2, k3, k4⟩ := (hPc _ _).mp hc
 match us, k2 with
 | [u, v], _ => exact z D u v H' k4 nD k1 (k3 0 u f rfl rfl) (k3 1 v g rfl rfl)
inductive Prt where
 | cho (h l : Int × Int × Int)
 | wei (f : Int × Int × Int)
 | pow (f : Int × Int)
 | gro (f : Int × Int)
def subF (h l : Int × Int × Int) : Int × Int × Int := (h.1 - l.1, h.2.1 - l.2.1, h.2.2 - l.2.2)
def ChoOk (h l : Int × Int × Int) : Prop := (0 <= h.1 ∧ h.1 <= 3 ∧ 0 <= h.2.1 ∧ h.2.1 <= 3 ∧ 0 <= h.2.2 ∧ h.2.2 <= 9) ∧ (-3 <= l.1 ∧ l.1 <= 3 ∧ -3 <= l.2.1 ∧ l.2.1 <= 3 ∧ -9 <= l.2.2 ∧ l.2.2 <= 9) ∧ ¬ (l.1 = 0 ∧ l.2.1 < 0) ∧ ¬ (h.1 - l.1 = 0 ∧ h.2.1 - l.2.1 < 0)
def PrtOk : Prt -> Prop
 | .cho h l => ChoOk h l
 | .wei f => Bd 300 f.1 ∧ Bd 300 f.2.1 ∧ Bd 300 f.2.2
 | .pow f => Frc f ∧ f.1 ≠ 0 ∧ Bd 70 f.1 ∧ Bd 20 f.2
 | .gro f => Frc f ∧ f.1 ≠ 0 ∧ Bd 70 f.1 ∧ Bd 20 f.2
theorem bd_pw {l : Nat} {x : Int} (h : Bd l x) : ∀ n : Nat, Bd (l * n + 1) (x ^ n)
 | 0 => by rw [Int.pow_zero]; exact Bd.one (by omega)
 | n + 1 => by rw [Int.pow_succ]; exact ((bd_pw h n).mul h).mono (by rw [Nat.mul_succ]; omega)
theorem cl_zip3 {K : PySem.W.Frag} {a b c : Addr} {xs ys zs : List V} {fv : List (Nat × Str)} {te : TE} {Q : VK} {σ : L2.St} {H1 : Hp} {D : Addr} (Pv : Nat -> Hp -> Prop) (ly : ys.length = xs.length) (lz : zs.length = xs.length) (h0 : Pv 0 (L2.upd H1 D (.lst []))) (hl : ∀ i H, Pv i H -> SqT K H a xs ∧ SqT K H b ys ∧ SqT K H c zs)
  (hs : ∀ i v1 v2 v3 p H, xs[i]? = some v1 -> ys[i]? = some v2 -> zs[i]? = some v3 -> Pv i H -> H p = none -> te (bst3 fv σ (some v1) (some v2) (some v3)) (L2.upd H p (.tup [v1, v2, v3])) fun y H2 => ∃ us, H2 D = some (.lst us) ∧ us.length < sizeLine ∧ Pv (i + 1) (L2.upd H2 D (.lst (us ++ [y]))))
  (hd : ∀ H, Pv xs.length H -> Q (.ref D) H) : CLoop3 K (Itz3 K a b c) fv te Q σ H1 D := by
 refine ⟨fun i m H => m = xs.length - i ∧ i <= xs.length ∧ Pv i H, ⟨_, rfl, Nat.zero_le _, h0⟩, ?_⟩
 rintro i m H ⟨rfl, hi, p⟩
 obtain ⟨q1, q2, q3⟩ := hl i H p
 by_cases hlt : i < xs.length
 ·refine .inr ⟨⟨xs, ys, zs, xs[i], ys[i], zs[i], q1, q2, q3, List.getElem?_eq_getElem hlt, List.getElem?_eq_getElem (by omega), List.getElem?_eq_getElem (by omega)⟩, Pv (i + 1), fun H' p' => ⟨xs.length - (i + 1), by omega, rfl, hlt, p'⟩, fun v H' y => ?_⟩
  obtain ⟨pa, x1, x2, x3, hn, e1, e2, y1, y2, y3⟩ := y
  subst e1 e2
  exact ⟨pa, x1, x2, x3, rfl, .inl (.inl upd_same), hs i x1 x2 x3 pa H (y1 xs q1) (y2 ys q2) (y3 zs q3) p hn⟩
 ·have e : i = xs.length := by omega
  refine .inl ⟨⟨xs, q1, by omega⟩, ?_⟩
  rw [e] at p
  exact hd H p
def spWithin (K : PySem.W.Frag) : Sp := fun vs H Q _ => ∃ (p q : Addr) (a b c x y z : Int), vs = [.ref p, .ref q] ∧ SqT K H p [.int a, .int b, .int c] ∧ SqT K H q [.int x, .int y, .int z] ∧ x <= a ∧ a <= 3 ∧ y <= b ∧ b <= 3 ∧ z <= c ∧ c <= 9 ∧ ∀ H', Same H H' -> Q (.bl true) H'
theorem ok_within {P : Program} {w : World} {K : PySem.W.Frag} {mg : Str -> Option Value} {base : Heap} (T : Tx K mg) : FnOk P w K mg base CX0 1 T.a_within T.fd_within ["form", "least"] (spWithin K) := by
 refine T.F_within.ok sc_within (fun vs H Q E h => ?_) (fun cdv A outer s H vs Q E hr h => ?_)
 ·obtain ⟨p, q, a, b, c, x, y, z, rfl, _⟩ := h
  rfl
 obtain ⟨p, q, a, b, c, x, y, z, rfl, hp, hq, h1, h2, h3, h4, h5, h6, k⟩ := h
 refine ⟨_, ((pss_one (ps_ret (pe_callB (call_allL rfl) rfl T.z_all boot_all (pa_cons (pe_lcomp3 rfl (blkok3 rfl sub_nil fv_nil2) (pi_zip3 rfl T.z_zip (pa_cons (pv 1) (pa_cons (pv 0) (pa_cons (pe_glob (v := .ref T.gt_GREATEST.1) rfl T.gt_GREATEST.2.1 rfl) pa_nil)))) (fun _ _ _ _ => (pe_chain op_le op_le (pv 0) (pv 1) (pv 2)))) pa_nil))))), ?_⟩
 k_units
 refine ⟨_, hq, _, hp, _, T.gt_GREATEST.2.2 H, fun D nD => ?_⟩
 obtain ⟨Pc, hPc⟩ : ∃ Pc : Nat -> Hp -> Prop, ∀ j Hx, Pc j Hx ↔ Hx D = some (.lst ((List.replicate j true).map V.bl)) ∧ Same H Hx := ⟨_, fun _ _ => Iff.rfl⟩
 refine cl_zip3 (xs := [V.int x, V.int y, V.int z]) (ys := [V.int a, V.int b, V.int c]) (zs := [V.int 3, V.int 3, V.int 9]) Pc rfl rfl ((hPc _ _).mpr ⟨upd_same, same_upd nD _⟩) (fun i Hx y => by obtain ⟨_, y⟩ := (hPc i Hx).mp y; exact ⟨y.seqT hq, y.seqT hp, T.gt_GREATEST.2.2 Hx⟩) ?_ ?_
 ·intro i v1 v2 v3 r Hx e1 e2 e3 hc nr
  obtain ⟨k1, k2⟩ := (hPc _ _).mp hc
  obtain ⟨x1, x2, x3, rfl, rfl, rfl, l1, l2, hi⟩ : ∃ x1 x2 x3 : Int, v1 = .int x1 ∧ v2 = .int x2 ∧ v3 = .int x3 ∧ x1 <= x2 ∧ x2 <= x3 ∧ i < 3 := by
   match i, e1, e2, e3 with
   | 0, e1, e2, e3 => exact ⟨_, _, _, (Option.some.inj e1).symm, (Option.some.inj e2).symm, (Option.some.inj e3).symm, h1, h2, by decide⟩
   | 1, e1, e2, e3 => exact ⟨_, _, _, (Option.some.inj e1).symm, (Option.some.inj e2).symm, (Option.some.inj e3).symm, h3, h4, by decide⟩
   | 2, e1, e2, e3 => exact ⟨_, _, _, (Option.some.inj e1).symm, (Option.some.inj e2).symm, (Option.some.inj e3).symm, h5, h6, by decide⟩
   | j + 3, e1, e2, e3 => simp at e1
  (iterate 3 (k_units; (try simp only [bst3])); k_units)
  rw [if_pos l1]
  have u := same_upd nr (.tup [V.int x1, V.int x2, V.int x3])
  refine ⟨_, u _ _ k1, by rw [List.length_map, List.length_replicate]; exact small1000 (by omega), (hPc _ _).mpr ⟨?_, (k2.trans u).more nD⟩⟩
  rw [upd_same, decide_eq_true l2, List.replicate_succ', List.map_append]; rfl
 intro Hx hc
 obtain ⟨k1, k2⟩ := (hPc _ _).mp hc
 refine ⟨D, rfl, _, SqL.of k1, ?_⟩
 exact k Hx k2
def spChk (K : PySem.W.Frag) : Sp := fun vs H Q _ => ∃ (p q : Addr) (h l : Int × Int × Int), vs = [.ref p, .ref q] ∧ SqT K H p [.int h.1, .int h.2.1, .int h.2.2] ∧ SqT K H q [.int l.1, .int l.2.1, .int l.2.2] ∧ ChoOk h l ∧ ∀ H', Same H H' -> Q .non H'
theorem ok_check_choose {P : Program} {w : World} {K : PySem.W.Frag} {mg : Str -> Option Value} {base : Heap} (T : Tx K mg) : FnOk P w K mg base (CXE P w) 2 T.a_check_choose T.fd_check_choose ["upper", "lower"] (spChk K) := by
 refine T.F_check_choose.okE sc_check_choose (fun vs H Q E h => ?_) (fun cdv A outer s H vs Q E hr h => ?_)
 ·obtain ⟨p, q, h, l, rfl, _⟩ := h
  rfl
 obtain ⟨p, q, h, l, rfl, hp, hq, ⟨⟨a1, a2, a3, a4, a5, a6⟩, ⟨b1, b2, b3, b4, b5, b6⟩, f1, f2⟩, k⟩ := h
 refine ⟨_, ((pss_cons (ps_if (PT.nox (PW.pt (pw_or (pt_not (pt_val (pe_call (FnOk.mono (ok_within T) (by decide)) hr rfl T.m_within T.F_within.kp T.b_within .nil pass0 (pa_cons (pv 0) (pa_cons (pe_glob (v := .ref T.gt_UPPER_LEAST.1) rfl T.gt_UPPER_LEAST.2.1 rfl) pa_nil))))) (pw_or1 (pt_not (pt_val (pe_call (FnOk.mono (ok_within T) (by decide)) hr rfl T.m_within T.F_within.kp T.b_within .nil pass0 (pa_cons (pv 1) (pa_cons (pe_glob (v := .ref T.gt_LOWER_LEAST.1) rfl T.gt_LOWER_LEAST.2.1 rfl) pa_nil))))))))) (pss_one (ps_raise rfl throwE rfl T.mc_NoTerm T.xc_NoTerm (pa_cons pe_str pa_nil))) pss_nil)
  (pss_one (ps_for PassesOwn.leaving rfl (pi_list (pe_call (FnOk.mono (ok_low_forms T) (by decide)) hr rfl T.m_low_forms T.F_low_forms.kp T.b_low_forms .nil pass0 (pa_cons (pv 0) (pa_cons (pv 1) pa_nil)))) (pg_name (i := 2) sc_check_choose.nd rfl (Or.inl rfl)) (pss_one (ps_if (PT.nox (PW.pt (pw_and (pt_cmpR op_eq (pe_ix ix_tup (pv 2) pe_int (fun _ _ => rfl)) pe_int (nomark _)) (pw_and1 (pt_cmpR op_lt (pe_ix ix_tup (pv 2) pe_int (fun _ _ => rfl)) pe_int (nomark _)))))) (pss_one (ps_raise rfl throwE rfl T.mc_NoTerm T.xc_NoTerm (pa_cons pe_str pa_nil))) pss_nil)))))), ?_⟩
 k_units
 refine ⟨p, T.gt_UPPER_LEAST.1, h.1, h.2.1, h.2.2, 0, 0, 0, rfl, hp, T.gt_UPPER_LEAST.2.2 H, a1, a2, a3, a4, a5, a6, fun H1 s1 => ⟨true, rfl, ?_⟩⟩
 rw [if_neg (by decide)]
 refine ⟨q, T.gt_LOWER_LEAST.1, l.1, l.2.1, l.2.2, -3, -3, -9, rfl, s1.seqT hq, T.gt_LOWER_LEAST.2.2 H1, b1, b2, b3, b4, b5, b6, fun H2 s2 => ⟨true, rfl, ?_⟩⟩
 rw [if_neg (by decide)]
 have s12 := s1.trans s2
 refine ⟨p, q, h.1, h.2.1, h.2.2, l.1, l.2.1, l.2.2, rfl, s12.seqT hp, s12.seqT hq, fun L t H3 s3 nL nt eL et => ⟨L, rfl, ⟨_, SqL.of eL⟩, ?_⟩⟩
 have s13 := s12.trans s3
 refine lp_list (xs := [V.ref q, V.ref t]) (fun i σ H' => ∃ r : Option V, σ = [some (V.ref p), some (V.ref q), r] ∧ H' = H3) ⟨none, rfl, rfl⟩ (fun i σ H' _ z => by obtain ⟨_, _, rfl⟩ := z; exact SqL.of eL) ?_ ?_
 ·rintro i v σ H' hv ⟨r, rfl, rfl⟩
  obtain ⟨u, f, rfl, eu, nf⟩ : ∃ (u : Addr) (f : Int × Int × Int), v = V.ref u ∧ SqT K H' u [.int f.1, .int f.2.1, .int f.2.2] ∧ ¬ (f.1 = 0 ∧ f.2.1 < 0) := by
   match i, hv with
   | 0, hv => exact ⟨q, l, (Option.some.inj hv).symm, s13.seqT hq, f1⟩
   | 1, hv => exact ⟨t, subF h l, (Option.some.inj hv).symm, SqT.of et, f2⟩
   | j + 2, hv => simp at hv
  k_units
  refine ⟨_, eu, _, rfl, ?_⟩
  k_units
  refine ite2 (fun z => ?_) (fun z => trivial)
  refine ⟨_, eu, _, rfl, ?_⟩
  k_units
  rw [if_neg (fun z2 => nf ⟨z, z2⟩)]
  trivial
 ·rintro σ H' ⟨r, rfl, rfl⟩
  exact k H' s13
def spChkB (K : PySem.W.Frag) : Sp := fun vs H Q _ => ∃ (p : Addr) (f : Int × Int), vs = [.ref p] ∧ SqT K H p [.int f.1, .int f.2] ∧ f.1 ≠ 0 ∧ Q .non H
theorem ok_check_base {P : Program} {w : World} {K : PySem.W.Frag} {mg : Str -> Option Value} {base : Heap} (T : Tx K mg) : FnOk P w K mg base (CXE P w) 1 T.a_check_base T.fd_check_base ["fraction"] (spChkB K) := by
 refine T.F_check_base.okE sc_check_base (fun vs H Q E h => ?_) (fun cdv A outer s H vs Q E hr h => ?_)
 ·obtain ⟨p, f, rfl, _⟩ := h
  rfl
 obtain ⟨p, f, rfl, hp, f0, k⟩ := h
 refine ⟨_, ((pss_one (ps_if (PT.nox (pt_cmpR op_eq (pe_ix ix_tup (pv 0) pe_int (fun _ _ => rfl)) pe_int (nomark _))) (pss_one (ps_raise rfl throwE rfl T.mc_NoTerm T.xc_NoTerm (pa_cons pe_str pa_nil))) pss_nil))), ?_⟩
 k_units
 refine ⟨_, hp, _, rfl, ?_⟩
 k_units
 rw [if_neg f0]
 exact k
abbrev T3 (f : Int × Int × Int) : HO := .tup [.int f.1, .int f.2.1, .int f.2.2]
abbrev T2 (f : Int × Int) : HO := .tup [.int f.1, .int f.2]
def PtAt (H : Hp) (r : Addr) : Prt -> Prop
 | .cho h l => ∃ a b, H r = some (.tup [.str (Str.ofString "choose"), .ref a, .ref b]) ∧ H a = some (T3 h) ∧ H b = some (T3 l)
 | .wei f => ∃ a, H r = some (.tup [.str (Str.ofString "weight"), .ref a]) ∧ H a = some (T3 f)
 | .pow f => ∃ a, H r = some (.tup [.str (Str.ofString "power"), .ref a]) ∧ H a = some (T2 f)
 | .gro f => ∃ a, H r = some (.tup [.str (Str.ofString "growth"), .ref a]) ∧ H a = some (T2 f)
def PcAt {K : PySem.W.Frag} {mg : Str -> Option Value} (T : Tx K mg) (H0 H : Hp) (r : Addr) : Prt -> Prop
 | .cho h l => ∃ dx a L b t, H r = some (.ins T.c_Choose dx (chsF a L)) ∧ H a = some (T3 h) ∧ H0 L = none ∧ H L = some (.lst [.ref b, .ref t]) ∧ H b = some (T3 l) ∧ H t = some (T3 (subF h l))
 | .wei f => ∃ dx a, H r = some (.ins T.c_Weight dx (wgtF a)) ∧ H a = some (T3 f)
 | .pow f => ∃ dx a, H r = some (.ins T.c_Power dx (powF a)) ∧ H a = some (T2 f)
 | .gro f => ∃ dx a, H r = some (.ins T.c_Growth dx (powF a)) ∧ H a = some (T2 f)
inductive Nice (H0 : Hp) (a : Addr) : HO -> Prop where
 | lst {xs : List V} (h : H0 a = none) : Nice H0 a (.lst xs)
 | tup {xs : List V} : Nice H0 a (.tup xs)
 | ins {C dx : Addr} {fs : List (Str × V)} (h : fs.lookup (Str.ofString "parts") = none) : Nice H0 a (.ins C dx fs)
def Kp (H0 H H' : Hp) : Prop := ∀ a o, H a = some o -> Nice H0 a o -> H' a = some o
theorem kpS {H0 H H' : Hp} (s : Same H H') : Kp H0 H H' := fun a o h _ => s a o h
theorem kpD {H0 H H1 : Hp} {D : Addr} {xs ys : List V} (s : Same H H1) (h0 : H0 D ≠ none) (h : H D = some (.lst xs)) : Kp H0 H (L2.upd H1 D (.lst ys)) := fun a o e n => by
 have : a ≠ D := fun z => by
  subst z
  rw [h] at e
  cases e
  cases n with
  | lst z => exact h0 z
 rw [upd_ne this]; exact s _ _ e
theorem PtAt.kt {H H' : Hp} {r : Addr} {p : Prt} (h : PtAt H r p) (k : ∀ a xs, H a = some (.tup xs) -> H' a = some (.tup xs)) : PtAt H' r p := by
 match p, h with
 | .cho f l, ⟨a, b, h1, h2, h3⟩ => exact ⟨a, b, k _ _ h1, k _ _ h2, k _ _ h3⟩
 | .wei f, ⟨a, h1, h2⟩ => exact ⟨a, k _ _ h1, k _ _ h2⟩
 | .pow f, ⟨a, h1, h2⟩ => exact ⟨a, k _ _ h1, k _ _ h2⟩
 | .gro f, ⟨a, h1, h2⟩ => exact ⟨a, k _ _ h1, k _ _ h2⟩
theorem PtAt.on {H H' : Hp} {r : Addr} {p : Prt} (h : PtAt H r p) (s : Same H H') : PtAt H' r p := h.kt fun a xs e => s a _ e
theorem PcAt.kp {K : PySem.W.Frag} {mg : Str -> Option Value} {T : Tx K mg} {H0 H H' : Hp} {r : Addr} {p : Prt} (h : PcAt T H0 H r p) (k : Kp H0 H H') : PcAt T H0 H' r p := by
 match p, h with
 | .cho f l, ⟨dx, a, L, b, t, h1, h2, h3, h4, h5, h6⟩ => exact ⟨dx, a, L, b, t, k _ _ h1 (.ins rfl), k _ _ h2 .tup, h3, k _ _ h4 (.lst h3), k _ _ h5 .tup, k _ _ h6 .tup⟩
 | .wei f, ⟨dx, a, h1, h2⟩ => exact ⟨dx, a, k _ _ h1 (.ins rfl), k _ _ h2 .tup⟩
 | .pow f, ⟨dx, a, h1, h2⟩ => exact ⟨dx, a, k _ _ h1 (.ins rfl), k _ _ h2 .tup⟩
 | .gro f, ⟨dx, a, h1, h2⟩ => exact ⟨dx, a, k _ _ h1 (.ins rfl), k _ _ h2 .tup⟩
theorem PcAt.fr {K : PySem.W.Frag} {mg : Str -> Option Value} {T : Tx K mg} {H00 H0 H : Hp} {r : Addr} {p : Prt} (h : PcAt T H0 H r p) (s : ∀ y, H0 y = none -> H00 y = none) : PcAt T H00 H r p := by
 match p, h with
 | .cho f l, ⟨dx, a, L, b, t, h1, h2, h3, h4⟩ => exact ⟨dx, a, L, b, t, h1, h2, s _ h3, h4⟩
 | .wei f, h => exact h
 | .pow f, h => exact h
 | .gro f, h => exact h
theorem PcAt.from {K : PySem.W.Frag} {mg : Str -> Option Value} {T : Tx K mg} {H00 H0 H : Hp} {r : Addr} {p : Prt} (h : PcAt T H0 H r p) (s : Same H00 H0) : PcAt T H00 H r p := h.fr fun y e => s.free e
def mkP {K : PySem.W.Frag} {mg : Str -> Option Value} (T : Tx K mg) (H : Hp) (Q : VK) (p : Prt) : Prop := ∀ (x : Addr) (H' : Hp), Same H H' -> PcAt T H H' x p -> Q (.ref x) H'
def spPiece {K : PySem.W.Frag} {mg : Str -> Option Value} (T : Tx K mg) : Sp := fun vs H Q _ => ∃ (r : Addr) (p : Prt), vs = [.ref r] ∧ PtAt H r p ∧ PrtOk p ∧ mkP T H Q p
theorem mkP.on {K : PySem.W.Frag} {mg : Str -> Option Value} {T : Tx K mg} {H H1 : Hp} {Q : VK} {p : Prt} (k : mkP T H Q p) (s : Same H H1) : mkP T H1 Q p := fun x H' s' h => k x H' (s.trans s') (h.from s)
theorem same_new {H : Hp} {x dx : Addr} {o u : HO} (hx : H x = none) (hd : H dx = none) : Same H (L2.upd (L2.upd H dx u) x o) := fun b v e => by rw [upd_ne (ne_of_none e hx), upd_ne (ne_of_none e hd)]; exact e
theorem mk_cho {K : PySem.W.Frag} {mg : Str -> Option Value} {T : Tx K mg} {H : Hp} {Q : VK} {E : XK} {a b : Addr} {h l : Int × Int × Int} (ha : H a = some (T3 h)) (hb : H b = some (T3 l)) (k : mkP T H Q (.cho h l)) (x dx : Addr) (hx : H x = none) (hd : H dx = none) (_ : dx ≠ x) :
  spCInit K T.c_Choose [.ref x, .ref a, .ref b] (L2.upd (L2.upd H dx (.own x)) x (.ins T.c_Choose dx [])) (fun v H2 => v = V.non ∧ Q (.ref x) H2) E := by
 have s1 : Same H (L2.upd (L2.upd H dx (.own x)) x (.ins T.c_Choose dx [])) := same_new hx hd
 refine ⟨x, dx, a, b, h.1, h.2.1, h.2.2, l.1, l.2.1, l.2.2, rfl, upd_same, SqT.of (s1 _ _ ha), SqT.of (s1 _ _ hb), fun L t H' s2 nL nt ex eL et => ⟨rfl, ?_⟩⟩
 have s3 : Same H H' := fun y o e => s2 y o (ne_of_none e hx) (s1 y o e)
 exact k x H' s3 ⟨dx, a, L, b, t, ex, s3 _ _ ha, s1.free nL, eL, s3 _ _ hb, et⟩
theorem mk_wei {K : PySem.W.Frag} {mg : Str -> Option Value} {T : Tx K mg} {H : Hp} {Q : VK} {E : XK} {a : Addr} {f : Int × Int × Int} (ha : H a = some (T3 f)) (k : mkP T H Q (.wei f)) (x dx : Addr) (hx : H x = none) (hd : H dx = none) (_ : dx ≠ x) :
  spWInit T.c_Weight [.ref x, .ref a] (L2.upd (L2.upd H dx (.own x)) x (.ins T.c_Weight dx [])) (fun v H2 => v = V.non ∧ Q (.ref x) H2) E := by
 have s1 : Same H (L2.upd (L2.upd H dx (.own x)) x (.ins T.c_Weight dx [])) := same_new hx hd
 have s3 : Same H (L2.upd (L2.upd (L2.upd H dx (.own x)) x (.ins T.c_Weight dx [])) x (.ins T.c_Weight dx (wgtF a))) := fun y o e => by rw [upd_ne (ne_of_none e hx)]; exact s1 y o e
 exact ⟨x, dx, a, rfl, upd_same, rfl, k x _ s3 ⟨dx, a, upd_same, s3 _ _ ha⟩⟩
theorem mk_pow {K : PySem.W.Frag} {mg : Str -> Option Value} {T : Tx K mg} {H : Hp} {Q : VK} {E : XK} {a : Addr} {f : Int × Int} (ha : H a = some (T2 f)) (k : mkP T H Q (.pow f)) (x dx : Addr) (hx : H x = none) (hd : H dx = none) (_ : dx ≠ x) :
  spPInit T.c_Power [.ref x, .ref a] (L2.upd (L2.upd H dx (.own x)) x (.ins T.c_Power dx [])) (fun v H2 => v = V.non ∧ Q (.ref x) H2) E := by
 have s1 : Same H (L2.upd (L2.upd H dx (.own x)) x (.ins T.c_Power dx [])) := same_new hx hd
 have s3 : Same H (L2.upd (L2.upd (L2.upd H dx (.own x)) x (.ins T.c_Power dx [])) x (.ins T.c_Power dx (powF a))) := fun y o e => by rw [upd_ne (ne_of_none e hx)]; exact s1 y o e
 exact ⟨x, dx, a, rfl, upd_same, rfl, k x _ s3 ⟨dx, a, upd_same, s3 _ _ ha⟩⟩
theorem mk_gro {K : PySem.W.Frag} {mg : Str -> Option Value} {T : Tx K mg} {H : Hp} {Q : VK} {E : XK} {a : Addr} {f : Int × Int} (ha : H a = some (T2 f)) (k : mkP T H Q (.gro f)) (x dx : Addr) (hx : H x = none) (hd : H dx = none) (_ : dx ≠ x) :
  spPInit T.c_Growth [.ref x, .ref a] (L2.upd (L2.upd H dx (.own x)) x (.ins T.c_Growth dx [])) (fun v H2 => v = V.non ∧ Q (.ref x) H2) E := by
 have s1 : Same H (L2.upd (L2.upd H dx (.own x)) x (.ins T.c_Growth dx [])) := same_new hx hd
 have s3 : Same H (L2.upd (L2.upd (L2.upd H dx (.own x)) x (.ins T.c_Growth dx [])) x (.ins T.c_Growth dx (powF a))) := fun y o e => by rw [upd_ne (ne_of_none e hx)]; exact s1 y o e
 exact ⟨x, dx, a, rfl, upd_same, rfl, k x _ s3 ⟨dx, a, upd_same, s3 _ _ ha⟩⟩
theorem ok_piece_of {P : Program} {w : World} {K : PySem.W.Frag} {mg : Str -> Option Value} {base : Heap} (T : Tx K mg) : FnOk P w K mg base (CXE P w) 4 T.a_piece_of T.fd_piece_of ["part"] (spPiece T) := by
 refine T.F_piece_of.okE sc_piece_of (fun vs H Q E h => ?_) (fun cdv A outer s H vs Q E hr h => ?_)
 ·obtain ⟨r, p, rfl, _⟩ := h
  rfl
 obtain ⟨r, p, rfl, hp, ho, k⟩ := h
 refine ⟨_, ((pss_cons (ps_if (PT.nox (pt_cmpR op_eq (pe_ix ix_tup (pv 0) pe_int (fun _ _ => rfl)) pe_str (nomark _))) (pss_cons (ps_expr (pe_call (FnOk.mono (ok_check_choose T) (by decide)) hr rfl T.m_check_choose T.F_check_choose.kp T.b_check_choose .nil passE (pa_cons (pe_ix ix_tup (pv 0) pe_int (fun _ _ => rfl)) (pa_cons (pe_ix ix_tup (pv 0) pe_int (fun _ _ => rfl)) pa_nil))))
  (pss_one (PS.nox (ps_ret (pe_make T.mk_Choose (FnOk.mono (ok_Choose___init__ T) (by decide)) hr rfl T.mc_Choose T.b_Choose___init__ .nil pass0 (pa_cons (pe_ix ix_tup (pv 0) pe_int (fun _ _ => rfl)) (pa_cons (pe_ix ix_tup (pv 0) pe_int (fun _ _ => rfl)) pa_nil))))))) pss_nil)
  (pss_cons (PS.nox (ps_if (pt_cmpR op_eq (pe_ix ix_tup (pv 0) pe_int (fun _ _ => rfl)) pe_str (nomark _)) (pss_one (ps_ret (pe_make T.mk_Weight (FnOk.mono (ok_Weight___init__ T) (by decide)) hr rfl T.mc_Weight T.b_Weight___init__ .nil pass0 (pa_cons (pe_ix ix_tup (pv 0) pe_int (fun _ _ => rfl)) pa_nil)))) pss_nil))
  (pss_cons (ps_if (PT.nox (pt_cmpR op_eq (pe_ix ix_tup (pv 0) pe_int (fun _ _ => rfl)) pe_str (nomark _))) (pss_cons (ps_expr (pe_call (FnOk.mono (ok_check_base T) (by decide)) hr rfl T.m_check_base T.F_check_base.kp T.b_check_base .nil passE (pa_cons (pe_ix ix_tup (pv 0) pe_int (fun _ _ => rfl)) pa_nil)))
  (pss_one (PS.nox (ps_ret (pe_make T.mk_Power (FnOk.mono (ok_Power___init__ T) (by decide)) hr rfl T.mc_Power T.b_Power___init__ .nil pass0 (pa_cons (pe_ix ix_tup (pv 0) pe_int (fun _ _ => rfl)) pa_nil)))))) pss_nil)
  (pss_cons (ps_if (PT.nox (pt_cmpR op_eq (pe_ix ix_tup (pv 0) pe_int (fun _ _ => rfl)) pe_str (nomark _))) (pss_cons (ps_expr (pe_call (FnOk.mono (ok_check_base T) (by decide)) hr rfl T.m_check_base T.F_check_base.kp T.b_check_base .nil passE (pa_cons (pe_ix ix_tup (pv 0) pe_int (fun _ _ => rfl)) pa_nil)))
  (pss_one (PS.nox (ps_ret (pe_make T.mk_Growth (FnOk.mono (ok_Growth___init__ T) (by decide)) hr rfl T.mc_Growth T.b_Growth___init__ .nil pass0 (pa_cons (pe_ix ix_tup (pv 0) pe_int (fun _ _ => rfl)) pa_nil)))))) pss_nil)
  (pss_one (ps_raise rfl throwE rfl T.mc_NoTerm T.xc_NoTerm (pa_cons pe_str pa_nil)))))))), ?_⟩
 match p, hp, ho, k with
 | .cho h l, ⟨a, b, hr', ha, hb⟩, ho, k =>
  dsimp only [a_seq]
  k_typeOf
  refine ⟨_, SqT.of hr', _, rfl, ?_⟩
  k_units
  exact ⟨_, SqT.of hr', _, rfl, _, SqT.of hr', _, rfl, a, b, h, l, rfl, SqT.of ha, SqT.of hb, ho, fun H1 s1 => ⟨_, SqT.of (s1 _ _ hr'), _, rfl, _, SqT.of (s1 _ _ hr'), _, rfl, mk_cho (s1 _ _ ha) (s1 _ _ hb) (k.on s1)⟩⟩
 | .wei f, ⟨a, hr', ha⟩, ho, k =>
  dsimp only [a_seq]
  k_typeOf
  refine ⟨_, SqT.of hr', _, rfl, ?_⟩
  k_units
  rw [if_neg (by decide)]
  refine ⟨_, SqT.of hr', _, rfl, ?_⟩
  k_units
  exact ⟨_, SqT.of hr', _, rfl, mk_wei ha k⟩
 | .pow f, ⟨a, hr', ha⟩, ho, k =>
  dsimp only [a_seq]
  k_typeOf
  refine ⟨_, SqT.of hr', _, rfl, ?_⟩
  k_units
  rw [if_neg (by decide)]
  refine ⟨_, SqT.of hr', _, rfl, ?_⟩
  k_units
  rw [if_neg (by decide)]
  refine ⟨_, SqT.of hr', _, rfl, ?_⟩
  k_units
  exact ⟨_, SqT.of hr', _, rfl, a, f, rfl, SqT.of ha, ho.2.1, _, SqT.of hr', _, rfl, mk_pow ha k⟩
 | .gro f, ⟨a, hr', ha⟩, ho, k =>
  dsimp only [a_seq]
  k_typeOf
  refine ⟨_, SqT.of hr', _, rfl, ?_⟩
  k_units
  rw [if_neg (by decide)]
  refine ⟨_, SqT.of hr', _, rfl, ?_⟩
  k_units
  rw [if_neg (by decide)]
  refine ⟨_, SqT.of hr', _, rfl, ?_⟩
  k_units
  rw [if_neg (by decide)]
  refine ⟨_, SqT.of hr', _, rfl, ?_⟩
  k_units
  exact ⟨_, SqT.of hr', _, rfl, a, f, rfl, SqT.of ha, ho.2.1, _, SqT.of hr', _, rfl, mk_gro ha k⟩
structure Pts (H : Hp) (rs : List Addr) (ps : List Prt) : Prop where
 len : rs.length = ps.length
 get : ∀ (i : Nat) (r : Addr) (p : Prt), rs[i]? = some r -> ps[i]? = some p -> PtAt H r p
structure Pcs {K : PySem.W.Frag} {mg : Str -> Option Value} (T : Tx K mg) (H0 H : Hp) (qs : List Addr) (ps : List Prt) : Prop where
 len : qs.length = ps.length
 get : ∀ (i : Nat) (q : Addr) (p : Prt), qs[i]? = some q -> ps[i]? = some p -> PcAt T H0 H q p
theorem Pts.kt {H H' : Hp} {rs : List Addr} {ps : List Prt} (h : Pts H rs ps) (k : ∀ a xs, H a = some (.tup xs) -> H' a = some (.tup xs)) : Pts H' rs ps := ⟨h.len, fun i r p e1 e2 => (h.get i r p e1 e2).kt k⟩
theorem Pts.on {H H' : Hp} {rs : List Addr} {ps : List Prt} (h : Pts H rs ps) (s : Same H H') : Pts H' rs ps := h.kt fun a xs e => s a _ e
theorem Pcs.kp {K : PySem.W.Frag} {mg : Str -> Option Value} {T : Tx K mg} {H0 H H' : Hp} {qs : List Addr} {ps : List Prt} (h : Pcs T H0 H qs ps) (k : Kp H0 H H') : Pcs T H0 H' qs ps := ⟨h.len, fun i r p e1 e2 => (h.get i r p e1 e2).kp k⟩
theorem Pcs.from {K : PySem.W.Frag} {mg : Str -> Option Value} {T : Tx K mg} {H00 H0 H : Hp} {qs : List Addr} {ps : List Prt} (h : Pcs T H0 H qs ps) (s : ∀ y, H0 y = none -> H00 y = none) : Pcs T H00 H qs ps := ⟨h.len, fun i r p e1 e2 => (h.get i r p e1 e2).fr s⟩
theorem Pcs.snoc {K : PySem.W.Frag} {mg : Str -> Option Value} {T : Tx K mg} {H0 H : Hp} {qs : List Addr} {ps : List Prt} {q : Addr} {p : Prt} (h : Pcs T H0 H qs ps) (a : PcAt T H0 H q p) : Pcs T H0 H (qs ++ [q]) (ps ++ [p]) := by
 refine ⟨by simp [h.len], fun i r p' e1 e2 => ?_⟩
 by_cases hi : i < qs.length
 ·rw [List.getElem?_append_left hi] at e1
  rw [List.getElem?_append_left (by rw [← h.len]; exact hi)] at e2
  exact h.get i r p' e1 e2
 ·rw [List.getElem?_append_right (by omega)] at e1
  rw [List.getElem?_append_right (by have := h.len; omega), ← h.len] at e2
  obtain ⟨j, hj⟩ : ∃ j, i - qs.length = j := ⟨_, rfl⟩
  rw [hj] at e1 e2
  cases j with
  | zero => cases Option.some.inj e1; cases Option.some.inj e2; exact a
  | succ j => simp at e1
theorem Pts.snoc {H : Hp} {rs : List Addr} {ps : List Prt} {r : Addr} {p : Prt} (h : Pts H rs ps) (a : PtAt H r p) : Pts H (rs ++ [r]) (ps ++ [p]) := by
 refine ⟨by simp [h.len], fun i r' p' e1 e2 => ?_⟩
 by_cases hi : i < rs.length
 ·rw [List.getElem?_append_left hi] at e1
  rw [List.getElem?_append_left (by rw [← h.len]; exact hi)] at e2
  exact h.get i r' p' e1 e2
 ·rw [List.getElem?_append_right (by omega)] at e1
  rw [List.getElem?_append_right (by have := h.len; omega), ← h.len] at e2
  obtain ⟨j, hj⟩ : ∃ j, i - rs.length = j := ⟨_, rfl⟩
  rw [hj] at e1 e2
  cases j with
  | zero => cases Option.some.inj e1; cases Option.some.inj e2; exact a
  | succ j => simp at e1
def trmF (P1 P2 : Addr) : List (Str × V) := [(Str.ofString "parts", .ref P1), (Str.ofString "pieces", .ref P2)]
def TermAt {K : PySem.W.Frag} {mg : Str -> Option Value} (T : Tx K mg) (H0 H : Hp) (x : Addr) (rs : List Addr) (ps : List Prt) : Prop := ∃ dx P1 P2 qs, H x = some (.ins T.c_Term dx (trmF P1 P2)) ∧ H0 P1 = none ∧ H P1 = some (.lst (rs.map V.ref)) ∧ H0 P2 = none ∧ H P2 = some (.lst (qs.map V.ref)) ∧ Pcs T H0 H qs ps
theorem TermAt.kp {K : PySem.W.Frag} {mg : Str -> Option Value} {T : Tx K mg} {H0 H H' : Hp} {x : Addr} {rs : List Addr} {ps : List Prt} (h : TermAt T H0 H x rs ps) (k : Kp H0 H H') (kx : ∀ C dx fs, H x = some (.ins C dx fs) -> H' x = some (.ins C dx fs)) : TermAt T H0 H' x rs ps := by
 obtain ⟨dx, P1, P2, qs, h1, h2, h3, h4, h5, h6⟩ := h
 exact ⟨dx, P1, P2, qs, kx _ _ _ h1, h2, k _ _ h3 (.lst h2), h4, k _ _ h5 (.lst h4), h6.kp k⟩
theorem TermAt.on {K : PySem.W.Frag} {mg : Str -> Option Value} {T : Tx K mg} {H0 H H' : Hp} {x : Addr} {rs : List Addr} {ps : List Prt} (h : TermAt T H0 H x rs ps) (s : Same H H') : TermAt T H0 H' x rs ps := h.kp (kpS s) fun C dx fs e => s _ _ e
def spTInit {K : PySem.W.Frag} {mg : Str -> Option Value} (T : Tx K mg) : Sp := fun vs H Q _ => ∃ (x dx A : Addr) (rs : List Addr) (ps : List Prt), vs = [.ref x, .ref A] ∧ H x = some (.ins T.c_Term dx []) ∧ H A = some (.lst (rs.map V.ref)) ∧ Pts H rs ps ∧ (∀ p ∈ ps, PrtOk p) ∧ 1 <= ps.length ∧ ps.length <= 6 ∧
 ∀ (P1 P2 : Addr) (qs : List Addr) (H' : Hp), (∀ y o, y ≠ x -> H y = some o -> H' y = some o) -> H P1 = none -> H P2 = none -> H' x = some (.ins T.c_Term dx (trmF P1 P2)) -> H' P1 = some (.lst (rs.map V.ref)) -> H' P2 = some (.lst (qs.map V.ref)) -> Pcs T H H' qs ps -> Q .non H'
theorem ok_Term___init__ {P : Program} {w : World} {K : PySem.W.Frag} {mg : Str -> Option Value} {base : Heap} (T : Tx K mg) : FnOk P w K mg base (CXE P w) 5 T.a_Term___init__ T.fd_Term___init__ ["self", "parts"] (spTInit T) := by
 refine T.F_Term___init__.okE sc_Term___init__ (fun vs H Q E h => ?_) (fun cdv A outer s H vs Q E hr h => ?_)
 ·obtain ⟨x, dx, A, rs, ps, rfl, _⟩ := h
  rfl
 obtain ⟨x, dx, A, rs, ps, rfl, hx, hA, hP, hO, l1, l6, k⟩ := h
 refine ⟨_, ((pss_cons (ps_if (PT.nox (PW.pt (pw_or (pt_cmpR op_eq (pe_callB call_len_seq rfl T.z_len bt_len (pa_cons (pv 1) pa_nil)) pe_int (nomark _)) (pw_or1 (pt_cmpR op_gt (pe_callB call_len_seq rfl T.z_len bt_len (pa_cons (pv 1) pa_nil)) (pe_glob (v := .int 6) rfl T.g_MOST_PARTS.2 ⟨_, rfl⟩) (nomark _)))))) pss_never pss_nil)
  (pss_cons (PS.nox (ps_fld (pv 0) (pe_callTy call_list_of rfl T.z_list bt_list (pa_cons (pv 1) pa_nil)) rfl))
  (pss_one (ps_fld (pv 0) (pe_lcomp rfl (blkok rfl sub_nil fv_nil) (pi_list (pv 1)) (fun _ _ _ _ => (pe_call (FnOk.mono (ok_piece_of T) (by decide)) hr rfl T.m_piece_of T.F_piece_of.kp T.b_piece_of .nil passF (pa_cons (pv 0) pa_nil)))) rfl))))), ?_⟩
 k_units
 have lr : (rs.map V.ref).length = ps.length := by rw [List.length_map]; exact hP.len
 refine ⟨_, .inl (SqL.of hA), ?_⟩
 rw [if_neg (by rw [lr]; omega)]
 refine ⟨_, .inl (SqL.of hA), ?_⟩
 rw [if_neg (by rw [lr]; omega)]
 refine ⟨_, .inl (SqL.of hA), fun P1 nP1 => ?_⟩
 have u1 := same_upd nP1 (.lst (rs.map V.ref))
 refine ⟨T.c_Term, dx, [], u1 _ _ hx, T.cl_Term, T.na_Term_parts, by decide, ?_⟩
 have pf1 : putF (Str.ofString "parts") (V.ref P1) [] = [(Str.ofString "parts", V.ref P1)] := rfl
 rw [pf1]
 have xA : A ≠ x := ne_of hA hx (fun z => nomatch z)
 have xP : P1 ≠ x := fun z => by rw [z, hx] at nP1; cases nP1
 obtain ⟨G, hG⟩ : ∃ G, G = L2.upd (L2.upd H P1 (.lst (rs.map V.ref))) x (.ins T.c_Term dx [(Str.ofString "parts", V.ref P1)]) := ⟨_, rfl⟩
 rw [← hG]
 have gx : G x = some (.ins T.c_Term dx [(Str.ofString "parts", V.ref P1)]) := by rw [hG]; exact upd_same
 have gk : ∀ y o, y ≠ x -> H y = some o -> G y = some o := fun y o hy e => by rw [hG, upd_ne hy]; exact u1 _ _ e
 have gP : G P1 = some (.lst (rs.map V.ref)) := by rw [hG, upd_ne xP, upd_same]
 have gn : ∀ y, G y = none -> H y = none := fun y e => by
  by_cases hy : y = x
  ·rw [hy, gx] at e; cases e
  ·rw [hG, upd_ne hy] at e; exact u1.free e
 have gPt : Pts G rs ps := hP.kt fun a xs e => gk a _ (ne_of e hx (fun z => nomatch z)) e
 clear hG
 refine ⟨⟨_, SqL.of (gk _ _ xA hA)⟩, fun D nD => ?_⟩
 obtain ⟨G1, hG1⟩ : ∃ G1, G1 = L2.upd G D (.lst []) := ⟨_, rfl⟩
 have g1D : G1 D = some (.lst []) := by rw [hG1]; exact upd_same
 have g1n : ∀ y, G1 y = none -> G y = none := fun y e => by rw [hG1] at e; exact (upd_none e).2
 have xD : D ≠ x := fun z => by rw [z, gx] at nD; cases nD
 obtain ⟨Pc, hPc⟩ : ∃ Pc : Nat -> Hp -> Prop, ∀ j Hx, Pc j Hx ↔ ∃ qs : List Addr, Hx D = some (.lst (qs.map V.ref)) ∧ Pcs T G1 Hx qs (ps.take j) ∧ Same G Hx := ⟨_, fun _ _ => Iff.rfl⟩
 refine cl_list (xs := rs.map V.ref) Pc ((hPc _ _).mpr ⟨[], upd_same, ⟨by simp, fun i q p e => by simp at e⟩, same_upd nD _⟩) (fun i Hx _ z => by obtain ⟨_, _, _, z⟩ := (hPc i Hx).mp z; exact z.seq (SqL.of (gk _ _ xA hA))) ?_ ?_
 ·intro j v Hx hv hc
  obtain ⟨qs, k1, k2, k3⟩ := (hPc _ _).mp hc
  rw [List.getElem?_map] at hv
  obtain ⟨r, hr1, rfl⟩ := Option.map_eq_some_iff.mp hv
  have hj := (List.getElem?_eq_some_iff.mp hr1).1
  have hj2 : j < ps.length := by have := hP.len; omega
  (iterate 3 (k_units; (try simp only [bst, Option.getD_some])); k_units)
  refine ⟨r, ps[j], rfl, (gPt.get j r _ hr1 (List.getElem?_eq_getElem hj2)).on k3, hO _ (List.getElem_mem hj2), fun q H' s' hq => ?_⟩
  have lq := k2.len
  rw [List.length_take] at lq
  refine ⟨_, s' _ _ k1, by rw [List.length_map]; exact small1000 (by omega), (hPc _ _).mpr ⟨qs ++ [q], by rw [upd_same]; simp, ?_, (k3.trans s').more nD⟩⟩
  have kq : Kp G1 Hx (L2.upd H' D (.lst (qs.map V.ref ++ [V.ref q]))) := kpD s' (by rw [g1D]; simp) k1
  rw [← List.take_append_getElem hj2]
  refine (k2.kp kq).snoc ?_
  have hq1 : PcAt T Hx (L2.upd H' D (.lst (qs.map V.ref ++ [V.ref q]))) q ps[j] := hq.kp (kpD (Same.refl H') (by rw [k1]; simp) (s' _ _ k1))
  exact hq1.fr fun y e => by
   by_cases hy : y = D
   ·rw [hy, k1] at e; cases e
   ·rw [hG1, upd_ne hy]; exact k3.free e
 intro Hx hc
 obtain ⟨qs, k1, k2, k3⟩ := (hPc _ _).mp hc
 rw [List.length_map, hP.len, List.take_of_length_le (Nat.le_refl _)] at k2
 refine ⟨T.c_Term, dx, _, k3 _ _ gx, T.cl_Term, T.na_Term_pieces, by show 1 < 1000; decide, ?_⟩
 have pf2 : putF (Str.ofString "pieces") (V.ref D) [(Str.ofString "parts", V.ref P1)] = trmF P1 D := rfl
 rw [pf2]
 refine k P1 D qs _ (fun y o hy e => by rw [upd_ne hy]; exact k3 _ _ (gk y o hy e)) nP1 (gn _ nD) upd_same (by rw [upd_ne xP]; exact k3 _ _ gP) (by rw [upd_ne xD]; exact k1) ?_
 refine (k2.kp fun a o e n => ?_).from fun y e => gn _ (g1n _ e)
 have : a ≠ x := fun z => by
  subst z
  rw [k3 _ _ gx] at e
  cases e
  cases n with
  | ins z =>
   have z' : some (V.ref P1) = none := z
   cases z'
 rw [upd_ne this]; exact e
def spTold {K : PySem.W.Frag} {mg : Str -> Option Value} (T : Tx K mg) : Sp := fun vs H Q _ => ∃ (x : Addr) (H0 : Hp) (rs : List Addr) (ps : List Prt), vs = [.ref x] ∧ TermAt T H0 H x rs ps ∧ newL H Q (rs.map V.ref)
theorem ok_Term_told {P : Program} {w : World} {K : PySem.W.Frag} {mg : Str -> Option Value} {base : Heap} (T : Tx K mg) : FnOk P w K mg base CX0 1 T.a_Term_told T.fd_Term_told ["self"] (spTold T) := by
 refine T.F_Term_told.ok sc_Term_told (fun vs H Q E h => ?_) (fun cdv A outer s H vs Q E hr h => ?_)
 ·obtain ⟨x, H0, rs, ps, rfl, _⟩ := h
  rfl
 obtain ⟨x, H0, rs, ps, rfl, ⟨dx, P1, P2, qs, h1, h2, h3, h4, h5, h6⟩, k⟩ := h
 refine ⟨_, ((pss_one (ps_ret (pe_callTy call_list_of rfl T.z_list bt_list (pa_cons (pe_fld (pv 0) rfl) pa_nil))))), ?_⟩
 k_units
 exact ⟨_, _, _, h1, T.cl_Term, T.na_Term_parts, _, rfl, P1, rfl, _, .inl (SqL.of h3), fun r nr => k r _ (same_upd nr _) nr upd_same⟩
abbrev DD (H : Hp) (a : Addr) (f : PD) : Prop := Rd H a (.dT (dz f))
def newD (H : Hp) (Q : VK) (g : PD) : Prop := ∀ (p : Addr) (H' : Hp), Same H H' -> H p = none -> H' p = some (.dT (dz g)) -> Q (.ref p) H'
theorem DD.same {H H' : Hp} {a : Addr} {f : PD} (h : DD H a f) (s : Same H H') : DD H' a f := by
 rcases h with e | ⟨o, e⟩
 ·exact .inl (s _ _ e)
 ·exact .inr ⟨o, s _ _ e⟩
theorem same_bk {H H' : Hp} {a : Addr} {u : HO} (s : Same (upd H a u) H') : Same H (bkH H a H') := fun b o e => by
 by_cases h : b = a
 ·subst h; rw [bk_at]; exact e
 ·rw [bk_ne h]; exact s b o (by rw [upd_ne h]; exact e)
theorem same_upd2 {H H' : Hp} {a : Addr} {u : HO} (s : Same H H') : Same (upd H a u) (upd H' a u) := fun b o e => by
 by_cases h : b = a
 ·subst h; rw [upd_same] at e ⊢; exact e
 ·rw [upd_ne h] at e ⊢; exact s b o e
theorem rd_one {H : Hp} {a : Addr} {k l : List (List Key × V)} (h : Rd H a (.dT k)) (h' : Rd H a (.dT l)) : k = l := by
 rcases h with e | ⟨o, e⟩ <;> rcases h' with e' | ⟨o', e'⟩ <;> rw [e] at e' <;> cases e' <;> rfl
theorem DD.frz {H : Hp} {a b : Addr} {f g : PD} {o : Obj} (ha : DD H a f) (hb : DD H b g) : DD (upd H a (.frz o (.dT (dz f)))) b g := by
 by_cases h : b = a
 ·subst h
  refine .inr ⟨o, ?_⟩
  rw [upd_same, rd_one ha hb]
 ·rcases hb with e | ⟨o', e⟩
  ·exact .inl (by rw [upd_ne h]; exact e)
  ·exact .inr ⟨o', by rw [upd_ne h]; exact e⟩
theorem DD.some {H : Hp} {a : Addr} {f : PD} (h : DD H a f) : ∃ o, H a = some o := by
 rcases h with e | ⟨o, e⟩
 ·exact ⟨_, e⟩
 ·exact ⟨_, e⟩
theorem dz_get {f : PD} {i : Nat} {k : List Key} {x : V} (h : (dz f)[i]? = some (k, x)) : ∃ p : P2 × Int, f[i]? = some p ∧ k = kz p.1 ∧ x = V.int p.2 := by
 unfold dz at h
 rw [List.getElem?_map] at h
 obtain ⟨p, hp, e⟩ := Option.map_eq_some_iff.mp h
 injection e with e1 e2
 exact ⟨p, hp, e1.symm, e2.symm⟩
theorem getD_dz (f : PD) (k : P2) : (valV (dz f) (kz k)).getD (V.int 0) = V.int (cfD f k) := by
 rw [valV_dz]
 unfold cfD
 cases gtD f k <;> rfl
theorem nzD_snoc (f : PD) (x : P2 × Int) : nzD (f ++ [x]) = if x.2 = 0 then nzD f else nzD f ++ [x] := by
 unfold nzD
 rw [List.filter_append, List.filter_cons, List.filter_nil]
 by_cases h : x.2 = 0
 ·rw [if_pos h, if_neg (by simp [h]), List.append_nil]
 ·rw [if_neg h, if_pos (by simp [h])]
theorem take_snoc {f : PD} {i : Nat} {p : P2 × Int} (h : f[i]? = some p) : f.take (i + 1) = f.take i ++ [p] := by rw [List.take_succ, h]; rfl
theorem put_map (ps : List (Addr × List Key × Addr × V)) : ∀ a : List (List Key × V), (ps.map (fun x => (x.2.1, x.2.2.2))).foldl (fun a x => putK a x.1 x.2) a = ps.foldl (fun a x => putK a x.2.1 x.2.2.2) a := by
 induction ps with
 | nil => intro a; rfl
 | cons x ps ih => intro a; rw [List.map_cons, List.foldl_cons, List.foldl_cons, ih]
theorem put_dz (g : PD) : ∀ a : PD, (dz g).foldl (fun a x => putK a x.1 x.2) (dz a) = dz (g.foldl (fun a x => ptD a x.1 x.2) a) := by
 induction g with
 | nil => intro a; rfl
 | cons x g ih =>
  intro a
  show (dz g).foldl (fun a x => putK a x.1 x.2) (putK (dz a) (kz x.1) (V.int x.2)) = _
  rw [putK_dz, ih]; rfl
theorem same_bk2 {H G H' : Hp} {a : Addr} {u : HO} (s : Same (upd H a u) H') (g : Same H G) : Same H (bkH G a H') := fun b o e => by
 by_cases h : b = a
 ·subst h; rw [bk_at]; exact g b o e
 ·rw [bk_ne h]; exact s b o (by rw [upd_ne h]; exact e)
def spBare : Sp := fun vs H Q _ => ∃ (a : Addr) (f : PD), vs = [.ref a] ∧ DD H a f ∧ ndD f ∧ f.length <= 4000 ∧ newD H Q (nzD f)
theorem ok_bare {P : Program} {w : World} {K : PySem.W.Frag} {mg : Str -> Option Value} {base : Heap} (T : Tx K mg) : FnOk P w K mg base CX0 1 T.a_bare T.fd_bare ["pair"] spBare := by
 refine T.F_bare.ok sc_bare (fun vs H Q E h => ?_) (fun cdv A outer s H vs Q E hr h => ?_)
 ·obtain ⟨a, f, rfl, _⟩ := h
  rfl
 obtain ⟨a, f, rfl, ha, nd, lf, q⟩ := h
 refine ⟨_, ((pss_one (ps_ret (pe_callTy (call_dictP rfl (u_le (k := 2) hr.units (by decide))) rfl T.z_dict bt_dict (pa_cons (pe_thaw (pe_lcomp2If rfl (blkok2 rfl sub_nil fv_nil2) (pi_items (pv 0)) (fun _ _ _ _ => (pt_cmpR op_ne (pv 1) pe_int (nomark _))) (fun _ _ _ _ => (pe_tup (pa_cons (pv 0) (pa_cons (pv 1) pa_nil)))))) pa_nil))))), ?_⟩
 k_units
 refine ⟨dz f, ha, fun o tw D nD => ?_⟩
 obtain ⟨oa, ea⟩ := ha.some
 obtain ⟨W, hW⟩ : ∃ W : Nat -> Hp -> Prop, ∀ i H', W i H' ↔ ∃ ps : List (Addr × List Key × Addr × V), H' D = some (.lst (ps.map fun x => V.ref x.1)) ∧ (∀ x ∈ ps, H' x.1 = some (.tup [.ref x.2.2.1, x.2.2.2]) ∧ H' x.2.2.1 = some (.tup (x.2.1.map kV))) ∧ ps.map (fun x => (x.2.1, x.2.2.2)) = dz (nzD (f.take i)) ∧ Same (upd H a (.frz o (.dT (dz f)))) H' := ⟨_, fun _ _ => Iff.rfl⟩
 refine cl_items W ((hW _ _).mpr ⟨[], upd_same, fun _ h => absurd h List.not_mem_nil, rfl, same_upd nD _⟩) (fun i H' _ h => by obtain ⟨_, _, _, _, sS⟩ := (hW _ _).mp h; exact sS _ _ upd_same) (fun i k x p b H' hk hw np hb => ?_) (fun H' hw => ?_)
 ·obtain ⟨ps, eD, hp, em, sS⟩ := (hW _ _).mp hw
  obtain ⟨y, hy, rfl, rfl⟩ := dz_get hk
  have hi := (List.getElem?_eq_some_iff.mp hy).1
  have u1 := same_upd np (.tup [.ref b, V.int y.2])
  (iterate 3 (k_units; (try simp only [bst2])); k_units)
  refine ite2 (fun hne => ⟨by decide, fun t nt => ?_⟩) (fun hz => ?_)
  ·have u2 := same_upd nt (.tup [.ref b, V.int y.2])
   have u12 := u1.trans u2
   have l1 : ps.length <= i := by
    have e := congrArg List.length em
    rw [List.length_map, len_dz] at e
    have h2 := nzD_len (f.take i)
    rw [List.length_take] at h2; omega
   have eD2 := u12 _ _ eD
   refine ⟨_, eD2, by rw [List.length_map]; exact Nat.lt_of_le_of_lt (show _ <= 4000 by omega) (by decide), (hW _ _).mpr ⟨ps ++ [(t, kz y.1, b, V.int y.2)], by rw [upd_same]; simp, fun x hx => ?_, ?_, (sS.trans u12).more nD⟩⟩
   ·have keep : ∀ c xs, upd (upd H' p (.tup [.ref b, V.int y.2])) t (.tup [.ref b, V.int y.2]) c = some (.tup xs) -> upd (upd (upd H' p (.tup [.ref b, V.int y.2])) t (.tup [.ref b, V.int y.2])) D (.lst (ps.map (fun x => V.ref x.1) ++ [V.ref t])) c = some (.tup xs) := fun c xs h => by
     rw [upd_ne (ne_of h eD2 (fun z => nomatch z))]; exact h
    rcases List.mem_append.mp hx with h | h
    ·exact ⟨keep _ _ (u12 _ _ (hp x h).1), keep _ _ (u12 _ _ (hp x h).2)⟩
    ·rw [List.mem_singleton.mp h]
     exact ⟨keep _ _ upd_same, keep _ _ (u12 _ _ hb)⟩
   ·rw [List.map_append, em, take_snoc hy, nzD_snoc, if_neg (by simpa using hne)]
    unfold dz; rw [List.map_append]; rfl
  ·refine (hW _ _).mpr ⟨ps, u1 _ _ eD, fun x hx => ⟨u1 _ _ (hp x hx).1, u1 _ _ (hp x hx).2⟩, ?_, sS.trans u1⟩
   rw [em, take_snoc hy, nzD_snoc, if_pos (by simpa using hz)]
 ·obtain ⟨ps, eD, hp, em, sS⟩ := (hW _ _).mp hw
  rw [len_dz, List.take_length] at em
  have fz := sS _ _ (upd_same (H := H) (a := a) (o := .frz o (.dT (dz f))))
  have sB := same_bk sS
  have nDa : D ≠ a := ne_of eD fz (fun z => nomatch z)
  refine ⟨H, a, o, dz f, tw, fz, D, rfl, ps, by rw [bk_ne nDa]; exact eD, fun x hx => ⟨by rw [bk_ne (ne_of (hp x hx).1 fz (fun z => nomatch z))]; exact (hp x hx).1, by rw [bk_ne (ne_of (hp x hx).2 fz (fun z => nomatch z))]; exact (hp x hx).2⟩, fun p np => ?_⟩
  have e2 : L2.putAll ps = dz (nzD f) := by
   unfold L2.putAll
   rw [← put_map, em]
   have e3 := put_dz (nzD f) []
   rw [put_all (ndD_nz nd) [] fun x _ => gtD_nil _] at e3
   exact e3
  rw [e2]
  exact q p _ (sB.trans (same_upd np _)) (sB.free np) upd_same
theorem prD_len (f g : PD) : (prD f g).length = f.length * g.length := by
 induction f with
 | nil => simp [prD]
 | cons x f ih =>
  show (rowD x g ++ prD f g).length = _
  rw [List.length_append, ih, List.length_cons, Nat.add_mul]
  show (g.map _).length + _ = _
  rw [List.length_map]; omega
def spTimes : Sp := fun vs H Q _ => ∃ (a b : Addr) (f g : PD) (d e A B : Nat), vs = [.ref a, .ref b] ∧ DD H a f ∧ DD H b g ∧ PdOk d A f ∧ PdOk e B g ∧ d + e <= 60 ∧ A <= 1000000 ∧ B <= 1000000 ∧ newD H Q (timesD f g)
theorem ok_pair_times {P : Program} {w : World} {K : PySem.W.Frag} {mg : Str -> Option Value} {base : Heap} (T : Tx K mg) : FnOk P w K mg base CX0 2 T.a_pair_times T.fd_pair_times ["one", "other"] spTimes := by
 refine T.F_pair_times.ok sc_pair_times (fun vs H Q E h => ?_) (fun cdv A outer s H vs Q E hr h => ?_)
 ·obtain ⟨a, b, f, g, d, e, A, B, rfl, _⟩ := h
  rfl
 obtain ⟨a, b, f, g, d, e, mA, mB, rfl, ha, hb, pf, pg, hde, lA, lB, q⟩ := h
 have lf : f.length <= 4000 := Nat.le_trans (len_deg pf.nd pf.dg) (Nat.le_trans (Nat.mul_le_mul (show d + 1 <= 61 by omega) (show d + 1 <= 61 by omega)) (by decide))
 have lg : g.length <= 4000 := Nat.le_trans (len_deg pg.nd pg.dg) (Nat.le_trans (Nat.mul_le_mul (show e + 1 <= 61 by omega) (show e + 1 <= 61 by omega)) (by decide))
 have bf : ∀ x ∈ f, Bd (mA + 1) x.2 := fun x hx => Nat.lt_of_le_of_lt (pf.sz x hx) (Nat.pow_lt_pow_right (by decide) (Nat.lt_succ_self _))
 have bg : ∀ x ∈ g, Bd (mB + 1) x.2 := fun x hx => Nat.lt_of_le_of_lt (pg.sz x hx) (Nat.pow_lt_pow_right (by decide) (Nat.lt_succ_self _))
 refine ⟨_, ((pss_cons (ps_set (i := 2) sc_pair_times.nd rfl (Or.inl rfl) pe_dnewT)
  (pss_cons (ps_forD (ps_for PassesOwn.never rfl (pi_items (pv 0)) (pg_tup rfl (pgs_cons (pg_name (i := 3) sc_pair_times.nd rfl (Or.inl rfl)) (pgs_cons (pg_name (i := 4) sc_pair_times.nd rfl (Or.inl rfl)) pgs_nil))) (pss_one (ps_forD (ps_for PassesOwn.never rfl (pi_items (pv 1)) (pg_tup rfl (pgs_cons (pg_name (i := 5) sc_pair_times.nd rfl (Or.inl rfl)) (pgs_cons (pg_name (i := 6) sc_pair_times.nd rfl (Or.inl rfl)) pgs_nil))) (pss_cons (ps_set (i := 7) sc_pair_times.nd rfl (Or.inl rfl) (pe_tup (pa_cons (pe_op op_add (pe_ix ix_tup (pv 3) pe_int (fun _ _ => rfl)) (pe_ix ix_tup (pv 5) pe_int (fun _ _ => rfl))) (pa_cons (pe_op op_add (pe_ix ix_tup (pv 3) pe_int (fun _ _ => rfl)) (pe_ix ix_tup (pv 5) pe_int (fun _ _ => rfl))) pa_nil))))
  (pss_one (ps_dput (u_le (k := 1) hr.units (by decide)) (pv 2) (pv 7) (pe_op op_add (pe_dget2 (u_le (k := 1) hr.units (by decide)) (pv 2) (pv 7) pe_int ⟨rfl, rfl, rfl, rfl⟩) (pe_op op_mulZ (pv 4) (pv 6))) rfl))))))))
  (pss_one (ps_ret (pe_call (FnOk.mono (ok_bare T) (by decide)) hr rfl T.m_bare T.F_bare.kp T.b_bare .nil pass0 (pa_cons (pv 2) pa_nil))))))), ?_⟩
 k_units
 obtain ⟨oa, ea⟩ := ha.some
 obtain ⟨ob, eb⟩ := hb.some
 refine fun p np => ⟨dz f, ha.same (same_upd np _), fun o tw => ?_⟩
 have npa : p ≠ a := fun z => by rw [z, ea] at np; cases np
 have npb : p ≠ b := fun z => by rw [z, eb] at np; cases np
 have npA : upd H a (.frz o (.dT (dz f))) p = none := by rw [upd_ne npa]; exact np
 obtain ⟨Pv, hPv⟩ : ∃ Pv : Nat -> L2.St -> Hp -> Prop, ∀ i σ H', Pv i σ H' ↔ ∃ r3 r4 r5 r6 r7 : Option V, σ = [some (V.ref a), some (V.ref b), some (V.ref p), r3, r4, r5, r6, r7] ∧ H' p = some (.dT (dz (foD (prD (f.take i) g) []))) ∧ Same (upd H a (.frz o (.dT (dz f)))) H' := ⟨_, fun _ _ _ => Iff.rfl⟩
 refine lp_items Pv ((hPv _ _ _).mpr ⟨none, none, none, none, none, rfl, by rw [upd_ne npa]; exact upd_same, same_upd2 (same_upd np _)⟩) (fun i σ H' _ h => by obtain ⟨_, _, _, _, _, _, _, sS⟩ := (hPv _ _ _).mp h; exact sS _ _ upd_same) ?_ ?_
 ·intro i k x t c σ H' hk hp nt hc
  obtain ⟨r3, r4, r5, r6, r7, rfl, ep, sS⟩ := (hPv _ _ _).mp hp
  obtain ⟨y, hy, rfl, rfl⟩ := dz_get hk
  k_units
  have u1 := same_upd nt (.tup [V.ref c, V.int y.2])
  have s1 := sS.trans u1
  refine ⟨_, SqT.of upd_same, rfl, _, _, rfl, _, _, rfl, rfl, dz g, ?_, fun o2 tw2 => ?_⟩
  ·exact (DD.frz ha hb).same s1
  have ep1 := u1 _ _ ep
  have hc1 := u1 _ _ hc
  generalize upd H' t (.tup [V.ref c, V.int y.2]) = G1 at s1 ep1 hc1 tw2 ⊢
  obtain ⟨Pw, hPw⟩ : ∃ Pw : Nat -> L2.St -> Hp -> Prop, ∀ j σ H'', Pw j σ H'' ↔ ∃ r5 r6 r7 : Option V, σ = [some (V.ref a), some (V.ref b), some (V.ref p), some (V.ref c), some (V.int y.2), r5, r6, r7] ∧ H'' p = some (.dT (dz (foD (rowD y (g.take j)) (foD (prD (f.take i) g) [])))) ∧ H'' c = some (.tup ((kz y.1).map kV)) ∧ Same (upd (upd H a (.frz o (.dT (dz f)))) b (.frz o2 (.dT (dz g)))) H'' := ⟨_, fun _ _ _ => Iff.rfl⟩
  have nBc : ∀ (G : Hp) (v : HO), G b = some v -> (∀ xs, v ≠ .tup xs) -> G c = some (.tup ((kz y.1).map kV)) -> c ≠ b := fun G v e n h z => by rw [z, e] at h; exact n _ (Option.some.inj h)
  obtain ⟨vb, evb, nvb⟩ : ∃ v, G1 b = some v ∧ ∀ xs, v ≠ .tup xs := by
   rcases (DD.frz (o := o) ha hb).same s1 with e | ⟨o', e⟩
   ·exact ⟨_, e, fun xs z => nomatch z⟩
   ·exact ⟨_, e, fun xs z => nomatch z⟩
  have ncb := nBc G1 vb evb nvb hc1
  have npB : upd (upd H a (.frz o (.dT (dz f)))) b (.frz o2 (.dT (dz g))) p = none := by rw [upd_ne npb]; exact npA
  refine lp_items Pw ((hPw _ _ _).mpr ⟨r5, r6, r7, rfl, by rw [upd_ne npb]; exact ep1, by rw [upd_ne ncb]; exact hc1, same_upd2 s1⟩) (fun j σ H'' _ h => by obtain ⟨_, _, _, _, _, _, sS⟩ := (hPw _ _ _).mp h; exact sS _ _ upd_same) ?_ ?_
  ·intro j k2 x2 t2 c2 σ H'' hk2 hp2 nt2 hc2
   obtain ⟨r5, r6, r7, rfl, ep2, hcc, sS2⟩ := (hPw _ _ _).mp hp2
   obtain ⟨z, hz, rfl, rfl⟩ := dz_get hk2
   k_units
   have u2 := same_upd nt2 (.tup [V.ref c2, V.int z.2])
   have ep3 := u2 _ _ ep2
   have hcc3 := u2 _ _ hcc
   have hc23 := u2 _ _ hc2
   have s3 := sS2.trans u2
   refine ⟨_, SqT.of upd_same, rfl, _, _, rfl, _, _, rfl, rfl, ?_⟩
   generalize upd H'' t2 (.tup [V.ref c2, V.int z.2]) = G3 at ep3 hcc3 hc23 s3 ⊢
   refine ⟨_, SqT.of hcc3, _, rfl, _, rfl, _, SqT.of hc23, _, rfl, _, rfl, _, rfl, _, SqT.of hcc3, _, rfl, _, rfl, _, SqT.of hc23, _, rfl, _, rfl, _, rfl, by decide, fun p3 np3 => ?_⟩
   have u4 := same_upd np3 (.tup [V.int (y.1.1 + z.1.1), V.int (y.1.2 + z.1.2)])
   have ep4 := u4 _ _ ep3
   have e4 : upd G3 p3 (.tup [V.int (y.1.1 + z.1.1), V.int (y.1.2 + z.1.2)]) p3 = some (.tup ((kz (y.1.1 + z.1.1, y.1.2 + z.1.2)).map kV)) := upd_same
   have hl : (dz (foD (rowD y (g.take j)) (foD (prD (f.take i) g) []))).length < sizeLine := by
    have h1 := len_fo (rowD y (g.take j)) (foD (prD (f.take i) g) [])
    have h2 := len_fo (prD (f.take i) g) []
    have h3 := prD_len (f.take i) g
    have h4 : (rowD y (g.take j)).length <= 4000 := by unfold rowD; rw [List.length_map, List.length_take]; omega
    have h5 : (f.take i).length * g.length <= 4000 * 4000 := Nat.mul_le_mul (by rw [List.length_take]; omega) lg
    rw [List.length_nil] at h2
    rw [len_dz]; exact Nat.lt_of_le_of_lt (show _ <= 16010000 by omega) (by decide)
   have by' := bf y (List.mem_of_getElem? hy)
   have bz := bg z (List.mem_of_getElem? hz)
   refine ⟨.inr ⟨_, .inl ep4⟩, _, DGet.t ep4 e4, _, rfl, by'.fits bz (by omega), _, getD_dz _ _, _, DPut.t ep4 e4 hl, (hPw _ _ _).mpr ⟨_, _, _, rfl, ?_, ?_, (s3.trans u4).more npB⟩⟩
   ·rw [upd_same, putK_dz, take_snoc hz, rowD_snoc, foD_snoc]
    rfl
   ·rw [upd_ne (fun w => by rw [w, ep3] at hcc3; cases hcc3)]
    exact u4 _ _ hcc3
  ·intro σ H'' hp2
   rw [len_dz] at hp2
   obtain ⟨r5, r6, r7, rfl, ep2, hcc, sS2⟩ := (hPw _ _ _).mp hp2
   rw [List.take_length] at ep2
   refine ⟨G1, b, o2, dz g, tw2, sS2 _ _ upd_same, (hPv _ _ _).mpr ⟨_, _, _, _, _, rfl, ?_, same_bk2 sS2 s1⟩⟩
   rw [bk_ne npb, ep2, take_snoc hy, prD_snoc, foD_app]
 ·intro σ H' hp
  rw [len_dz] at hp
  obtain ⟨r3, r4, r5, r6, r7, rfl, ep, sS⟩ := (hPv _ _ _).mp hp
  rw [List.take_length] at ep
  refine ⟨upd H p (.dT []), a, o, dz f, tw, sS _ _ upd_same, ?_⟩
  have sB := same_bk2 sS (same_upd np (.dT []))
  k_units
  have l1 : (foD (prD f g) []).length <= 4000 := Nat.le_trans (len_deg (nd_fo _ ndD_nil) (deg_fo_pr pf.dg pg.dg)) (Nat.le_trans (Nat.mul_le_mul (show d + e + 1 <= 61 by omega) (show d + e + 1 <= 61 by omega)) (by decide))
  exact ⟨p, foD (prD f g) [], rfl, .inl (by rw [bk_ne npa]; exact ep), nd_fo _ ndD_nil, l1, fun p2 H2 s2 n2 e2 => q p2 H2 (sB.trans s2) (sB.free n2) e2⟩
def spFmD (K : PySem.W.Frag) : Sp := fun vs H Q _ => ∃ (a : Addr) (x y z : Int), vs = [.ref a] ∧ SqT K H a [.int x, .int y, .int z] ∧ newD H Q (nzD [((1, 0), x), ((0, 1), y), ((0, 0), z)])
theorem form_nd (x y z : Int) : ndD [((1, 0), x), ((0, 1), y), ((0, 0), z)] := by unfold ndD; simp
theorem ok_pair_of_form {P : Program} {w : World} {K : PySem.W.Frag} {mg : Str -> Option Value} {base : Heap} (T : Tx K mg) : FnOk P w K mg base CX0 2 T.a_pair_of_form T.fd_pair_of_form ["form"] (spFmD K) := by
 refine T.F_pair_of_form.ok sc_pair_of_form (fun vs H Q E h => ?_) (fun cdv A outer s H vs Q E hr h => ?_)
 ·obtain ⟨a, x, y, z, rfl, _⟩ := h
  rfl
 obtain ⟨a, x, y, z, rfl, ha, q⟩ := h
 refine ⟨_, ((pss_one (ps_ret (pe_call (FnOk.mono (ok_bare T) (by decide)) hr rfl T.m_bare T.F_bare.kp T.b_bare .nil pass0 (pa_cons (by exact pe_dispT (u_le0 hr.units) (pps_cons (pe_tup (pa_cons pe_int (pa_cons pe_int pa_nil))) (pe_ix ix_tup (pv 0) pe_int (fun _ _ => rfl)) (pps_cons (pe_tup (pa_cons pe_int (pa_cons pe_int pa_nil))) (pe_ix ix_tup (pv 0) pe_int (fun _ _ => rfl)) (pps_cons (pe_tup (pa_cons pe_int (pa_cons pe_int pa_nil))) (pe_ix ix_tup (pv 0) pe_int (fun _ _ => rfl)) pps_nil))) rfl rfl (fun z => nomatch z) (by decide)) pa_nil))))), ?_⟩
 k_units
 refine fun p np => ⟨by decide, fun p1 n1 => ?_⟩
 have u0 := same_upd np (.dT [])
 have u1 := same_upd n1 (.tup [V.int 1, V.int 0])
 have s1 := u0.trans u1
 refine ⟨_, s1.seqT ha, _, rfl, by decide, fun p2 n2 => ?_⟩
 have u2 := same_upd n2 (.tup [V.int 0, V.int 1])
 have s2 := s1.trans u2
 refine ⟨_, s2.seqT ha, _, rfl, by decide, fun p3 n3 => ?_⟩
 have u3 := same_upd n3 (.tup [V.int 0, V.int 0])
 have s3 := s2.trans u3
 have e0 := (u1.trans (u2.trans u3)) _ _ (upd_same (H := H) (a := p) (o := .dT []))
 have e1 := (u2.trans u3) _ _ (upd_same (H := upd H p (.dT [])) (a := p1) (o := .tup [V.int 1, V.int 0]))
 have e2 := u3 _ _ (upd_same (H := upd (upd H p (.dT [])) p1 (.tup [V.int 1, V.int 0])) (a := p2) (o := .tup [V.int 0, V.int 1]))
 have e3 := upd_same (H := upd (upd (upd H p (.dT [])) p1 (.tup [V.int 1, V.int 0])) p2 (.tup [V.int 0, V.int 1])) (a := p3) (o := .tup [V.int 0, V.int 0])
 refine ⟨_, s3.seqT ha, _, rfl, ?_⟩
 generalize upd (upd (upd (upd H p (.dT [])) p1 (.tup [V.int 1, V.int 0])) p2 (.tup [V.int 0, V.int 1])) p3 (.tup [V.int 0, V.int 0]) = G at s3 e0 e1 e2 e3 ⊢
 refine ⟨e0, [(kz (1, 0), p1, V.int x), (kz (0, 1), p2, V.int y), (kz (0, 0), p3, V.int z)], rfl, fun k hk => ?_, by simp, p, [((1, 0), x), ((0, 1), y), ((0, 0), z)], rfl, .inl ?_, form_nd x y z, by simp, fun p5 H5 s5 n5 e5 => ?_⟩
 ·simp only [List.mem_cons, List.not_mem_nil, or_false] at hk
  rcases hk with rfl | rfl | rfl
  ·exact e1
  ·exact e2
  ·exact e3
 ·rw [upd_same]
  have e := putK_dz [] (1, 0) x
  have e' := putK_dz (ptD [] (1, 0) x) (0, 1) y
  have e'' := putK_dz (ptD (ptD [] (1, 0) x) (0, 1) y) (0, 0) z
  show some (HO.dT (putK (putK (putK (dz []) (kz (1, 0)) (V.int x)) (kz (0, 1)) (V.int y)) (kz (0, 0)) (V.int z))) = _
  rw [e, e', e'']
  simp [ptD]
 ·have s4 : Same H (upd G p (.dT (putAs [(kz (1, 0), p1, V.int x), (kz (0, 1), p2, V.int y), (kz (0, 0), p3, V.int z)] []))) := s3.more np
  exact q p5 H5 (s4.trans s5) (s4.free n5) e5
def rfL (f : Int × Int × Int) (lo : Int) (m : Nat) : List PD := (List.range m).map fun (j : Nat) => fmD f.1 f.2.1 (f.2.2 + (lo + (j : Int)))
theorem rfL_succ (f : Int × Int × Int) (lo : Int) (m : Nat) : rfL f lo (m + 1) = rfL f lo m ++ [fmD f.1 f.2.1 (f.2.2 + (lo + (m : Int)))] := by
 unfold rfL; rw [List.range_succ, List.map_append]; rfl
theorem rfL_len (f : Int × Int × Int) (lo : Int) (m : Nat) : (rfL f lo m).length = m := by unfold rfL; rw [List.length_map, List.length_range]
theorem PdOk.mono {d e A B : Nat} {f : PD} (h : PdOk d A f) (h1 : d <= e) (h2 : A <= B) : PdOk e B f := ⟨deg_mono h.dg h1, h.nd, fun x hx => Nat.le_trans (h.sz x hx) (Nat.pow_le_pow_right (by decide) h2)⟩
structure DDs (H : Hp) (as : List Addr) (fs : List PD) : Prop where
 len : as.length = fs.length
 get : ∀ (i : Nat) (a : Addr) (f : PD), as[i]? = some a -> fs[i]? = some f -> DD H a f
theorem DDs.on {H H' : Hp} {as : List Addr} {fs : List PD} (h : DDs H as fs) (s : Same H H') : DDs H' as fs := ⟨h.len, fun i a f e1 e2 => (h.get i a f e1 e2).same s⟩
theorem DDs.app {H : Hp} {as bs : List Addr} {fs gs : List PD} (h : DDs H as fs) (k : DDs H bs gs) : DDs H (as ++ bs) (fs ++ gs) := by
 refine ⟨by simp [h.len, k.len], fun i a f e1 e2 => ?_⟩
 by_cases hi : i < as.length
 ·rw [List.getElem?_append_left hi] at e1
  rw [List.getElem?_append_left (by rw [← h.len]; exact hi)] at e2
  exact h.get i a f e1 e2
 ·rw [List.getElem?_append_right (by omega)] at e1
  rw [List.getElem?_append_right (by have := h.len; omega), ← h.len] at e2
  exact k.get _ a f e1 e2
structure PdsOk (B : Nat) (ds : List Nat) (fs : List PD) : Prop where
 len : ds.length = fs.length
 get : ∀ (i d : Nat) (f : PD), ds[i]? = some d -> fs[i]? = some f -> PdOk d B f
theorem dd_upL {H : Hp} {a D : Addr} {f : PD} {xs ys : List V} (h : DD H a f) (e : H D = some (.lst xs)) : DD (L2.upd H D (.lst ys)) a f := by
 rcases h with z | ⟨o, z⟩
 ·exact .inl (by rw [upd_ne (ne_of z e (fun w => nomatch w))]; exact z)
 ·exact .inr ⟨o, by rw [upd_ne (ne_of z e (fun w => nomatch w))]; exact z⟩
theorem DDs.upL {H : Hp} {D : Addr} {as : List Addr} {fs : List PD} {xs ys : List V} (h : DDs H as fs) (e : H D = some (.lst xs)) : DDs (L2.upd H D (.lst ys)) as fs := ⟨h.len, fun i a f e1 e2 => dd_upL (h.get i a f e1 e2) e⟩
theorem one_disp {H : Hp} {p p1 : Addr} {v : Int} (e0 : H p = some (.dT [])) : L2.upd H p (.dT (putAs [(kz (0, 0), p1, V.int v)] [])) p = some (.dT (dz [((0, 0), v)])) := by
 rw [upd_same]
 have e := putK_dz [] (0, 0) v
 show some (HO.dT (putK (dz []) (kz (0, 0)) (V.int v))) = _
 rw [e]; simp [ptD]
def spPdP (K : PySem.W.Frag) : Sp := fun vs H Q _ => ∃ (A : Addr) (as : List Addr) (fs : List PD) (ds : List Nat) (B : Nat), vs = [.ref A] ∧ SqL K H A (as.map V.ref) ∧ DDs H as fs ∧ PdsOk B ds fs ∧ ds.sum <= 60 ∧ fs.length <= 40 ∧ B <= 20000 ∧ newD H Q (pdD fs)
theorem ok_pair_product {P : Program} {w : World} {K : PySem.W.Frag} {mg : Str -> Option Value} {base : Heap} (T : Tx K mg) : FnOk P w K mg base CX0 3 T.a_pair_product T.fd_pair_product ["pairs"] (spPdP K) := by
 refine T.F_pair_product.ok sc_pair_product (fun vs H Q E h => ?_) (fun cdv A outer s H vs Q E hr h => ?_)
 ·obtain ⟨A, as, fs, ds, B, rfl, _⟩ := h
  rfl
 obtain ⟨A, as, fs, ds, B, rfl, hA, hD, hO, hs, l40, lB, q⟩ := h
 refine ⟨_, ((pss_cons (ps_set (i := 1) sc_pair_product.nd rfl (Or.inl rfl) (by exact pe_dispT (u_le0 hr.units) (pps_cons (pe_tup (pa_cons pe_int (pa_cons pe_int pa_nil))) pe_int pps_nil) rfl rfl (fun z => nomatch z) (by decide)))
  (pss_cons (ps_for PassesOwn.never rfl (pi_list (pv 0)) (pg_name (i := 2) sc_pair_product.nd rfl (Or.inl rfl)) (pss_one (ps_set (i := 1) sc_pair_product.nd rfl (Or.inl rfl) (pe_call (FnOk.mono (ok_pair_times T) (by decide)) hr rfl T.m_pair_times T.F_pair_times.kp T.b_pair_times .nil pass0 (pa_cons (pv 1) (pa_cons (pv 2) pa_nil))))))
  (pss_one (ps_ret (pv 1)))))), ?_⟩
 dsimp only [a_seq]
 k_typeOf
 refine fun p np => ⟨by decide, fun p1 n1 => ?_⟩
 have u0 := same_upd np (.dT [])
 have u1 := same_upd n1 (.tup [V.int 0, V.int 0])
 have e0 := u1 _ _ (upd_same (H := H) (a := p) (o := .dT []))
 have e1 := upd_same (H := L2.upd H p (.dT [])) (a := p1) (o := .tup [V.int 0, V.int 0])
 refine ⟨e0, [(kz (0, 0), p1, V.int 1)], rfl, fun k hk => by rw [List.mem_singleton.mp hk]; exact e1, by simp, ?_⟩
 have ed := one_disp (p1 := p1) (v := 1) e0
 have s1 : Same H (L2.upd (L2.upd (L2.upd H p (.dT [])) p1 (.tup [V.int 0, V.int 0])) p (.dT (putAs [(kz (0, 0), p1, V.int 1)] []))) := (u0.trans u1).more np
 generalize L2.upd (L2.upd (L2.upd H p (.dT [])) p1 (.tup [V.int 0, V.int 0])) p (.dT (putAs [(kz (0, 0), p1, V.int 1)] [])) = G at ed s1 ⊢
 dsimp only [a_seq]
 k_typeOf
 obtain ⟨Pv, hPv⟩ : ∃ Pv : Nat -> L2.St -> Hp -> Prop, ∀ i σ H', Pv i σ H' ↔ ∃ (a : Addr) (r : Option V), σ = [some (V.ref A), some (V.ref a), r] ∧ H' a = some (.dT (dz (pdD (fs.take i)))) ∧ H a = none ∧ PdOk (ds.take i).sum ((B + 24) * i) (pdD (fs.take i)) ∧ Same H H' := ⟨_, fun _ _ _ => Iff.rfl⟩
 refine ⟨⟨_, s1.seq hA⟩, lp_list (xs := as.map V.ref) Pv ((hPv _ _ _).mpr ⟨p, none, rfl, ed, np, by rw [List.take_zero, List.take_zero, Nat.mul_zero]; exact pd_one, s1⟩) (fun i σ H' _ z => by obtain ⟨_, _, _, _, _, _, z⟩ := (hPv i σ H').mp z; exact z.seq hA) ?_ ?_⟩
 ·intro i v σ H' hv hp
  obtain ⟨a, r, rfl, ea, na, ok, sx⟩ := (hPv _ _ _).mp hp
  rw [List.getElem?_map] at hv
  obtain ⟨b, hb, rfl⟩ := Option.map_eq_some_iff.mp hv
  have hi := (List.getElem?_eq_some_iff.mp hb).1
  have hi2 : i < fs.length := by have := hD.len; omega
  have hi3 : i < ds.length := by have := hO.len; omega
  have o2 := hO.get i _ _ (List.getElem?_eq_getElem hi3) (List.getElem?_eq_getElem hi2)
  have hb2 := (hD.get i b _ hb (List.getElem?_eq_getElem hi2)).same sx
  have es : (ds.take (i + 1)).sum = (ds.take i).sum + ds[i] := by rw [← List.take_append_getElem hi3, List.sum_append, List.sum_cons, List.sum_nil]; omega
  have le : (ds.take (i + 1)).sum <= ds.sum := by
   have := congrArg List.sum (List.take_append_drop (i + 1) ds)
   rw [List.sum_append] at this; omega
  have mB : (B + 24) * i <= 20024 * 40 := Nat.mul_le_mul (by omega) (by omega)
  k_units
  refine ⟨a, b, _, _, _, _, _, _, rfl, .inl ea, hb2, ok, o2, by omega, by omega, by omega, fun q' H2 s2 n2 e2 => (hPv _ _ _).mpr ⟨q', _, rfl, ?_, sx.free n2, ?_, sx.trans s2⟩⟩
  ·rw [e2, ← List.take_append_getElem hi2, pdD_snoc]
  ·rw [es, ← List.take_append_getElem hi2, pdD_snoc, Nat.mul_add, Nat.mul_one]
   exact (pd_times ok o2 (by omega)).mono (Nat.le_refl _) (by omega)
 intro σ H' hp
 obtain ⟨a, r, rfl, ea, na, ok, sx⟩ := (hPv _ _ _).mp hp
 rw [List.length_map, hD.len, List.take_of_length_le (Nat.le_refl _)] at ea
 k_units
 exact q a H' sx na ea
def newDs (H : Hp) (Q : VK) (fs : List PD) : Prop := ∀ (L : Addr) (as : List Addr) (H' : Hp), Same H H' -> H L = none -> H' L = some (.lst (as.map V.ref)) -> DDs H' as fs -> Q (.ref L) H'
def spRfr (K : PySem.W.Frag) : Sp := fun vs H Q _ => ∃ (p : Addr) (f : Int × Int × Int) (lo hi : Int), vs = [.ref p, .int lo, .int hi] ∧ SqT K H p [.int f.1, .int f.2.1, .int f.2.2] ∧ -100 <= lo ∧ lo <= 100 ∧ -100 <= hi ∧ hi <= 100 ∧ newDs H Q (rfL f lo (hi + 1 - lo).toNat)
theorem ok_raised_from {P : Program} {w : World} {K : PySem.W.Frag} {mg : Str -> Option Value} {base : Heap} (T : Tx K mg) : FnOk P w K mg base CX0 3 T.a_raised_from T.fd_raised_from ["form", "low", "high"] (spRfr K) := by
 refine T.F_raised_from.ok sc_raised_from (fun vs H Q E h => ?_) (fun cdv A outer s H vs Q E hr h => ?_)
 ·obtain ⟨p, f, lo, hi, rfl, _⟩ := h
  rfl
 obtain ⟨p, f, lo, hi, rfl, hp, l1, l2, h1, h2, q⟩ := h
 refine ⟨_, ((pss_one (ps_ret (pe_lcomp rfl (blkok rfl (sub_cons rfl sub_nil) (fv_cons 0 "form" (by decide) rfl (Or.inl rfl) (Or.inl rfl) ⟨_, rfl⟩ fv_nil)) (pi_range2 rfl T.z_range (pa_cons (pv 1) (pa_cons (pe_op op_add (pv 2) pe_int) pa_nil))) (fun _ _ _ _ => (pe_call (FnOk.mono (ok_pair_of_form T) (by decide)) hr rfl T.m_pair_of_form T.F_pair_of_form.kp T.b_pair_of_form .nil pass0 (pa_cons (pe_call (FnOk.mono (ok_raised T) (by decide)) hr rfl T.m_raised T.F_raised.kp T.b_raised .nil pass0 (pa_cons (pv 1) (pa_cons (pv 0) pa_nil))) pa_nil))))))), ?_⟩
 k_units
 refine ⟨by omega, by omega, by omega, by omega, fun D nD => ?_⟩
 have lm : (hi + 1 - lo).toNat <= 201 := by omega
 generalize (hi + 1 - lo).toNat = m at q lm
 obtain ⟨Pc, hPc⟩ : ∃ Pc : Nat -> Hp -> Prop, ∀ j Hx, Pc j Hx ↔ ∃ as : List Addr, Hx D = some (.lst (as.map V.ref)) ∧ DDs Hx as (rfL f lo j) ∧ Same H Hx := ⟨_, fun _ _ => Iff.rfl⟩
 refine cl_range Pc ((hPc _ _).mpr ⟨[], upd_same, ⟨rfl, fun i a f e => by simp at e⟩, same_upd nD _⟩) ?_ ?_
 ·intro j Hx hj hc
  obtain ⟨as, k1, k2, k3⟩ := (hPc _ _).mp hc
  (iterate 3 (k_units; (try simp only [bst, Option.getD_some])); k_units)
  refine ⟨p, f.1, f.2.1, f.2.2, _, rfl, k3.seqT hp, fun r nr => ⟨r, f.1, f.2.1, f.2.2 + (lo + (j : Int)), rfl, SqT.of upd_same, fun a H2 s2 n2 e2 => ?_⟩⟩
  have u1 := (same_upd nr (.tup [V.int f.1, V.int f.2.1, V.int (f.2.2 + (lo + (j : Int)))])).trans s2
  have kl := k2.len
  rw [rfL_len] at kl
  refine ⟨_, u1 _ _ k1, by rw [List.length_map]; exact small1000 (by omega), (hPc _ _).mpr ⟨as ++ [a], by rw [upd_same, List.map_append]; rfl, ?_, (k3.trans u1).more nD⟩⟩
  rw [rfL_succ]
  refine ((k2.on u1).app ⟨rfl, fun i b g e1 e3 => ?_⟩).upL (u1 _ _ k1)
  cases i with
  | zero => cases Option.some.inj e1; cases Option.some.inj e3; exact .inl e2
  | succ i => simp at e1
 intro Hx hc
 obtain ⟨as, k1, k2, k3⟩ := (hPc _ _).mp hc
 exact q D as Hx k3 nD k1 k2
def spD1 : Sp := fun vs H Q _ => ∃ x : Addr, (∃ i far : Int, vs = [.ref x, .int i, .int far]) ∧ newD H Q onD
theorem ok_Part_step {P : Program} {w : World} {K : PySem.W.Frag} {mg : Str -> Option Value} {base : Heap} (T : Tx K mg) : FnOk P w K mg base CX0 1 T.a_Part_step T.fd_Part_step ["self", "i", "far"] spD1 := by
 refine T.F_Part_step.ok sc_Part_step (fun vs H Q E h => ?_) (fun cdv A outer s H vs Q E hr h => ?_)
 ·obtain ⟨x, ⟨i, far, rfl⟩, _⟩ := h
  rfl
 obtain ⟨x, ⟨i, far, rfl⟩, q⟩ := h
 refine ⟨_, ((pss_one (ps_ret (by exact pe_dispT (u_le0 hr.units) (pps_cons (pe_tup (pa_cons pe_int (pa_cons pe_int pa_nil))) pe_int pps_nil) rfl rfl (fun z => nomatch z) (by decide))))), ?_⟩
 k_units
 refine fun p np => ⟨by decide, fun p1 n1 => ?_⟩
 have u0 := same_upd np (.dT [])
 have u1 := same_upd n1 (.tup [V.int 0, V.int 0])
 have e0 := u1 _ _ (upd_same (H := H) (a := p) (o := .dT []))
 have e1 := upd_same (H := L2.upd H p (.dT [])) (a := p1) (o := .tup [V.int 0, V.int 0])
 exact ⟨e0, [(kz (0, 0), p1, V.int 1)], rfl, fun k hk => by rw [List.mem_singleton.mp hk]; exact e1, by simp, q p _ ((u0.trans u1).more np) np (one_disp (p1 := p1) (v := 1) e0)⟩
def mx (x : Int) : Int := if 0 > x then 0 else x
def cnt (lo hi : Int) : Nat := (hi + 1 - lo).toNat
def stL (h l : Int × Int × Int) (i far : Int) : List PD := rfL h 1 (cnt 1 (i * h.1)) ++ rfL l (i * l.1 + 1) (cnt (i * l.1 + 1) (mx (far * l.1))) ++ rfL (subF h l) (i * (subF h l).1 + 1) (cnt (i * (subF h l).1 + 1) (mx (far * (subF h l).1)))
def upL (h l : Int × Int × Int) (far : Int) : List PD := rfL h 1 (cnt 1 h.2.1) ++ rfL (liftF far l) (l.2.1 + 1) (cnt (l.2.1 + 1) 0) ++ rfL (liftF far (subF h l)) ((subF h l).2.1 + 1) (cnt ((subF h l).2.1 + 1) 0)
def dnL (h l : Int × Int × Int) (far : Int) : List PD := rfL (liftF far l) 1 (cnt 1 l.2.1) ++ rfL (liftF far (subF h l)) 1 (cnt 1 (subF h l).2.1)
def kD (v : Int) : PD := [((0, 0), v)]
def stD (p : Prt) (i far : Nat) : PD := match p with
 | .cho h l => pdD (stL h l i far)
 | .wei f => fmD f.1 f.2.1 (f.2.2 + (i : Int) * f.1)
 | .pow _ => onD
 | .gro f => kD (f.1 ^ i * f.2 ^ (far - i))
def upD (p : Prt) (far : Nat) : PD := match p with
 | .cho h l => pdD (upL h l far)
 | .wei _ => onD
 | .pow f => kD f.1
 | .gro _ => onD
def dnD (p : Prt) (far : Nat) : PD := match p with
 | .cho h l => pdD (dnL h l far)
 | .wei _ => onD
 | .pow f => kD f.2
 | .gro _ => onD
def dgF : Prt -> Nat
 | .cho _ _ => 12
 | .wei _ => 1
 | _ => 0
theorem pd_form {B : Nat} {a b c : Int} (ha : Bd B a) (hb : Bd B b) (hc : Bd B c) : PdOk 1 B (fmD a b c) := ⟨deg_form a b c, nd_form a b c, szn_form (Nat.le_of_lt ha) (Nat.le_of_lt hb) (Nat.le_of_lt hc)⟩
theorem pd_kD {B : Nat} {v : Int} (h : Bd B v) : PdOk 0 B (kD v) := ⟨fun x hx => by simp [kD] at hx; subst hx; dsimp only; omega, by unfold ndD kD; simp, fun x hx => by simp [kD] at hx; subst hx; exact Nat.le_of_lt h⟩
theorem pd_list {B : Nat} : ∀ (m : Nat) (fs : List PD) (ds : List Nat), fs.length = m -> PdsOk B ds fs -> ds.sum <= 60 -> PdOk ds.sum ((B + 24) * fs.length) (pdD fs)
 | 0, fs, ds, hm, h, _ => by
  obtain rfl := List.eq_nil_of_length_eq_zero hm
  obtain rfl := List.eq_nil_of_length_eq_zero h.len
  exact pd_one
 | m + 1, fs, ds, hm, h, hs => by
  obtain ⟨gs, g, rfl⟩ : ∃ gs g, fs = gs ++ [g] := ⟨fs.dropLast, fs.getLast (fun z => by rw [z] at hm; simp at hm), (List.dropLast_concat_getLast _).symm⟩
  have hl := h.len
  obtain ⟨es, e, rfl⟩ : ∃ es e, ds = es ++ [e] := ⟨ds.dropLast, ds.getLast (fun z => by rw [z] at hl; simp at hl), (List.dropLast_concat_getLast _).symm⟩
  simp only [List.length_append, List.length_singleton] at hl hm
  have hes : es.length = gs.length := by omega
  rw [List.sum_append, List.sum_cons, List.sum_nil] at hs ⊢
  have i1 := pd_list m gs es (by omega) ⟨hes, fun i d f e1 e2 => h.get i d f (by rw [List.getElem?_append_left (List.getElem?_eq_some_iff.mp e1).1]; exact e1) (by rw [List.getElem?_append_left (List.getElem?_eq_some_iff.mp e2).1]; exact e2)⟩ (by omega)
  have i2 : PdOk e B g := h.get gs.length e g (by rw [← hes, List.getElem?_append_right (Nat.le_refl _), Nat.sub_self]; rfl) (by rw [List.getElem?_append_right (Nat.le_refl _), Nat.sub_self]; rfl)
  rw [pdD_snoc, List.length_append, List.length_singleton, Nat.mul_add, Nat.mul_one, Nat.add_zero]
  exact (pd_times i1 i2 (by omega)).mono (Nat.le_refl _) (by omega)
theorem sum_ones : ∀ m : Nat, (List.replicate m 1).sum = m
 | 0 => rfl
 | m + 1 => by rw [List.replicate_succ, List.sum_cons, sum_ones m]; omega
theorem pd_forms {B : Nat} {fs : List PD} (h : ∀ f ∈ fs, PdOk 1 B f) (l : fs.length <= 60) : PdsOk B (List.replicate fs.length 1) fs ∧ PdOk fs.length ((B + 24) * fs.length) (pdD fs) := by
 have h1 : PdsOk B (List.replicate fs.length 1) fs := ⟨List.length_replicate, fun i d f e1 e2 => by
  have : d = 1 := List.eq_of_mem_replicate (List.mem_of_getElem? e1)
  subst this
  exact h f (List.mem_of_getElem? e2)⟩
 have h2 := pd_list _ fs _ rfl h1 (by rw [sum_ones]; exact l)
 rw [sum_ones] at h2
 exact ⟨h1, h2⟩
theorem rf_ok {f : Int × Int × Int} {lo : Int} {m : Nat} (h1 : Bd 8 f.1) (h2 : Bd 8 f.2.1) (h3 : Bd 8 f.2.2) (hl : -50 <= lo) (hm : lo + m <= 50) : ∀ g ∈ rfL f lo m, PdOk 1 10 g := fun g hg => by
 unfold rfL at hg
 obtain ⟨j, hj, rfl⟩ := List.mem_map.mp hg
 have := List.mem_range.mp hj
 refine pd_form (h1.mono (by decide)) (h2.mono (by decide)) ?_
 have b : Bd 8 (lo + (j : Int)) := Bd.of_lt (m := 51) (by omega) (by decide)
 exact (h3.add b).mono (by decide)
theorem mx_ge (x : Int) : 0 <= mx x ∧ x <= mx x := by unfold mx; split <;> omega
structure Sml (h l : Int × Int × Int) (i far : Nat) : Prop where
 c : ChoOk h l
 i1 : i <= far
 f2 : far <= 2
theorem sml_b {h l : Int × Int × Int} {i far : Nat} (s : Sml h l i far) : (0 <= (i : Int) * h.1 ∧ (i : Int) * h.1 <= 6) ∧ ((i : Int) * l.1 <= mx ((far : Int) * l.1) ∧ -6 <= (i : Int) * l.1 ∧ (i : Int) * l.1 <= 6 ∧ mx ((far : Int) * l.1) <= 6) ∧ ((i : Int) * (subF h l).1 <= mx ((far : Int) * (subF h l).1) ∧ -12 <= (i : Int) * (subF h l).1 ∧ (i : Int) * (subF h l).1 <= 12 ∧ mx ((far : Int) * (subF h l).1) <= 12) ∧
  (i : Int) * h.1 + (mx ((far : Int) * l.1) - (i : Int) * l.1) + (mx ((far : Int) * (subF h l).1) - (i : Int) * (subF h l).1) <= 12 := by
 obtain ⟨⟨⟨a1, a2, _⟩, ⟨b1, b2, _⟩, _⟩, i1, f2⟩ := s
 have e : (subF h l).1 = h.1 - l.1 := rfl
 rw [e]
 generalize h.1 = x at *
 generalize l.1 = y at *
 unfold mx
 have hi : i = 0 ∨ i = 1 ∨ i = 2 := by omega
 have hf : far = 0 ∨ far = 1 ∨ far = 2 := by omega
 rcases hf with rfl | rfl | rfl <;> rcases hi with rfl | rfl | rfl <;> (try omega) <;> (refine ⟨⟨?_, ?_⟩, ⟨?_, ?_, ?_, ?_⟩, ⟨?_, ?_, ?_, ?_⟩, ?_⟩ <;> (try split) <;> (try split) <;> omega)
theorem bd8 {x : Int} (h1 : -100 <= x) (h2 : x <= 100) : Bd 8 x := Bd.of_lt (m := 101) (by omega) (by decide)
theorem cho_b {h l : Int × Int × Int} (c : ChoOk h l) : (Bd 8 h.1 ∧ Bd 8 h.2.1 ∧ Bd 8 h.2.2) ∧ (Bd 8 l.1 ∧ Bd 8 l.2.1 ∧ Bd 8 l.2.2) ∧ (Bd 8 (subF h l).1 ∧ Bd 8 (subF h l).2.1 ∧ Bd 8 (subF h l).2.2) := by
 obtain ⟨⟨a1, a2, a3, a4, a5, a6⟩, ⟨b1, b2, b3, b4, b5, b6⟩, _⟩ := c
 refine ⟨⟨bd8 (by omega) (by omega), bd8 (by omega) (by omega), bd8 (by omega) (by omega)⟩, ⟨bd8 (by omega) (by omega), bd8 (by omega) (by omega), bd8 (by omega) (by omega)⟩, bd8 ?_ ?_, bd8 ?_ ?_, bd8 ?_ ?_⟩
 ·show -100 <= h.1 - l.1; omega
 ·show h.1 - l.1 <= 100; omega
 ·show -100 <= h.2.1 - l.2.1; omega
 ·show h.2.1 - l.2.1 <= 100; omega
 ·show -100 <= h.2.2 - l.2.2; omega
 ·show h.2.2 - l.2.2 <= 100; omega
theorem stL_ok {h l : Int × Int × Int} {i far : Nat} (s : Sml h l i far) : (stL h l i far).length <= 12 ∧ ∀ f ∈ stL h l i far, PdOk 1 10 f := by
 obtain ⟨⟨p1, p2⟩, ⟨q1, q2, q3, q4⟩, ⟨r1, r2, r3, r4⟩, t⟩ := sml_b s
 obtain ⟨⟨c1, c2, c3⟩, ⟨c4, c5, c6⟩, ⟨c7, c8, c9⟩⟩ := cho_b s.c
 have m1 := (mx_ge ((far : Int) * l.1)).1
 have m2 := (mx_ge ((far : Int) * (subF h l).1)).1
 refine ⟨?_, fun f hf => ?_⟩
 ·unfold stL
  rw [List.length_append, List.length_append, rfL_len, rfL_len, rfL_len]
  unfold cnt; omega
 ·unfold stL at hf
  rcases List.mem_append.mp hf with hf | hf
  ·rcases List.mem_append.mp hf with hf | hf
   ·exact rf_ok c1 c2 c3 (by decide) (by unfold cnt; omega) f hf
   ·exact rf_ok c4 c5 c6 (by omega) (by unfold cnt; omega) f hf
  ·exact rf_ok c7 c8 c9 (by omega) (by unfold cnt; omega) f hf
theorem upL_ok {h l : Int × Int × Int} {far : Nat} (c : ChoOk h l) (f2 : far <= 2) : (upL h l far).length <= 12 ∧ (∀ f ∈ upL h l far, PdOk 1 10 f) ∧ (dnL h l far).length <= 12 ∧ ∀ f ∈ dnL h l far, PdOk 1 10 f := by
 obtain ⟨_, ⟨q1, q2, q3, q4⟩, ⟨r1, r2, r3, r4⟩, t⟩ := sml_b (i := 0) ⟨c, Nat.zero_le far, f2⟩
 obtain ⟨⟨a1, a2, a3, a4, a5, a6⟩, ⟨b1, b2, b3, b4, b5, b6⟩, _⟩ := id c
 obtain ⟨⟨c1, c2, c3⟩, ⟨c4, c5, c6⟩, ⟨c7, c8, c9⟩⟩ := cho_b c
 have m1 := (mx_ge ((far : Int) * l.1)).1
 have m2 := (mx_ge ((far : Int) * (subF h l).1)).1
 have e1 : (subF h l).2.1 = h.2.1 - l.2.1 := rfl
 have e2 : (subF h l).2.2 = h.2.2 - l.2.2 := rfl
 have k1 : Bd 8 (liftF far l).2.2 := bd8 (by show -100 <= l.2.2 + mx _; omega) (by show l.2.2 + mx _ <= 100; omega)
 have k2 : Bd 8 (liftF far (subF h l)).2.2 := bd8 (by show -100 <= (subF h l).2.2 + mx _; omega) (by show (subF h l).2.2 + mx _ <= 100; omega)
 refine ⟨?_, fun f hf => ?_, ?_, fun f hf => ?_⟩
 ·unfold upL
  rw [List.length_append, List.length_append, rfL_len, rfL_len, rfL_len]
  unfold cnt; omega
 ·unfold upL at hf
  rcases List.mem_append.mp hf with hf | hf
  ·rcases List.mem_append.mp hf with hf | hf
   ·exact rf_ok c1 c2 c3 (by decide) (by unfold cnt; omega) f hf
   ·exact rf_ok (f := liftF far l) c4 c5 k1 (by omega) (by unfold cnt; omega) f hf
  ·exact rf_ok (f := liftF far (subF h l)) c7 c8 k2 (by omega) (by unfold cnt; omega) f hf
 ·unfold dnL
  rw [List.length_append, rfL_len, rfL_len]
  unfold cnt; omega
 ·unfold dnL at hf
  rcases List.mem_append.mp hf with hf | hf
  ·exact rf_ok (f := liftF far l) c4 c5 k1 (by decide) (by unfold cnt; omega) f hf
  ·exact rf_ok (f := liftF far (subF h l)) c7 c8 k2 (by decide) (by unfold cnt; omega) f hf
def spU1 : Sp := fun vs H Q _ => ∃ (x : Addr) (far : Int), vs = [.ref x, .int far] ∧ newD H Q onD
theorem mk_one {H : Hp} {Q : VK} {v : Int} (q : newD H Q (kD v)) (p : Addr) (np : H p = none) (p1 : Addr) (n1 : L2.upd H p (.dT []) p1 = none) :
  L2.upd (L2.upd H p (.dT [])) p1 (.tup [V.int 0, V.int 0]) p = some (.dT []) ∧ ∃ ks : List (List Key × Addr × V), [(V.ref p1, V.int v)] = ks.map (fun x => (V.ref x.2.1, x.2.2)) ∧ (∀ x ∈ ks, L2.upd (L2.upd H p (.dT [])) p1 (.tup [V.int 0, V.int 0]) x.2.1 = some (.tup (x.1.map kV))) ∧ ks.length <= 15 ∧
   Q (V.ref p) (L2.upd (L2.upd (L2.upd H p (.dT [])) p1 (.tup [V.int 0, V.int 0])) p (.dT (putAs ks []))) := by
 have u0 := same_upd np (.dT [])
 have u1 := same_upd n1 (.tup [V.int 0, V.int 0])
 have e0 := u1 _ _ (upd_same (H := H) (a := p) (o := .dT []))
 have e1 := upd_same (H := L2.upd H p (.dT [])) (a := p1) (o := .tup [V.int 0, V.int 0])
 exact ⟨e0, [(kz (0, 0), p1, V.int v)], rfl, fun k hk => by rw [List.mem_singleton.mp hk]; exact e1, by simp, q p _ ((u0.trans u1).more np) np (one_disp (p1 := p1) (v := v) e0)⟩
theorem ok_Part_up {P : Program} {w : World} {K : PySem.W.Frag} {mg : Str -> Option Value} {base : Heap} (T : Tx K mg) : FnOk P w K mg base CX0 1 T.a_Part_up T.fd_Part_up ["self", "far"] spU1 := by
 refine T.F_Part_up.ok sc_Part_up (fun vs H Q E h => ?_) (fun cdv A outer s H vs Q E hr h => ?_)
 ·obtain ⟨x, far, rfl, _⟩ := h
  rfl
 obtain ⟨x, far, rfl, q⟩ := h
 refine ⟨_, ((pss_one (ps_ret (by exact pe_dispT (u_le0 hr.units) (pps_cons (pe_tup (pa_cons pe_int (pa_cons pe_int pa_nil))) pe_int pps_nil) rfl rfl (fun z => nomatch z) (by decide))))), ?_⟩
 k_units
 exact fun p np => ⟨by decide, fun p1 n1 => mk_one (v := 1) q p np p1 n1⟩
theorem ok_Part_down {P : Program} {w : World} {K : PySem.W.Frag} {mg : Str -> Option Value} {base : Heap} (T : Tx K mg) : FnOk P w K mg base CX0 1 T.a_Part_down T.fd_Part_down ["self", "far"] spU1 := by
 refine T.F_Part_down.ok sc_Part_down (fun vs H Q E h => ?_) (fun cdv A outer s H vs Q E hr h => ?_)
 ·obtain ⟨x, far, rfl, _⟩ := h
  rfl
 obtain ⟨x, far, rfl, q⟩ := h
 refine ⟨_, ((pss_one (ps_ret (by exact pe_dispT (u_le0 hr.units) (pps_cons (pe_tup (pa_cons pe_int (pa_cons pe_int pa_nil))) pe_int pps_nil) rfl rfl (fun z => nomatch z) (by decide))))), ?_⟩
 k_units
 exact fun p np => ⟨by decide, fun p1 n1 => mk_one (v := 1) q p np p1 n1⟩
def spWStep (K : PySem.W.Frag) (C : Addr) : Sp := fun vs H Q _ => ∃ (x dx p : Addr) (f : Int × Int × Int) (i : Nat) (far : Int), vs = [.ref x, .int (i : Int), .int far] ∧ H x = some (.ins C dx (wgtF p)) ∧ SqT K H p [.int f.1, .int f.2.1, .int f.2.2] ∧ Bd 400 f.1 ∧ i <= 2 ∧ newD H Q (fmD f.1 f.2.1 (f.2.2 + (i : Int) * f.1))
theorem ok_Weight_step {P : Program} {w : World} {K : PySem.W.Frag} {mg : Str -> Option Value} {base : Heap} (T : Tx K mg) : FnOk P w K mg base CX0 3 T.a_Weight_step T.fd_Weight_step ["self", "i", "far"] (spWStep K T.c_Weight) := by
 refine T.F_Weight_step.ok sc_Weight_step (fun vs H Q E h => ?_) (fun cdv A outer s H vs Q E hr h => ?_)
 ·obtain ⟨x, dx, p, f, i, far, rfl, _⟩ := h
  rfl
 obtain ⟨x, dx, p, f, i, far, rfl, hx, hp, bf, i2, q⟩ := h
 refine ⟨_, ((pss_one (ps_ret (pe_call (FnOk.mono (ok_pair_of_form T) (by decide)) hr rfl T.m_pair_of_form T.F_pair_of_form.kp T.b_pair_of_form .nil pass0 (pa_cons (pe_call (FnOk.mono (ok_raised T) (by decide)) hr rfl T.m_raised T.F_raised.kp T.b_raised .nil pass0 (pa_cons (pe_fld (pv 0) rfl) (pa_cons (pe_op op_mulZ (pv 1) (pe_ix ix_tup (pe_fld (pv 0) rfl) pe_int (fun _ _ => rfl))) pa_nil))) pa_nil))))), ?_⟩
 k_units
 exact ⟨T.c_Weight, dx, _, hx, T.cl_Weight, T.na_Weight_form, _, rfl, T.c_Weight, dx, _, hx, T.cl_Weight, T.na_Weight_form, _, rfl, p, rfl, _, hp, _, rfl, _, rfl, (Bd.of_lt (m := 3) (k := 2) (x := (i : Int)) (by omega) (by decide)).fits bf (by decide), p, f.1, f.2.1, f.2.2, _, rfl, hp, fun r nr => ⟨r, f.1, f.2.1, f.2.2 + (i : Int) * f.1, rfl, SqT.of upd_same, fun a H2 s2 n2 e2 => q a H2 ((same_upd nr _).trans s2) ((same_upd nr _).free n2) e2⟩⟩
def spPUp (K : PySem.W.Frag) (C : Addr) (up : Bool) : Sp := fun vs H Q _ => ∃ (x dx p : Addr) (f : Int × Int) (far : Int), vs = [.ref x, .int far] ∧ H x = some (.ins C dx (powF p)) ∧ SqT K H p [.int f.1, .int f.2] ∧ newD H Q (kD (if up then f.1 else f.2))
theorem ok_Power_up {P : Program} {w : World} {K : PySem.W.Frag} {mg : Str -> Option Value} {base : Heap} (T : Tx K mg) : FnOk P w K mg base CX0 1 T.a_Power_up T.fd_Power_up ["self", "far"] (spPUp K T.c_Power true) := by
 refine T.F_Power_up.ok sc_Power_up (fun vs H Q E h => ?_) (fun cdv A outer s H vs Q E hr h => ?_)
 ·obtain ⟨x, dx, p, f, far, rfl, _⟩ := h
  rfl
 obtain ⟨x, dx, p, f, far, rfl, hx, hp, q⟩ := h
 refine ⟨_, ((pss_one (ps_ret (by exact pe_dispT (u_le0 hr.units) (pps_cons (pe_tup (pa_cons pe_int (pa_cons pe_int pa_nil))) (pe_ix ix_tup (pe_fld (pv 0) rfl) pe_int (fun _ _ => rfl)) pps_nil) rfl rfl (fun z => nomatch z) (by decide))))), ?_⟩
 k_units
 refine fun p' np => ⟨by decide, fun p1 n1 => ?_⟩
 have u := (same_upd np (.dT [])).trans (same_upd n1 (.tup [V.int 0, V.int 0]))
 exact ⟨T.c_Power, dx, _, u _ _ hx, T.cl_Power, T.na_Power_fraction, _, rfl, p, rfl, _, u.seqT hp, _, rfl, mk_one q p' np p1 n1⟩
theorem ok_Power_down {P : Program} {w : World} {K : PySem.W.Frag} {mg : Str -> Option Value} {base : Heap} (T : Tx K mg) : FnOk P w K mg base CX0 1 T.a_Power_down T.fd_Power_down ["self", "far"] (spPUp K T.c_Power false) := by
 refine T.F_Power_down.ok sc_Power_down (fun vs H Q E h => ?_) (fun cdv A outer s H vs Q E hr h => ?_)
 ·obtain ⟨x, dx, p, f, far, rfl, _⟩ := h
  rfl
 obtain ⟨x, dx, p, f, far, rfl, hx, hp, q⟩ := h
 refine ⟨_, ((pss_one (ps_ret (by exact pe_dispT (u_le0 hr.units) (pps_cons (pe_tup (pa_cons pe_int (pa_cons pe_int pa_nil))) (pe_ix ix_tup (pe_fld (pv 0) rfl) pe_int (fun _ _ => rfl)) pps_nil) rfl rfl (fun z => nomatch z) (by decide))))), ?_⟩
 k_units
 refine fun p' np => ⟨by decide, fun p1 n1 => ?_⟩
 have u := (same_upd np (.dT [])).trans (same_upd n1 (.tup [V.int 0, V.int 0]))
 exact ⟨T.c_Power, dx, _, u _ _ hx, T.cl_Power, T.na_Power_fraction, _, rfl, p, rfl, _, u.seqT hp, _, rfl, mk_one q p' np p1 n1⟩
def spGStep (K : PySem.W.Frag) (C : Addr) : Sp := fun vs H Q _ => ∃ (x dx p : Addr) (f : Int × Int) (i far : Nat), vs = [.ref x, .int (i : Int), .int (far : Int)] ∧ H x = some (.ins C dx (powF p)) ∧ SqT K H p [.int f.1, .int f.2] ∧ Bd 100 f.1 ∧ Bd 100 f.2 ∧ i <= far ∧ far <= 2 ∧ newD H Q (kD (f.1 ^ i * f.2 ^ (far - i)))
theorem ok_Growth_step {P : Program} {w : World} {K : PySem.W.Frag} {mg : Str -> Option Value} {base : Heap} (T : Tx K mg) : FnOk P w K mg base CX0 2 T.a_Growth_step T.fd_Growth_step ["self", "i", "far"] (spGStep K T.c_Growth) := by
 refine T.F_Growth_step.ok sc_Growth_step (fun vs H Q E h => ?_) (fun cdv A outer s H vs Q E hr h => ?_)
 ·obtain ⟨x, dx, p, f, i, far, rfl, _⟩ := h
  rfl
 obtain ⟨x, dx, p, f, i, far, rfl, hx, hp, b1, b2, hi, hf, q⟩ := h
 refine ⟨_, ((pss_one (ps_ret (by exact pe_dispT (u_le0 hr.units) (pps_cons (pe_tup (pa_cons pe_int (pa_cons pe_int pa_nil))) (pe_op op_mulZ (pe_call (FnOk.mono (ok_power_of T) (by decide)) hr rfl T.m_power_of T.F_power_of.kp T.b_power_of .nil pass0 (pa_cons (pe_ix ix_tup (pe_fld (pv 0) rfl) pe_int (fun _ _ => rfl)) (pa_cons (pv 1) pa_nil))) (pe_call (FnOk.mono (ok_power_of T) (by decide)) hr rfl T.m_power_of T.F_power_of.kp T.b_power_of .nil pass0 (pa_cons (pe_ix ix_tup (pe_fld (pv 0) rfl) pe_int (fun _ _ => rfl)) (pa_cons (pe_op op_sub (pv 2) (pv 1)) pa_nil)))) pps_nil) rfl rfl (fun z => nomatch z) (by decide))))), ?_⟩
 k_units
 refine fun p' np => ⟨by decide, fun p1 n1 => ?_⟩
 have u := (same_upd np (.dT [])).trans (same_upd n1 (.tup [V.int 0, V.int 0]))
 exact ⟨T.c_Growth, dx, _, u _ _ hx, T.cl_Growth, T.na_Growth_fraction, _, rfl, p, rfl, _, u.seqT hp, _, rfl, f.1, i, rfl, b1, by omega, T.c_Growth, dx, _, u _ _ hx, T.cl_Growth, T.na_Growth_fraction, _, rfl, p, rfl, _, u.seqT hp, _, rfl, f.2, far - i, by rw [show (far : Int) - (i : Int) = ((far - i : Nat) : Int) by omega], b2, by omega, _, rfl, _, rfl, (bd_pw b1 i).fits (bd_pw b2 (far - i)) (by omega), mk_one q p' np p1 n1⟩
def facs (A B C : List PD) : Nat -> List PD
 | 0 => A
 | 1 => A ++ B
 | _ => A ++ B ++ C
theorem facs_len {A B C : List PD} (h1 : A.length <= 30) (h2 : B.length <= 30) (h3 : C.length <= 30) (j : Nat) : (facs A B C j).length <= 90 := by
 match j with
 | 0 => show A.length <= 90; omega
 | 1 => show (A ++ B).length <= 90; rw [List.length_append]; omega
 | j + 2 => show (A ++ B ++ C).length <= 90; rw [List.length_append, List.length_append]; omega
theorem fac_ext {H G H2 : Hp} {F N : Addr} {as bs : List Addr} {fs gs hs : List PD} {Pv : Hp -> Prop} (nF : H F = none) (s : Same H G) (eF : G F = some (.lst (as.map V.ref))) (d : DDs G as fs) (s2 : Same G H2) (e2 : H2 N = some (.lst (bs.map V.ref))) (d2 : DDs H2 bs gs) (lf : fs.length <= 90) (lg : gs.length <= 90) (eh : hs = fs ++ gs)
  (k : ∀ as', L2.upd H2 F (.lst (as.map V.ref ++ bs.map V.ref)) F = some (.lst (as'.map V.ref)) -> DDs (L2.upd H2 F (.lst (as.map V.ref ++ bs.map V.ref))) as' hs -> Same H (L2.upd H2 F (.lst (as.map V.ref ++ bs.map V.ref))) -> Pv (L2.upd H2 F (.lst (as.map V.ref ++ bs.map V.ref)))) :
  ∃ xs, H2 F = some (.lst xs) ∧ ∃ zs, H2 N = some (.lst zs) ∧ xs.length + zs.length <= sizeLine ∧ Pv (L2.upd H2 F (.lst (xs ++ zs))) := by
 refine ⟨_, s2 _ _ eF, _, e2, ?_, k (as ++ bs) (by rw [upd_same, List.map_append]) ?_ ((s.trans s2).more nF)⟩
 ·rw [List.length_map, List.length_map, d.len, d2.len]; exact Nat.le_trans (show fs.length + gs.length <= 180 by omega) (by decide)
 ·rw [eh]; exact ((d.on s2).app d2).upL (s2 _ _ eF)
def spCStep (K : PySem.W.Frag) (C : Addr) : Sp := fun vs H Q _ => ∃ (x dx p L q t : Addr) (h l : Int × Int × Int) (i far : Nat), vs = [.ref x, .int (i : Int), .int (far : Int)] ∧ H x = some (.ins C dx (chsF p L)) ∧ H L = some (.lst [.ref q, .ref t]) ∧ SqT K H p [.int h.1, .int h.2.1, .int h.2.2] ∧ SqT K H q [.int l.1, .int l.2.1, .int l.2.2] ∧ SqT K H t [.int (subF h l).1, .int (subF h l).2.1, .int (subF h l).2.2] ∧ Sml h l i far ∧ newD H Q (pdD (stL h l i far))
theorem ok_Choose_step {P : Program} {w : World} {K : PySem.W.Frag} {mg : Str -> Option Value} {base : Heap} (T : Tx K mg) : FnOk P w K mg base CX0 5 T.a_Choose_step T.fd_Choose_step ["self", "i", "far"] (spCStep K T.c_Choose) := by
 refine T.F_Choose_step.ok sc_Choose_step (fun vs H Q E h => ?_) (fun cdv A outer s H vs Q E hr h => ?_)
 ·obtain ⟨x, dx, p, L, q, t, h, l, i, far, rfl, _⟩ := h
  rfl
 obtain ⟨x, dx, p, L, q, t, h, l, i, far, rfl, hx, hL, hp, hq, ht, sm, z⟩ := h
 refine ⟨_, ((pss_cons (ps_set (i := 3) sc_Choose_step.nd rfl (Or.inl rfl) (pe_call (FnOk.mono (ok_raised_from T) (by decide)) hr rfl T.m_raised_from T.F_raised_from.kp T.b_raised_from .nil pass0 (pa_cons (pe_fld (pv 0) rfl) (pa_cons pe_int (pa_cons (pe_op op_mulZ (pv 1) (pe_ix ix_tup (pe_fld (pv 0) rfl) pe_int (fun _ _ => rfl))) pa_nil)))))
  (pss_cons (ps_for PassesOwn.never rfl (pi_list (pe_fld (pv 0) rfl)) (pg_name (i := 4) sc_Choose_step.nd rfl (Or.inl rfl)) (pss_one (ps_expr (pe_bm PySem.F.plainAttrs_list PySem.F.slot_list_extend PySem.F.type_list_extend mt_extend (pv 3) (pa_cons (pe_call (FnOk.mono (ok_raised_from T) (by decide)) hr rfl T.m_raised_from T.F_raised_from.kp T.b_raised_from .nil pass0 (pa_cons (pv 4) (pa_cons (pe_op op_add (pe_op op_mulZ (pv 1) (pe_ix ix_tup (pv 4) pe_int (fun _ _ => rfl))) pe_int) (pa_cons (pe_callB (call_max2 rfl) rfl T.z_max bt_max (pa_cons (pe_op op_mulZ (pv 2) (pe_ix ix_tup (pv 4) pe_int (fun _ _ => rfl))) (pa_cons pe_int pa_nil))) pa_nil)))) pa_nil)))))
  (pss_one (ps_ret (pe_call (FnOk.mono (ok_pair_product T) (by decide)) hr rfl T.m_pair_product T.F_pair_product.kp T.b_pair_product .nil pass0 (pa_cons (pv 3) pa_nil))))))), ?_⟩
 obtain ⟨⟨p1, p2⟩, ⟨q1, q2, q3, q4⟩, ⟨r1, r2, r3, r4⟩, _⟩ := sml_b sm
 obtain ⟨⟨c1, _, _⟩, ⟨c4, _, _⟩, ⟨c7, _, _⟩⟩ := cho_b sm.c
 have i2 := sm.i1
 have f2 := sm.f2
 have bi : Bd 8 (i : Int) := bd8 (by omega) (by omega)
 have bf : Bd 8 (far : Int) := bd8 (by omega) (by omega)
 dsimp only [a_seq]
 k_typeOf
 refine ⟨T.c_Choose, dx, _, hx, T.cl_Choose, T.na_Choose_above, _, rfl, T.c_Choose, dx, _, hx, T.cl_Choose, T.na_Choose_above, _, rfl, p, rfl, _, hp, _, rfl, _, rfl, bi.fits c1 (by decide), p, h, 1, _, rfl, hp, by decide, by decide, by omega, by omega, fun F as H1 s1 nF eF dF => ?_⟩
 dsimp only [a_seq]
 k_typeOf
 refine ⟨T.c_Choose, dx, _, s1 _ _ hx, T.cl_Choose, T.na_Choose_lows, _, rfl, L, rfl, ⟨_, SqL.of (s1 _ _ hL)⟩, ?_⟩
 obtain ⟨A0, hA0⟩ : ∃ A0, A0 = rfL h 1 (cnt 1 ((i : Int) * h.1)) := ⟨_, rfl⟩
 obtain ⟨B0, hB0⟩ : ∃ B0, B0 = rfL l ((i : Int) * l.1 + 1) (cnt ((i : Int) * l.1 + 1) (mx ((far : Int) * l.1))) := ⟨_, rfl⟩
 obtain ⟨C0, hC0⟩ : ∃ C0, C0 = rfL (subF h l) ((i : Int) * (subF h l).1 + 1) (cnt ((i : Int) * (subF h l).1 + 1) (mx ((far : Int) * (subF h l).1))) := ⟨_, rfl⟩
 have m1 := (mx_ge ((far : Int) * l.1)).1
 have m2 := (mx_ge ((far : Int) * (subF h l).1)).1
 have lA : A0.length <= 30 := by rw [hA0, rfL_len]; unfold cnt; omega
 have lB : B0.length <= 30 := by rw [hB0, rfL_len]; unfold cnt; omega
 have lC : C0.length <= 30 := by rw [hC0, rfL_len]; unfold cnt; omega
 obtain ⟨Pv, hPv⟩ : ∃ Pv : Nat -> L2.St -> Hp -> Prop, ∀ j σ H', Pv j σ H' ↔ ∃ (as : List Addr) (r : Option V), σ = [some (V.ref x), some (V.int (i : Int)), some (V.int (far : Int)), some (V.ref F), r] ∧ H' F = some (.lst (as.map V.ref)) ∧ DDs H' as (facs A0 B0 C0 j) ∧ Same H H' := ⟨_, fun _ _ _ => Iff.rfl⟩
 refine lp_list (xs := [V.ref q, V.ref t]) Pv ((hPv _ _ _).mpr ⟨as, none, rfl, eF, by rw [show facs A0 B0 C0 0 = A0 from rfl, hA0]; exact dF, s1⟩) (fun j σ H' _ y => by obtain ⟨_, _, _, _, _, y⟩ := (hPv j σ H').mp y; exact y.seq (SqL.of hL)) ?_ ?_
 ·intro j v σ G hv hp'
  obtain ⟨as, r, rfl, eG, dG, sG⟩ := (hPv _ _ _).mp hp'
  obtain ⟨u, f, rfl, eu, b1, lo, lo', hi, hi', gs, lgs, hgs, ehs⟩ : ∃ (u : Addr) (f : Int × Int × Int), v = V.ref u ∧ SqT K H u [.int f.1, .int f.2.1, .int f.2.2] ∧ Bd 8 f.1 ∧ -100 <= (i : Int) * f.1 + 1 ∧ (i : Int) * f.1 + 1 <= 100 ∧ -100 <= mx ((far : Int) * f.1) ∧ mx ((far : Int) * f.1) <= 100 ∧ ∃ gs, gs.length <= 30 ∧ gs = rfL f ((i : Int) * f.1 + 1) (cnt ((i : Int) * f.1 + 1) (mx ((far : Int) * f.1))) ∧ facs A0 B0 C0 (j + 1) = facs A0 B0 C0 j ++ gs := by
   match j, hv with
   | 0, hv => exact ⟨q, l, (Option.some.inj hv).symm, hq, c4, by omega, by omega, by omega, by omega, B0, lB, hB0, rfl⟩
   | 1, hv => exact ⟨t, subF h l, (Option.some.inj hv).symm, ht, c7, by omega, by omega, by omega, by omega, C0, lC, hC0, rfl⟩
   | j + 2, hv => simp at hv
  k_units
  refine ⟨a_tyL (SqL.of eG), _, sG.seqT eu, _, rfl, _, rfl, bi.fits b1 (by decide), _, sG.seqT eu, _, rfl, _, rfl, bf.fits b1 (by decide), u, f, _, _, rfl, sG.seqT eu, lo, lo', hi, hi', fun N bs H2 s2 n2 e2 d2 => ?_⟩
  exact ⟨N, rfl, fac_ext nF sG eG dG s2 e2 d2 (facs_len lA lB lC j) (by have w := lgs; rw [hgs] at w; exact Nat.le_trans w (by decide)) (by rw [ehs, hgs]; rfl) fun as' e3 d3 s3 => (hPv _ _ _).mpr ⟨as', _, rfl, e3, d3, s3⟩⟩
 intro σ G hp'
 obtain ⟨as2, r, rfl, eG, dG, sG⟩ := (hPv _ _ _).mp hp'
 have ef : facs A0 B0 C0 2 = stL h l i far := by rw [hA0, hB0, hC0]; rfl
 obtain ⟨sl, so⟩ := stL_ok sm
 k_units
 exact ⟨F, as2, stL h l i far, List.replicate (stL h l i far).length 1, 10, rfl, SqL.of eG, by rw [← ef]; exact dG, (pd_forms so (by omega)).1, by rw [sum_ones]; omega, by omega, by decide, fun a H3 s3 n3 e3 => z a H3 (sG.trans s3) (sG.free n3) e3⟩
def spCUp (K : PySem.W.Frag) (C : Addr) : Sp := fun vs H Q _ => ∃ (x dx p L q t : Addr) (h l : Int × Int × Int) (far : Nat), vs = [.ref x, .int (far : Int)] ∧ H x = some (.ins C dx (chsF p L)) ∧ H L = some (.lst [.ref q, .ref t]) ∧ SqT K H p [.int h.1, .int h.2.1, .int h.2.2] ∧ SqT K H q [.int l.1, .int l.2.1, .int l.2.2] ∧ SqT K H t [.int (subF h l).1, .int (subF h l).2.1, .int (subF h l).2.2] ∧ ChoOk h l ∧ far <= 2 ∧ newD H Q (pdD (upL h l far))
theorem ok_Choose_up {P : Program} {w : World} {K : PySem.W.Frag} {mg : Str -> Option Value} {base : Heap} (T : Tx K mg) : FnOk P w K mg base CX0 5 T.a_Choose_up T.fd_Choose_up ["self", "far"] (spCUp K T.c_Choose) := by
 refine T.F_Choose_up.ok sc_Choose_up (fun vs H Q E h => ?_) (fun cdv A outer s H vs Q E hr h => ?_)
 ·obtain ⟨x, dx, p, L, q, t, h, l, far, rfl, _⟩ := h
  rfl
 obtain ⟨x, dx, p, L, q, t, h, l, far, rfl, hx, hL, hp, hq, ht, c, f2, z⟩ := h
 refine ⟨_, ((pss_cons (ps_set (i := 2) sc_Choose_up.nd rfl (Or.inl rfl) (pe_call (FnOk.mono (ok_raised_from T) (by decide)) hr rfl T.m_raised_from T.F_raised_from.kp T.b_raised_from .nil pass0 (pa_cons (pe_fld (pv 0) rfl) (pa_cons pe_int (pa_cons (pe_ix ix_tup (pe_fld (pv 0) rfl) pe_int (fun _ _ => rfl)) pa_nil)))))
  (pss_cons (ps_for PassesOwn.never rfl (pi_list (pe_meth (pv 0) T.cl_Choose T.me_Choose_lifted (FnOk.mono (ok_Choose_lifted T) (by decide)) hr T.b_Choose_lifted .nil pass0 (pa_cons (pv 1) pa_nil))) (pg_name (i := 3) sc_Choose_up.nd rfl (Or.inl rfl)) (pss_one (ps_expr (pe_bm PySem.F.plainAttrs_list PySem.F.slot_list_extend PySem.F.type_list_extend mt_extend (pv 2) (pa_cons (pe_call (FnOk.mono (ok_raised_from T) (by decide)) hr rfl T.m_raised_from T.F_raised_from.kp T.b_raised_from .nil pass0 (pa_cons (pv 3) (pa_cons (pe_op op_add (pe_ix ix_tup (pv 3) pe_int (fun _ _ => rfl)) pe_int) (pa_cons pe_int pa_nil)))) pa_nil)))))
  (pss_one (ps_ret (pe_call (FnOk.mono (ok_pair_product T) (by decide)) hr rfl T.m_pair_product T.F_pair_product.kp T.b_pair_product .nil pass0 (pa_cons (pv 2) pa_nil))))))), ?_⟩
 obtain ⟨⟨a1, a2, a3, a4, a5, a6⟩, ⟨b1, b2, b3, b4, b5, b6⟩, _⟩ := id c
 obtain ⟨⟨c1, c2, _⟩, ⟨c4, c5, _⟩, ⟨c7, c8, _⟩⟩ := cho_b c
 have bf : Bd 8 (far : Int) := bd8 (by omega) (by omega)
 have e1 : (subF h l).2.1 = h.2.1 - l.2.1 := rfl
 dsimp only [a_seq]
 k_typeOf
 refine ⟨T.c_Choose, dx, _, hx, T.cl_Choose, T.na_Choose_above, _, rfl, T.c_Choose, dx, _, hx, T.cl_Choose, T.na_Choose_above, _, rfl, p, rfl, _, hp, _, rfl, p, h, 1, _, rfl, hp, by decide, by decide, by omega, by omega, fun F as H1 s1 nF eF dF => ?_⟩
 dsimp only [a_seq]
 k_typeOf
 refine ⟨dx, _, s1 _ _ hx, rfl, x, dx, p, L, q, t, l, subF h l, (far : Int), rfl, s1 _ _ hx, s1 _ _ hL, s1.seqT hq, s1.seqT ht, bf.mono (by decide), c4.mono (by decide), c7.mono (by decide), fun D u v H2 s2 nD eD eu ev => ⟨D, rfl, ⟨_, SqL.of eD⟩, ?_⟩⟩
 obtain ⟨A0, hA0⟩ : ∃ A0 : List PD, A0 = rfL h 1 (cnt 1 h.2.1) := ⟨_, rfl⟩
 obtain ⟨B0, hB0⟩ : ∃ B0, B0 = rfL (liftF far l) (l.2.1 + 1) (cnt (l.2.1 + 1) 0) := ⟨_, rfl⟩
 obtain ⟨C0, hC0⟩ : ∃ C0, C0 = rfL (liftF far (subF h l)) ((subF h l).2.1 + 1) (cnt ((subF h l).2.1 + 1) 0) := ⟨_, rfl⟩
 have lA : A0.length <= 30 := by rw [hA0]; first | (rw [rfL_len]; unfold cnt; omega) | simp
 have lB : B0.length <= 30 := by rw [hB0, rfL_len]; unfold cnt; omega
 have lC : C0.length <= 30 := by rw [hC0, rfL_len]; unfold cnt; omega
 have s12 := s1.trans s2
 have nDF : D ≠ F := fun w => by rw [w, eF] at nD; cases nD
 obtain ⟨Pv, hPv⟩ : ∃ Pv : Nat -> L2.St -> Hp -> Prop, ∀ j σ H', Pv j σ H' ↔ ∃ (as : List Addr) (r : Option V), σ = [some (V.ref x), some (V.int (far : Int)), some (V.ref F), r] ∧ H' F = some (.lst (as.map V.ref)) ∧ DDs H' as (facs A0 B0 C0 j) ∧ Same H H' ∧ H' D = some (.lst [.ref u, .ref v]) ∧ H' u = some (T3 (liftF far l)) ∧ H' v = some (T3 (liftF far (subF h l))) := ⟨_, fun _ _ _ => Iff.rfl⟩
 refine lp_list (xs := [V.ref u, V.ref v]) Pv ((hPv _ _ _).mpr ⟨as, none, rfl, s2 _ _ eF, by rw [show facs A0 B0 C0 0 = A0 from rfl, hA0]; exact dF.on s2, s12, eD, eu, ev⟩) (fun j σ H' _ y => by obtain ⟨_, _, _, _, _, _, y, _⟩ := (hPv j σ H').mp y; exact SqL.of y) ?_ ?_
 ·intro j v' σ G hv hp'
  obtain ⟨as, r, rfl, eG, dG, sG, gD, gu, gv⟩ := (hPv _ _ _).mp hp'
  obtain ⟨u', f, rfl, eu', d1, d2, gs, lgs, hgs, ehs⟩ : ∃ (u' : Addr) (f : Int × Int × Int), v' = V.ref u' ∧ G u' = some (T3 f) ∧ -50 <= f.2.1 ∧ f.2.1 <= 50 ∧ ∃ gs, gs.length <= 30 ∧ gs = rfL f (f.2.1 + 1) (cnt (f.2.1 + 1) (0)) ∧ facs A0 B0 C0 (j + 1) = facs A0 B0 C0 j ++ gs := by
   match j, hv with
   | 0, hv => exact ⟨u, liftF far l, (Option.some.inj hv).symm, gu, by show -50 <= l.2.1; omega, by show l.2.1 <= 50; omega, B0, lB, hB0, rfl⟩
   | 1, hv => exact ⟨v, liftF far (subF h l), (Option.some.inj hv).symm, gv, by show -50 <= (subF h l).2.1; omega, by show (subF h l).2.1 <= 50; omega, C0, lC, hC0, rfl⟩
   | j + 2, hv => simp at hv
  k_units
  refine ⟨a_tyL (SqL.of eG), _, SqT.of eu', _, rfl, _, rfl, u', f, _, _, rfl, SqT.of eu', by omega, by omega, by omega, by omega, fun N bs H3 s3 n3 e3 d3 => ?_⟩
  exact ⟨N, rfl, fac_ext nF sG eG dG s3 e3 d3 (facs_len lA lB lC j) (by have w := lgs; rw [hgs] at w; exact Nat.le_trans w (by decide)) (by rw [ehs, hgs]; rfl) fun as' e4 d4 s4 => (hPv _ _ _).mpr ⟨as', _, rfl, e4, d4, s4, by rw [upd_ne nDF]; exact s3 _ _ gD, by rw [upd_ne (ne_of gu eG (fun w => nomatch w))]; exact s3 _ _ gu, by rw [upd_ne (ne_of gv eG (fun w => nomatch w))]; exact s3 _ _ gv⟩⟩
 intro σ G hp'
 obtain ⟨as2, r, rfl, eG, dG, sG, _⟩ := (hPv _ _ _).mp hp'
 have ef : facs A0 B0 C0 2 = upL h l far := by rw [hA0, hB0, hC0]; rfl
 obtain ⟨o1, o2, o3, o4⟩ := upL_ok (far := far) c f2
 k_units
 exact ⟨F, as2, upL h l far, List.replicate (upL h l far).length 1, 10, rfl, SqL.of eG, by rw [← ef]; exact dG, (pd_forms o2 (by omega)).1, by rw [sum_ones]; omega, by omega, by decide, fun a H3 s3 n3 e3 => z a H3 (sG.trans s3) (sG.free n3) e3⟩
def spCDn (K : PySem.W.Frag) (C : Addr) : Sp := fun vs H Q _ => ∃ (x dx p L q t : Addr) (h l : Int × Int × Int) (far : Nat), vs = [.ref x, .int (far : Int)] ∧ H x = some (.ins C dx (chsF p L)) ∧ H L = some (.lst [.ref q, .ref t]) ∧ SqT K H p [.int h.1, .int h.2.1, .int h.2.2] ∧ SqT K H q [.int l.1, .int l.2.1, .int l.2.2] ∧ SqT K H t [.int (subF h l).1, .int (subF h l).2.1, .int (subF h l).2.2] ∧ ChoOk h l ∧ far <= 2 ∧ newD H Q (pdD (dnL h l far))
theorem ok_Choose_down {P : Program} {w : World} {K : PySem.W.Frag} {mg : Str -> Option Value} {base : Heap} (T : Tx K mg) : FnOk P w K mg base CX0 5 T.a_Choose_down T.fd_Choose_down ["self", "far"] (spCDn K T.c_Choose) := by
 refine T.F_Choose_down.ok sc_Choose_down (fun vs H Q E h => ?_) (fun cdv A outer s H vs Q E hr h => ?_)
 ·obtain ⟨x, dx, p, L, q, t, h, l, far, rfl, _⟩ := h
  rfl
 obtain ⟨x, dx, p, L, q, t, h, l, far, rfl, hx, hL, hp, hq, ht, c, f2, z⟩ := h
 refine ⟨_, ((pss_cons (ps_set (i := 2) sc_Choose_down.nd rfl (Or.inl rfl) (pe_lst pa_nil))
  (pss_cons (ps_for PassesOwn.never rfl (pi_list (pe_meth (pv 0) T.cl_Choose T.me_Choose_lifted (FnOk.mono (ok_Choose_lifted T) (by decide)) hr T.b_Choose_lifted .nil pass0 (pa_cons (pv 1) pa_nil))) (pg_name (i := 3) sc_Choose_down.nd rfl (Or.inl rfl)) (pss_one (ps_expr (pe_bm PySem.F.plainAttrs_list PySem.F.slot_list_extend PySem.F.type_list_extend mt_extend (pv 2) (pa_cons (pe_call (FnOk.mono (ok_raised_from T) (by decide)) hr rfl T.m_raised_from T.F_raised_from.kp T.b_raised_from .nil pass0 (pa_cons (pv 3) (pa_cons pe_int (pa_cons (pe_ix ix_tup (pv 3) pe_int (fun _ _ => rfl)) pa_nil)))) pa_nil)))))
  (pss_one (ps_ret (pe_call (FnOk.mono (ok_pair_product T) (by decide)) hr rfl T.m_pair_product T.F_pair_product.kp T.b_pair_product .nil pass0 (pa_cons (pv 2) pa_nil))))))), ?_⟩
 obtain ⟨⟨a1, a2, a3, a4, a5, a6⟩, ⟨b1, b2, b3, b4, b5, b6⟩, _⟩ := id c
 obtain ⟨⟨c1, c2, _⟩, ⟨c4, c5, _⟩, ⟨c7, c8, _⟩⟩ := cho_b c
 have bf : Bd 8 (far : Int) := bd8 (by omega) (by omega)
 have e1 : (subF h l).2.1 = h.2.1 - l.2.1 := rfl
 dsimp only [a_seq]
 k_typeOf
 refine ⟨by decide, fun F nF => ?_⟩
 have s1 := same_upd nF (.lst [])
 have eF : L2.upd H F (.lst []) F = some (.lst (([] : List Addr).map V.ref)) := upd_same
 obtain ⟨as, has⟩ : ∃ as : List Addr, as = [] := ⟨_, rfl⟩
 have dF : DDs (L2.upd H F (.lst [])) as [] := by rw [has]; exact ⟨rfl, fun i a f e => by simp at e⟩
 rw [← has] at eF
 generalize L2.upd H F (.lst []) = H1 at s1 eF dF ⊢
 dsimp only [a_seq]
 k_typeOf
 refine ⟨dx, _, s1 _ _ hx, rfl, x, dx, p, L, q, t, l, subF h l, (far : Int), rfl, s1 _ _ hx, s1 _ _ hL, s1.seqT hq, s1.seqT ht, bf.mono (by decide), c4.mono (by decide), c7.mono (by decide), fun D u v H2 s2 nD eD eu ev => ⟨D, rfl, ⟨_, SqL.of eD⟩, ?_⟩⟩
 obtain ⟨A0, hA0⟩ : ∃ A0 : List PD, A0 = [] := ⟨_, rfl⟩
 obtain ⟨B0, hB0⟩ : ∃ B0, B0 = rfL (liftF far l) 1 (cnt 1 l.2.1) := ⟨_, rfl⟩
 obtain ⟨C0, hC0⟩ : ∃ C0, C0 = rfL (liftF far (subF h l)) 1 (cnt 1 (subF h l).2.1) := ⟨_, rfl⟩
 have lA : A0.length <= 30 := by rw [hA0]; first | (rw [rfL_len]; unfold cnt; omega) | simp
 have lB : B0.length <= 30 := by rw [hB0, rfL_len]; unfold cnt; omega
 have lC : C0.length <= 30 := by rw [hC0, rfL_len]; unfold cnt; omega
 have s12 := s1.trans s2
 have nDF : D ≠ F := fun w => by rw [w, eF] at nD; cases nD
 obtain ⟨Pv, hPv⟩ : ∃ Pv : Nat -> L2.St -> Hp -> Prop, ∀ j σ H', Pv j σ H' ↔ ∃ (as : List Addr) (r : Option V), σ = [some (V.ref x), some (V.int (far : Int)), some (V.ref F), r] ∧ H' F = some (.lst (as.map V.ref)) ∧ DDs H' as (facs A0 B0 C0 j) ∧ Same H H' ∧ H' D = some (.lst [.ref u, .ref v]) ∧ H' u = some (T3 (liftF far l)) ∧ H' v = some (T3 (liftF far (subF h l))) := ⟨_, fun _ _ _ => Iff.rfl⟩
 refine lp_list (xs := [V.ref u, V.ref v]) Pv ((hPv _ _ _).mpr ⟨as, none, rfl, s2 _ _ eF, by rw [show facs A0 B0 C0 0 = A0 from rfl, hA0]; exact dF.on s2, s12, eD, eu, ev⟩) (fun j σ H' _ y => by obtain ⟨_, _, _, _, _, _, y, _⟩ := (hPv j σ H').mp y; exact SqL.of y) ?_ ?_
 ·intro j v' σ G hv hp'
  obtain ⟨as, r, rfl, eG, dG, sG, gD, gu, gv⟩ := (hPv _ _ _).mp hp'
  obtain ⟨u', f, rfl, eu', d1, d2, gs, lgs, hgs, ehs⟩ : ∃ (u' : Addr) (f : Int × Int × Int), v' = V.ref u' ∧ G u' = some (T3 f) ∧ -50 <= f.2.1 ∧ f.2.1 <= 50 ∧ ∃ gs, gs.length <= 30 ∧ gs = rfL f (1) (cnt (1) (f.2.1)) ∧ facs A0 B0 C0 (j + 1) = facs A0 B0 C0 j ++ gs := by
   match j, hv with
   | 0, hv => exact ⟨u, liftF far l, (Option.some.inj hv).symm, gu, by show -50 <= l.2.1; omega, by show l.2.1 <= 50; omega, B0, lB, hB0, rfl⟩
   | 1, hv => exact ⟨v, liftF far (subF h l), (Option.some.inj hv).symm, gv, by show -50 <= (subF h l).2.1; omega, by show (subF h l).2.1 <= 50; omega, C0, lC, hC0, rfl⟩
   | j + 2, hv => simp at hv
  k_units
  refine ⟨a_tyL (SqL.of eG), _, SqT.of eu', _, rfl, u', f, _, _, rfl, SqT.of eu', by omega, by omega, by omega, by omega, fun N bs H3 s3 n3 e3 d3 => ?_⟩
  exact ⟨N, rfl, fac_ext nF sG eG dG s3 e3 d3 (facs_len lA lB lC j) (by have w := lgs; rw [hgs] at w; exact Nat.le_trans w (by decide)) (by rw [ehs, hgs]; rfl) fun as' e4 d4 s4 => (hPv _ _ _).mpr ⟨as', _, rfl, e4, d4, s4, by rw [upd_ne nDF]; exact s3 _ _ gD, by rw [upd_ne (ne_of gu eG (fun w => nomatch w))]; exact s3 _ _ gu, by rw [upd_ne (ne_of gv eG (fun w => nomatch w))]; exact s3 _ _ gv⟩⟩
 intro σ G hp'
 obtain ⟨as2, r, rfl, eG, dG, sG, _⟩ := (hPv _ _ _).mp hp'
 have ef : facs A0 B0 C0 2 = dnL h l far := by rw [hA0, hB0, hC0]; rfl
 obtain ⟨o1, o2, o3, o4⟩ := upL_ok (far := far) c f2
 k_units
 exact ⟨F, as2, dnL h l far, List.replicate (dnL h l far).length 1, 10, rfl, SqL.of eG, by rw [← ef]; exact dG, (pd_forms o4 (by omega)).1, by rw [sum_ones]; omega, by omega, by decide, fun a H3 s3 n3 e3 => z a H3 (sG.trans s3) (sG.free n3) e3⟩
def DynS {K : PySem.W.Frag} {mg : Str -> Option Value} (T : Tx K mg) (H : Hp) (q : Addr) (i far : Nat) (Q : VK) (E : XK) : Prop :=
 (∃ x x_1, H q = some (HO.ins T.c_Choose x x_1) ∧ List.lookup (Str.ofString "step") x_1 = none ∧ spCStep K T.c_Choose [V.ref q, V.int (i : Int), V.int (far : Int)] H Q E) ∨
 (∃ x x_1, H q = some (HO.ins T.c_Weight x x_1) ∧ List.lookup (Str.ofString "step") x_1 = none ∧ spWStep K T.c_Weight [V.ref q, V.int (i : Int), V.int (far : Int)] H Q E) ∨
 (∃ x x_1, H q = some (HO.ins T.c_Power x x_1) ∧ List.lookup (Str.ofString "step") x_1 = none ∧ spD1 [V.ref q, V.int (i : Int), V.int (far : Int)] H Q E) ∨
 (∃ x x_1, H q = some (HO.ins T.c_Growth x x_1) ∧ List.lookup (Str.ofString "step") x_1 = none ∧ spGStep K T.c_Growth [V.ref q, V.int (i : Int), V.int (far : Int)] H Q E)
def DynU {K : PySem.W.Frag} {mg : Str -> Option Value} (T : Tx K mg) (H : Hp) (q : Addr) (far : Nat) (Q : VK) (E : XK) : Prop :=
 (∃ x x_1, H q = some (HO.ins T.c_Choose x x_1) ∧ List.lookup (Str.ofString "up") x_1 = none ∧ spCUp K T.c_Choose [V.ref q, V.int (far : Int)] H Q E) ∨
 (∃ x x_1, H q = some (HO.ins T.c_Weight x x_1) ∧ List.lookup (Str.ofString "up") x_1 = none ∧ spU1 [V.ref q, V.int (far : Int)] H Q E) ∨
 (∃ x x_1, H q = some (HO.ins T.c_Power x x_1) ∧ List.lookup (Str.ofString "up") x_1 = none ∧ spPUp K T.c_Power true [V.ref q, V.int (far : Int)] H Q E) ∨
 (∃ x x_1, H q = some (HO.ins T.c_Growth x x_1) ∧ List.lookup (Str.ofString "up") x_1 = none ∧ spU1 [V.ref q, V.int (far : Int)] H Q E)
def DynD {K : PySem.W.Frag} {mg : Str -> Option Value} (T : Tx K mg) (H : Hp) (q : Addr) (far : Nat) (Q : VK) (E : XK) : Prop :=
 (∃ x x_1, H q = some (HO.ins T.c_Choose x x_1) ∧ List.lookup (Str.ofString "down") x_1 = none ∧ spCDn K T.c_Choose [V.ref q, V.int (far : Int)] H Q E) ∨
 (∃ x x_1, H q = some (HO.ins T.c_Weight x x_1) ∧ List.lookup (Str.ofString "down") x_1 = none ∧ spU1 [V.ref q, V.int (far : Int)] H Q E) ∨
 (∃ x x_1, H q = some (HO.ins T.c_Power x x_1) ∧ List.lookup (Str.ofString "down") x_1 = none ∧ spPUp K T.c_Power false [V.ref q, V.int (far : Int)] H Q E) ∨
 (∃ x x_1, H q = some (HO.ins T.c_Growth x x_1) ∧ List.lookup (Str.ofString "down") x_1 = none ∧ spU1 [V.ref q, V.int (far : Int)] H Q E)
theorem dyn_step {K : PySem.W.Frag} {mg : Str -> Option Value} {T : Tx K mg} {H0 H : Hp} {q : Addr} {p : Prt} {i far : Nat} {Q : VK} {E : XK} (hc : PcAt T H0 H q p) (ho : PrtOk p) (hi : i <= far) (hf : far <= 2) (z : newD H Q (stD p i far)) : DynS T H q i far Q E := by
 match p, hc, ho, z with
 | .cho h l, ⟨dx, a, L, b, t, h1, h2, h3, h4, h5, h6⟩, ho, z => exact .inl ⟨dx, _, h1, rfl, q, dx, a, L, b, t, h, l, i, far, rfl, h1, h4, SqT.of h2, SqT.of h5, SqT.of h6, ⟨ho, hi, hf⟩, z⟩
 | .wei f, ⟨dx, a, h1, h2⟩, ho, z => exact .inr (.inl ⟨dx, _, h1, rfl, q, dx, a, f, i, far, rfl, h1, SqT.of h2, ho.1.mono (by decide), by omega, z⟩)
 | .pow f, ⟨dx, a, h1, h2⟩, ho, z => exact .inr (.inr (.inl ⟨dx, _, h1, rfl, q, ⟨_, _, rfl⟩, z⟩))
 | .gro f, ⟨dx, a, h1, h2⟩, ho, z => exact .inr (.inr (.inr ⟨dx, _, h1, rfl, q, dx, a, f, i, far, rfl, h1, SqT.of h2, ho.2.2.1.mono (by decide), ho.2.2.2.mono (by decide), hi, hf, z⟩))
theorem dyn_up {K : PySem.W.Frag} {mg : Str -> Option Value} {T : Tx K mg} {H0 H : Hp} {q : Addr} {p : Prt} {far : Nat} {Q : VK} {E : XK} (hc : PcAt T H0 H q p) (ho : PrtOk p) (hf : far <= 2) (z : newD H Q (upD p far)) : DynU T H q far Q E := by
 match p, hc, ho, z with
 | .cho h l, ⟨dx, a, L, b, t, h1, h2, h3, h4, h5, h6⟩, ho, z => exact .inl ⟨dx, _, h1, rfl, q, dx, a, L, b, t, h, l, far, rfl, h1, h4, SqT.of h2, SqT.of h5, SqT.of h6, ho, hf, z⟩
 | .wei f, ⟨dx, a, h1, h2⟩, ho, z => exact .inr (.inl ⟨dx, _, h1, rfl, q, _, rfl, z⟩)
 | .pow f, ⟨dx, a, h1, h2⟩, ho, z => exact .inr (.inr (.inl ⟨dx, _, h1, rfl, q, dx, a, f, _, rfl, h1, SqT.of h2, z⟩))
 | .gro f, ⟨dx, a, h1, h2⟩, ho, z => exact .inr (.inr (.inr ⟨dx, _, h1, rfl, q, _, rfl, z⟩))
theorem dyn_down {K : PySem.W.Frag} {mg : Str -> Option Value} {T : Tx K mg} {H0 H : Hp} {q : Addr} {p : Prt} {far : Nat} {Q : VK} {E : XK} (hc : PcAt T H0 H q p) (ho : PrtOk p) (hf : far <= 2) (z : newD H Q (dnD p far)) : DynD T H q far Q E := by
 match p, hc, ho, z with
 | .cho h l, ⟨dx, a, L, b, t, h1, h2, h3, h4, h5, h6⟩, ho, z => exact .inl ⟨dx, _, h1, rfl, q, dx, a, L, b, t, h, l, far, rfl, h1, h4, SqT.of h2, SqT.of h5, SqT.of h6, ho, hf, z⟩
 | .wei f, ⟨dx, a, h1, h2⟩, ho, z => exact .inr (.inl ⟨dx, _, h1, rfl, q, _, rfl, z⟩)
 | .pow f, ⟨dx, a, h1, h2⟩, ho, z => exact .inr (.inr (.inl ⟨dx, _, h1, rfl, q, dx, a, f, _, rfl, h1, SqT.of h2, z⟩))
 | .gro f, ⟨dx, a, h1, h2⟩, ho, z => exact .inr (.inr (.inr ⟨dx, _, h1, rfl, q, _, rfl, z⟩))
theorem pi_listK {X : Cx} {K : PySem.W.Frag} {tg l : Expr} {tl : TE} (hK : X.K = K) (hl : PE X l tl) : PI X tg l (iList K tl) := by subst hK; exact pi_list hl
theorem cl_dicts {K : PySem.W.Frag} {a : Addr} {qs : List Addr} {fs : List PD} {fv : List (Nat × Str)} {te : TE} {Q : VK} {σ : L2.St} {H1 : Hp} {D : Addr} (nD : H1 D = none) (hA : SqL K H1 a (qs.map V.ref)) (hd : fs.length = qs.length) (hl : fs.length <= 900)
  (hs : ∀ (i : Nat) (q : Addr) (f : PD) (Hx : Hp) (R : VK), qs[i]? = some q -> fs[i]? = some f -> Same H1 Hx -> newD Hx R f -> te (bst fv σ (some (V.ref q))) Hx R) (he : newDs H1 Q fs) : CLoop (Itl K a) fv te Q σ H1 D := by
 obtain ⟨Pc, hPc⟩ : ∃ Pc : Nat -> Hp -> Prop, ∀ j Hx, Pc j Hx ↔ ∃ as : List Addr, Hx D = some (.lst (as.map V.ref)) ∧ DDs Hx as (fs.take j) ∧ Same H1 Hx := ⟨_, fun _ _ => Iff.rfl⟩
 refine cl_list (xs := qs.map V.ref) Pc ((hPc _ _).mpr ⟨[], upd_same, ⟨by simp, fun i a f e => by simp at e⟩, same_upd nD _⟩) (fun i Hx _ z => by obtain ⟨_, _, _, z⟩ := (hPc i Hx).mp z; exact z.seq hA) ?_ ?_
 ·intro j v Hx hv hc
  obtain ⟨as, k1, k2, k3⟩ := (hPc _ _).mp hc
  rw [List.getElem?_map] at hv
  obtain ⟨q, hq, rfl⟩ := Option.map_eq_some_iff.mp hv
  have hj : j < fs.length := by have := (List.getElem?_eq_some_iff.mp hq).1; omega
  refine hs j q _ Hx _ hq (List.getElem?_eq_getElem hj) k3 fun p H2 s2 np ep => ?_
  have lk := k2.len
  rw [List.length_take] at lk
  refine ⟨_, s2 _ _ k1, by rw [List.length_map]; exact small1000 (by omega), (hPc _ _).mpr ⟨as ++ [p], by rw [upd_same, List.map_append]; rfl, ?_, (k3.trans s2).more nD⟩⟩
  rw [← List.take_append_getElem hj]
  exact ((k2.on s2).app ⟨rfl, fun i a f e1 e2 => by
   match i, e1, e2 with
   | 0, e1, e2 => obtain rfl := Option.some.inj e1; obtain rfl := Option.some.inj e2; exact .inl ep
   | i + 1, e1, _ => simp at e1⟩).upL (s2 _ _ k1)
 intro Hx hc
 obtain ⟨as, k1, k2, k3⟩ := (hPc _ _).mp hc
 rw [List.length_map, ← hd, List.take_length] at k2
 exact he D as Hx k3 nD k1 k2
theorem bd_pwf {f : Int × Int} {i far : Nat} (h1 : Bd 70 f.1) (h2 : Bd 20 f.2) (hi : i <= far) (hf : far <= 2) : Bd 410 (f.1 ^ i * f.2 ^ (far - i)) :=
 ((bd_pw h1 i).mul (bd_pw h2 (far - i))).mono (by omega)
theorem std_pd {p : Prt} {i far : Nat} (ho : PrtOk p) (hi : i <= far) (hf : far <= 2) : PdOk (dgF p) 410 (stD p i far) := by
 match p, ho with
 | .cho h l, ho =>
  obtain ⟨l12, ok⟩ := stL_ok (h := h) (l := l) ⟨ho, hi, hf⟩
  exact ((pd_forms ok (by omega)).2).mono l12 (by omega)
 | .wei f, ⟨h1, h2, h3⟩ => exact pd_form (h1.mono (by decide)) (h2.mono (by decide)) (((h3.mono (show 300 <= 2 + 300 by decide)).add ((Bd.of_lt (m := 3) (k := 2) (show ((i : Int)).natAbs < 3 by omega) (by decide)).mul h1)).mono (by decide))
 | .pow f, _ => exact pd_one.mono (Nat.le_refl _) (by decide)
 | .gro f, ⟨_, _, h1, h2⟩ => exact pd_kD (bd_pwf h1 h2 hi hf)
theorem upd_pd {p : Prt} {far : Nat} (ho : PrtOk p) (hf : far <= 2) : PdOk (dgF p) 410 (upD p far) ∧ PdOk (dgF p) 410 (dnD p far) := by
 match p, ho with
 | .cho h l, ho =>
  obtain ⟨l12, ok, m12, ok2⟩ := upL_ok (far := far) ho hf
  exact ⟨((pd_forms ok (by omega)).2).mono l12 (by omega), ((pd_forms ok2 (by omega)).2).mono m12 (by omega)⟩
 | .wei f, _ => exact ⟨pd_one.mono (Nat.zero_le _) (by decide), pd_one.mono (Nat.zero_le _) (by decide)⟩
 | .pow f, ⟨_, _, h1, h2⟩ => exact ⟨pd_kD (h1.mono (by decide)), pd_kD (h2.mono (by decide))⟩
 | .gro f, _ => exact ⟨pd_one.mono (Nat.le_refl _) (by decide), pd_one.mono (Nat.le_refl _) (by decide)⟩
theorem map_get {α β : Type} {xs : List α} {g : α -> β} {i : Nat} {y : β} (h : (xs.map g)[i]? = some y) : ∃ x, xs[i]? = some x ∧ y = g x := by
 rw [List.getElem?_map] at h
 obtain ⟨x, hx, rfl⟩ := Option.map_eq_some_iff.mp h
 exact ⟨x, hx, rfl⟩
def degD (b : Bool) : PD -> Int
 | [] => 0
 | x :: f => if f = [] then pl b x.1 else if degD b f > pl b x.1 then degD b f else pl b x.1
theorem degD_is (b : Bool) : ∀ f : PD, DegB b f (degD b f)
 | [] => .inl ⟨rfl, rfl⟩
 | x :: f => by
  unfold degD
  by_cases h : f = []
  ·rw [if_pos h, h]
   exact .inr ⟨⟨x, List.mem_cons_self, rfl⟩, fun y hy => by rw [List.mem_singleton.mp hy]; exact Int.le_refl _⟩
  ·rw [if_neg h]
   rcases degD_is b f with ⟨e, _⟩ | ⟨⟨z, hz, ez⟩, h2⟩
   ·exact absurd e h
   ·split
    ·exact .inr ⟨⟨z, List.mem_cons_of_mem _ hz, ez⟩, fun y hy => by
      rcases List.mem_cons.mp hy with rfl | hy
      ·omega
      ·exact h2 y hy⟩
    ·exact .inr ⟨⟨x, List.mem_cons_self, rfl⟩, fun y hy => by
      rcases List.mem_cons.mp hy with rfl | hy
      ·exact Int.le_refl _
      ·have := h2 y hy; omega⟩
theorem degD_eq {b : Bool} {f : PD} {M : Int} (h : DegB b f M) : degD b f = M := deg_one' (degD_is b f) h
def spDegB (b : Bool) : Sp := fun vs H Q _ => ∃ (a : Addr) (f : PD), vs = [.ref a] ∧ DD H a f ∧ f.length <= 4000 ∧ ∀ H', Same H H' -> Q (.int (degD b f)) H'
theorem ok_degree_in_k {P : Program} {w : World} {K : PySem.W.Frag} {mg : Str -> Option Value} {base : Heap} (T : Tx K mg) : FnOk P w K mg base CX0 1 T.a_degree_in_k T.fd_degree_in_k ["one"] (spDegB true) := by
 refine T.F_degree_in_k.ok sc_degree_in_k (fun vs H Q E h => ?_) (fun cdv A outer s H vs Q E hr h => ?_)
 ·obtain ⟨a, f, rfl, _⟩ := h
  rfl
 obtain ⟨a, f, rfl, ha, lf, q⟩ := h
 refine ⟨_, ((pss_one (ps_ret (pe_maxD rfl rfl T.z_max (pa_cons (pe_thaw (pe_lcomp rfl (blkok rfl sub_nil fv_nil) (pi_dict (pv 0)) (fun _ _ _ _ => (pe_ix (ix_tupK (K := K) rfl) (pv 0) pe_int (fun _ _ => rfl))))) pa_nil) (pk_cons pe_int pk_nil))))), ?_⟩
 k_units
 refine ⟨dz f, ha, fun o tw D nD => ?_⟩
 obtain ⟨W, hW⟩ : ∃ W : Nat -> Hp -> Prop, ∀ i H', W i H' ↔ H' D = some (.lst (((f.take i).map fun x => x.1.2).map V.int)) ∧ Same (upd H a (.frz o (.dT (dz f)))) H' := ⟨_, fun _ _ => Iff.rfl⟩
 refine cl_keys W ((hW _ _).mpr ⟨upd_same, same_upd nD _⟩) (fun i H' _ h => ((hW _ _).mp h).2 _ _ upd_same) (fun i k x b H' hk hw hb => ?_) (fun H' hw => ?_)
 ·obtain ⟨eD, sS⟩ := (hW _ _).mp hw
  obtain ⟨y, hy, rfl, rfl⟩ := dz_get hk
  have hi := (List.getElem?_eq_some_iff.mp hy).1
  (iterate 3 (k_units; (try simp only [bst])); k_units)
  refine ⟨_, SqT.of hb, _, rfl, _, eD, ?_, (hW _ _).mpr ⟨?_, sS.more nD⟩⟩
  ·rw [List.length_map, List.length_map, List.length_take]
   exact Nat.lt_of_le_of_lt (show _ <= 4000 by omega) (by decide)
  ·rw [upd_same, take_snoc hy, List.map_append, List.map_append]
   rfl
 ·obtain ⟨eD, sS⟩ := (hW _ _).mp hw
  rw [len_dz, List.take_length] at eD
  have fz := sS _ _ (upd_same (H := H) (a := a) (o := .frz o (.dT (dz f))))
  have nDa : D ≠ a := ne_of eD fz (fun z => nomatch z)
  refine ⟨H, a, o, dz f, tw, fz, D, rfl, _, SqL.of (by rw [bk_ne nDa]; exact eD), fun M hM => ?_⟩
  have e : degD true f = M := by
   refine degD_eq ?_
   rcases hM with ⟨h1, h2⟩ | ⟨h1, h2⟩
   ·exact .inl ⟨by simpa using h1, h2⟩
   ·obtain ⟨x, hx, e⟩ := List.mem_map.mp h1
    exact .inr ⟨⟨x, hx, e⟩, fun y hy => h2 _ (List.mem_map.mpr ⟨y, hy, rfl⟩)⟩
  rw [← e]
  exact q _ (same_bk sS)
theorem ok_degree_in_n {P : Program} {w : World} {K : PySem.W.Frag} {mg : Str -> Option Value} {base : Heap} (T : Tx K mg) : FnOk P w K mg base CX0 1 T.a_degree_in_n T.fd_degree_in_n ["pair"] (spDegB false) := by
 refine T.F_degree_in_n.ok sc_degree_in_n (fun vs H Q E h => ?_) (fun cdv A outer s H vs Q E hr h => ?_)
 ·obtain ⟨a, f, rfl, _⟩ := h
  rfl
 obtain ⟨a, f, rfl, ha, lf, q⟩ := h
 refine ⟨_, ((pss_one (ps_ret (pe_maxD rfl rfl T.z_max (pa_cons (pe_thaw (pe_lcomp rfl (blkok rfl sub_nil fv_nil) (pi_dict (pv 0)) (fun _ _ _ _ => (pe_ix (ix_tupK (K := K) rfl) (pv 0) pe_int (fun _ _ => rfl))))) pa_nil) (pk_cons pe_int pk_nil))))), ?_⟩
 k_units
 refine ⟨dz f, ha, fun o tw D nD => ?_⟩
 obtain ⟨W, hW⟩ : ∃ W : Nat -> Hp -> Prop, ∀ i H', W i H' ↔ H' D = some (.lst (((f.take i).map fun x => x.1.1).map V.int)) ∧ Same (upd H a (.frz o (.dT (dz f)))) H' := ⟨_, fun _ _ => Iff.rfl⟩
 refine cl_keys W ((hW _ _).mpr ⟨upd_same, same_upd nD _⟩) (fun i H' _ h => ((hW _ _).mp h).2 _ _ upd_same) (fun i k x b H' hk hw hb => ?_) (fun H' hw => ?_)
 ·obtain ⟨eD, sS⟩ := (hW _ _).mp hw
  obtain ⟨y, hy, rfl, rfl⟩ := dz_get hk
  have hi := (List.getElem?_eq_some_iff.mp hy).1
  (iterate 3 (k_units; (try simp only [bst])); k_units)
  refine ⟨_, SqT.of hb, _, rfl, _, eD, ?_, (hW _ _).mpr ⟨?_, sS.more nD⟩⟩
  ·rw [List.length_map, List.length_map, List.length_take]
   exact Nat.lt_of_le_of_lt (show _ <= 4000 by omega) (by decide)
  ·rw [upd_same, take_snoc hy, List.map_append, List.map_append]
   rfl
 ·obtain ⟨eD, sS⟩ := (hW _ _).mp hw
  rw [len_dz, List.take_length] at eD
  have fz := sS _ _ (upd_same (H := H) (a := a) (o := .frz o (.dT (dz f))))
  have nDa : D ≠ a := ne_of eD fz (fun z => nomatch z)
  refine ⟨H, a, o, dz f, tw, fz, D, rfl, _, SqL.of (by rw [bk_ne nDa]; exact eD), fun M hM => ?_⟩
  have e : degD false f = M := by
   refine degD_eq ?_
   rcases hM with ⟨h1, h2⟩ | ⟨h1, h2⟩
   ·exact .inl ⟨by simpa using h1, h2⟩
   ·obtain ⟨x, hx, e⟩ := List.mem_map.mp h1
    exact .inr ⟨⟨x, hx, e⟩, fun y hy => h2 _ (List.mem_map.mpr ⟨y, hy, rfl⟩)⟩
  rw [← e]
  exact q _ (same_bk sS)
theorem cl_refsI {K : PySem.W.Frag} {a : Addr} {as : List Addr} {ns : List Int} {fv : List (Nat × Str)} {te : TE} {Q : VK} {σ : L2.St} {H1 : Hp} {D : Addr} (nD : H1 D = none) (hA : SqL K H1 a (as.map V.ref)) (hd : ns.length = as.length) (hl : ns.length <= 900)
  (hs : ∀ (i : Nat) (q : Addr) (v : Int) (Hx : Hp) (R : VK), as[i]? = some q -> ns[i]? = some v -> Same H1 Hx -> (∀ H', Same Hx H' -> R (.int v) H') -> te (bst fv σ (some (V.ref q))) Hx R) (he : newL H1 Q (ns.map V.int)) : CLoop (Itl K a) fv te Q σ H1 D := by
 obtain ⟨Pc, hPc⟩ : ∃ Pc : Nat -> Hp -> Prop, ∀ j Hx, Pc j Hx ↔ Hx D = some (.lst ((ns.take j).map V.int)) ∧ Same H1 Hx := ⟨_, fun _ _ => Iff.rfl⟩
 refine cl_list (xs := as.map V.ref) Pc ((hPc _ _).mpr ⟨upd_same, same_upd nD _⟩) (fun i Hx _ z => by obtain ⟨_, z⟩ := (hPc i Hx).mp z; exact z.seq hA) ?_ ?_
 ·intro j v Hx hv hc
  obtain ⟨k1, k3⟩ := (hPc _ _).mp hc
  rw [List.getElem?_map] at hv
  obtain ⟨q, hq, rfl⟩ := Option.map_eq_some_iff.mp hv
  have hj : j < ns.length := by have := (List.getElem?_eq_some_iff.mp hq).1; omega
  refine hs j q _ Hx _ hq (List.getElem?_eq_getElem hj) k3 fun H2 s2 => ?_
  refine ⟨_, s2 _ _ k1, by rw [List.length_map, List.length_take]; exact small1000 (by omega), (hPc _ _).mpr ⟨?_, (k3.trans s2).more nD⟩⟩
  rw [upd_same, ← List.take_append_getElem hj, List.map_append]; rfl
 intro Hx hc
 obtain ⟨k1, k3⟩ := (hPc _ _).mp hc
 rw [List.length_map, ← hd, List.take_length] at k1
 exact he D Hx k3 nD k1
theorem cl_rngI {n : Nat} {ns : List Int} {fv : List (Nat × Str)} {te : TE} {Q : VK} {σ : L2.St} {H1 : Hp} {D : Addr} (nD : H1 D = none) (hd : ns.length = n) (hl : n <= 900)
  (hs : ∀ (i : Nat) (v : Int) (Hx : Hp) (R : VK), i < n -> ns[i]? = some v -> Same H1 Hx -> (∀ H', Same Hx H' -> R (.int v) H') -> te (bst fv σ (some (V.int (0 + (i : Int))))) Hx R) (he : newL H1 Q (ns.map V.int)) : CLoop (Itr 0 n) fv te Q σ H1 D := by
 obtain ⟨Pc, hPc⟩ : ∃ Pc : Nat -> Hp -> Prop, ∀ j Hx, Pc j Hx ↔ Hx D = some (.lst ((ns.take j).map V.int)) ∧ Same H1 Hx := ⟨_, fun _ _ => Iff.rfl⟩
 refine cl_range Pc ((hPc _ _).mpr ⟨upd_same, same_upd nD _⟩) ?_ ?_
 ·intro j Hx hjn hc
  obtain ⟨k1, k3⟩ := (hPc _ _).mp hc
  have hj : j < ns.length := by omega
  refine hs j _ Hx _ hjn (List.getElem?_eq_getElem hj) k3 fun H2 s2 => ?_
  refine ⟨_, s2 _ _ k1, by rw [List.length_map, List.length_take]; exact small1000 (by omega), (hPc _ _).mpr ⟨?_, (k3.trans s2).more nD⟩⟩
  rw [upd_same, ← List.take_append_getElem hj, List.map_append]; rfl
 intro Hx hc
 obtain ⟨k1, k3⟩ := (hPc _ _).mp hc
 rw [← hd, List.take_length] at k1
 exact he D Hx k3 nD k1
theorem cl_refsV {K : PySem.W.Frag} {a : Addr} {as : List Addr} {ns : List V} {fv : List (Nat × Str)} {te : TE} {Q : VK} {σ : L2.St} {H1 : Hp} {D : Addr} (nD : H1 D = none) (hA : SqL K H1 a (as.map V.ref)) (hd : ns.length = as.length) (hl : ns.length <= 900)
  (hs : ∀ (i : Nat) (q : Addr) (v : V) (Hx : Hp) (R : VK), as[i]? = some q -> ns[i]? = some v -> Same H1 Hx -> (∀ H', Same Hx H' -> R v H') -> te (bst fv σ (some (V.ref q))) Hx R) (he : newL H1 Q ns) : CLoop (Itl K a) fv te Q σ H1 D := by
 obtain ⟨Pc, hPc⟩ : ∃ Pc : Nat -> Hp -> Prop, ∀ j Hx, Pc j Hx ↔ Hx D = some (.lst (ns.take j)) ∧ Same H1 Hx := ⟨_, fun _ _ => Iff.rfl⟩
 refine cl_list (xs := as.map V.ref) Pc ((hPc _ _).mpr ⟨upd_same, same_upd nD _⟩) (fun i Hx _ z => by obtain ⟨_, z⟩ := (hPc i Hx).mp z; exact z.seq hA) ?_ ?_
 ·intro j v Hx hv hc
  obtain ⟨k1, k3⟩ := (hPc _ _).mp hc
  rw [List.getElem?_map] at hv
  obtain ⟨q, hq, rfl⟩ := Option.map_eq_some_iff.mp hv
  have hj : j < ns.length := by have := (List.getElem?_eq_some_iff.mp hq).1; omega
  refine hs j q _ Hx _ hq (List.getElem?_eq_getElem hj) k3 fun H2 s2 => ?_
  refine ⟨_, s2 _ _ k1, by rw [List.length_take]; exact small1000 (by omega), (hPc _ _).mpr ⟨?_, (k3.trans s2).more nD⟩⟩
  rw [upd_same, ← List.take_append_getElem hj]
 intro Hx hc
 obtain ⟨k1, k3⟩ := (hPc _ _).mp hc
 rw [List.length_map, ← hd, List.take_length] at k1
 exact he D Hx k3 nD k1
def IsDg {K : PySem.W.Frag} {mg : Str -> Option Value} (T : Tx K mg) (b : Bool) (f : Addr) : Prop := f = if b then T.a_degree_in_k else T.a_degree_in_n
def pdeg (b : Bool) (fs : List PD) : Int := if fs.any (fun f => f.isEmpty) = true then 0 else (fs.map (degD b)).sum
def spPDeg {K : PySem.W.Frag} {mg : Str -> Option Value} (T : Tx K mg) : Sp := fun vs H Q _ => ∃ (b : Bool) (A f : Addr) (as : List Addr) (fs : List PD), vs = [.ref A, .ref f] ∧ IsDg T b f ∧ H A = some (.lst (as.map V.ref)) ∧ DDs H as fs ∧ fs.length <= 40 ∧ (∀ f ∈ fs, f.length <= 4000) ∧ ∀ H', Same H H' -> Q (.int (pdeg b fs)) H'
theorem ok_product_degree {P : Program} {w : World} {K : PySem.W.Frag} {mg : Str -> Option Value} {base : Heap} (T : Tx K mg) : FnOk P w K mg base CX0 2 T.a_product_degree T.fd_product_degree ["pairs", "degree"] (spPDeg T) := by
 refine T.F_product_degree.ok sc_product_degree (fun vs H Q E h => ?_) (fun cdv A outer s H vs Q E hr h => ?_)
 ·obtain ⟨b, A, f, as, fs, rfl, _⟩ := h
  rfl
 obtain ⟨b, A, f, as, fs, rfl, hf, hA, hD, l40, hl, q⟩ := h
 obtain ⟨fd, ps, Fd, kd, bd⟩ : ∃ (fd : FuncData) (ps : List Str), FnOk P w K mg base CX0 1 f fd ps (spDegB b) ∧ PySem.W.keepIn K (.ref f) = true ∧ Binds K fd ps [] := by
  cases b
  ·rw [show f = T.a_degree_in_n from hf]
   exact ⟨_, _, ok_degree_in_n T, T.F_degree_in_n.kp, T.b_degree_in_n⟩
  ·rw [show f = T.a_degree_in_k from hf]
   exact ⟨_, _, ok_degree_in_k T, T.F_degree_in_k.kp, T.b_degree_in_k⟩
 refine ⟨_, ((pss_cons (ps_if (pt_cmpR (op_inLD (u_le (k := 2) hr.units (by decide))) pe_dnewT (pv 0) (by with_unfolding_all rfl)) (pss_one (ps_ret pe_int)) pss_nil)
  (pss_one (ps_ret (pe_callB (call_sumL rfl) rfl T.z_sum boot_sum (pa_cons (pe_lcomp rfl (blkok rfl (sub_cons rfl sub_nil) (fv_cons 1 "degree" (by decide) rfl (Or.inl rfl) (Or.inl rfl) ⟨_, rfl⟩ fv_nil)) (pi_list (pv 0)) (fun _ _ _ _ => (pe_callV (FnOk.mono Fd (by decide)) hr kd bd .nil pass0 1 (pa_cons (pv 0) pa_nil)))) pa_nil)))))), ?_⟩
 dsimp only [a_seq]
 k_typeOf
 intro p np
 have u0 := same_upd np (.dT [])
 have hD0 := hD.on u0
 refine ⟨.inl upd_same, as, u0 _ _ hA, fs, hD.len, fun hp => ?_, fun i a g e1 e2 => hD0.get i a g e1 e2, ite2 (fun h => ?_) (fun h => ?_)⟩
 ·obtain ⟨i, hi, e⟩ := List.getElem_of_mem hp
  have hi2 : i < fs.length := by have := hD.len; omega
  obtain ⟨o, eo⟩ := (hD.get i p fs[i] (by rw [List.getElem?_eq_getElem hi, e]) (List.getElem?_eq_getElem hi2)).some
  rw [np] at eo; cases eo
 ·have := q _ u0
  unfold pdeg at this
  rw [if_pos h] at this; exact this
 ·refine ⟨⟨_, SqL.of (u0 _ _ hA)⟩, fun D nD => ?_⟩
  refine cl_refsI (ns := fs.map (degD b)) nD (SqL.of (u0 _ _ hA)) (by rw [List.length_map, hD.len]) (by rw [List.length_map]; omega) (fun j q v Hx R hq hv sx z => ?_) (fun D2 H2 s2 n2 e2 => ?_)
  ·obtain ⟨g, hg, rfl⟩ := map_get hv
   (iterate 3 (k_units; (try simp only [bst, Option.getD_some])); k_units)
   refine ⟨q, g, rfl, (hD0.get j q g hq hg).same sx, hl g (List.mem_of_getElem? hg), z⟩
  ·have := q _ (u0.trans s2)
   unfold pdeg at this
   rw [if_neg h] at this
   exact ⟨D2, rfl, _, SqL.of e2, this⟩
def mxs : List Int -> Int
 | [] => 0
 | x :: xs => if xs = [] then x else if mxs xs > x then mxs xs else x
theorem mxs_is : ∀ {ns : List Int}, ns ≠ [] -> mxs ns ∈ ns ∧ ∀ a ∈ ns, a <= mxs ns
 | x :: xs, _ => by
  unfold mxs
  by_cases h : xs = []
  ·rw [if_pos h, h]; simp
  ·rw [if_neg h]
   obtain ⟨h1, h2⟩ := mxs_is h
   split
   ·exact ⟨List.mem_cons_of_mem _ h1, fun a ha => by
     rcases List.mem_cons.mp ha with rfl | ha
     ·omega
     ·exact h2 a ha⟩
   ·exact ⟨List.mem_cons_self, fun a ha => by
     rcases List.mem_cons.mp ha with rfl | ha
     ·exact Int.le_refl _
     ·have := h2 a ha; omega⟩
theorem mxs_eq {ns : List Int} {M : Int} (h1 : M ∈ ns) (h2 : ∀ a ∈ ns, a <= M) : mxs ns = M := by
 obtain ⟨k1, k2⟩ := mxs_is (ns := ns) (fun z => by rw [z] at h1; exact nomatch h1)
 have := k2 M h1; have := h2 _ k1; omega
def mx2 (x y : Int) : Int := if y > x then y else x
theorem len_pd {d B : Nat} {f : PD} (h : PdOk d B f) (hd : d <= 60) : f.length <= 4000 := Nat.le_trans (len_deg h.nd h.dg) (Nat.le_trans (Nat.mul_le_mul (show d + 1 <= 61 by omega) (show d + 1 <= 61 by omega)) (by decide))
theorem dg60 (p : Prt) : dgF p <= 60 := by cases p <;> simp [dgF]
def stg (b : Bool) (ps : List Prt) (far i : Nat) : Int := pdeg b (ps.map fun p => stD p i far)
def spSDeg {K : PySem.W.Frag} {mg : Str -> Option Value} (T : Tx K mg) : Sp := fun vs H Q _ => ∃ (b : Bool) (x f : Addr) (H0 : Hp) (rs : List Addr) (ps : List Prt) (far : Nat), vs = [.ref x, .int (far : Int), .ref f] ∧ IsDg T b f ∧ TermAt T H0 H x rs ps ∧ ps.length <= 6 ∧ (∀ p ∈ ps, PrtOk p) ∧ far <= 2 ∧ ∀ H', Same H H' -> Q (.int (mxs ((List.range (far + 1)).map (stg b ps far)))) H'
theorem ok_steps_degree {P : Program} {w : World} {K : PySem.W.Frag} {mg : Str -> Option Value} {base : Heap} (T : Tx K mg) : FnOk P w K mg base CX0 8 T.a_steps_degree T.fd_steps_degree ["term", "far", "degree"] (spSDeg T) := by
 refine T.F_steps_degree.ok sc_steps_degree (fun vs H Q E h => ?_) (fun cdv A outer s H vs Q E hr h => ?_)
 ·obtain ⟨b, x, f, H0, rs, ps, far, rfl, _⟩ := h
  rfl
 obtain ⟨b, x, f, H0, rs, ps, far, rfl, hf, hx, l6, hO, hfar, q⟩ := h
 refine ⟨_, ((pss_one (ps_ret (pe_callB (call_maxL rfl) rfl T.z_max bt_max (pa_cons (pe_lcompC rfl (blkokC rfl (sub_cons rfl (sub_cons rfl (sub_cons rfl sub_nil))) (fv_cons 1 "far" (by decide) rfl (Or.inl rfl) (Or.inl rfl) ⟨_, rfl⟩ (fv_cons 0 "term" (by decide) rfl (Or.inl rfl) (Or.inl rfl) ⟨_, rfl⟩ (fv_cons 2 "degree" (by decide) rfl (Or.inl rfl) (Or.inl rfl) ⟨_, rfl⟩ fv_nil)))) (pi_range1 rfl T.z_range (pa_cons (pe_op op_add (pv 1) pe_int) pa_nil)) (fun _ _ _ _ => (pe_call (FnOk.mono (ok_product_degree T) (by decide)) hr rfl T.m_product_degree T.F_product_degree.kp T.b_product_degree .nil pass0 (pa_cons (pe_lcomp rfl (blkok rfl (sub_cons rfl (sub_cons rfl sub_nil)) (fv_cons 0 "i" (by decide) rfl (Or.inl rfl) (Or.inl rfl) ⟨_, rfl⟩ (fv_cons 1 "far" (by decide) rfl (Or.inl rfl) (Or.inl rfl) ⟨_, rfl⟩ fv_nil))) (pi_listK (K := K) rfl (pe_fldK (K := K) rfl (pv 2) rfl)) (fun _ _ _ _ => (pe_either (pe_meth (pv 0) T.cl_Choose T.me_Choose_step (FnOk.mono (ok_Choose_step T) (by decide)) hr T.b_Choose_step .nil pass0 (pa_cons (pv 1) (pa_cons (pv 2) pa_nil))) (pe_either (pe_meth (pv 0) T.cl_Weight T.me_Weight_step (FnOk.mono (ok_Weight_step T) (by decide)) hr T.b_Weight_step .nil pass0 (pa_cons (pv 1) (pa_cons (pv 2) pa_nil))) (pe_either (pe_meth (pv 0) T.cl_Power T.me_Power_step (FnOk.mono (ok_Part_step T) (by decide)) hr T.b_Part_step .nil pass0 (pa_cons (pv 1) (pa_cons (pv 2) pa_nil))) (pe_meth (pv 0) T.cl_Growth T.me_Growth_step (FnOk.mono (ok_Growth_step T) (by decide)) hr T.b_Growth_step .nil pass0 (pa_cons (pv 1) (pa_cons (pv 2) pa_nil)))))))) (pa_cons (pv 3) pa_nil))))) pa_nil))))), ?_⟩
 obtain ⟨dx, P1, P2, qs, h1, h2, h3, h4, h5, h6⟩ := id hx
 have lq : qs.length = ps.length := h6.len
 have pcs : ∀ {Hx : Hp} {j : Nat} {q : Addr} {p : Prt}, Same H Hx -> qs[j]? = some q -> ps[j]? = some p -> PcAt T H0 Hx q p ∧ PrtOk p := fun {Hx j q p} s e1 e2 => ⟨(h6.get j q p e1 e2).kp (kpS s), hO p (List.mem_of_getElem? e2)⟩
 k_units
 refine ⟨by omega, by omega, fun D nD => ?_⟩
 rw [show ((far : Int) + 1).toNat = far + 1 by omega]
 refine cl_rngI (ns := (List.range (far + 1)).map (stg b ps far)) nD (by simp) (by omega) (fun i v Hx R hi hv sx z1 => ?_) (fun L H1 s1 nL eL => ?_)
 ·rw [List.getElem?_map, List.getElem?_range hi] at hv
  obtain rfl := Option.some.inj hv
  (iterate 3 (k_units; (try simp only [bst, Option.getD_some, Int.zero_add])); k_units)
  refine ⟨_, _, _, sx _ _ h1, T.cl_Term, T.na_Term_pieces, _, rfl, P2, rfl, ⟨_, SqL.of (sx _ _ h5)⟩, fun D2 nD2 => ?_⟩
  refine cl_dicts (fs := ps.map fun p => stD p i far) nD2 (SqL.of (sx _ _ h5)) (by simp [lq]) (by simp; omega) (fun j q f Hy R2 hq hfj sy z2 => ?_) (fun L2 as2 H2 s2 nL2 eL2 dL2 => ?_)
  ·obtain ⟨p, hp, rfl⟩ := map_get hfj
   obtain ⟨c1, c2⟩ := pcs (sx.trans sy) hq hp
   (iterate 3 (k_units; (try simp only [bst, Option.getD_some, Int.zero_add])); k_units)
   exact dyn_step c1 c2 (by omega) hfar z2
  ·exact ⟨b, L2, f, as2, _, rfl, hf, eL2, dL2, by simp; omega, fun g hg => by
    obtain ⟨p, hp, rfl⟩ := List.mem_map.mp hg
    exact len_pd (std_pd (hO p hp) (show i <= far by omega) hfar) (dg60 p), fun H3 s3 => z1 H3 (s2.trans s3)⟩
 ·refine ⟨L, rfl, _, SqL.of eL, by simp, fun M m1 m2 => ?_⟩
  have := q H1 s1
  rw [mxs_eq m1 m2] at this; exact this
def spEDeg {K : PySem.W.Frag} {mg : Str -> Option Value} (T : Tx K mg) : Sp := fun vs H Q _ => ∃ (b : Bool) (x f : Addr) (H0 : Hp) (rs : List Addr) (ps : List Prt) (far : Nat), vs = [.ref x, .int (far : Int), .ref f] ∧ IsDg T b f ∧ TermAt T H0 H x rs ps ∧ ps.length <= 6 ∧ (∀ p ∈ ps, PrtOk p) ∧ far <= 2 ∧ ∀ H', Same H H' -> Q (.int (mx2 (pdeg b (ps.map fun p => upD p far)) (pdeg b (ps.map fun p => dnD p far)))) H'
theorem ok_ends_degree {P : Program} {w : World} {K : PySem.W.Frag} {mg : Str -> Option Value} {base : Heap} (T : Tx K mg) : FnOk P w K mg base CX0 8 T.a_ends_degree T.fd_ends_degree ["term", "far", "degree"] (spEDeg T) := by
 refine T.F_ends_degree.ok sc_ends_degree (fun vs H Q E h => ?_) (fun cdv A outer s H vs Q E hr h => ?_)
 ·obtain ⟨b, x, f, H0, rs, ps, far, rfl, _⟩ := h
  rfl
 obtain ⟨b, x, f, H0, rs, ps, far, rfl, hf, hx, l6, hO, hfar, q⟩ := h
 refine ⟨_, ((pss_cons (ps_set (i := 3) sc_ends_degree.nd rfl (Or.inl rfl) (pe_call (FnOk.mono (ok_product_degree T) (by decide)) hr rfl T.m_product_degree T.F_product_degree.kp T.b_product_degree .nil pass0 (pa_cons (pe_lcomp rfl (blkok rfl (sub_cons rfl sub_nil) (fv_cons 1 "far" (by decide) rfl (Or.inl rfl) (Or.inl rfl) ⟨_, rfl⟩ fv_nil)) (pi_list (pe_fld (pv 0) rfl)) (fun _ _ _ _ => (pe_either (pe_meth (pv 0) T.cl_Choose T.me_Choose_up (FnOk.mono (ok_Choose_up T) (by decide)) hr T.b_Choose_up .nil pass0 (pa_cons (pv 1) pa_nil)) (pe_either (pe_meth (pv 0) T.cl_Weight T.me_Weight_up (FnOk.mono (ok_Part_up T) (by decide)) hr T.b_Part_up .nil pass0 (pa_cons (pv 1) pa_nil)) (pe_either (pe_meth (pv 0) T.cl_Power T.me_Power_up (FnOk.mono (ok_Power_up T) (by decide)) hr T.b_Power_up .nil pass0 (pa_cons (pv 1) pa_nil)) (pe_meth (pv 0) T.cl_Growth T.me_Growth_up (FnOk.mono (ok_Part_up T) (by decide)) hr T.b_Part_up .nil pass0 (pa_cons (pv 1) pa_nil))))))) (pa_cons (pv 2) pa_nil))))
  (pss_cons (ps_set (i := 4) sc_ends_degree.nd rfl (Or.inl rfl) (pe_call (FnOk.mono (ok_product_degree T) (by decide)) hr rfl T.m_product_degree T.F_product_degree.kp T.b_product_degree .nil pass0 (pa_cons (pe_lcomp rfl (blkok rfl (sub_cons rfl sub_nil) (fv_cons 1 "far" (by decide) rfl (Or.inl rfl) (Or.inl rfl) ⟨_, rfl⟩ fv_nil)) (pi_list (pe_fld (pv 0) rfl)) (fun _ _ _ _ => (pe_either (pe_meth (pv 0) T.cl_Choose T.me_Choose_down (FnOk.mono (ok_Choose_down T) (by decide)) hr T.b_Choose_down .nil pass0 (pa_cons (pv 1) pa_nil)) (pe_either (pe_meth (pv 0) T.cl_Weight T.me_Weight_down (FnOk.mono (ok_Part_down T) (by decide)) hr T.b_Part_down .nil pass0 (pa_cons (pv 1) pa_nil)) (pe_either (pe_meth (pv 0) T.cl_Power T.me_Power_down (FnOk.mono (ok_Power_down T) (by decide)) hr T.b_Power_down .nil pass0 (pa_cons (pv 1) pa_nil)) (pe_meth (pv 0) T.cl_Growth T.me_Growth_down (FnOk.mono (ok_Part_down T) (by decide)) hr T.b_Part_down .nil pass0 (pa_cons (pv 1) pa_nil))))))) (pa_cons (pv 2) pa_nil))))
  (pss_one (ps_ret (pe_callB (call_max2 rfl) rfl T.z_max bt_max (pa_cons (pv 3) (pa_cons (pv 4) pa_nil)))))))), ?_⟩
 obtain ⟨dx, P1, P2, qs, h1, h2, h3, h4, h5, h6⟩ := id hx
 have lq : qs.length = ps.length := h6.len
 have pcs : ∀ {Hx : Hp} {j : Nat} {q : Addr} {p : Prt}, Same H Hx -> qs[j]? = some q -> ps[j]? = some p -> PcAt T H0 Hx q p ∧ PrtOk p := fun {Hx j q p} s e1 e2 => ⟨(h6.get j q p e1 e2).kp (kpS s), hO p (List.mem_of_getElem? e2)⟩
 dsimp only [a_seq]
 k_typeOf
 refine ⟨_, _, _, h1, T.cl_Term, T.na_Term_pieces, _, rfl, P2, rfl, ⟨_, SqL.of h5⟩, fun D2 nD2 => ?_⟩
 refine cl_dicts (fs := ps.map fun p => upD p far) nD2 (SqL.of h5) (by simp [lq]) (by simp; omega) (fun j q f Hy R2 hq hfj sy z2 => ?_) (fun L2 as2 H2 s2 nL2 eL2 dL2 => ?_)
 ·obtain ⟨p, hp, rfl⟩ := map_get hfj
  obtain ⟨c1, c2⟩ := pcs sy hq hp
  (iterate 3 (k_units; (try simp only [bst, Option.getD_some, Int.zero_add])); k_units)
  exact dyn_up c1 c2 hfar z2
 refine ⟨b, L2, f, as2, _, rfl, hf, eL2, dL2, by simp; omega, fun g hg => by
  obtain ⟨p, hp, rfl⟩ := List.mem_map.mp hg
  exact len_pd (upd_pd (hO p hp) hfar).1 (dg60 p), fun H3 s3 => ?_⟩
 have s13 := s2.trans s3
 dsimp only [a_seq]
 k_typeOf
 refine ⟨_, _, _, s13 _ _ h1, T.cl_Term, T.na_Term_pieces, _, rfl, P2, rfl, ⟨_, SqL.of (s13 _ _ h5)⟩, fun D4 nD4 => ?_⟩
 refine cl_dicts (fs := ps.map fun p => dnD p far) nD4 (SqL.of (s13 _ _ h5)) (by simp [lq]) (by simp; omega) (fun j q f Hy R2 hq hfj sy z2 => ?_) (fun L4 as4 H4 s4 nL4 eL4 dL4 => ?_)
 ·obtain ⟨p, hp, rfl⟩ := map_get hfj
  obtain ⟨c1, c2⟩ := pcs (s13.trans sy) hq hp
  (iterate 3 (k_units; (try simp only [bst, Option.getD_some, Int.zero_add])); k_units)
  exact dyn_down c1 c2 hfar z2
 refine ⟨b, L4, f, as4, _, rfl, hf, eL4, dL4, by simp; omega, fun g hg => by
  obtain ⟨p, hp, rfl⟩ := List.mem_map.mp hg
  exact len_pd (upd_pd (hO p hp) hfar).2 (dg60 p), fun H5 s5 => ?_⟩
 dsimp only [a_seq]
 k_typeOf
 exact q _ (s13.trans (s4.trans s5))
def spBr {K : PySem.W.Frag} {mg : Str -> Option Value} (T : Tx K mg) : Sp := fun vs H Q _ => ∃ (x : Addr) (H0 : Hp) (rs : List Addr) (ps : List Prt), vs = [.ref x] ∧ TermAt T H0 H x rs ps ∧ ps.length <= 6 ∧ (∀ p ∈ ps, PrtOk p) ∧ ∀ H', Same H H' -> Q (.int (mx2 (pdeg true (ps.map fun p => upD p 0)) (pdeg true (ps.map fun p => dnD p 0)))) H'
theorem ok_breadth_of {P : Program} {w : World} {K : PySem.W.Frag} {mg : Str -> Option Value} {base : Heap} (T : Tx K mg) : FnOk P w K mg base CX0 9 T.a_breadth_of T.fd_breadth_of ["term"] (spBr T) := by
 refine T.F_breadth_of.ok sc_breadth_of (fun vs H Q E h => ?_) (fun cdv A outer s H vs Q E hr h => ?_)
 ·obtain ⟨x, H0, rs, ps, rfl, _⟩ := h
  rfl
 obtain ⟨x, H0, rs, ps, rfl, hx, l6, hO, q⟩ := h
 refine ⟨_, ((pss_one (ps_ret (pe_call (FnOk.mono (ok_ends_degree T) (by decide)) hr rfl T.m_ends_degree T.F_ends_degree.kp T.b_ends_degree .nil pass0 (pa_cons (pv 0) (pa_cons pe_int (pa_cons (pe_glob (v := .ref T.a_degree_in_k) rfl T.m_degree_in_k rfl) pa_nil))))))), ?_⟩
 k_units
 exact ⟨true, x, _, H0, rs, ps, 0, rfl, rfl, hx, l6, hO, by decide, q⟩
def spHt {K : PySem.W.Frag} {mg : Str -> Option Value} (T : Tx K mg) : Sp := fun vs H Q _ => ∃ (x : Addr) (H0 : Hp) (rs : List Addr) (ps : List Prt) (far : Nat), vs = [.ref x, .int (far : Int)] ∧ TermAt T H0 H x rs ps ∧ ps.length <= 6 ∧ (∀ p ∈ ps, PrtOk p) ∧ far <= 2 ∧ ∀ H', Same H H' -> Q (.int (mxs ((List.range (far + 1)).map (stg true ps far)))) H'
theorem ok_height_of {P : Program} {w : World} {K : PySem.W.Frag} {mg : Str -> Option Value} {base : Heap} (T : Tx K mg) : FnOk P w K mg base CX0 9 T.a_height_of T.fd_height_of ["term", "far"] (spHt T) := by
 refine T.F_height_of.ok sc_height_of (fun vs H Q E h => ?_) (fun cdv A outer s H vs Q E hr h => ?_)
 ·obtain ⟨x, H0, rs, ps, far, rfl, _⟩ := h
  rfl
 obtain ⟨x, H0, rs, ps, far, rfl, hx, l6, hO, hfar, q⟩ := h
 refine ⟨_, ((pss_one (ps_ret (pe_call (FnOk.mono (ok_steps_degree T) (by decide)) hr rfl T.m_steps_degree T.F_steps_degree.kp T.b_steps_degree .nil pass0 (pa_cons (pv 0) (pa_cons (pv 1) (pa_cons (pe_glob (v := .ref T.a_degree_in_k) rfl T.m_degree_in_k rfl) pa_nil))))))), ?_⟩
 k_units
 exact ⟨true, x, _, H0, rs, ps, far, rfl, rfl, hx, l6, hO, hfar, q⟩
def spLn {K : PySem.W.Frag} {mg : Str -> Option Value} (T : Tx K mg) : Sp := fun vs H Q _ => ∃ (x : Addr) (H0 : Hp) (rs : List Addr) (ps : List Prt) (far : Nat), vs = [.ref x, .int (far : Int)] ∧ TermAt T H0 H x rs ps ∧ ps.length <= 6 ∧ (∀ p ∈ ps, PrtOk p) ∧ far <= 2 ∧ ∀ H', Same H H' -> Q (.int (mx2 (mxs ((List.range (far + 1)).map (stg false ps far))) (mx2 (pdeg false (ps.map fun p => upD p far)) (pdeg false (ps.map fun p => dnD p far))))) H'
theorem ok_length_of {P : Program} {w : World} {K : PySem.W.Frag} {mg : Str -> Option Value} {base : Heap} (T : Tx K mg) : FnOk P w K mg base CX0 9 T.a_length_of T.fd_length_of ["term", "far"] (spLn T) := by
 refine T.F_length_of.ok sc_length_of (fun vs H Q E h => ?_) (fun cdv A outer s H vs Q E hr h => ?_)
 ·obtain ⟨x, H0, rs, ps, far, rfl, _⟩ := h
  rfl
 obtain ⟨x, H0, rs, ps, far, rfl, hx, l6, hO, hfar, q⟩ := h
 refine ⟨_, ((pss_one (ps_ret (pe_callB (call_max2 rfl) rfl T.z_max bt_max (pa_cons (pe_call (FnOk.mono (ok_steps_degree T) (by decide)) hr rfl T.m_steps_degree T.F_steps_degree.kp T.b_steps_degree .nil pass0 (pa_cons (pv 0) (pa_cons (pv 1) (pa_cons (pe_glob (v := .ref T.a_degree_in_n) rfl T.m_degree_in_n rfl) pa_nil)))) (pa_cons (pe_call (FnOk.mono (ok_ends_degree T) (by decide)) hr rfl T.m_ends_degree T.F_ends_degree.kp T.b_ends_degree .nil pass0 (pa_cons (pv 0) (pa_cons (pv 1) (pa_cons (pe_glob (v := .ref T.a_degree_in_n) rfl T.m_degree_in_n rfl) pa_nil)))) pa_nil)))))), ?_⟩
 k_units
 refine ⟨false, x, _, H0, rs, ps, far, rfl, rfl, hx, l6, hO, hfar, fun H1 s1 => ⟨false, x, _, H0, rs, ps, far, rfl, rfl, hx.on s1, l6, hO, hfar, fun H2 s2 => ?_⟩⟩
 exact ⟨_, rfl, _, rfl, q _ (s1.trans s2)⟩
def fls (f : Int × Int × Int) : Bool := decide (f.2.1 < 0) && (decide (f.1 + f.2.1 <= 0) && decide (f.2.1 + f.2.2 < 0))
def bgs (f : Int × Int × Int) : Bool := decide (f.1 = 0) && (decide (0 <= f.2.2) && decide (f.2.2 < f.2.1))
def lowsP : Prt -> List (Int × Int × Int)
 | .cho h l => [l, subF h l]
 | _ => []
def endsP (ps : List Prt) : Bool := (ps.flatMap lowsP).any fls && (ps.flatMap lowsP).any bgs
structure T3s (H : Hp) (as : List Addr) (fs : List (Int × Int × Int)) : Prop where
 len : as.length = fs.length
 get : ∀ (i : Nat) (a : Addr) (f : Int × Int × Int), as[i]? = some a -> fs[i]? = some f -> H a = some (T3 f)
def spEnds {K : PySem.W.Frag} {mg : Str -> Option Value} (T : Tx K mg) : Sp := fun vs H Q _ => ∃ (x : Addr) (H0 : Hp) (rs : List Addr) (ps : List Prt), vs = [.ref x] ∧ TermAt T H0 H x rs ps ∧ Pts H rs ps ∧ ps.length <= 6 ∧ ∀ H', Same H H' -> Q (.bl (endsP ps)) H'
theorem ok_has_ends {P : Program} {w : World} {K : PySem.W.Frag} {mg : Str -> Option Value} {base : Heap} (T : Tx K mg) : FnOk P w K mg base CX0 3 T.a_has_ends T.fd_has_ends ["term"] (spEnds T) := by
 refine T.F_has_ends.ok sc_has_ends (fun vs H Q E h => ?_) (fun cdv A outer s H vs Q E hr h => ?_)
 ·obtain ⟨x, H0, rs, ps, rfl, _⟩ := h
  rfl
 obtain ⟨x, H0, rs, ps, rfl, hx, hP, l6, q⟩ := h
 refine ⟨_, ((pss_cons (ps_set (i := 1) sc_has_ends.nd rfl (Or.inl rfl) (pe_lst pa_nil))
  (pss_cons (ps_for PassesOwn.never rfl (pi_list (pe_meth0 (pv 0) T.cl_Term T.me_Term_told (FnOk.mono (ok_Term_told T) (by decide)) hr T.b_Term_told .nil pass0)) (pg_name (i := 2) sc_has_ends.nd rfl (Or.inl rfl)) (pss_one (ps_if (pt_cmpR op_eq (pe_ix ix_tup (pv 2) pe_int (fun _ _ => rfl)) pe_str (nomark _)) (pss_one (ps_expr (pe_bm PySem.F.plainAttrs_list PySem.F.slot_list_extend PySem.F.type_list_extend mt_extend (pv 1) (pa_cons (pe_call (FnOk.mono (ok_low_forms T) (by decide)) hr rfl T.m_low_forms T.F_low_forms.kp T.b_low_forms .nil pass0 (pa_cons (pe_ix ix_tup (pv 2) pe_int (fun _ _ => rfl)) (pa_cons (pe_ix ix_tup (pv 2) pe_int (fun _ _ => rfl)) pa_nil))) pa_nil)))) pss_nil)))
  (pss_cons (ps_set (i := 3) sc_has_ends.nd rfl (Or.inl rfl) (pe_callB (call_anyL rfl) rfl T.z_any boot_any (pa_cons (pe_lcomp rfl (blkok rfl sub_nil fv_nil) (pi_list (pv 1)) (fun _ _ _ _ => (pe_and (pe_cmpR op_lt (pe_ix (ix_tupK (K := K) rfl) (pv 0) pe_int (fun _ _ => rfl)) pe_int (nomark _)) (pe_and (pe_cmpR op_le (pe_op op_add (pe_ix (ix_tupK (K := K) rfl) (pv 0) pe_int (fun _ _ => rfl)) (pe_ix (ix_tupK (K := K) rfl) (pv 0) pe_int (fun _ _ => rfl))) pe_int (nomark _)) (pe_one (pe_cmpR op_lt (pe_op op_add (pe_ix (ix_tupK (K := K) rfl) (pv 0) pe_int (fun _ _ => rfl)) (pe_ix (ix_tupK (K := K) rfl) (pv 0) pe_int (fun _ _ => rfl))) pe_int (nomark _))))))) pa_nil)))
  (pss_cons (ps_set (i := 4) sc_has_ends.nd rfl (Or.inl rfl) (pe_callB (call_anyL rfl) rfl T.z_any boot_any (pa_cons (pe_lcomp rfl (blkok rfl sub_nil fv_nil) (pi_list (pv 1)) (fun _ _ _ _ => (pe_and (pe_cmpR op_eq (pe_ix (ix_tupK (K := K) rfl) (pv 0) pe_int (fun _ _ => rfl)) pe_int (nomark _)) (pe_one (pe_chain op_le op_lt pe_int (pe_ix (ix_tupK (K := K) rfl) (pv 0) pe_int (fun _ _ => rfl)) (pe_ix (ix_tupK (K := K) rfl) (pv 0) pe_int (fun _ _ => rfl))))))) pa_nil)))
  (pss_one (ps_ret (pe_and (pv 3) (pe_one (pv 4)))))))))), ?_⟩
 obtain ⟨dx, P1, P2, qs, h1, h2⟩ := id hx
 dsimp only [a_seq]
 k_typeOf
 refine ⟨by decide, fun L nL => ?_⟩
 have u0 := same_upd nL (.lst [])
 dsimp only [a_seq]
 k_typeOf
 refine ⟨dx, _, u0 _ _ h1, rfl, x, H0, rs, ps, rfl, hx.on u0, fun R H1 s1 nR eR => ?_⟩
 have s01 := u0.trans s1
 have eL1 := s1 _ _ (upd_same (H := H) (a := L) (o := .lst []))
 have nRL : R ≠ L := fun z => by rw [z, upd_same] at nR; cases nR
 obtain ⟨Pv, hPv⟩ : ∃ Pv : Nat -> L2.St -> Hp -> Prop, ∀ i σ H', Pv i σ H' ↔ ∃ (as : List Addr) (r : Option V), σ = [some (V.ref x), some (V.ref L), r, none, none] ∧ H' L = some (.lst (as.map V.ref)) ∧ T3s H' as ((ps.take i).flatMap lowsP) ∧ as.length <= 2 * i ∧ H' R = some (.lst (rs.map V.ref)) ∧ Same H H' := ⟨_, fun _ _ _ => Iff.rfl⟩
 refine ⟨R, rfl, ⟨_, SqL.of eR⟩, lp_list (xs := rs.map V.ref) Pv ((hPv _ _ _).mpr ⟨[], none, rfl, eL1, ⟨by simp, fun i a f e => by simp at e⟩, by simp, eR, s01⟩) (fun i σ H' _ z => by obtain ⟨_, _, _, _, _, _, z, _⟩ := (hPv i σ H').mp z; exact SqL.of z) ?_ ?_⟩
 ·intro i v σ H' hv hp
  obtain ⟨as, r, rfl, eL, h3, la, eR', sx⟩ := (hPv _ _ _).mp hp
  rw [List.getElem?_map] at hv
  obtain ⟨u, hu, rfl⟩ := Option.map_eq_some_iff.mp hv
  have hi : i < ps.length := by have := (List.getElem?_eq_some_iff.mp hu).1; have := hP.len; omega
  have hpt := (hP.get i u _ hu (List.getElem?_eq_getElem hi)).on sx
  have et : ps.take (i + 1) = ps.take i ++ [ps[i]] := (List.take_append_getElem hi).symm
  generalize ps[i] = p at hpt et
  have no : lowsP p = [] -> Pv (i + 1) [some (V.ref x), some (V.ref L), some (V.ref u), none, none] H' := fun z => (hPv _ _ _).mpr ⟨as, _, rfl, eL, by rw [et, List.flatMap_append, List.flatMap_cons, List.flatMap_nil, z, List.append_nil, List.append_nil]; exact h3, by omega, eR', sx⟩
  match p, hpt, et, no with
  | .cho h l, ⟨a, b, er, ea, eb⟩, et, no =>
   k_units
   refine ⟨_, SqT.of er, _, rfl, ?_⟩
   k_units
   refine ⟨a_tyL (SqL.of eL), _, SqT.of er, _, rfl, _, SqT.of er, _, rfl, a, b, _, _, _, _, _, _, rfl, SqT.of ea, SqT.of eb, fun L9 t H2 s2 nL9 nt eL9 et2 => ?_⟩
   have eLx := s2 _ _ eL
   refine ⟨L9, rfl, _, eLx, _, eL9, ?_, (hPv _ _ _).mpr ⟨as ++ [b, t], _, rfl, by rw [upd_same, List.map_append]; rfl, ?_, by simp; omega, ?_, (sx.trans s2).more nL⟩⟩
   ·rw [List.length_map]; exact Nat.le_of_lt (small1000 (show as.length + 2 <= 1000 by omega))
   ·have kt : ∀ (a : Addr) (f : Int × Int × Int), H2 a = some (T3 f) -> L2.upd H2 L (.lst (as.map V.ref ++ [V.ref b, V.ref t])) a = some (T3 f) := fun a f e => by rw [upd_ne (ne_of e eLx (fun z => nomatch z))]; exact e
    rw [et, List.flatMap_append, List.flatMap_cons, List.flatMap_nil, List.append_nil]
    refine ⟨by simp [h3.len, lowsP], fun j a' f e1 e2 => ?_⟩
    by_cases hj : j < as.length
    ·rw [List.getElem?_append_left hj] at e1
     rw [List.getElem?_append_left (by rw [← h3.len]; exact hj)] at e2
     exact kt _ _ (s2 _ _ (h3.get j a' f e1 e2))
    ·rw [List.getElem?_append_right (by omega)] at e1
     rw [List.getElem?_append_right (by have := h3.len; omega), ← h3.len] at e2
     match j - as.length, e1, e2 with
     | 0, e1, e2 => obtain rfl := Option.some.inj e1; obtain rfl := Option.some.inj e2; exact kt _ _ (s2 _ _ eb)
     | 1, e1, e2 => obtain rfl := Option.some.inj e1; obtain rfl := Option.some.inj e2; exact kt _ (subF h l) et2
     | j + 2, e1, _ => simp at e1
   ·rw [upd_ne nRL]; exact s2 _ _ eR'
  | .wei f, ⟨a, er, _⟩, et, no =>
   k_units
   refine ⟨_, SqT.of er, _, rfl, ?_⟩
   k_units
   rw [if_neg (by decide)]; exact no rfl
  | .pow f, ⟨a, er, _⟩, et, no =>
   k_units
   refine ⟨_, SqT.of er, _, rfl, ?_⟩
   k_units
   rw [if_neg (by decide)]; exact no rfl
  | .gro f, ⟨a, er, _⟩, et, no =>
   k_units
   refine ⟨_, SqT.of er, _, rfl, ?_⟩
   k_units
   rw [if_neg (by decide)]; exact no rfl
 intro σ H2 hp
 obtain ⟨as, r, rfl, eL, h3, la, eR', sx⟩ := (hPv _ _ _).mp hp
 rw [List.length_map, hP.len, List.take_length] at h3
 rw [List.length_map, hP.len] at la
 clear hp hPv Pv
 have ll := h3.len
 dsimp only [a_seq]
 k_typeOf
 refine ⟨⟨_, SqL.of eL⟩, fun D nD => ?_⟩
 refine cl_refsV (ns := ((ps.flatMap lowsP).map fls).map V.bl) nD (SqL.of eL) (by simp [ll]) (by rw [List.length_map, List.length_map]; omega) (fun j q v Hx R hq hv s2 z => ?_) (fun D2 H3 s3 nD2 eD2 => ?_)
 ·obtain ⟨c, hc, rfl⟩ := map_get hv
  obtain ⟨f, hf, rfl⟩ := map_get hc
  have ef := s2 _ _ (h3.get j q f hq hf)
  have z := z Hx (Same.refl _)
  (iterate 3 (k_units; (try simp only [bst, Option.getD_some])); k_units)
  refine ⟨_, SqT.of ef, _, rfl, _, rfl, ite2 (fun c1 => ⟨_, SqT.of ef, _, rfl, _, SqT.of ef, _, rfl, _, rfl, _, rfl, ite2 (fun c2 => ⟨_, SqT.of ef, _, rfl, _, SqT.of ef, _, rfl, _, rfl, _, rfl, ?_⟩) (fun c2 => ?_)⟩) (fun c1 => ?_)⟩
  ·rw [show fls f = decide (f.2.1 + f.2.2 < 0) by unfold fls; rw [decide_eq_true c1, decide_eq_true c2]; rfl] at z; exact z
  ·rw [show fls f = false by unfold fls; rw [decide_eq_false c2]; simp] at z; exact z
  ·rw [show fls f = false by unfold fls; rw [decide_eq_false c1]; rfl] at z; exact z
 refine ⟨D2, rfl, _, SqL.of eD2, ?_⟩
 have h33 : ∀ {Hx : Hp}, Same H3 Hx -> T3s Hx as (ps.flatMap lowsP) := fun {Hx} s => ⟨ll, fun i a f e1 e2 => s _ _ (s3 _ _ (h3.get i a f e1 e2))⟩
 k_units
 refine ⟨⟨_, SqL.of (s3 _ _ eL)⟩, fun D nD => ?_⟩
 refine cl_refsV (ns := ((ps.flatMap lowsP).map bgs).map V.bl) nD (SqL.of (s3 _ _ eL)) (by simp [ll]) (by rw [List.length_map, List.length_map]; omega) (fun j q v Hx R hq hv s2 z => ?_) (fun D4 H4 s4 nD4 eD4 => ?_)
 ·obtain ⟨c, hc, rfl⟩ := map_get hv
  obtain ⟨f, hf, rfl⟩ := map_get hc
  have ef := (h33 s2).get j q f hq hf
  have z := z Hx (Same.refl _)
  (iterate 3 (k_units; (try simp only [bst, Option.getD_some])); k_units)
  refine ⟨_, SqT.of ef, _, rfl, ?_⟩
  k_units
  refine ite2 (fun c1 => ⟨_, SqT.of ef, _, rfl, _, rfl, ite2 (fun c2 => ⟨_, SqT.of ef, _, rfl, _, rfl, _, rfl, ?_⟩) (fun c2 => ?_)⟩) (fun c1 => ?_)
  ·rw [show bgs f = decide (f.2.2 < f.2.1) by unfold bgs; rw [decide_eq_true c1, decide_eq_true c2]; rfl] at z; exact z
  ·rw [show bgs f = false by unfold bgs; rw [decide_eq_false c2]; simp] at z; exact z
  ·rw [show bgs f = false by unfold bgs; rw [decide_eq_false c1]; rfl] at z; exact z
 refine ⟨D4, rfl, _, SqL.of eD4, ?_⟩
 have q := q H4 ((sx.trans s3).trans s4)
 have an : ∀ g : Int × Int × Int -> Bool, ((ps.flatMap lowsP).map g).any id = (ps.flatMap lowsP).any g := fun g => by rw [List.any_map]; rfl
 rw [an, an]
 unfold endsP at q
 refine ite2 (fun c => ?_) (fun c => ?_)
 ·rw [c, Bool.true_and] at q; exact q
 ·rw [Bool.not_eq_true] at c; rw [c, Bool.false_and] at q; exact q
def upG (b : Bool) : Prt -> Int
 | .cho h l => ne1 (cfB b h) * h.2.1 + (ne1 (cfB b l) * mx (-l.2.1) + ne1 (cfB b (subF h l)) * mx (-(subF h l).2.1))
 | _ => 0
def dnG (b : Bool) : Prt -> Int
 | .cho h l => ne1 (cfB b l) * mx l.2.1 + ne1 (cfB b (subF h l)) * mx (subF h l).2.1
 | _ => 0
def stG (b : Bool) (i far : Nat) : Prt -> Int
 | .cho h l => ne1 (cfB b h) * ((i : Int) * h.1) + (ne1 (cfB b l) * (mx l.1 * (far : Int) - l.1 * (i : Int)) + ne1 (cfB b (subF h l)) * (mx (subF h l).1 * (far : Int) - (subF h l).1 * (i : Int)))
 | .wei f => ne1 (cfB b f)
 | _ => 0
def isZ : Prt -> Bool
 | .wei f => decide (f.1 = 0 ∧ f.2.1 = 0 ∧ f.2.2 = 0)
 | _ => false
theorem rf_sum (b : Bool) (f : Int × Int × Int) (lo : Int) : ∀ m : Nat, ((rfL f lo m).map (degD b)).sum = ne1 (cfB b f) * (m : Int)
 | 0 => by show (0 : Int) = ne1 (cfB b f) * 0; rw [Int.mul_zero]
 | m + 1 => by
  rw [rfL_succ, List.map_append, List.sum_append, rf_sum b f lo m, List.map_cons, List.map_nil, List.sum_cons, List.sum_nil, degD_eq (deg_form' b f.1 f.2.1 _)]
  show ne1 (cfB b f) * (m : Int) + (ne1 (cfB b (f.1, f.2.1, _)) + 0) = ne1 (cfB b f) * ((m : Int) + 1)
  rw [show cfB b (f.1, f.2.1, f.2.2 + (lo + (m : Int))) = cfB b f from rfl, Int.mul_add, Int.mul_one, Int.add_zero]
theorem rf_nz {f : Int × Int × Int} {lo : Int} {m : Nat} (h : 0 < m -> f.1 ≠ 0 ∨ f.2.1 ≠ 0) : ∀ g ∈ rfL f lo m, Nz g := fun g hg => by
 unfold rfL at hg
 obtain ⟨j, hj, rfl⟩ := List.mem_map.mp hg
 exact form_nz (h (by have := List.mem_range.mp hj; omega))
theorem deg_fs {b : Bool} {fs : List PD} (h : ∀ f ∈ fs, Nz f) : pdD fs ≠ [] ∧ degD b (pdD fs) = (fs.map (degD b)).sum := by
 obtain ⟨h1, h2⟩ := deg_prod (b := b) (d := degD b) fun f hf => ⟨h f hf, degD_is b f⟩
 exact ⟨h1.ne, degD_eq h2⟩
theorem mem_app3 {α : Type} {P : α -> Prop} {xs ys zs : List α} (h1 : ∀ x ∈ xs, P x) (h2 : ∀ x ∈ ys, P x) (h3 : ∀ x ∈ zs, P x) : ∀ x ∈ xs ++ ys ++ zs, P x := fun x hx => by
 rcases List.mem_append.mp hx with hx | hx
 ·rcases List.mem_append.mp hx with hx | hx
  ·exact h1 x hx
  ·exact h2 x hx
 ·exact h3 x hx
theorem cnt_st {far i : Nat} {x : Int} (hi : i <= far) (hf : far <= 2) : ((cnt ((i : Int) * x + 1) (mx ((far : Int) * x)) : Nat) : Int) = mx x * (far : Int) - x * (i : Int) ∧ (0 < cnt ((i : Int) * x + 1) (mx ((far : Int) * x)) -> x ≠ 0) := by
 have hi' : i = 0 ∨ i = 1 ∨ i = 2 := by omega
 have hf' : far = 0 ∨ far = 1 ∨ far = 2 := by omega
 unfold cnt mx
 rcases hf' with rfl | rfl | rfl <;> rcases hi' with rfl | rfl | rfl <;> (try omega) <;> (constructor <;> (try split) <;> (try split) <;> omega)
theorem stD_deg {p : Prt} {b : Bool} {i far : Nat} (ho : PrtOk p) (hi : i <= far) (hf : far <= 2) : (stD p i far).isEmpty = isZ p ∧ (isZ p = false -> degD b (stD p i far) = stG b i far p) := by
 match p, ho with
 | .cho h l, ho =>
  obtain ⟨⟨a1, a2, a3, a4, a5, a6⟩, _⟩ := id ho
  obtain ⟨c1, c2⟩ := cnt_st (x := l.1) hi hf
  obtain ⟨c3, c4⟩ := cnt_st (x := (subF h l).1) hi hf
  have c5 : ((cnt 1 ((i : Int) * h.1) : Nat) : Int) = (i : Int) * h.1 ∧ (0 < cnt 1 ((i : Int) * h.1) -> h.1 ≠ 0) := by
   have hi' : i = 0 ∨ i = 1 ∨ i = 2 := by omega
   unfold cnt
   rcases hi' with rfl | rfl | rfl <;> omega
  have nz : ∀ f ∈ stL h l i far, Nz f := mem_app3 (rf_nz fun z => .inl (c5.2 z)) (rf_nz fun z => .inl (c2 z)) (rf_nz fun z => .inl (c4 z))
  obtain ⟨d1, d2⟩ := deg_fs (b := b) nz
  refine ⟨?_, fun _ => ?_⟩
  ·show (pdD (stL h l i far)).isEmpty = false
   cases e : pdD (stL h l i far) with
   | nil => exact absurd e d1
   | cons => rfl
  ·show degD b (pdD (stL h l i far)) = _
   rw [d2]
   unfold stL
   rw [List.map_append, List.map_append, List.sum_append, List.sum_append, rf_sum, rf_sum, rf_sum, c1, c3, c5.1, Int.add_assoc]
   rfl
 | .wei f, ho =>
  have e : (fmD f.1 f.2.1 (f.2.2 + (i : Int) * f.1) = []) ↔ (f.1 = 0 ∧ f.2.1 = 0 ∧ f.2.2 = 0) := by
   rw [form_nil]
   constructor
   ·rintro ⟨h1, h2, h3⟩; rw [h1, Int.mul_zero] at h3; exact ⟨h1, h2, by omega⟩
   ·rintro ⟨h1, h2, h3⟩; rw [h1, Int.mul_zero]; exact ⟨rfl, h2, by omega⟩
  refine ⟨?_, fun _ => degD_eq (deg_form' b f.1 f.2.1 _)⟩
  show (fmD f.1 f.2.1 (f.2.2 + (i : Int) * f.1)).isEmpty = decide _
  by_cases z : f.1 = 0 ∧ f.2.1 = 0 ∧ f.2.2 = 0
  ·rw [decide_eq_true z, e.mpr z]; rfl
  ·rw [decide_eq_false z]
   cases e2 : fmD f.1 f.2.1 (f.2.2 + (i : Int) * f.1) with
   | nil => exact absurd (e.mp e2) z
   | cons => rfl
 | .pow f, _ => exact ⟨rfl, fun _ => by cases b <;> rfl⟩
 | .gro f, _ => exact ⟨rfl, fun _ => by cases b <;> rfl⟩
theorem ud_deg {p : Prt} {b : Bool} {far : Nat} (ho : PrtOk p) : (upD p far).isEmpty = false ∧ degD b (upD p far) = upG b p ∧ (dnD p far).isEmpty = false ∧ degD b (dnD p far) = dnG b p := by
 match p, ho with
 | .cho h l, ho =>
  obtain ⟨⟨a1, a2, a3, a4, a5, a6⟩, _⟩ := id ho
  have cu : ∀ x : Int, ((cnt (x + 1) 0 : Nat) : Int) = mx (-x) ∧ (0 < cnt (x + 1) 0 -> x ≠ 0) := fun x => by unfold cnt mx; constructor <;> (try split) <;> omega
  have cd : ∀ x : Int, ((cnt 1 x : Nat) : Int) = mx x ∧ (0 < cnt 1 x -> x ≠ 0) := fun x => by unfold cnt mx; constructor <;> (try split) <;> omega
  have ch : mx h.2.1 = h.2.1 := by unfold mx; split <;> omega
  have nzu : ∀ f ∈ upL h l far, Nz f := mem_app3 (rf_nz fun z => .inr ((cd _).2 z)) (rf_nz (f := liftF far l) fun z => .inr ((cu _).2 z)) (rf_nz (f := liftF far (subF h l)) fun z => .inr ((cu _).2 z))
  have nzd : ∀ f ∈ dnL h l far, Nz f := fun f hf => by
   unfold dnL at hf
   rcases List.mem_append.mp hf with hf | hf
   ·exact rf_nz (f := liftF far l) (fun z => .inr ((cd _).2 z)) f hf
   ·exact rf_nz (f := liftF far (subF h l)) (fun z => .inr ((cd _).2 z)) f hf
  obtain ⟨d1, d2⟩ := deg_fs (b := b) nzu
  obtain ⟨d3, d4⟩ := deg_fs (b := b) nzd
  have ne : ∀ {f : PD}, f ≠ [] -> f.isEmpty = false := fun {f} h => by
   cases f with
   | nil => exact absurd rfl h
   | cons => rfl
  have lf : ∀ f : Int × Int × Int, cfB b (liftF (far : Int) f) = cfB b f := fun f => rfl
  refine ⟨ne d1, ?_, ne d3, ?_⟩
  ·show degD b (pdD (upL h l far)) = _
   rw [d2]
   unfold upL
   rw [List.map_append, List.map_append, List.sum_append, List.sum_append, rf_sum, rf_sum, rf_sum, (cd _).1, (cu _).1, (cu _).1, ch, Int.add_assoc, lf, lf]
   rfl
  ·show degD b (pdD (dnL h l far)) = _
   rw [d4]
   unfold dnL
   rw [List.map_append, List.sum_append, rf_sum, rf_sum, (cd _).1, (cd _).1, lf, lf]
   rfl
 | .wei f, _ => exact ⟨rfl, by cases b <;> rfl, rfl, by cases b <;> rfl⟩
 | .pow f, _ => exact ⟨rfl, by cases b <;> rfl, rfl, by cases b <;> rfl⟩
 | .gro f, _ => exact ⟨rfl, by cases b <;> rfl, rfl, by cases b <;> rfl⟩
theorem any_map_f {α β : Type} (f : α -> β) (g : β -> Bool) (xs : List α) : (xs.map f).any g = xs.any fun x => g (f x) := by rw [List.any_map]; rfl
theorem any_none {α : Type} {g : α -> Bool} {xs : List α} (h : ∀ x ∈ xs, g x = false) : xs.any g = false := by
 rw [List.any_eq_false]; intro x hx; rw [h x hx]; decide
theorem pdeg_ud {b : Bool} {far : Nat} {ps : List Prt} (hO : ∀ p ∈ ps, PrtOk p) : pdeg b (ps.map fun p => upD p far) = (ps.map (upG b)).sum ∧ pdeg b (ps.map fun p => dnD p far) = (ps.map (dnG b)).sum := by
 unfold pdeg
 rw [any_map_f, any_map_f, any_none fun p hp => (ud_deg (b := b) (far := far) (hO p hp)).1, any_none fun p hp => (ud_deg (b := b) (far := far) (hO p hp)).2.2.1, if_neg (by decide), if_neg (by decide), List.map_map, List.map_map]
 exact ⟨congrArg List.sum (List.map_congr_left fun p hp => (ud_deg (hO p hp)).2.1), congrArg List.sum (List.map_congr_left fun p hp => (ud_deg (hO p hp)).2.2.2)⟩
def stS (b : Bool) (i far : Nat) (ps : List Prt) : Int := if ps.any isZ = true then 0 else (ps.map (stG b i far)).sum
theorem pdeg_st {b : Bool} {i far : Nat} {ps : List Prt} (hO : ∀ p ∈ ps, PrtOk p) (hi : i <= far) (hf : far <= 2) : stg b ps far i = stS b i far ps := by
 unfold stg pdeg stS
 have e : (ps.map fun p => stD p i far).any (fun f => f.isEmpty) = ps.any isZ := by
  rw [any_map_f]
  have : ∀ qs : List Prt, (∀ p ∈ qs, PrtOk p) -> (qs.any fun p => (stD p i far).isEmpty) = qs.any isZ := fun qs hq => by
   induction qs with
   | nil => rfl
   | cons p qs ih => rw [List.any_cons, List.any_cons, ih fun x hx => hq x (List.mem_cons_of_mem _ hx), (stD_deg (b := b) (hq p List.mem_cons_self) hi hf).1]
  exact this ps hO
 rw [e]
 split
 ·rfl
 ·rename_i h
  rw [List.map_map]
  refine congrArg List.sum (List.map_congr_left fun p hp => (stD_deg (hO p hp) hi hf).2 ?_)
  cases z : isZ p with
  | false => rfl
  | true => exact absurd (List.any_eq_true.mpr ⟨p, hp, z⟩) h
def cell (ns : List Int) (k : Nat) : Int := ns.getD k 0
def spCellAt (K : PySem.W.Frag) : Sp := fun vs H Q _ => ∃ (a : Addr) (ns : List Int) (k : Nat), vs = [.ref a, .int (k : Int)] ∧ SqL K H a (ns.map V.int) ∧ Q (.int (cell ns k)) H
theorem ok__law_cell_at {P : Program} {w : World} {K : PySem.W.Frag} {mg : Str -> Option Value} {base : Heap} (T : Tx K mg) : FnOk P w K mg base CX0 1 T.a__law_cell_at T.fd__law_cell_at ["_law_script", "_law_k"] (spCellAt K) := by
 refine T.F__law_cell_at.ok sc__law_cell_at (fun vs H Q E h => ?_) (fun cdv A outer s H vs Q E hr h => ?_)
 ·obtain ⟨a, ns, k, rfl, _⟩ := h
  rfl
 obtain ⟨a, ns, k, rfl, hS, q⟩ := h
 refine ⟨_, ((pss_cons (ps_if (pt_cmpR op_lt (pv 1) (pe_callB call_len_seq rfl T.z_len bt_len (pa_cons (pv 0) pa_nil)) (nomark _)) (pss_one (ps_ret (pe_ix ix_list (pv 0) (pv 1) (fun _ _ => rfl)))) pss_nil)
  (pss_one (ps_ret pe_int)))), ?_⟩
 k_units
 refine ⟨_, .inl hS, ?_⟩
 rw [List.length_map]
 unfold cell at q
 refine ite2 (fun h => ?_) (fun h => ?_)
 ·have h' : k < ns.length := by omega
  rw [List.getD_eq_getElem?_getD, List.getElem?_eq_getElem h'] at q
  exact ⟨_, hS, _, at_int h', q⟩
 ·rw [List.getD_eq_getElem?_getD, List.getElem?_eq_none (by omega)] at q
  exact q
theorem cut_from (bs : List Addr) (k : Nat) : cutV (bs.map V.ref) (some (k : Int)) none = (bs.drop k).map V.ref := by
 unfold cutV
 rw [HT.sIx_nat, HT.sIx_none, List.length_map, ← List.map_drop, List.take_of_length_le (by rw [List.length_map, List.length_drop]; omega)]
 congr 1
 by_cases z : k <= bs.length
 ·rw [Nat.min_eq_left z]
 ·rw [Nat.min_eq_right (by omega), List.drop_of_length_le (Nat.le_refl _), List.drop_of_length_le (by omega)]
theorem cut_upto (bs : List Addr) (k : Nat) : cutV (bs.map V.ref) none (some (k : Int)) = (bs.take k).map V.ref := by
 unfold cutV
 rw [HT.sIx_nat, HT.sIx_none, List.length_map, List.drop_zero, ← List.map_take]
 congr 1
 by_cases z : k <= bs.length
 ·rw [Nat.min_eq_left z]; rfl
 ·rw [Nat.min_eq_right (by omega), Nat.sub_zero, List.take_of_length_le (Nat.le_refl _), List.take_of_length_le (by omega)]
def mkPt (H : Hp) (Q : VK) (p : Prt) : Prop := ∀ (r : Addr) (H' : Hp), Same H H' -> PtAt H' r p -> Q (.ref r) H'
def mk3 (H : Hp) (Q : VK) (f : Int × Int × Int) : Prop := ∀ (r : Addr) (H' : Hp), Same H H' -> H r = none -> H' r = some (T3 f) -> Q (.ref r) H'
def spLess (K : PySem.W.Frag) : Sp := fun vs H Q _ => ∃ (p q : Addr) (f g : Int × Int × Int), vs = [.ref p, .ref q] ∧ SqT K H p [.int f.1, .int f.2.1, .int f.2.2] ∧ SqT K H q [.int g.1, .int g.2.1, .int g.2.2] ∧ mk3 H Q (subF f g)
theorem ok__law_less {P : Program} {w : World} {K : PySem.W.Frag} {mg : Str -> Option Value} {base : Heap} (T : Tx K mg) : FnOk P w K mg base CX0 1 T.a__law_less T.fd__law_less ["_law_one", "_law_other"] (spLess K) := by
 refine T.F__law_less.ok sc__law_less (fun vs H Q E h => ?_) (fun cdv A outer s H vs Q E hr h => ?_)
 ·obtain ⟨p, q, f, g, rfl, _⟩ := h
  rfl
 obtain ⟨p, q, f, g, rfl, hp, hq, k⟩ := h
 refine ⟨_, ((pss_one (ps_ret (pe_tup (pa_cons (pe_op op_sub (pe_ix ix_tup (pv 0) pe_int (fun _ _ => rfl)) (pe_ix ix_tup (pv 1) pe_int (fun _ _ => rfl))) (pa_cons (pe_op op_sub (pe_ix ix_tup (pv 0) pe_int (fun _ _ => rfl)) (pe_ix ix_tup (pv 1) pe_int (fun _ _ => rfl))) (pa_cons (pe_op op_sub (pe_ix ix_tup (pv 0) pe_int (fun _ _ => rfl)) (pe_ix ix_tup (pv 1) pe_int (fun _ _ => rfl))) pa_nil))))))), ?_⟩
 k_units
 exact ⟨_, hp, _, rfl, _, hq, _, rfl, _, rfl, _, rfl, _, hp, _, rfl, _, hq, _, rfl, _, rfl, _, rfl, _, hp, _, rfl, _, hq, _, rfl, _, rfl, _, rfl, by decide, fun r nr => k r _ (same_upd nr _) nr upd_same⟩
theorem cho3 {H : Hp} {Q : VK} {h l : Int × Int × Int} (k : mkPt H Q (.cho h l)) (p : Addr) (np : H p = none) (q : Addr) (nq : L2.upd H p (T3 h) q = none) (r : Addr) (nr : L2.upd (L2.upd H p (T3 h)) q (T3 l) r = none) :
  Q (V.ref r) (L2.upd (L2.upd (L2.upd H p (T3 h)) q (T3 l)) r (.tup [V.str (Str.ofString "choose"), V.ref p, V.ref q])) := by
 have u1 := same_upd np (T3 h)
 have u2 := same_upd nq (T3 l)
 have u3 := same_upd nr (.tup [V.str (Str.ofString "choose"), V.ref p, V.ref q])
 exact k r _ ((u1.trans u2).trans u3) ⟨p, q, upd_same, u3 _ _ (u2 _ _ upd_same), u3 _ _ upd_same⟩
def spAny : Sp := fun vs H Q _ => ∃ c m : Int, vs = [.int c, .int m] ∧ ∀ h l, ChoOk h l -> mkPt H Q (.cho h l)
theorem ok__law_any {P : Program} {w : World} {K : PySem.W.Frag} {mg : Str -> Option Value} {base : Heap} (T : Tx K mg) : FnOk P w K mg base CX0 2 T.a__law_any T.fd__law_any ["_law_cell", "_law_more"] spAny := by
 refine T.F__law_any.ok sc__law_any (fun vs H Q E h => ?_) (fun cdv A outer s H vs Q E hr h => ?_)
 ·obtain ⟨c, m, rfl, _⟩ := h
  rfl
 obtain ⟨c, m, rfl, k⟩ := h
 refine ⟨_, ((pss_cons (ps_set (i := 2) sc__law_any.nd rfl (Or.inl rfl) (pe_tup (pa_cons (pe_op op_mod (pv 0) pe_int) (pa_cons (pe_op op_mod (pe_op op_fdiv (pv 0) pe_int) pe_int) (pa_cons (pe_op op_mod (pe_op op_fdiv (pv 0) pe_int) pe_int) pa_nil)))))
  (pss_cons (ps_set (i := 3) sc__law_any.nd rfl (Or.inl rfl) (pe_tup (pa_cons (pe_op op_sub (pe_op op_mod (pv 1) pe_int) pe_int) (pa_cons (pe_op op_sub (pe_op op_mod (pe_op op_fdiv (pv 1) pe_int) pe_int) pe_int) (pa_cons (pe_op op_sub (pe_op op_mod (pe_op op_fdiv (pv 1) pe_int) pe_int) pe_int) pa_nil)))))
  (pss_cons (ps_for PassesOwn.never rfl (pi_list (pe_lst (pa_cons (pv 3) (pa_cons (pe_call (FnOk.mono (ok__law_less T) (by decide)) hr rfl T.m__law_less T.F__law_less.kp T.b__law_less .nil pass0 (pa_cons (pv 2) (pa_cons (pv 3) pa_nil))) pa_nil)))) (pg_name (i := 4) sc__law_any.nd rfl (Or.inl rfl)) (pss_one (ps_if (PW.pt (pw_and (pt_cmpR op_eq (pe_ix ix_tup (pv 4) pe_int (fun _ _ => rfl)) pe_int (nomark _)) (pw_and1 (pt_cmpR op_lt (pe_ix ix_tup (pv 4) pe_int (fun _ _ => rfl)) pe_int (nomark _))))) (pss_one (ps_ret (pe_tup (pa_cons pe_str (pa_cons (pe_tup (pa_cons pe_int (pa_cons pe_int (pa_cons pe_int pa_nil)))) (pa_cons (pe_tup (pa_cons pe_int (pa_cons pe_int (pa_cons pe_int pa_nil)))) pa_nil)))))) pss_nil)))
  (pss_one (ps_ret (pe_tup (pa_cons pe_str (pa_cons (pv 2) (pa_cons (pv 3) pa_nil)))))))))), ?_⟩
 have d : ∀ x y : Int, 0 < y -> y < 2 ^ 30 -> CDiv x y := fun x y h1 h2 => ⟨h1, h2⟩
 dsimp only [a_seq]
 k_typeOf
 refine ⟨by decide, d _ _ (by decide) (by decide), by decide, d _ _ (by decide) (by decide), by decide, by decide, fun p np => ?_⟩
 obtain ⟨h, hh⟩ : ∃ h : Int × Int × Int, h = (c % 3, c / 3 % 3, c / 9 % 3) := ⟨_, rfl⟩
 have hb : 0 <= h.1 ∧ h.1 <= 3 ∧ 0 <= h.2.1 ∧ h.2.1 <= 3 ∧ 0 <= h.2.2 ∧ h.2.2 <= 9 := by rw [hh]; dsimp only; omega
 obtain ⟨G, hG⟩ : ∃ G, G = L2.upd H p (.tup [V.int (c % 3), V.int (c / 3 % 3), V.int (c / 9 % 3)]) := ⟨_, rfl⟩
 have gp : G p = some (T3 h) := by rw [hG, hh]; exact upd_same
 have s0 : Same H G := by rw [hG]; exact same_upd np _
 rw [← hG]
 clear hG hh
 dsimp only [a_seq]
 k_typeOf
 refine ⟨by decide, d _ _ (by decide) (by decide), by decide, d _ _ (by decide) (by decide), by decide, by decide, fun q nq => ?_⟩
 obtain ⟨l, hl⟩ : ∃ l : Int × Int × Int, l = (m % 5 - 2, m / 5 % 5 - 2, m / 25 % 5 - 2) := ⟨_, rfl⟩
 have lb : -3 <= l.1 ∧ l.1 <= 3 ∧ -3 <= l.2.1 ∧ l.2.1 <= 3 ∧ -9 <= l.2.2 ∧ l.2.2 <= 9 := by rw [hl]; dsimp only; omega
 obtain ⟨G2, hG2⟩ : ∃ G2, G2 = L2.upd G q (.tup [V.int (m % 5 - 2), V.int (m / 5 % 5 - 2), V.int (m / 25 % 5 - 2)]) := ⟨_, rfl⟩
 have gq : G2 q = some (T3 l) := by rw [hG2, hl]; exact upd_same
 have s1 : Same G G2 := by rw [hG2]; exact same_upd nq _
 rw [← hG2]
 clear hG2 hl
 have gp2 := s1 _ _ gp
 dsimp only [a_seq]
 k_typeOf
 refine ⟨p, q, h, l, rfl, SqT.of gp2, SqT.of gq, fun t H3 s3 nt et => ⟨by decide, fun D nD => ?_⟩⟩
 have u3 := same_upd nD (.lst [V.ref q, V.ref t])
 have eD := upd_same (H := H3) (a := D) (o := .lst [V.ref q, V.ref t])
 have s4 := s3.trans u3
 have et4 := u3 _ _ et
 generalize L2.upd H3 D (.lst [V.ref q, V.ref t]) = G4 at eD s4 et4 ⊢
 have s04 := (s0.trans s1).trans s4
 obtain ⟨Pv, hPv⟩ : ∃ Pv : Nat -> L2.St -> Hp -> Prop, ∀ i σ H', Pv i σ H' ↔ ∃ r : Option V, σ = [some (V.int c), some (V.int m), some (V.ref p), some (V.ref q), r] ∧ H' = G4 ∧ (0 < i -> ¬ (l.1 = 0 ∧ l.2.1 < 0)) ∧ (1 < i -> ¬ (h.1 - l.1 = 0 ∧ h.2.1 - l.2.1 < 0)) := ⟨_, fun _ _ _ => Iff.rfl⟩
 refine ⟨⟨_, SqL.of eD⟩, lp_list (xs := [V.ref q, V.ref t]) Pv ((hPv _ _ _).mpr ⟨none, rfl, rfl, by omega, by omega⟩) (fun i σ H' _ z => by obtain ⟨_, _, rfl, _⟩ := (hPv i σ H').mp z; exact SqL.of eD) ?_ ?_⟩
 ·intro i v σ H' hv hp
  obtain ⟨r, rfl, rfl, n1, n2⟩ := (hPv _ _ _).mp hp
  have bad : ∀ R : VK, (∀ (h l : Int × Int × Int), ChoOk h l -> mkPt H' R (.cho h l)) -> 0 + 1 + 1 + 1 <= sizeLine ∧ ∀ p', H' p' = none -> 0 + 1 + 1 + 1 <= sizeLine ∧ ∀ q', L2.upd H' p' (.tup [V.int 1, V.int 0, V.int 0]) q' = none -> 0 + 1 + 1 + 1 <= sizeLine ∧ ∀ r', L2.upd (L2.upd H' p' (.tup [V.int 1, V.int 0, V.int 0])) q' (.tup [V.int 0, V.int 1, V.int 0]) r' = none -> R (V.ref r') (L2.upd (L2.upd (L2.upd H' p' (.tup [V.int 1, V.int 0, V.int 0])) q' (.tup [V.int 0, V.int 1, V.int 0])) r' (.tup [V.str (Str.ofString "choose"), V.ref p', V.ref q'])) :=
   fun R kk => ⟨by decide, fun p' np' => ⟨by decide, fun q' nq' => ⟨by decide, fun r' nr' => cho3 (h := (1, 0, 0)) (l := (0, 1, 0)) (kk _ _ (by unfold ChoOk; decide)) p' np' q' nq' r' nr'⟩⟩⟩
  have kG : ∀ (h l : Int × Int × Int), ChoOk h l -> mkPt H' Q (.cho h l) := fun h l c r H' s e => k h l c r H' (s04.trans s) e
  match i, hv with
  | 0, hv =>
   obtain rfl := Option.some.inj hv
   have e1 := s4 _ _ gq
   k_units
   refine ⟨_, SqT.of e1, _, rfl, ?_⟩
   k_units
   refine ite2 (fun z => ⟨_, SqT.of e1, _, rfl, ?_⟩) (fun z => (hPv _ _ _).mpr ⟨_, rfl, rfl, fun _ y => z y.1, by omega⟩)
   k_units
   exact ite2 (fun z2 => bad Q kG) (fun z2 => (hPv _ _ _).mpr ⟨_, rfl, rfl, fun _ y => z2 y.2, by omega⟩)
  | 1, hv =>
   obtain rfl := Option.some.inj hv
   k_units
   refine ⟨_, SqT.of et4, _, rfl, ?_⟩
   k_units
   refine ite2 (fun z => ⟨_, SqT.of et4, _, rfl, ?_⟩) (fun z => (hPv _ _ _).mpr ⟨_, rfl, rfl, fun _ => n1 (by omega), fun _ y => z y.1⟩)
   k_units
   exact ite2 (fun z2 => bad Q kG) (fun z2 => (hPv _ _ _).mpr ⟨_, rfl, rfl, fun _ => n1 (by omega), fun _ y => z2 y.2⟩)
  | i + 2, hv => simp at hv
 intro σ H' hp
 obtain ⟨r, rfl, rfl, n1, n2⟩ := (hPv _ _ _).mp hp
 k_units
 exact ⟨by decide, fun r nr => k h l ⟨hb, lb, n1 (by simp), n2 (by simp)⟩ r _ (s04.trans (same_upd nr _)) ⟨p, q, upd_same, same_upd nr _ _ _ (s4 _ _ gp2), same_upd nr _ _ _ (s4 _ _ gq)⟩⟩
def spLCho (K : PySem.W.Frag) : Sp := fun vs H Q _ => ∃ (A : Addr) (ns : List Int) (i : Nat), vs = [.ref A, .int (i : Int)] ∧ SqL K H A (ns.map V.int) ∧ ∀ h l, ChoOk h l -> mkPt H Q (.cho h l)
theorem ok__law_choose {P : Program} {w : World} {K : PySem.W.Frag} {mg : Str -> Option Value} {base : Heap} (T : Tx K mg) : FnOk P w K mg base CX0 3 T.a__law_choose T.fd__law_choose ["_law_script", "_law_at"] (spLCho K) := by
 refine T.F__law_choose.ok sc__law_choose (fun vs H Q E h => ?_) (fun cdv A outer s H vs Q E hr h => ?_)
 ·obtain ⟨A, ns, i, rfl, _⟩ := h
  rfl
 obtain ⟨A, ns, i, rfl, hA, k⟩ := h
 refine ⟨_, ((pss_cons (ps_set (i := 2) sc__law_choose.nd rfl (Or.inl rfl) (pe_call (FnOk.mono (ok__law_cell_at T) (by decide)) hr rfl T.m__law_cell_at T.F__law_cell_at.kp T.b__law_cell_at .nil pass0 (pa_cons (pv 0) (pa_cons (pv 1) pa_nil))))
  (pss_cons (ps_set (i := 3) sc__law_choose.nd rfl (Or.inl rfl) (pe_op op_mod (pv 2) pe_int))
  (pss_cons (ps_set (i := 4) sc__law_choose.nd rfl (Or.inl rfl) (pe_op op_mod (pe_op op_fdiv (pv 2) pe_int) pe_int))
  (pss_cons (ps_if (pt_cmpR op_lt (pv 3) pe_int (nomark _)) (pss_one (ps_ret (pe_tup (pa_cons pe_str (pa_cons (pe_tup (pa_cons pe_int (pa_cons pe_int (pa_cons (pv 4) pa_nil)))) (pa_cons (pe_tup (pa_cons pe_int (pa_cons pe_int (pa_cons pe_int pa_nil)))) pa_nil)))))) pss_nil)
  (pss_cons (ps_if (pt_cmpR op_eq (pv 3) pe_int (nomark _)) (pss_one (ps_ret (pe_tup (pa_cons pe_str (pa_cons (pe_tup (pa_cons pe_int (pa_cons pe_int (pa_cons (pv 4) pa_nil)))) (pa_cons (pe_tup (pa_cons pe_int (pa_cons pe_int (pa_cons pe_int pa_nil)))) pa_nil)))))) pss_nil)
  (pss_cons (ps_if (pt_cmpR op_eq (pv 3) pe_int (nomark _)) (pss_one (ps_ret (pe_tup (pa_cons pe_str (pa_cons (pe_tup (pa_cons pe_int (pa_cons pe_int (pa_cons pe_int pa_nil)))) (pa_cons (pe_tup (pa_cons pe_int (pa_cons pe_int (pa_cons (pe_op op_sub (pv 4) pe_int) pa_nil)))) pa_nil)))))) pss_nil)
  (pss_cons (ps_if (pt_cmpR op_eq (pv 3) pe_int (nomark _)) (pss_one (ps_ret (pe_tup (pa_cons pe_str (pa_cons (pe_tup (pa_cons pe_int (pa_cons pe_int (pa_cons pe_int pa_nil)))) (pa_cons (pe_tup (pa_cons pe_int (pa_cons pe_int (pa_cons pe_int pa_nil)))) pa_nil)))))) pss_nil)
  (pss_cons (ps_if (pt_cmpR op_eq (pv 3) pe_int (nomark _)) (pss_one (ps_ret (pe_tup (pa_cons pe_str (pa_cons (pe_tup (pa_cons pe_int (pa_cons pe_int (pa_cons (pv 4) pa_nil)))) (pa_cons (pe_tup (pa_cons pe_int (pa_cons pe_int (pa_cons pe_int pa_nil)))) pa_nil)))))) pss_nil)
  (pss_one (ps_ret (pe_call (FnOk.mono (ok__law_any T) (by decide)) hr rfl T.m__law_any T.F__law_any.kp T.b__law_any .nil pass0 (pa_cons (pe_op op_fdiv (pv 2) pe_int) (pa_cons (pe_call (FnOk.mono (ok__law_cell_at T) (by decide)) hr rfl T.m__law_cell_at T.F__law_cell_at.kp T.b__law_cell_at .nil pass0 (pa_cons (pv 0) (pa_cons (pe_op op_add (pv 1) pe_int) pa_nil))) pa_nil)))))))))))))), ?_⟩
 dsimp only [a_seq]
 k_typeOf
 refine ⟨A, ns, i, rfl, hA, ?_⟩
 generalize cell ns i = c
 dsimp only [a_seq]
 k_typeOf
 refine ⟨by decide, ?_⟩
 dsimp only [a_seq]
 k_typeOf
 refine ⟨⟨by decide, by decide⟩, by decide, ?_⟩
 obtain ⟨j, hj, j0, j2⟩ : ∃ j, c / 8 % 3 = j ∧ 0 <= j ∧ j <= 2 := ⟨_, rfl, by omega, by omega⟩
 rw [hj]
 have ch : ∀ (h l : Int × Int × Int), ChoOk h l -> ∀ p, H p = none -> ∀ q, L2.upd H p (T3 h) q = none -> ∀ r, L2.upd (L2.upd H p (T3 h)) q (T3 l) r = none -> Q (V.ref r) (L2.upd (L2.upd (L2.upd H p (T3 h)) q (T3 l)) r (.tup [V.str (Str.ofString "choose"), V.ref p, V.ref q])) := fun h l o p np q nq r nr => cho3 (k h l o) p np q nq r nr
 k_units
 refine ite2 (fun _ => ⟨by decide, fun p np => ⟨by decide, fun q nq => ⟨by decide, fun r nr => ch (1, 0, j) (0, 1, 0) ?_ p np q nq r nr⟩⟩⟩) (fun _ => ite2 (fun _ => ⟨by decide, fun p np => ⟨by decide, fun q nq => ⟨by decide, fun r nr => ch (1, 1, j) (0, 1, 0) ?_ p np q nq r nr⟩⟩⟩) (fun _ => ite2 (fun _ => ⟨by decide, fun p np => ⟨by decide, fun q nq => ⟨by decide, fun r nr => ch (1, 0, 0) (0, 2, j - 1) ?_ p np q nq r nr⟩⟩⟩) (fun _ => ite2 (fun _ => ⟨by decide, fun p np => ⟨by decide, fun q nq => ⟨by decide, fun r nr => ch (1, 1, 0) (0, 2, 0) ?_ p np q nq r nr⟩⟩⟩) (fun _ => ite2 (fun _ => ⟨by decide, fun p np => ⟨by decide, fun q nq => ⟨by decide, fun r nr => ch (2, 0, j) (1, 0, 0) ?_ p np q nq r nr⟩⟩⟩) (fun _ => ⟨⟨by decide, by decide⟩, A, ns, i + 1, by rw [Int.natCast_add]; rfl, hA, _, _, rfl, k⟩)))))
 all_goals (unfold ChoOk; dsimp only; omega)
def spLFr : Sp := fun vs H Q _ => ∃ c : Int, vs = [.int c] ∧ ∀ f : Int × Int, Frc f -> f.1 ≠ 0 -> Bd 70 f.1 -> Bd 20 f.2 -> ∀ (r : Addr) (H' : Hp), Same H H' -> H' r = some (T2 f) -> Q (.ref r) H'
theorem ok__law_fraction {P : Program} {w : World} {K : PySem.W.Frag} {mg : Str -> Option Value} {base : Heap} (T : Tx K mg) : FnOk P w K mg base CX0 1 T.a__law_fraction T.fd__law_fraction ["_law_cell"] spLFr := by
 refine T.F__law_fraction.ok sc__law_fraction (fun vs H Q E h => ?_) (fun cdv A outer s H vs Q E hr h => ?_)
 ·obtain ⟨c, rfl, _⟩ := h
  rfl
 obtain ⟨c, rfl, k⟩ := h
 refine ⟨_, ((pss_one (ps_ret (pe_ix ix_list (pe_lst (pa_cons (pe_tup (pa_cons pe_int (pa_cons pe_int pa_nil))) (pa_cons (pe_tup (pa_cons (pe_un un_neg pe_int) (pa_cons pe_int pa_nil))) (pa_cons (pe_tup (pa_cons pe_int (pa_cons pe_int pa_nil))) (pa_cons (pe_tup (pa_cons pe_int (pa_cons pe_int pa_nil))) (pa_cons (pe_tup (pa_cons (pe_un un_neg pe_int) (pa_cons pe_int pa_nil))) (pa_cons (pe_tup (pa_cons pe_int (pa_cons pe_int pa_nil))) (pa_cons (pe_tup (pa_cons (pe_un un_neg pe_int) (pa_cons pe_int pa_nil))) pa_nil)))))))) (pe_op op_mod (pv 0) pe_int) (fun _ _ => rfl))))), ?_⟩
 k_units
 refine ⟨by decide, fun p0 n0 => ?_⟩
 have v0 := same_upd n0 (.tup [V.int 1, V.int 1])
 have e0 := upd_same (H := H) (a := p0) (o := (.tup [V.int 1, V.int 1]))
 generalize L2.upd H p0 (.tup [V.int 1, V.int 1]) = G0 at v0 e0 ⊢
 refine ⟨by decide, fun p1 n1 => ?_⟩
 have v1 := same_upd n1 (.tup [V.int (-1), V.int 1])
 have e1 := upd_same (H := G0) (a := p1) (o := (.tup [V.int (-1), V.int 1]))
 generalize L2.upd G0 p1 (.tup [V.int (-1), V.int 1]) = G1 at v1 e1 ⊢
 refine ⟨by decide, fun p2 n2 => ?_⟩
 have v2 := same_upd n2 (.tup [V.int 2, V.int 1])
 have e2 := upd_same (H := G1) (a := p2) (o := (.tup [V.int 2, V.int 1]))
 generalize L2.upd G1 p2 (.tup [V.int 2, V.int 1]) = G2 at v2 e2 ⊢
 refine ⟨by decide, fun p3 n3 => ?_⟩
 have v3 := same_upd n3 (.tup [V.int 1, V.int 2])
 have e3 := upd_same (H := G2) (a := p3) (o := (.tup [V.int 1, V.int 2]))
 generalize L2.upd G2 p3 (.tup [V.int 1, V.int 2]) = G3 at v3 e3 ⊢
 refine ⟨by decide, fun p4 n4 => ?_⟩
 have v4 := same_upd n4 (.tup [V.int (-3), V.int 2])
 have e4 := upd_same (H := G3) (a := p4) (o := (.tup [V.int (-3), V.int 2]))
 generalize L2.upd G3 p4 (.tup [V.int (-3), V.int 2]) = G4 at v4 e4 ⊢
 refine ⟨by decide, fun p5 n5 => ?_⟩
 have v5 := same_upd n5 (.tup [V.int 5, V.int 3])
 have e5 := upd_same (H := G4) (a := p5) (o := (.tup [V.int 5, V.int 3]))
 generalize L2.upd G4 p5 (.tup [V.int 5, V.int 3]) = G5 at v5 e5 ⊢
 refine ⟨by decide, fun p6 n6 => ?_⟩
 have v6 := same_upd n6 (.tup [V.int (-7), V.int 1])
 have e6 := upd_same (H := G5) (a := p6) (o := (.tup [V.int (-7), V.int 1]))
 generalize L2.upd G5 p6 (.tup [V.int (-7), V.int 1]) = G6 at v6 e6 ⊢
 refine ⟨by decide, fun D nD => ?_⟩
 have v7 := same_upd nD (.lst [V.ref p0, V.ref p1, V.ref p2, V.ref p3, V.ref p4, V.ref p5, V.ref p6])
 have eD := upd_same (H := G6) (a := D) (o := (.lst [V.ref p0, V.ref p1, V.ref p2, V.ref p3, V.ref p4, V.ref p5, V.ref p6]))
 generalize L2.upd G6 D (.lst [V.ref p0, V.ref p1, V.ref p2, V.ref p3, V.ref p4, V.ref p5, V.ref p6]) = G7 at v7 eD ⊢
 refine ⟨by decide, _, SqL.of eD, ?_⟩
 have w6 := v7
 have w5 := v6.trans w6
 have w4 := v5.trans w5
 have w3 := v4.trans w4
 have w2 := v3.trans w3
 have w1 := v2.trans w2
 have w0 := v1.trans w1
 have ss := v0.trans w0
 have hc : c % 7 = 0 ∨ c % 7 = 1 ∨ c % 7 = 2 ∨ c % 7 = 3 ∨ c % 7 = 4 ∨ c % 7 = 5 ∨ c % 7 = 6 := by omega
 have fo : ∀ f : Int × Int, 1 <= f.2 -> Nat.gcd f.1.natAbs f.2.natAbs = 1 -> f.1 ≠ 0 -> f.1.natAbs < 16 -> f.2.natAbs < 16 -> ∀ r, G7 r = some (T2 f) -> Q (.ref r) G7 := fun f h1 h2 h3 h4 h5 r e => k f ⟨h1, h2⟩ h3 (Bd.of_lt h4 (by decide)) (Bd.of_lt h5 (by decide)) r G7 ss e
 rcases hc with z | z | z | z | z | z | z <;> rw [z]
 ·exact ⟨_, rfl, fo (1, 1) (by decide) (by decide) (by decide) (by decide) (by decide) p0 (w0 _ _ e0)⟩
 ·exact ⟨_, rfl, fo (-1, 1) (by decide) (by decide) (by decide) (by decide) (by decide) p1 (w1 _ _ e1)⟩
 ·exact ⟨_, rfl, fo (2, 1) (by decide) (by decide) (by decide) (by decide) (by decide) p2 (w2 _ _ e2)⟩
 ·exact ⟨_, rfl, fo (1, 2) (by decide) (by decide) (by decide) (by decide) (by decide) p3 (w3 _ _ e3)⟩
 ·exact ⟨_, rfl, fo (-3, 2) (by decide) (by decide) (by decide) (by decide) (by decide) p4 (w4 _ _ e4)⟩
 ·exact ⟨_, rfl, fo (5, 3) (by decide) (by decide) (by decide) (by decide) (by decide) p5 (w5 _ _ e5)⟩
 ·exact ⟨_, rfl, fo (-7, 1) (by decide) (by decide) (by decide) (by decide) (by decide) p6 (w6 _ _ e6)⟩
def spPts (K : PySem.W.Frag) : Sp := fun vs H Q _ => ∃ (A : Addr) (ns : List Int), vs = [.ref A] ∧ SqL K H A (ns.map V.int) ∧
 ∀ (L : Addr) (rs : List Addr) (ps : List Prt) (H' : Hp), Same H H' -> H L = none -> H' L = some (.lst (rs.map V.ref)) -> Pts H' rs ps -> (∀ p ∈ ps, PrtOk p) -> 1 <= ps.length -> ps.length <= 6 -> Q (.ref L) H'
structure Bld (H : Hp) (L : Addr) (m : Nat) (H' : Hp) (rs : List Addr) (ps : List Prt) : Prop where
 same : Same H H'
 lst : H' L = some (.lst (rs.map V.ref))
 pts : Pts H' rs ps
 ok : ∀ p ∈ ps, PrtOk p
 one : 1 <= ps.length
 most : ps.length <= m
theorem Bld.add {H H' H2 : Hp} {L r : Addr} {m : Nat} {rs : List Addr} {ps : List Prt} {p : Prt} (b : Bld H L m H' rs ps) (nL : H L = none) (s : Same H' H2) (hr : PtAt H2 r p) (ho : PrtOk p) :
  Bld H L (m + 1) (L2.upd H2 L (.lst (rs.map V.ref ++ [V.ref r]))) (rs ++ [r]) (ps ++ [p]) := by
 have eL := s _ _ b.lst
 have kt : ∀ a xs, H2 a = some (.tup xs) -> L2.upd H2 L (.lst (rs.map V.ref ++ [V.ref r])) a = some (.tup xs) := fun a xs e => by rw [upd_ne (ne_of e eL (fun z => nomatch z))]; exact e
 refine ⟨(b.same.trans s).more nL, by rw [upd_same, List.map_append]; rfl, ((b.pts.on s).kt kt).snoc (hr.kt kt), fun p' hp' => ?_, by simp, by simp; exact b.most⟩
 rcases List.mem_append.mp hp' with z | z
 ·exact b.ok p' z
 ·rw [List.mem_singleton.mp z]; exact ho
theorem Bld.mono {H H' : Hp} {L : Addr} {m k : Nat} {rs : List Addr} {ps : List Prt} (b : Bld H L m H' rs ps) (h : m <= k) : Bld H L k H' rs ps := ⟨b.same, b.lst, b.pts, b.ok, b.one, Nat.le_trans b.most h⟩
theorem ok__law_parts {P : Program} {w : World} {K : PySem.W.Frag} {mg : Str -> Option Value} {base : Heap} (T : Tx K mg) : FnOk P w K mg base CX0 4 T.a__law_parts T.fd__law_parts ["_law_script"] (spPts K) := by
 refine T.F__law_parts.ok sc__law_parts (fun vs H Q E h => ?_) (fun cdv A outer s H vs Q E hr h => ?_)
 ·obtain ⟨A, ns, rfl, _⟩ := h
  rfl
 obtain ⟨A, ns, rfl, hA, k⟩ := h
 refine ⟨_, ((pss_cons (ps_set (i := 1) sc__law_parts.nd rfl (Or.inl rfl) (pe_call (FnOk.mono (ok__law_cell_at T) (by decide)) hr rfl T.m__law_cell_at T.F__law_cell_at.kp T.b__law_cell_at .nil pass0 (pa_cons (pv 0) (pa_cons pe_int pa_nil))))
  (pss_cons (ps_set (i := 2) sc__law_parts.nd rfl (Or.inl rfl) (pe_lst (pa_cons (pe_call (FnOk.mono (ok__law_choose T) (by decide)) hr rfl T.m__law_choose T.F__law_choose.kp T.b__law_choose .nil pass0 (pa_cons (pv 0) (pa_cons pe_int pa_nil))) pa_nil)))
  (pss_mid (ps_if (pt_cmpR op_eq (pe_op op_mod (pv 1) pe_int) pe_int (nomark _)) (pss_one (ps_expr (pe_bm PySem.F.plainAttrs_list PySem.F.slot_list_append PySem.F.type_list_append mt_append (pv 2) (pa_cons (pe_call (FnOk.mono (ok__law_choose T) (by decide)) hr rfl T.m__law_choose T.F__law_choose.kp T.b__law_choose .nil pass0 (pa_cons (pv 0) (pa_cons pe_int pa_nil))) pa_nil)))) pss_nil)
  (pss_cons (ps_for PassesOwn.never rfl (pi_range1 rfl T.z_range (pa_cons (pe_op op_mod (pe_op op_fdiv (pv 1) pe_int) pe_int) pa_nil)) (pg_name (i := 3) sc__law_parts.nd rfl (Or.inl rfl)) (pss_cons (ps_set (i := 4) sc__law_parts.nd rfl (Or.inl rfl) (pe_call (FnOk.mono (ok__law_cell_at T) (by decide)) hr rfl T.m__law_cell_at T.F__law_cell_at.kp T.b__law_cell_at .nil pass0 (pa_cons (pv 0) (pa_cons (pe_op op_add pe_int (pv 3)) pa_nil))))
  (pss_one (ps_expr (pe_bm PySem.F.plainAttrs_list PySem.F.slot_list_append PySem.F.type_list_append mt_append (pv 2) (pa_cons (pe_tup (pa_cons pe_str (pa_cons (pe_tup (pa_cons (pe_op op_sub (pe_op op_mod (pv 4) pe_int) pe_int) (pa_cons (pe_op op_sub (pe_op op_mod (pe_op op_fdiv (pv 4) pe_int) pe_int) pe_int) (pa_cons (pe_op op_sub (pe_op op_mod (pe_op op_fdiv (pv 4) pe_int) pe_int) pe_int) pa_nil)))) pa_nil))) pa_nil))))))
  (pss_mid (ps_if (pt_cmpR op_eq (pe_op op_mod (pe_op op_fdiv (pv 1) pe_int) pe_int) pe_int (nomark _)) (pss_one (ps_expr (pe_bm PySem.F.plainAttrs_list PySem.F.slot_list_append PySem.F.type_list_append mt_append (pv 2) (pa_cons (pe_tup (pa_cons pe_str (pa_cons (pe_call (FnOk.mono (ok__law_fraction T) (by decide)) hr rfl T.m__law_fraction T.F__law_fraction.kp T.b__law_fraction .nil pass0 (pa_cons (pe_call (FnOk.mono (ok__law_cell_at T) (by decide)) hr rfl T.m__law_cell_at T.F__law_cell_at.kp T.b__law_cell_at .nil pass0 (pa_cons (pv 0) (pa_cons pe_int pa_nil))) pa_nil)) pa_nil))) pa_nil)))) pss_nil)
  (pss_mid (ps_if (pt_cmpR op_eq (pe_op op_mod (pe_op op_fdiv (pv 1) pe_int) pe_int) pe_int (nomark _)) (pss_one (ps_expr (pe_bm PySem.F.plainAttrs_list PySem.F.slot_list_append PySem.F.type_list_append mt_append (pv 2) (pa_cons (pe_tup (pa_cons pe_str (pa_cons (pe_call (FnOk.mono (ok__law_fraction T) (by decide)) hr rfl T.m__law_fraction T.F__law_fraction.kp T.b__law_fraction .nil pass0 (pa_cons (pe_call (FnOk.mono (ok__law_cell_at T) (by decide)) hr rfl T.m__law_cell_at T.F__law_cell_at.kp T.b__law_cell_at .nil pass0 (pa_cons (pv 0) (pa_cons pe_int pa_nil))) pa_nil)) pa_nil))) pa_nil)))) pss_nil)
  (pss_cons (ps_set (i := 5) sc__law_parts.nd rfl (Or.inl rfl) (pe_op op_mod (pe_op op_fdiv (pv 1) pe_int) (pe_callB call_len_seq rfl T.z_len bt_len (pa_cons (pv 2) pa_nil))))
  (pss_one (ps_ret (pe_op op_cat (pe_slice sl_list (pv 2) (po_some (pv 5)) po_none) (pe_slice sl_list (pv 2) po_none (po_some (pv 5)))))))))))))), ?_⟩
 dsimp only [a_seq]
 k_typeOf
 refine ⟨A, ns, 0, rfl, hA, ?_⟩
 generalize cell ns 0 = c
 dsimp only [a_seq]
 k_typeOf
 refine ⟨A, ns, 1, rfl, hA, fun h l co r H1 s1 hr1 => ⟨by decide, fun L nL => ?_⟩⟩
 have b1 : Bld H1 L 1 (L2.upd H1 L (.lst [V.ref r])) [r] [.cho h l] := ⟨same_upd nL _, upd_same, ⟨rfl, fun i r' p e1 e2 => by
  match i, e1, e2 with
  | 0, e1, e2 => obtain rfl := Option.some.inj e1; obtain rfl := Option.some.inj e2; exact hr1.on (same_upd nL _)
  | i + 1, e1, _ => simp at e1⟩, fun p hp => by rw [List.mem_singleton.mp hp]; exact co, Nat.le_refl 1, Nat.le_refl 1⟩
 generalize L2.upd H1 L (.lst [V.ref r]) = G1 at b1 ⊢
 obtain ⟨M, hM⟩ : ∃ M : Nat -> L2.St -> Hp -> Prop, ∀ m σ H', M m σ H' ↔ ∃ (r3 r4 : Option V) (rs : List Addr) (ps : List Prt), σ = [some (V.ref A), some (V.int c), some (V.ref L), r3, r4, none] ∧ Bld H1 L m H' rs ps := ⟨_, fun _ _ _ => Iff.rfl⟩
 refine mid_of (M 2) ?_ ?_
 ·k_units
  exact ⟨by decide, ite2 (fun _ => ⟨a_tyL (SqL.of b1.lst), A, ns, 3, rfl, (s1.trans b1.same).seq hA, fun h l co r2 H2 s2 hr2 => ⟨_, s2 _ _ b1.lst, small1000 (show 1 <= 1000 by decide), (hM _ _ _).mpr ⟨none, none, _, _, rfl, b1.add nL s2 hr2 co⟩⟩⟩) (fun _ => (hM _ _ _).mpr ⟨none, none, _, _, rfl, b1.mono (by decide)⟩)⟩
 intro σ H2 hm
 have lsm : ∀ {m : Nat} {H' : Hp} {rs : List Addr} {ps : List Prt}, Bld H1 L m H' rs ps -> m <= 6 -> (rs.map V.ref).length < sizeLine := fun {m H' rs ps} b h => by
  rw [List.length_map, b.pts.len]; exact small1000 (by have := b.most; omega)
 obtain ⟨r3, r4, rs, ps, rfl, b2⟩ := (hM _ _ _).mp hm
 dsimp only [a_seq]
 k_typeOf
 have n0 : 0 <= c / 3 % 3 := by omega
 have n3 : c / 3 % 3 < 3 := by omega
 refine ⟨⟨by decide, by decide⟩, by decide, by omega, by omega, ?_⟩
 obtain ⟨N, hN, N2⟩ : ∃ N, (c / 3 % 3).toNat = N ∧ N <= 2 := ⟨_, rfl, by omega⟩
 rw [hN]
 refine lp_range (fun i => M (2 + i)) ((hM _ _ _).mpr ⟨_, _, _, _, rfl, b2⟩) ?_ ?_
 ·intro i σ H' hi hp
  obtain ⟨r3, r4, rs, ps, rfl, b⟩ := (hM _ _ _).mp hp
  dsimp only [a_seq]
  k_typeOf
  refine ⟨A, ns, 5 + i, by rw [Int.natCast_add, Int.zero_add]; rfl, (s1.trans b.same).seq hA, ?_⟩
  generalize cell ns (5 + i) = d
  k_units
  refine ⟨a_tyL (SqL.of b.lst), by decide, ⟨by decide, by decide⟩, by decide, ⟨by decide, by decide⟩, by decide, by decide, fun p np => ⟨by decide, fun r nr => ?_⟩⟩
  have u1 := same_upd np (T3 (d % 5 - 2, d / 5 % 5 - 2, d / 25 % 5 - 2))
  have u2 := same_upd nr (.tup [V.str (Str.ofString "weight"), V.ref p])
  have hw : PtAt (L2.upd (L2.upd H' p (T3 (d % 5 - 2, d / 5 % 5 - 2, d / 25 % 5 - 2))) r (.tup [V.str (Str.ofString "weight"), V.ref p])) r (.wei (d % 5 - 2, d / 5 % 5 - 2, d / 25 % 5 - 2)) := ⟨p, upd_same, u2 _ _ upd_same⟩
  refine ⟨_, (u1.trans u2) _ _ b.lst, lsm b (by omega), (hM _ _ _).mpr ⟨_, _, _, _, rfl, b.add nL (u1.trans u2) hw ⟨?_, ?_, ?_⟩⟩⟩
  all_goals exact (Bd.of_lt (m := 3) (k := 2) (by dsimp only; omega) (by decide)).mono (by decide)
 intro σ H3 hm
 obtain ⟨r3, r4, rs, ps, rfl, b3⟩ := (hM _ _ _).mp hm
 have b3 := b3.mono (show 2 + N <= 4 by omega)
 have fr : ∀ {H' : Hp} {rs : List Addr} {ps : List Prt} {m : Nat}, Bld H1 L m H' rs ps -> m <= 5 -> ∀ (w : Str) (g : Int × Int -> Prt), (∀ (a p : Addr) (f : Int × Int) (Hx : Hp), Hx p = some (.tup [V.str w, V.ref a]) -> Hx a = some (T2 f) -> PtAt Hx p (g f)) -> (∀ f : Int × Int, Frc f -> f.1 ≠ 0 -> Bd 70 f.1 -> Bd 20 f.2 -> PrtOk (g f)) -> ∀ (d : Int) (R : L2.St -> Hp -> Prop) (σ : L2.St), (∀ rs ps H'', Bld H1 L (m + 1) H'' rs ps -> R σ H'') ->
   spLFr [.int d] H' (fun x H1 => 0 + 1 + 1 <= sizeLine ∧ ∀ p, H1 p = none -> ∃ x_1, L2.upd H1 p (.tup [V.str w, x]) L = some (.lst x_1) ∧ x_1.length < sizeLine ∧ R σ (L2.upd (L2.upd H1 p (.tup [V.str w, x])) L (.lst (x_1 ++ [V.ref p])))) E0 := fun {H' rs ps m} b hm w g hg hgo d R σ hR =>
  ⟨d, rfl, fun f f1 f2 f3 f4 a Ha sa ea => ⟨by decide, fun p np => by
   have u1 := same_upd np (.tup [V.str w, V.ref a])
   exact ⟨_, (sa.trans u1) _ _ b.lst, lsm b (by omega), hR _ _ _ (b.add nL (sa.trans u1) (hg a p f _ upd_same (u1 _ _ ea)) (hgo f f1 f2 f3 f4))⟩⟩⟩
 refine mid_of (M 5) ?_ ?_
 ·k_units
  refine ⟨⟨by decide, by decide⟩, by decide, ite2 (fun _ => ⟨a_tyL (SqL.of b3.lst), A, ns, 7, rfl, (s1.trans b3.same).seq hA, ?_⟩) (fun _ => (hM _ _ _).mpr ⟨_, _, _, _, rfl, b3.mono (by decide)⟩)⟩
  exact fr b3 (by decide) _ .pow (fun a p f Hx e1 e2 => ⟨a, e1, e2⟩) (fun f f1 f2 f3 f4 => ⟨f1, f2, f3, f4⟩) _ _ _ fun rs ps H'' b => (hM _ _ _).mpr ⟨_, _, _, _, rfl, b⟩
 intro σ H4 hm
 obtain ⟨r3, r4, rs, ps, rfl, b4⟩ := (hM _ _ _).mp hm
 refine mid_of (M 6) ?_ ?_
 ·k_units
  refine ⟨⟨by decide, by decide⟩, by decide, ite2 (fun _ => ⟨a_tyL (SqL.of b4.lst), A, ns, 8, rfl, (s1.trans b4.same).seq hA, ?_⟩) (fun _ => (hM _ _ _).mpr ⟨_, _, _, _, rfl, b4.mono (by decide)⟩)⟩
  exact fr b4 (by decide) _ .gro (fun a p f Hx e1 e2 => ⟨a, e1, e2⟩) (fun f f1 f2 f3 f4 => ⟨f1, f2, f3, f4⟩) _ _ _ fun rs ps H'' b => (hM _ _ _).mpr ⟨_, _, _, _, rfl, b⟩
 intro σ H5 hm
 obtain ⟨r3, r4, rs, ps, rfl, b5⟩ := (hM _ _ _).mp hm
 clear fr b1 b2 b3 b4
 have l1 := b5.one
 have l6 := b5.most
 have lr := b5.pts.len
 dsimp only [a_seq]
 k_typeOf
 refine ⟨⟨by decide, by decide⟩, _, .inl (SqL.of b5.lst), by rw [List.length_map]; omega, ?_⟩
 obtain ⟨t, ht, tl⟩ : ∃ t : Nat, c / 54 % (((rs.map V.ref).length : Nat) : Int) = (t : Int) ∧ t < rs.length := by
  rw [List.length_map]
  have e1 := Int.emod_nonneg (c / 54) (show ((rs.length : Nat) : Int) ≠ 0 by omega)
  have e2 := Int.emod_lt_of_pos (c / 54) (show 0 < ((rs.length : Nat) : Int) by omega)
  exact ⟨_, (Int.toNat_of_nonneg e1).symm, by omega⟩
 rw [ht]
 k_units
 refine ⟨_, SqL.of b5.lst, fun p1 n1 => ?_⟩
 rw [cut_from]
 have u1 := same_upd n1 (.lst ((rs.drop t).map V.ref))
 refine ⟨_, SqL.of (u1 _ _ b5.lst), fun p2 n2 => ?_⟩
 rw [cut_upto]
 have u2 := same_upd n2 (.lst ((rs.take t).map V.ref))
 refine ⟨_, u2 _ _ upd_same, _, upd_same, ?_, fun p3 n3 => ?_⟩
 ·rw [List.length_map, List.length_map, List.length_drop, List.length_take]; exact Nat.le_of_lt (small1000 (by omega))
 have u3 := same_upd n3 (.lst ((rs.drop t).map V.ref ++ (rs.take t).map V.ref))
 have uu := (u1.trans u2).trans u3
 have pt := b5.pts.on uu
 refine k p3 (rs.drop t ++ rs.take t) (ps.drop t ++ ps.take t) _ ((s1.trans b5.same).trans uu) ((s1.trans b5.same).free ((u1.trans u2).free n3)) (by rw [upd_same, List.map_append]) ⟨by simp [lr], fun i r p e1 e2 => ?_⟩ (fun p hp => ?_) (by simp; omega) (by simp; omega)
 ·by_cases hi : i < (rs.drop t).length
  ·rw [List.getElem?_append_left hi, List.getElem?_drop] at e1
   rw [List.getElem?_append_left (by rw [List.length_drop] at hi ⊢; omega), List.getElem?_drop] at e2
   exact pt.get _ r p e1 e2
  ·have li : i - (rs.drop t).length < t := by
    have := (List.getElem?_eq_some_iff.mp e1).1
    rw [List.length_append, List.length_take] at this; omega
   rw [List.getElem?_append_right (by omega), List.getElem?_take_of_lt li] at e1
   rw [List.getElem?_append_right (by rw [List.length_drop] at hi ⊢; omega), show i - (ps.drop t).length = i - (rs.drop t).length by rw [List.length_drop, List.length_drop, lr], List.getElem?_take_of_lt li] at e2
   exact pt.get _ r p e1 e2
 ·rcases List.mem_append.mp hp with z | z
  ·exact b5.ok p (List.mem_of_mem_drop z)
  ·exact b5.ok p (List.mem_of_mem_take z)
def spLows (K : PySem.W.Frag) : Sp := fun vs H Q _ => ∃ (r : Addr) (h l : Int × Int × Int), vs = [.ref r] ∧ PtAt H r (.cho h l) ∧ ∀ (D b t : Addr) (H' : Hp), Same H H' -> H D = none -> H' D = some (.lst [.ref b, .ref t]) -> H' b = some (T3 l) -> H' t = some (T3 (subF h l)) -> Q (.ref D) H'
theorem ok__law_lows {P : Program} {w : World} {K : PySem.W.Frag} {mg : Str -> Option Value} {base : Heap} (T : Tx K mg) : FnOk P w K mg base CX0 2 T.a__law_lows T.fd__law_lows ["_law_part"] (spLows K) := by
 refine T.F__law_lows.ok sc__law_lows (fun vs H Q E h => ?_) (fun cdv A outer s H vs Q E hr h => ?_)
 ·obtain ⟨r, h, l, rfl, _⟩ := h
  rfl
 obtain ⟨r, h, l, rfl, ⟨a, b, er, ea, eb⟩, k⟩ := h
 refine ⟨_, ((pss_one (ps_ret (pe_lst (pa_cons (pe_ix ix_tup (pv 0) pe_int (fun _ _ => rfl)) (pa_cons (pe_call (FnOk.mono (ok__law_less T) (by decide)) hr rfl T.m__law_less T.F__law_less.kp T.b__law_less .nil pass0 (pa_cons (pe_ix ix_tup (pv 0) pe_int (fun _ _ => rfl)) (pa_cons (pe_ix ix_tup (pv 0) pe_int (fun _ _ => rfl)) pa_nil))) pa_nil)))))), ?_⟩
 k_units
 refine ⟨_, SqT.of er, _, rfl, _, SqT.of er, _, rfl, _, SqT.of er, _, rfl, a, b, h, l, rfl, SqT.of ea, SqT.of eb, fun t H1 s1 nt et => ⟨by decide, fun D nD => ?_⟩⟩
 have u := same_upd nD (.lst [V.ref b, V.ref t])
 exact k D b t _ (s1.trans u) (s1.free nD) upd_same (u _ _ (s1 _ _ eb)) (u _ _ et)
def cB (g : Int × Int × Int -> Bool) (fs : List (Int × Int × Int)) : Int := (fs.map fun f => if g f then (1 : Int) else 0).sum
theorem cB_app (g : Int × Int × Int -> Bool) (xs ys : List (Int × Int × Int)) : cB g (xs ++ ys) = cB g xs + cB g ys := by unfold cB; rw [List.map_append, List.sum_append]
theorem cB_pos (g : Int × Int × Int -> Bool) : ∀ fs : List (Int × Int × Int), 0 <= cB g fs ∧ (0 < cB g fs ↔ fs.any g = true)
 | [] => by simp [cB]
 | f :: fs => by
  obtain ⟨h1, h2⟩ := cB_pos g fs
  have e : cB g (f :: fs) = (if g f then 1 else 0) + cB g fs := by unfold cB; rw [List.map_cons, List.sum_cons]
  rw [e, List.any_cons]
  cases g f with
  | false => simp only [Bool.false_eq_true, if_false, Bool.false_or, Int.zero_add]; exact ⟨h1, h2⟩
  | true => simp only [if_true, Bool.true_or]; exact ⟨by omega, fun _ => trivial, fun _ => by omega⟩
def spLEnds (K : PySem.W.Frag) : Sp := fun vs H Q _ => ∃ (A : Addr) (rs : List Addr) (ps : List Prt), vs = [.ref A] ∧ H A = some (.lst (rs.map V.ref)) ∧ Pts H rs ps ∧ ps.length <= 6 ∧ ∀ H', Same H H' -> Q (.bl (endsP ps)) H'
theorem ok__law_ends {P : Program} {w : World} {K : PySem.W.Frag} {mg : Str -> Option Value} {base : Heap} (T : Tx K mg) : FnOk P w K mg base CX0 3 T.a__law_ends T.fd__law_ends ["_law_parts_here"] (spLEnds K) := by
 refine T.F__law_ends.ok sc__law_ends (fun vs H Q E h => ?_) (fun cdv A outer s H vs Q E hr h => ?_)
 ·obtain ⟨A, rs, ps, rfl, _⟩ := h
  rfl
 obtain ⟨A, rs, ps, rfl, hA, hP, l6, q⟩ := h
 refine ⟨_, ((pss_cons (ps_set (i := 1) sc__law_ends.nd rfl (Or.inl rfl) pe_int)
  (pss_cons (ps_set (i := 2) sc__law_ends.nd rfl (Or.inl rfl) pe_int)
  (pss_cons (ps_for PassesOwn.never rfl (pi_list (pv 0)) (pg_name (i := 3) sc__law_ends.nd rfl (Or.inl rfl)) (pss_one (ps_if (pt_cmpR op_eq (pe_ix ix_tup (pv 3) pe_int (fun _ _ => rfl)) pe_str (nomark _)) (pss_one (ps_for PassesOwn.never rfl (pi_list (pe_call (FnOk.mono (ok__law_lows T) (by decide)) hr rfl T.m__law_lows T.F__law_lows.kp T.b__law_lows .nil pass0 (pa_cons (pv 3) pa_nil))) (pg_name (i := 4) sc__law_ends.nd rfl (Or.inl rfl)) (pss_mid (ps_set (i := 1) sc__law_ends.nd rfl (Or.inl rfl) (pe_op op_add (pv 1) (pe_callTy call_int1 rfl T.z_int bt_int (pa_cons (pe_and (pe_cmpR op_lt (pe_ix ix_tup (pv 4) pe_int (fun _ _ => rfl)) pe_int (nomark _)) (pe_and (pe_cmpR op_le (pe_op op_add (pe_ix ix_tup (pv 4) pe_int (fun _ _ => rfl)) (pe_ix ix_tup (pv 4) pe_int (fun _ _ => rfl))) pe_int (nomark _)) (pe_one (pe_cmpR op_lt (pe_op op_add (pe_ix ix_tup (pv 4) pe_int (fun _ _ => rfl)) (pe_ix ix_tup (pv 4) pe_int (fun _ _ => rfl))) pe_int (nomark _))))) pa_nil))))
  (pss_one (ps_set (i := 2) sc__law_ends.nd rfl (Or.inl rfl) (pe_op op_add (pv 2) (pe_callTy call_int1 rfl T.z_int bt_int (pa_cons (pe_and (pe_cmpR op_eq (pe_ix ix_tup (pv 4) pe_int (fun _ _ => rfl)) pe_int (nomark _)) (pe_and (pe_cmpR op_gt (pe_ix ix_tup (pv 4) pe_int (fun _ _ => rfl)) pe_int (nomark _)) (pe_and (pe_cmpR op_ge (pe_ix ix_tup (pv 4) pe_int (fun _ _ => rfl)) pe_int (nomark _)) (pe_one (pe_cmpR op_lt (pe_ix ix_tup (pv 4) pe_int (fun _ _ => rfl)) (pe_ix ix_tup (pv 4) pe_int (fun _ _ => rfl)) (nomark _)))))) pa_nil)))))))) pss_nil)))
  (pss_one (ps_ret (pe_and (pe_cmpR op_gt (pv 1) pe_int (nomark _)) (pe_one (pe_cmpR op_gt (pv 2) pe_int (nomark _)))))))))), ?_⟩
 dsimp only [a_seq]
 k_typeOf
 dsimp only [a_seq]
 k_typeOf
 dsimp only [a_seq]
 k_typeOf
 obtain ⟨Pv, hPv⟩ : ∃ Pv : Nat -> L2.St -> Hp -> Prop, ∀ i σ H', Pv i σ H' ↔ ∃ r3 r4 : Option V, σ = [some (V.ref A), some (V.int (cB fls ((ps.take i).flatMap lowsP))), some (V.int (cB bgs ((ps.take i).flatMap lowsP))), r3, r4] ∧ Same H H' := ⟨_, fun _ _ _ => Iff.rfl⟩
 refine ⟨⟨_, SqL.of hA⟩, lp_list (xs := rs.map V.ref) Pv ((hPv _ _ _).mpr ⟨none, none, rfl, Same.refl _⟩) (fun i σ H' _ z => by obtain ⟨_, _, _, z⟩ := (hPv i σ H').mp z; exact z.seq (SqL.of hA)) ?_ ?_⟩
 ·intro i v σ H' hv hp
  obtain ⟨r3, r4, rfl, sx⟩ := (hPv _ _ _).mp hp
  rw [List.getElem?_map] at hv
  obtain ⟨u, hu, rfl⟩ := Option.map_eq_some_iff.mp hv
  have hi : i < ps.length := by have := (List.getElem?_eq_some_iff.mp hu).1; have := hP.len; omega
  have hpt := (hP.get i u _ hu (List.getElem?_eq_getElem hi)).on sx
  have et : ps.take (i + 1) = ps.take i ++ [ps[i]] := (List.take_append_getElem hi).symm
  have ef : (ps.take (i + 1)).flatMap lowsP = (ps.take i).flatMap lowsP ++ lowsP ps[i] := by rw [et, List.flatMap_append, List.flatMap_cons, List.flatMap_nil, List.append_nil]
  generalize (ps.take i).flatMap lowsP = fs at ef
  generalize ps[i] = p at hpt ef
  have no : lowsP p = [] -> Pv (i + 1) [some (V.ref A), some (V.int (cB fls fs)), some (V.int (cB bgs fs)), some (V.ref u), r4] H' := fun z => (hPv _ _ _).mpr ⟨_, _, by rw [ef, z, List.append_nil], sx⟩
  match p, hpt, ef, no with
  | .cho h l, hpt, ef, no =>
   obtain ⟨a, b, er, ea, eb⟩ := id hpt
   k_units
   refine ⟨_, SqT.of er, _, rfl, ?_⟩
   k_units
   refine ⟨u, h, l, rfl, hpt, fun D b' t H2 s2 nD eD eb' et' => ?_⟩
   obtain ⟨Pw, hPw⟩ : ∃ Pw : Nat -> L2.St -> Hp -> Prop, ∀ j σ Hx, Pw j σ Hx ↔ ∃ r4 : Option V, σ = [some (V.ref A), some (V.int (cB fls (fs ++ [l, subF h l].take j))), some (V.int (cB bgs (fs ++ [l, subF h l].take j))), some (V.ref u), r4] ∧ Hx = H2 := ⟨_, fun _ _ _ => Iff.rfl⟩
   refine ⟨D, rfl, ⟨_, SqL.of eD⟩, lp_list (xs := [V.ref b', V.ref t]) Pw ((hPw _ _ _).mpr ⟨r4, by rw [List.take_zero, List.append_nil], rfl⟩) (fun j σ Hx _ z => by obtain ⟨_, _, rfl⟩ := (hPw j σ Hx).mp z; exact SqL.of eD) ?_ ?_⟩
   ·intro j v σ Hx hv hp
    obtain ⟨r4, rfl, rfl⟩ := (hPw _ _ _).mp hp
    obtain ⟨x, f, rfl, ex, etk⟩ : ∃ (x : Addr) (f : Int × Int × Int), v = V.ref x ∧ Hx x = some (T3 f) ∧ [l, subF h l].take (j + 1) = [l, subF h l].take j ++ [f] := by
     match j, hv with
     | 0, hv => exact ⟨b', l, (Option.some.inj hv).symm, eb', rfl⟩
     | 1, hv => exact ⟨t, subF h l, (Option.some.inj hv).symm, et', rfl⟩
     | j + 2, hv => simp at hv
    have c1 : ∀ g, cB g (fs ++ [l, subF h l].take (j + 1)) = cB g (fs ++ [l, subF h l].take j) + if g f then 1 else 0 := fun g => by
     rw [etk, ← List.append_assoc, cB_app]
     congr 1
     unfold cB; rw [List.map_cons, List.map_nil, List.sum_cons, List.sum_nil, Int.add_zero]
    have fin : Pw (j + 1) [some (V.ref A), some (V.int (cB fls (fs ++ [l, subF h l].take j) + if fls f = true then 1 else 0)), some (V.int (cB bgs (fs ++ [l, subF h l].take j) + if bgs f = true then 1 else 0)), some (V.ref u), some (V.ref x)] Hx := (hPw _ _ _).mpr ⟨_, by rw [c1, c1], rfl⟩
    generalize cB fls (fs ++ [l, subF h l].take j) = y1 at fin ⊢
    generalize cB bgs (fs ++ [l, subF h l].take j) = y2 at fin ⊢
    obtain ⟨M, hM⟩ : ∃ M : L2.St -> Hp -> Prop, ∀ σ Hy, M σ Hy ↔ σ = [some (V.ref A), some (V.int (y1 + if fls f = true then 1 else 0)), some (V.int y2), some (V.ref u), some (V.ref x)] ∧ Hy = Hx := ⟨_, fun _ _ => Iff.rfl⟩
    k_units
    refine mid_of M ?_ ?_
    ·k_units
     refine ⟨_, SqT.of ex, _, rfl, _, rfl, ite2 (fun c1 => ⟨_, SqT.of ex, _, rfl, _, SqT.of ex, _, rfl, _, rfl, _, rfl, ite2 (fun c2 => ⟨_, SqT.of ex, _, rfl, _, SqT.of ex, _, rfl, _, rfl, _, rfl, ?_⟩) (fun c2 => ?_)⟩) (fun c1 => ?_)⟩
     ·refine .inr ((hM _ _).mpr ⟨?_, rfl⟩)
      rw [show fls f = decide (f.2.1 + f.2.2 < 0) by unfold fls; rw [decide_eq_true c1, decide_eq_true c2]; rfl]; simp
     ·refine .inr ((hM _ _).mpr ⟨?_, rfl⟩)
      rw [show fls f = false by unfold fls; rw [decide_eq_false c2]; simp]; simp
     ·refine .inr ((hM _ _).mpr ⟨?_, rfl⟩)
      rw [show fls f = false by unfold fls; rw [decide_eq_false c1]; rfl]; simp
    intro σ Hy hm
    obtain ⟨rfl, rfl⟩ := (hM _ _).mp hm
    k_units
    refine ⟨_, SqT.of ex, _, rfl, ?_⟩
    k_units
    have z2 : ∀ b : Bool, bgs f = b -> Pw (j + 1) [some (V.ref A), some (V.int (y1 + if fls f = true then 1 else 0)), some (V.int (y2 + if b = true then 1 else 0)), some (V.ref u), some (V.ref x)] Hy := fun b e => by rw [← e]; exact fin
    refine ite2 (fun c1 => ⟨_, SqT.of ex, _, rfl, _, rfl, ite2 (fun c2 => ⟨_, SqT.of ex, _, rfl, _, rfl, ite2 (fun c3 => ⟨_, SqT.of ex, _, rfl, _, SqT.of ex, _, rfl, _, rfl, _, rfl, .inr ?_⟩) (fun c3 => .inr ?_)⟩) (fun c2 => .inr ?_)⟩) (fun c1 => .inr ?_)
    ·have := z2 (decide (f.2.2 < f.2.1)) (by unfold bgs; rw [decide_eq_true c1, decide_eq_true c3]; rfl)
     simpa using this
    ·have := z2 false (by unfold bgs; rw [decide_eq_false c3]; simp)
     simpa using this
    ·have := z2 false (by
      unfold bgs
      by_cases e : 0 <= f.2.2
      ·rw [decide_eq_false (show ¬ f.2.2 < f.2.1 by omega)]; simp
      ·rw [decide_eq_false e]; simp)
     simpa using this
    ·have := z2 false (by unfold bgs; rw [decide_eq_false c1]; rfl)
     simpa using this
   intro σ Hx hp
   obtain ⟨r4, rfl, rfl⟩ := (hPw _ _ _).mp hp
   exact (hPv _ _ _).mpr ⟨_, _, by rw [ef]; rfl, sx.trans s2⟩
  | .wei f, ⟨a, er, _⟩, ef, no =>
   k_units
   refine ⟨_, SqT.of er, _, rfl, ?_⟩
   k_units
   rw [if_neg (by decide)]; exact no rfl
  | .pow f, ⟨a, er, _⟩, ef, no =>
   k_units
   refine ⟨_, SqT.of er, _, rfl, ?_⟩
   k_units
   rw [if_neg (by decide)]; exact no rfl
  | .gro f, ⟨a, er, _⟩, ef, no =>
   k_units
   refine ⟨_, SqT.of er, _, rfl, ?_⟩
   k_units
   rw [if_neg (by decide)]; exact no rfl
 intro σ H' hp
 obtain ⟨r3, r4, rfl, sx⟩ := (hPv _ _ _).mp hp
 rw [List.length_map, hP.len, List.take_length]
 k_units
 have q := q H' sx
 unfold endsP at q
 obtain ⟨_, c2⟩ := cB_pos fls (ps.flatMap lowsP)
 obtain ⟨_, c4⟩ := cB_pos bgs (ps.flatMap lowsP)
 have e4 : decide (0 < cB bgs (ps.flatMap lowsP)) = (ps.flatMap lowsP).any bgs := by rw [Bool.eq_iff_iff, decide_eq_true_iff]; exact c4
 refine ite2 (fun z => ?_) (fun z => ?_)
 ·rw [c2.mp z, Bool.true_and] at q; rw [e4]; exact q
 ·rw [show (ps.flatMap lowsP).any fls = false by cases e : (ps.flatMap lowsP).any fls with | false => rfl | true => exact absurd (c2.mpr e) z, Bool.false_and] at q; exact q
theorem mk_term {K : PySem.W.Frag} {mg : Str -> Option Value} {T : Tx K mg} {H : Hp} {Q : Addr -> Hp -> Prop} {E : XK} {A : Addr} {rs : List Addr} {ps : List Prt} (hA : H A = some (.lst (rs.map V.ref))) (hP : Pts H rs ps) (hO : ∀ p ∈ ps, PrtOk p) (l1 : 1 <= ps.length) (l6 : ps.length <= 6)
  (k : ∀ (x : Addr) (H' : Hp), Same H H' -> TermAt T H H' x rs ps -> Q x H') (x dx : Addr) (hx : H x = none) (hd : H dx = none) (_ : dx ≠ x) :
  spTInit T [.ref x, .ref A] (L2.upd (L2.upd H dx (.own x)) x (.ins T.c_Term dx [])) (fun v H2 => v = V.non ∧ Q x H2) E := by
 have s1 : Same H (L2.upd (L2.upd H dx (.own x)) x (.ins T.c_Term dx [])) := same_new hx hd
 refine ⟨x, dx, A, rs, ps, rfl, upd_same, s1 _ _ hA, hP.on s1, hO, l1, l6, fun P1 P2 qs H' s2 n1 n2 ex e1 e2 hq => ⟨rfl, ?_⟩⟩
 have s3 : Same H H' := fun y o e => s2 y o (ne_of_none e hx) (s1 y o e)
 exact k x H' s3 ⟨dx, P1, P2, qs, ex, s1.free n1, e1, s1.free n2, e2, hq.from fun y e => s1.free e⟩
def d3 (f : Int × Int × Int) : PyData := .tuple [.int f.1, .int f.2.1, .int f.2.2]
def d2 (f : Int × Int) : PyData := .tuple [.int f.1, .int f.2]
def dPt : Prt -> PyData
 | .cho h l => .tuple [.str (Str.ofString "choose"), d3 h, d3 l]
 | .wei f => .tuple [.str (Str.ofString "weight"), d3 f]
 | .pow f => .tuple [.str (Str.ofString "power"), d2 f]
 | .gro f => .tuple [.str (Str.ofString "growth"), d2 f]
def dPts (ps : List Prt) : PyData := .list (ps.map dPt)
theorem dv3 {K : PySem.W.Frag} {H : Hp} {a : Addr} {f : Int × Int × Int} (h : H a = some (T3 f)) : DV K H (.ref a) (d3 f) := .tup (SqT.of h) (.cons (.int _) (.cons (.int _) (.cons (.int _) .nil)))
theorem dv2 {K : PySem.W.Frag} {H : Hp} {a : Addr} {f : Int × Int} (h : H a = some (T2 f)) : DV K H (.ref a) (d2 f) := .tup (SqT.of h) (.cons (.int _) (.cons (.int _) .nil))
theorem dv_pt {K : PySem.W.Frag} {H : Hp} {r : Addr} {p : Prt} (h : PtAt H r p) : DV K H (.ref r) (dPt p) := by
 match p, h with
 | .cho f l, ⟨a, b, h1, h2, h3⟩ => exact .tup (SqT.of h1) (.cons (.str _) (.cons (dv3 h2) (.cons (dv3 h3) .nil)))
 | .wei f, ⟨a, h1, h2⟩ => exact .tup (SqT.of h1) (.cons (.str _) (.cons (dv3 h2) .nil))
 | .pow f, ⟨a, h1, h2⟩ => exact .tup (SqT.of h1) (.cons (.str _) (.cons (dv2 h2) .nil))
 | .gro f, ⟨a, h1, h2⟩ => exact .tup (SqT.of h1) (.cons (.str _) (.cons (dv2 h2) .nil))
theorem dvs_pts {K : PySem.W.Frag} {H : Hp} : ∀ (rs : List Addr) (ps : List Prt), Pts H rs ps -> DVs K H (rs.map V.ref) (ps.map dPt)
 | [], [], _ => .nil
 | r :: rs, p :: ps, h => .cons (dv_pt (h.get 0 r p rfl rfl)) (dvs_pts rs ps ⟨by have := h.len; simpa using this, fun i r p e1 e2 => h.get (i + 1) r p e1 e2⟩)
 | [], _ :: _, h => by have := h.len; simp at this
 | _ :: _, [], h => by have := h.len; simp at this
theorem dv_pts {K : PySem.W.Frag} {H : Hp} {B : Addr} {rs : List Addr} {ps : List Prt} (e : SqL K H B (rs.map V.ref)) (h : Pts H rs ps) : DV K H (.ref B) (dPts ps) := .lst e (dvs_pts rs ps h)
theorem pt_ok (p : Prt) : (dPt p).canLay0 = true ∧ (dPt p).depth <= 60 ∧ PyData.eqv (dPt p) (dPt p) = true := by
 cases p <;> simp [dPt, d3, d2, PyData.canLay0, PyData.canLayAll0, PyData.depth, PyData.depthAll, PyData.eqv, PyData.eqvAll] <;> decide +kernel
theorem pts_ok (ps : List Prt) : (dPts ps).canLay0 = true ∧ (dPts ps).depth <= 64 ∧ PyData.eqv (dPts ps) (dPts ps) = true := by
 have h : PyData.canLayAll0 (ps.map dPt) = true ∧ PyData.depthAll (ps.map dPt) <= 60 ∧ PyData.eqvAll (ps.map dPt) (ps.map dPt) = true := by
  induction ps with
  | nil => exact ⟨rfl, Nat.zero_le _, rfl⟩
  | cons p ps ih =>
   obtain ⟨a, b, c⟩ := pt_ok p
   obtain ⟨i1, i2, i3⟩ := ih
   refine ⟨by simp [PyData.canLayAll0, a, i1], ?_, by simp [PyData.eqvAll, c, i3]⟩
   simp only [List.map_cons, PyData.depthAll]; omega
 obtain ⟨h1, h2, h3⟩ := h
 unfold dPts
 refine ⟨by simp [PyData.canLay0, h1], ?_, by simp [PyData.eqv, h3]⟩
 simp only [PyData.depth]; omega
def plN (b : Bool) : Int := if b then 1 else 0
theorem at_pl (b : Bool) (f : Int × Int × Int) : atI [V.int f.1, V.int f.2.1, V.int f.2.2] (plN b) = some (V.int (cfB b f)) := by cases b <;> rfl
def upX (b : Bool) (f : Int × Int × Int) : Int := ne1 (cfB b f) * mx (-f.2.1)
def dnX (b : Bool) (f : Int × Int × Int) : Int := ne1 (cfB b f) * mx f.2.1
theorem ne1_0 {c : Int} (h : c = 0) (x : Int) : ne1 c * x = 0 := by unfold ne1; rw [if_pos h, Int.zero_mul]
theorem ne1_1 {c : Int} (h : ¬ c = 0) (x : Int) : ne1 c * x = x := by unfold ne1; rw [if_neg h, Int.one_mul]
theorem mx_neg {x : Int} (h : x <= 0) : mx x = 0 := by unfold mx; split <;> omega
theorem mx_pos {x : Int} (h : 0 <= x) : mx x = x := by unfold mx; split <;> omega
def spUD (K : PySem.W.Frag) : Sp := fun vs H Q _ => ∃ (A : Addr) (rs : List Addr) (ps : List Prt) (b : Bool), vs = [.ref A, .int (plN b)] ∧ H A = some (.lst (rs.map V.ref)) ∧ Pts H rs ps ∧ ps.length <= 6 ∧ ∀ H', Same H H' -> Q (.int (mx2 (ps.map (upG b)).sum (ps.map (dnG b)).sum)) H'
theorem ok__law_up_and_down {P : Program} {w : World} {K : PySem.W.Frag} {mg : Str -> Option Value} {base : Heap} (T : Tx K mg) : FnOk P w K mg base CX0 3 T.a__law_up_and_down T.fd__law_up_and_down ["_law_parts_here", "_law_place"] (spUD K) := by
 refine T.F__law_up_and_down.ok sc__law_up_and_down (fun vs H Q E h => ?_) (fun cdv A outer s H vs Q E hr h => ?_)
 ·obtain ⟨A, rs, ps, b, rfl, _⟩ := h
  rfl
 obtain ⟨A, rs, ps, b, rfl, hA, hP, l6, q⟩ := h
 refine ⟨_, ((pss_cons (ps_set (i := 2) sc__law_up_and_down.nd rfl (Or.inl rfl) pe_int)
  (pss_cons (ps_set (i := 3) sc__law_up_and_down.nd rfl (Or.inl rfl) pe_int)
  (pss_cons (ps_for PassesOwn.never rfl (pi_list (pv 0)) (pg_name (i := 4) sc__law_up_and_down.nd rfl (Or.inl rfl)) (pss_one (ps_if (pt_cmpR op_eq (pe_ix ix_tup (pv 4) pe_int (fun _ _ => rfl)) pe_str (nomark _)) (pss_mid (ps_if (pt_cmpR op_ne (pe_ix ix_tup (pe_ix ix_tup (pv 4) pe_int (fun _ _ => rfl)) (pv 1) (fun _ _ => rfl)) pe_int (nomark _)) (pss_one (ps_set (i := 2) sc__law_up_and_down.nd rfl (Or.inl rfl) (pe_op op_add (pv 2) (pe_ix ix_tup (pe_ix ix_tup (pv 4) pe_int (fun _ _ => rfl)) pe_int (fun _ _ => rfl))))) pss_nil)
  (pss_one (ps_for PassesOwn.never rfl (pi_list (pe_call (FnOk.mono (ok__law_lows T) (by decide)) hr rfl T.m__law_lows T.F__law_lows.kp T.b__law_lows .nil pass0 (pa_cons (pv 4) pa_nil))) (pg_name (i := 5) sc__law_up_and_down.nd rfl (Or.inl rfl)) (pss_mid (ps_if (PW.pt (pw_and (pt_cmpR op_ne (pe_ix ix_tup (pv 5) (pv 1) (fun _ _ => rfl)) pe_int (nomark _)) (pw_and1 (pt_cmpR op_lt (pe_ix ix_tup (pv 5) pe_int (fun _ _ => rfl)) pe_int (nomark _))))) (pss_one (ps_set (i := 2) sc__law_up_and_down.nd rfl (Or.inl rfl) (pe_op op_sub (pv 2) (pe_ix ix_tup (pv 5) pe_int (fun _ _ => rfl))))) pss_nil)
  (pss_one (ps_if (PW.pt (pw_and (pt_cmpR op_ne (pe_ix ix_tup (pv 5) (pv 1) (fun _ _ => rfl)) pe_int (nomark _)) (pw_and1 (pt_cmpR op_gt (pe_ix ix_tup (pv 5) pe_int (fun _ _ => rfl)) pe_int (nomark _))))) (pss_one (ps_set (i := 3) sc__law_up_and_down.nd rfl (Or.inl rfl) (pe_op op_add (pv 3) (pe_ix ix_tup (pv 5) pe_int (fun _ _ => rfl))))) pss_nil)))))) pss_nil)))
  (pss_one (ps_ret (pe_callB (call_max2 rfl) rfl T.z_max bt_max (pa_cons (pv 2) (pa_cons (pv 3) pa_nil))))))))), ?_⟩
 dsimp only [a_seq]
 k_typeOf
 dsimp only [a_seq]
 k_typeOf
 dsimp only [a_seq]
 k_typeOf
 obtain ⟨Pv, hPv⟩ : ∃ Pv : Nat -> L2.St -> Hp -> Prop, ∀ i σ H', Pv i σ H' ↔ ∃ r3 r4 : Option V, σ = [some (V.ref A), some (V.int (plN b)), some (V.int ((ps.take i).map (upG b)).sum), some (V.int ((ps.take i).map (dnG b)).sum), r3, r4] ∧ Same H H' := ⟨_, fun _ _ _ => Iff.rfl⟩
 refine ⟨⟨_, SqL.of hA⟩, lp_list (xs := rs.map V.ref) Pv ((hPv _ _ _).mpr ⟨none, none, rfl, Same.refl _⟩) (fun i σ H' _ z => by obtain ⟨_, _, _, z⟩ := (hPv i σ H').mp z; exact z.seq (SqL.of hA)) ?_ ?_⟩
 ·intro i v σ H' hv hp
  obtain ⟨r3, r4, rfl, sx⟩ := (hPv _ _ _).mp hp
  rw [List.getElem?_map] at hv
  obtain ⟨u, hu, rfl⟩ := Option.map_eq_some_iff.mp hv
  have hi : i < ps.length := by have := (List.getElem?_eq_some_iff.mp hu).1; have := hP.len; omega
  have hpt := (hP.get i u _ hu (List.getElem?_eq_getElem hi)).on sx
  have et : ps.take (i + 1) = ps.take i ++ [ps[i]] := (List.take_append_getElem hi).symm
  have ef : ∀ g : Prt -> Int, ((ps.take (i + 1)).map g).sum = ((ps.take i).map g).sum + g ps[i] := fun g => by rw [et, List.map_append, List.sum_append, List.map_cons, List.map_nil, List.sum_cons, List.sum_nil, Int.add_zero]
  have e1 := ef (upG b)
  have e2 := ef (dnG b)
  clear ef et
  generalize ((ps.take i).map (upG b)).sum = y1 at e1 ⊢
  generalize ((ps.take i).map (dnG b)).sum = y2 at e2 ⊢
  generalize ps[i] = p at hpt e1 e2
  have no : upG b p = 0 -> dnG b p = 0 -> Pv (i + 1) [some (V.ref A), some (V.int (plN b)), some (V.int y1), some (V.int y2), some (V.ref u), r4] H' := fun z1 z2 => (hPv _ _ _).mpr ⟨_, _, by rw [e1, e2, z1, z2, Int.add_zero, Int.add_zero], sx⟩
  match p, hpt, e1, e2, no with
  | .cho h l, hpt, e1, e2, no =>
   obtain ⟨a, c, er, ea, ec⟩ := id hpt
   dsimp only [a_seq]
   k_typeOf
   refine ⟨_, SqT.of er, _, rfl, ?_⟩
   k_units
   obtain ⟨M, hM⟩ : ∃ M : L2.St -> Hp -> Prop, ∀ σ Hx, M σ Hx ↔ σ = [some (V.ref A), some (V.int (plN b)), some (V.int (y1 + ne1 (cfB b h) * h.2.1)), some (V.int y2), some (V.ref u), r4] ∧ Hx = H' := ⟨_, fun _ _ => Iff.rfl⟩
   refine mid_of M ?_ ?_
   ·k_units
    refine ⟨_, SqT.of er, _, rfl, _, rfl, _, SqT.of ea, _, at_pl b h, ?_⟩
    k_units
    refine ite2 (fun z => ⟨_, SqT.of er, _, rfl, _, rfl, _, SqT.of ea, _, rfl, _, rfl, (hM _ _).mpr ⟨?_, rfl⟩⟩) (fun z => (hM _ _).mpr ⟨?_, rfl⟩)
    ·rw [ne1_1 z]
    ·rw [ne1_0 (Decidable.not_not.mp z), Int.add_zero]
   intro σ Hx hm
   obtain ⟨rfl, rfl⟩ := (hM _ _).mp hm
   k_units
   refine ⟨u, h, l, rfl, hpt, fun D c' t H2 s2 nD eD ec' et' => ?_⟩
   obtain ⟨Pw, hPw⟩ : ∃ Pw : Nat -> L2.St -> Hp -> Prop, ∀ j σ Hx, Pw j σ Hx ↔ ∃ r4 : Option V, σ = [some (V.ref A), some (V.int (plN b)), some (V.int (y1 + ne1 (cfB b h) * h.2.1 + (([l, subF h l].take j).map (upX b)).sum)), some (V.int (y2 + (([l, subF h l].take j).map (dnX b)).sum)), some (V.ref u), r4] ∧ Hx = H2 := ⟨_, fun _ _ _ => Iff.rfl⟩
   refine ⟨D, rfl, ⟨_, SqL.of eD⟩, lp_list (xs := [V.ref c', V.ref t]) Pw ((hPw _ _ _).mpr ⟨r4, by rw [List.take_zero, List.map_nil, List.map_nil, List.sum_nil, Int.add_zero, Int.add_zero], rfl⟩) (fun j σ Hx _ z => by obtain ⟨_, _, rfl⟩ := (hPw j σ Hx).mp z; exact SqL.of eD) ?_ ?_⟩
   ·intro j v σ Hy hv hp
    obtain ⟨r5, rfl, rfl⟩ := (hPw _ _ _).mp hp
    obtain ⟨x, f, rfl, ex, etk⟩ : ∃ (x : Addr) (f : Int × Int × Int), v = V.ref x ∧ Hy x = some (T3 f) ∧ [l, subF h l].take (j + 1) = [l, subF h l].take j ++ [f] := by
     match j, hv with
     | 0, hv => exact ⟨c', l, (Option.some.inj hv).symm, ec', rfl⟩
     | 1, hv => exact ⟨t, subF h l, (Option.some.inj hv).symm, et', rfl⟩
     | j + 2, hv => simp at hv
    have c1 : ∀ g : Int × Int × Int -> Int, (([l, subF h l].take (j + 1)).map g).sum = (([l, subF h l].take j).map g).sum + g f := fun g => by rw [etk, List.map_append, List.sum_append, List.map_cons, List.map_nil, List.sum_cons, List.sum_nil, Int.add_zero]
    have fin : Pw (j + 1) [some (V.ref A), some (V.int (plN b)), some (V.int (y1 + ne1 (cfB b h) * h.2.1 + (([l, subF h l].take j).map (upX b)).sum + upX b f)), some (V.int (y2 + (([l, subF h l].take j).map (dnX b)).sum + dnX b f)), some (V.ref u), some (V.ref x)] Hy := (hPw _ _ _).mpr ⟨_, by rw [c1, c1, ← Int.add_assoc, ← Int.add_assoc], rfl⟩
    generalize y1 + ne1 (cfB b h) * h.2.1 + (([l, subF h l].take j).map (upX b)).sum = w1 at fin ⊢
    generalize y2 + (([l, subF h l].take j).map (dnX b)).sum = w2 at fin ⊢
    obtain ⟨M2, hM2⟩ : ∃ M2 : L2.St -> Hp -> Prop, ∀ σ Hx, M2 σ Hx ↔ σ = [some (V.ref A), some (V.int (plN b)), some (V.int (w1 + upX b f)), some (V.int w2), some (V.ref u), some (V.ref x)] ∧ Hx = Hy := ⟨_, fun _ _ => Iff.rfl⟩
    k_units
    refine mid_of M2 ?_ ?_
    ·k_units
     refine ⟨_, SqT.of ex, _, at_pl b f, ?_⟩
     k_units
     refine ite2 (fun z => ⟨_, SqT.of ex, _, rfl, _, rfl, ite2 (fun z2 => ⟨_, SqT.of ex, _, rfl, _, rfl, (hM2 _ _).mpr ⟨?_, rfl⟩⟩) (fun z2 => (hM2 _ _).mpr ⟨?_, rfl⟩)⟩) (fun z => (hM2 _ _).mpr ⟨?_, rfl⟩)
     ·unfold upX; rw [ne1_1 z, mx_pos (by omega), ← Int.sub_eq_add_neg]
     ·unfold upX; rw [ne1_1 z, mx_neg (by omega), Int.add_zero]
     ·unfold upX; rw [ne1_0 (Decidable.not_not.mp z), Int.add_zero]
    intro σ Hz hm2
    obtain ⟨rfl, rfl⟩ := (hM2 _ _).mp hm2
    k_units
    refine ⟨_, SqT.of ex, _, at_pl b f, ?_⟩
    k_units
    have f2 : ∀ y : Int, dnX b f = y -> Pw (j + 1) [some (V.ref A), some (V.int (plN b)), some (V.int (w1 + upX b f)), some (V.int (w2 + y)), some (V.ref u), some (V.ref x)] Hz := fun y e => by rw [← e]; exact fin
    refine ite2 (fun z => ⟨_, SqT.of ex, _, rfl, _, rfl, ite2 (fun z2 => ⟨_, SqT.of ex, _, rfl, _, rfl, f2 _ ?_⟩) (fun z2 => ?_)⟩) (fun z => ?_)
    ·unfold dnX; rw [ne1_1 z, mx_pos (by omega)]
    ·have := f2 0 (by unfold dnX; rw [ne1_1 z, mx_neg (by omega)])
     rw [Int.add_zero] at this; exact this
    ·have := f2 0 (by unfold dnX; rw [ne1_0 (Decidable.not_not.mp z)])
     rw [Int.add_zero] at this; exact this
   intro σ Hy hp
   obtain ⟨r5, rfl, rfl⟩ := (hPw _ _ _).mp hp
   refine (hPv _ _ _).mpr ⟨some (V.ref u), r5, ?_, sx.trans s2⟩
   rw [e1, e2]
   show _ = [some (V.ref A), some (V.int (plN b)), some (V.int (y1 + (ne1 (cfB b h) * h.2.1 + (upX b l + upX b (subF h l))))), some (V.int (y2 + (dnX b l + dnX b (subF h l)))), some (V.ref u), r5]
   have e3 : ∀ g : Int × Int × Int -> Int, ((([l, subF h l].take [V.ref c', V.ref t].length).map g).sum) = g l + g (subF h l) := fun g => by show g l + (g (subF h l) + 0) = _; rw [Int.add_zero]
   rw [e3, e3, Int.add_assoc]
  | .wei f, ⟨a, er, _⟩, e1, e2, no =>
   k_units
   refine ⟨_, SqT.of er, _, rfl, ?_⟩
   k_units
   rw [if_neg (by decide)]; exact no rfl rfl
  | .pow f, ⟨a, er, _⟩, e1, e2, no =>
   k_units
   refine ⟨_, SqT.of er, _, rfl, ?_⟩
   k_units
   rw [if_neg (by decide)]; exact no rfl rfl
  | .gro f, ⟨a, er, _⟩, e1, e2, no =>
   k_units
   refine ⟨_, SqT.of er, _, rfl, ?_⟩
   k_units
   rw [if_neg (by decide)]; exact no rfl rfl
 intro σ H' hp
 obtain ⟨r3, r4, rfl, sx⟩ := (hPv _ _ _).mp hp
 rw [List.length_map, hP.len, List.take_length]
 k_units
 exact q H' sx
def stX (b : Bool) (i far : Int) (f : Int × Int × Int) : Int := ne1 (cfB b f) * (mx f.1 * far - f.1 * i)
def spStp (K : PySem.W.Frag) : Sp := fun vs H Q _ => ∃ (A : Addr) (rs : List Addr) (ps : List Prt) (b : Bool) (i far : Nat), vs = [.ref A, .int (i : Int), .int (far : Int), .int (plN b)] ∧ H A = some (.lst (rs.map V.ref)) ∧ Pts H rs ps ∧ (∀ p ∈ ps, PrtOk p) ∧ ps.length <= 6 ∧ i <= 2 ∧ far <= 2 ∧ ∀ H', Same H H' -> Q (.int (stS b i far ps)) H'
theorem ok__law_step {P : Program} {w : World} {K : PySem.W.Frag} {mg : Str -> Option Value} {base : Heap} (T : Tx K mg) : FnOk P w K mg base CX0 3 T.a__law_step T.fd__law_step ["_law_parts_here", "_law_i", "_law_far", "_law_place"] (spStp K) := by
 refine T.F__law_step.ok sc__law_step (fun vs H Q E h => ?_) (fun cdv A outer s H vs Q E hr h => ?_)
 ·obtain ⟨A, rs, ps, b, i, far, rfl, _⟩ := h
  rfl
 obtain ⟨A, rs, ps, b, n, far, rfl, hA, hP, hO, l6, hn, hf, q⟩ := h
 refine ⟨_, ((pss_cons (ps_set (i := 4) sc__law_step.nd rfl (Or.inl rfl) pe_int)
  (pss_cons (ps_for PassesOwn.never rfl (pi_list (pv 0)) (pg_name (i := 5) sc__law_step.nd rfl (Or.inl rfl)) (pss_mid (ps_if (pt_cmpR op_eq (pe_ix ix_tup (pv 5) pe_int (fun _ _ => rfl)) pe_str (nomark _)) (pss_cons (ps_if (pt_cmpR (op_eqD hr.units) (pe_ix ix_tup (pv 5) pe_int (fun _ _ => rfl)) (pe_tup (pa_cons pe_int (pa_cons pe_int (pa_cons pe_int pa_nil)))) (nomark _)) (pss_one (ps_ret pe_int)) pss_nil)
  (pss_one (ps_set (i := 4) sc__law_step.nd rfl (Or.inl rfl) (pe_op op_add (pv 4) (pe_callTy call_int1 rfl T.z_int bt_int (pa_cons (pe_cmpR op_ne (pe_ix ix_tup (pe_ix ix_tup (pv 5) pe_int (fun _ _ => rfl)) (pv 3) (fun _ _ => rfl)) pe_int (nomark _)) pa_nil)))))) pss_nil)
  (pss_one (ps_if (pt_cmpR op_eq (pe_ix ix_tup (pv 5) pe_int (fun _ _ => rfl)) pe_str (nomark _)) (pss_mid (ps_if (pt_cmpR op_ne (pe_ix ix_tup (pe_ix ix_tup (pv 5) pe_int (fun _ _ => rfl)) (pv 3) (fun _ _ => rfl)) pe_int (nomark _)) (pss_one (ps_set (i := 4) sc__law_step.nd rfl (Or.inl rfl) (pe_op op_add (pv 4) (pe_op op_mulZ (pv 1) (pe_ix ix_tup (pe_ix ix_tup (pv 5) pe_int (fun _ _ => rfl)) pe_int (fun _ _ => rfl)))))) pss_nil)
  (pss_one (ps_for PassesOwn.never rfl (pi_list (pe_call (FnOk.mono (ok__law_lows T) (by decide)) hr rfl T.m__law_lows T.F__law_lows.kp T.b__law_lows .nil pass0 (pa_cons (pv 5) pa_nil))) (pg_name (i := 6) sc__law_step.nd rfl (Or.inl rfl)) (pss_one (ps_if (pt_cmpR op_ne (pe_ix ix_tup (pv 6) (pv 3) (fun _ _ => rfl)) pe_int (nomark _)) (pss_one (ps_set (i := 4) sc__law_step.nd rfl (Or.inl rfl) (pe_op op_sub (pe_op op_add (pv 4) (pe_op op_mulZ (pe_callB (call_max2 rfl) rfl T.z_max bt_max (pa_cons pe_int (pa_cons (pe_ix ix_tup (pv 6) pe_int (fun _ _ => rfl)) pa_nil))) (pv 2))) (pe_op op_mulZ (pe_ix ix_tup (pv 6) pe_int (fun _ _ => rfl)) (pv 1))))) pss_nil))))) pss_nil))))
  (pss_one (ps_ret (pv 4)))))), ?_⟩
 dsimp only [a_seq]
 k_typeOf
 dsimp only [a_seq]
 k_typeOf
 obtain ⟨Pv, hPv⟩ : ∃ Pv : Nat -> L2.St -> Hp -> Prop, ∀ i σ H', Pv i σ H' ↔ ∃ r5 r6 : Option V, σ = [some (V.ref A), some (V.int (n : Int)), some (V.int (far : Int)), some (V.int (plN b)), some (V.int ((ps.take i).map (stG b n far)).sum), r5, r6] ∧ (∀ p ∈ ps.take i, isZ p = false) ∧ Same H H' := ⟨_, fun _ _ _ => Iff.rfl⟩
 refine ⟨⟨_, SqL.of hA⟩, lp_list (xs := rs.map V.ref) Pv ((hPv _ _ _).mpr ⟨none, none, rfl, by simp, Same.refl _⟩) (fun i σ H' _ z => by obtain ⟨_, _, _, _, z⟩ := (hPv i σ H').mp z; exact z.seq (SqL.of hA)) ?_ ?_⟩
 ·intro i v σ H' hv hp
  obtain ⟨r5, r6, rfl, hz, sx⟩ := (hPv _ _ _).mp hp
  rw [List.getElem?_map] at hv
  obtain ⟨u, hu, rfl⟩ := Option.map_eq_some_iff.mp hv
  have hi : i < ps.length := by have := (List.getElem?_eq_some_iff.mp hu).1; have := hP.len; omega
  have hpt := (hP.get i u _ hu (List.getElem?_eq_getElem hi)).on sx
  have hmem := List.getElem_mem hi
  have hok := hO _ hmem
  have et : ps.take (i + 1) = ps.take i ++ [ps[i]] := (List.take_append_getElem hi).symm
  have e1 : ((ps.take (i + 1)).map (stG b n far)).sum = ((ps.take i).map (stG b n far)).sum + stG b n far ps[i] := by rw [et, List.map_append, List.sum_append, List.map_cons, List.map_nil, List.sum_cons, List.sum_nil, Int.add_zero]
  have e2 : isZ ps[i] = false -> ∀ p ∈ ps.take (i + 1), isZ p = false := fun z p hp => by
   rw [et] at hp
   rcases List.mem_append.mp hp with h | h
   ·exact hz p h
   ·rw [List.mem_singleton.mp h]; exact z
  have q0 : isZ ps[i] = true -> ∀ H', Same H H' -> Q (.int 0) H' := fun z H' s => by
   have := q H' s
   unfold stS at this
   rw [if_pos (List.any_eq_true.mpr ⟨_, hmem, z⟩)] at this; exact this
  generalize ((ps.take i).map (stG b n far)).sum = y1 at e1 ⊢
  generalize ps[i] = p at hpt e1 e2 q0 hok
  clear et hmem
  have go : ∀ y, stG b n far p = y -> isZ p = false -> ∀ r6 H'', Same H H'' -> Pv (i + 1) [some (V.ref A), some (V.int (n : Int)), some (V.int (far : Int)), some (V.int (plN b)), some (V.int (y1 + y)), some (V.ref u), r6] H'' := fun y e z r6 H'' s => (hPv _ _ _).mpr ⟨_, _, by rw [e1, e], e2 z, s⟩
  match p, hpt, hok, go, q0 with
  | .cho h l, hpt, hok, go, _ =>
   obtain ⟨a, c, er, ea, ec⟩ := id hpt
   obtain ⟨⟨a1, a2, a3, a4, a5, a6⟩, ⟨b1, b2, b3, b4, b5, b6⟩, _⟩ := id hok
   have bn : Bd 2 (n : Int) := Bd.of_lt (m := 3) (by omega) (by decide)
   have bf : Bd 2 (far : Int) := Bd.of_lt (m := 3) (by omega) (by decide)
   obtain ⟨M, hM⟩ : ∃ M : Int -> L2.St -> Hp -> Prop, ∀ y σ Hx, M y σ Hx ↔ σ = [some (V.ref A), some (V.int (n : Int)), some (V.int (far : Int)), some (V.int (plN b)), some (V.int (y1 + y)), some (V.ref u), r6] ∧ Hx = H' := ⟨_, fun _ _ _ => Iff.rfl⟩
   k_units
   refine mid_of (M 0) ?_ ?_
   ·k_units
    refine ⟨_, SqT.of er, _, rfl, ?_⟩
    k_units
    rw [if_neg (by decide)]; exact (hM _ _ _).mpr ⟨by rw [Int.add_zero], rfl⟩
   intro σ Hx hm
   obtain ⟨rfl, rfl⟩ := (hM _ _ _).mp hm
   rw [Int.add_zero]
   k_units
   refine ⟨_, SqT.of er, _, rfl, ?_⟩
   k_units
   refine mid_of (M (ne1 (cfB b h) * ((n : Int) * h.1))) ?_ ?_
   ·k_units
    refine ⟨_, SqT.of er, _, rfl, _, rfl, _, SqT.of ea, _, at_pl b h, ?_⟩
    k_units
    refine ite2 (fun z => ⟨_, SqT.of er, _, rfl, _, rfl, _, SqT.of ea, _, rfl, _, rfl, bn.fits (Bd.of_lt (m := 4) (k := 3) (by omega) (by decide)) (by decide), (hM _ _ _).mpr ⟨?_, rfl⟩⟩) (fun z => (hM _ _ _).mpr ⟨?_, rfl⟩)
    ·rw [ne1_1 z]
    ·rw [ne1_0 (Decidable.not_not.mp z), Int.add_zero]
   clear hm
   intro σ Hx hm
   obtain ⟨rfl, rfl⟩ := (hM _ _ _).mp hm
   k_units
   refine ⟨u, h, l, rfl, hpt, fun D c' t H2 s2 nD eD ec' et' => ?_⟩
   obtain ⟨Pw, hPw⟩ : ∃ Pw : Nat -> L2.St -> Hp -> Prop, ∀ j σ Hx, Pw j σ Hx ↔ ∃ r6 : Option V, σ = [some (V.ref A), some (V.int (n : Int)), some (V.int (far : Int)), some (V.int (plN b)), some (V.int (y1 + (ne1 (cfB b h) * ((n : Int) * h.1) + (([l, subF h l].take j).map (stX b n far)).sum))), some (V.ref u), r6] ∧ Hx = H2 := ⟨_, fun _ _ _ => Iff.rfl⟩
   refine ⟨D, rfl, ⟨_, SqL.of eD⟩, lp_list (xs := [V.ref c', V.ref t]) Pw ((hPw _ _ _).mpr ⟨r6, by rw [List.take_zero, List.map_nil, List.sum_nil, Int.add_zero], rfl⟩) (fun j σ Hx _ z => by obtain ⟨_, _, rfl⟩ := (hPw j σ Hx).mp z; exact SqL.of eD) ?_ ?_⟩
   ·intro j v σ Hy hv hp
    obtain ⟨r5, rfl, rfl⟩ := (hPw _ _ _).mp hp
    obtain ⟨x, f, rfl, ex, etk, fb⟩ : ∃ (x : Addr) (f : Int × Int × Int), v = V.ref x ∧ Hy x = some (T3 f) ∧ [l, subF h l].take (j + 1) = [l, subF h l].take j ++ [f] ∧ -6 <= f.1 ∧ f.1 <= 6 := by
     match j, hv with
     | 0, hv => exact ⟨c', l, (Option.some.inj hv).symm, ec', rfl, by omega, by omega⟩
     | 1, hv => exact ⟨t, subF h l, (Option.some.inj hv).symm, et', rfl, by show -6 <= h.1 - l.1; omega, by show h.1 - l.1 <= 6; omega⟩
     | j + 2, hv => simp at hv
    have c1 : (([l, subF h l].take (j + 1)).map (stX b n far)).sum = (([l, subF h l].take j).map (stX b n far)).sum + stX b n far f := by rw [etk, List.map_append, List.sum_append, List.map_cons, List.map_nil, List.sum_cons, List.sum_nil, Int.add_zero]
    have fin : ∀ y, stX b n far f = y -> Pw (j + 1) [some (V.ref A), some (V.int (n : Int)), some (V.int (far : Int)), some (V.int (plN b)), some (V.int (y1 + (ne1 (cfB b h) * ((n : Int) * h.1) + (([l, subF h l].take j).map (stX b n far)).sum) + y)), some (V.ref u), some (V.ref x)] Hy := fun y e => (hPw _ _ _).mpr ⟨_, by rw [c1, e, ← Int.add_assoc, ← Int.add_assoc, ← Int.add_assoc], rfl⟩
    generalize y1 + (ne1 (cfB b h) * ((n : Int) * h.1) + (([l, subF h l].take j).map (stX b n far)).sum) = w1 at fin ⊢
    k_units
    refine ⟨_, SqT.of ex, _, at_pl b f, ?_⟩
    k_units
    have em : (if f.1 > 0 then f.1 else 0) = mx f.1 := by unfold mx; split <;> split <;> omega
    have m6 : mx f.1 <= 6 ∧ 0 <= mx f.1 := by unfold mx; split <;> omega
    refine ite2 (fun z => ⟨_, SqT.of ex, _, rfl, _, rfl, ?_⟩) (fun z => ?_)
    ·rw [em]
     refine ⟨(Bd.of_lt (m := 7) (k := 3) (by omega) (by decide)).fits bf (by decide), _, SqT.of ex, _, rfl, _, rfl, (Bd.of_lt (m := 7) (k := 3) (by omega) (by decide)).fits bn (by decide), ?_⟩
     have := fin (mx f.1 * (far : Int) - f.1 * (n : Int)) (by unfold stX; rw [ne1_1 z])
     rw [show w1 + (mx f.1 * (far : Int) - f.1 * (n : Int)) = w1 + mx f.1 * (far : Int) - f.1 * (n : Int) by omega] at this
     exact this
    ·have := fin 0 (by unfold stX; rw [ne1_0 (Decidable.not_not.mp z)])
     rw [Int.add_zero] at this; exact this
   intro σ Hy hp
   obtain ⟨r5, rfl, rfl⟩ := (hPw _ _ _).mp hp
   have e3 : (([l, subF h l].take [V.ref c', V.ref t].length).map (stX b n far)).sum = stX b n far l + stX b n far (subF h l) := by show stX b n far l + (stX b n far (subF h l) + 0) = _; rw [Int.add_zero]
   rw [e3]
   exact go _ rfl rfl _ _ (sx.trans s2)
  | .wei f, ⟨a, er, ea⟩, hok, go, q0 =>
   obtain ⟨M, hM⟩ : ∃ M : L2.St -> Hp -> Prop, ∀ σ Hx, M σ Hx ↔ σ = [some (V.ref A), some (V.int (n : Int)), some (V.int (far : Int)), some (V.int (plN b)), some (V.int (y1 + ne1 (cfB b f))), some (V.ref u), r6] ∧ isZ (.wei f) = false ∧ Same H' Hx := ⟨_, fun _ _ => Iff.rfl⟩
   k_units
   refine mid_of M ?_ ?_
   ·k_units
    refine ⟨_, SqT.of er, _, rfl, ?_⟩
    k_units
    refine ⟨_, SqT.of er, _, rfl, by decide, fun z nz => ?_⟩
    have u1 := same_upd nz (.tup [V.int 0, V.int 0, V.int 0])
    refine ⟨_, .tup (SqT.of (u1 _ _ ea)) (.cons (.int _) (.cons (.int _) (.cons (.int _) .nil))), _, .tup (SqT.of upd_same) (.cons (.int _) (.cons (.int _) (.cons (.int _) .nil))), by simp [PyData.canLay0, PyData.canLayAll0], by decide, by simp [PyData.depth, PyData.depthAll], ?_⟩
    have ev : PyData.eqv (.tuple [.int f.1, .int f.2.1, .int f.2.2]) (.tuple [.int 0, .int 0, .int 0]) = isZ (.wei f) := by
     show _ = decide _
     simp [PyData.eqv, PyData.eqvAll]; rfl
    rw [ev]
    refine ite2 (fun z => ?_) (fun z => ?_)
    ·exact q0 z _ (sx.trans u1)
    ·refine ⟨_, SqT.of (u1 _ _ er), _, rfl, _, rfl, _, SqT.of (u1 _ _ ea), _, at_pl b f, ?_⟩
     k_units
     refine .inr ((hM _ _).mpr ⟨?_, by simpa using z, u1⟩)
     unfold ne1
     by_cases e : cfB b f = 0 <;> simp [e]
   intro σ Hx hm
   obtain ⟨rfl, z, sy⟩ := (hM _ _).mp hm
   k_units
   refine ⟨_, SqT.of (sy _ _ er), _, rfl, ?_⟩
   k_units
   rw [if_neg (by decide)]
   exact go _ rfl z _ _ (sx.trans sy)
  | .pow f, ⟨a, er, _⟩, _, go, _ =>
   have go := go 0 rfl rfl
   obtain ⟨M, hM⟩ : ∃ M : L2.St -> Hp -> Prop, ∀ σ Hx, M σ Hx ↔ σ = [some (V.ref A), some (V.int (n : Int)), some (V.int (far : Int)), some (V.int (plN b)), some (V.int y1), some (V.ref u), r6] ∧ Hx = H' := ⟨_, fun _ _ => Iff.rfl⟩
   k_units
   refine mid_of M ?_ ?_
   ·k_units
    refine ⟨_, SqT.of er, _, rfl, ?_⟩
    k_units
    rw [if_neg (by decide)]; exact (hM _ _).mpr ⟨rfl, rfl⟩
   intro σ Hx hm
   obtain ⟨rfl, rfl⟩ := (hM _ _).mp hm
   k_units
   refine ⟨_, SqT.of er, _, rfl, ?_⟩
   k_units
   rw [if_neg (by decide)]
   have := go r6 Hx sx
   rw [Int.add_zero] at this; exact this
  | .gro f, ⟨a, er, _⟩, _, go, _ =>
   have go := go 0 rfl rfl
   obtain ⟨M, hM⟩ : ∃ M : L2.St -> Hp -> Prop, ∀ σ Hx, M σ Hx ↔ σ = [some (V.ref A), some (V.int (n : Int)), some (V.int (far : Int)), some (V.int (plN b)), some (V.int y1), some (V.ref u), r6] ∧ Hx = H' := ⟨_, fun _ _ => Iff.rfl⟩
   k_units
   refine mid_of M ?_ ?_
   ·k_units
    refine ⟨_, SqT.of er, _, rfl, ?_⟩
    k_units
    rw [if_neg (by decide)]; exact (hM _ _).mpr ⟨rfl, rfl⟩
   intro σ Hx hm
   obtain ⟨rfl, rfl⟩ := (hM _ _).mp hm
   k_units
   refine ⟨_, SqT.of er, _, rfl, ?_⟩
   k_units
   rw [if_neg (by decide)]
   have := go r6 Hx sx
   rw [Int.add_zero] at this; exact this
 intro σ H' hp
 obtain ⟨r3, r4, rfl, hz, sx⟩ := (hPv _ _ _).mp hp
 rw [List.length_map, hP.len, List.take_length] at hz ⊢
 k_units
 have := q H' sx
 unfold stS at this
 rw [if_neg (by rw [any_none hz]; decide)] at this
 exact this
def spIs : Sp := fun vs H Q _ => ∃ x : Int, vs = [.int x, .int x] ∧ Q (.bl true) H
theorem ok__law_is {P : Program} {w : World} {K : PySem.W.Frag} {mg : Str -> Option Value} {base : Heap} (T : Tx K mg) : FnOk P w K mg base CX0 1 T.a__law_is T.fd__law_is ["_law_found", "_law_due"] spIs := by
 refine T.F__law_is.ok sc__law_is (fun vs H Q E h => ?_) (fun cdv A outer s H vs Q E hr h => ?_)
 ·obtain ⟨x, rfl, _⟩ := h
  rfl
 obtain ⟨x, rfl, q⟩ := h
 refine ⟨_, ((pss_one (ps_ret (pe_and (pe_callB call_isinst rfl T.z_isinstance bt_isinstance (pa_cons (pv 0) (pa_cons (pe_bltn (v := .ty "int") rfl T.z_int bt_int rfl) pa_nil))) (pe_and (pe_not (pe_callB call_isinst rfl T.z_isinstance bt_isinstance (pa_cons (pv 0) (pa_cons (pe_bltn (v := .ty "bool") rfl T.z_bool bt_bool rfl) pa_nil)))) (pe_one (pe_cmpR op_eq (pv 0) (pv 1) (nomark _)))))))), ?_⟩
 k_units
 refine ⟨_, .int _, true, rfl, ?_⟩
 rw [if_pos rfl]
 refine ⟨_, .int _, false, rfl, ?_⟩
 rw [if_pos rfl, decide_eq_true trivial]
 exact q
def spFor {K : PySem.W.Frag} {mg : Str -> Option Value} (T : Tx K mg) : Sp := fun vs H Q _ => ∃ (x A : Addr) (H0 : Hp) (ts rs : List Addr) (ps : List Prt) (far : Nat), vs = [.ref x, .ref A, .int (far : Int)] ∧ TermAt T H0 H x ts ps ∧ H A = some (.lst (rs.map V.ref)) ∧ Pts H rs ps ∧ (∀ p ∈ ps, PrtOk p) ∧ ps.length <= 6 ∧ far <= 2 ∧ ∀ H', Same H H' -> Q (.bl true) H'
theorem ok__law_for {P : Program} {w : World} {K : PySem.W.Frag} {mg : Str -> Option Value} {base : Heap} (T : Tx K mg) : FnOk P w K mg base CX0 10 T.a__law_for T.fd__law_for ["_law_term", "_law_parts_here", "_law_far"] (spFor T) := by
 refine T.F__law_for.ok sc__law_for (fun vs H Q E h => ?_) (fun cdv A outer s H vs Q E hr h => ?_)
 ·obtain ⟨x, A, H0, ts, rs, ps, far, rfl, _⟩ := h
  rfl
 obtain ⟨x, A, H0, ts, rs, ps, far, rfl, hx, hA, hP, hO, l6, hf, q⟩ := h
 refine ⟨_, ((pss_cons (ps_if (pt_not (pt_val (pe_call (FnOk.mono (ok__law_is T) (by decide)) hr rfl T.m__law_is T.F__law_is.kp T.b__law_is .nil pass0 (pa_cons (pe_call (FnOk.mono (ok_height_of T) (by decide)) hr rfl T.m_height_of T.F_height_of.kp T.b_height_of .nil pass0 (pa_cons (pv 0) (pa_cons (pv 2) pa_nil))) (pa_cons (pe_callB (call_maxL rfl) rfl T.z_max bt_max (pa_cons (pe_lcomp rfl (blkok rfl (sub_cons rfl (sub_cons rfl sub_nil)) (fv_cons 1 "_law_parts_here" (by decide) rfl (Or.inl rfl) (Or.inl rfl) ⟨_, rfl⟩ (fv_cons 2 "_law_far" (by decide) rfl (Or.inl rfl) (Or.inl rfl) ⟨_, rfl⟩ fv_nil))) (pi_range1 rfl T.z_range (pa_cons (pe_op op_add (pv 2) pe_int) pa_nil)) (fun _ _ _ _ => (pe_call (FnOk.mono (ok__law_step T) (by decide)) hr rfl T.m__law_step T.F__law_step.kp T.b__law_step .nil pass0 (pa_cons (pv 1) (pa_cons (pv 0) (pa_cons (pv 2) (pa_cons pe_int pa_nil))))))) pa_nil)) pa_nil))))) (pss_one (ps_ret pe_bl)) pss_nil)
  (pss_cons (ps_set (i := 3) sc__law_for.nd rfl (Or.inl rfl) (pe_callB (call_maxL rfl) rfl T.z_max bt_max (pa_cons (pe_op op_cat (pe_lcomp rfl (blkok rfl (sub_cons rfl (sub_cons rfl sub_nil)) (fv_cons 1 "_law_parts_here" (by decide) rfl (Or.inl rfl) (Or.inl rfl) ⟨_, rfl⟩ (fv_cons 2 "_law_far" (by decide) rfl (Or.inl rfl) (Or.inl rfl) ⟨_, rfl⟩ fv_nil))) (pi_range1 rfl T.z_range (pa_cons (pe_op op_add (pv 2) pe_int) pa_nil)) (fun _ _ _ _ => (pe_call (FnOk.mono (ok__law_step T) (by decide)) hr rfl T.m__law_step T.F__law_step.kp T.b__law_step .nil pass0 (pa_cons (pv 1) (pa_cons (pv 0) (pa_cons (pv 2) (pa_cons pe_int pa_nil))))))) (pe_lst (pa_cons (pe_call (FnOk.mono (ok__law_up_and_down T) (by decide)) hr rfl T.m__law_up_and_down T.F__law_up_and_down.kp T.b__law_up_and_down .nil pass0 (pa_cons (pv 1) (pa_cons pe_int pa_nil))) pa_nil))) pa_nil)))
  (pss_one (ps_ret (pe_call (FnOk.mono (ok__law_is T) (by decide)) hr rfl T.m__law_is T.F__law_is.kp T.b__law_is .nil pass0 (pa_cons (pe_call (FnOk.mono (ok_length_of T) (by decide)) hr rfl T.m_length_of T.F_length_of.kp T.b_length_of .nil pass0 (pa_cons (pv 0) (pa_cons (pv 2) pa_nil))) (pa_cons (pv 3) pa_nil)))))))), ?_⟩
 have em : ∀ b, (List.range (far + 1)).map (stg b ps far) = (List.range (far + 1)).map fun i => stS b i far ps := fun b => List.map_congr_left fun i hi => pdeg_st hO (by have := List.mem_range.mp hi; omega) hf
 have stp : ∀ (b : Bool) (Hy : Hp) (R : VK), Same H Hy -> newL Hy R (((List.range (far + 1)).map fun i => stS b i far ps).map V.int) -> ∀ D, Hy D = none -> CLoop (Itr 0 ((far : Int) + 1).toNat) [(1, Str.ofString "_law_parts_here"), (2, Str.ofString "_law_far")] (tCall (spStp K) [] E0 (tCons (tVar 1) (tCons (tVar 0) (tCons (tVar 2) (tCons (tC (V.int (plN b))) tNil))))) R [some (V.ref x), some (V.ref A), some (V.int (far : Int)), none] Hy D := fun b Hy R sy z D nD => by
  rw [show ((far : Int) + 1).toNat = far + 1 by omega]
  refine cl_rngI nD (by simp) (by omega) (fun i v Hx R hi hv sx z1 => ?_) z
  rw [List.getElem?_map, List.getElem?_range hi] at hv
  obtain rfl := Option.some.inj hv
  (iterate 3 (k_units; (try simp only [bst, Option.getD_some, Int.zero_add])); k_units)
  have s2 := sy.trans sx
  exact ⟨A, rs, ps, b, i, far, rfl, s2 _ _ hA, hP.on s2, hO, l6, by omega, hf, z1⟩
 dsimp only [a_seq]
 k_typeOf
 refine ⟨x, H0, ts, ps, far, rfl, hx, l6, hO, hf, fun H1 s1 => ⟨by omega, by omega, fun D nD => stp true H1 _ s1 (fun D2 H2 s2 n2 e2 => ⟨D2, rfl, _, SqL.of e2, by simp, fun M m1 m2 => ⟨M, ?_, true, rfl, ?_⟩⟩) D nD⟩⟩
 ·rw [em, mxs_eq m1 m2]
 rw [if_neg (by decide)]
 have s12 := s1.trans s2
 dsimp only [a_seq]
 k_typeOf
 refine ⟨by omega, by omega, fun D nD => stp false H2 _ s12 (fun D3 H3 s3 n3 e3 => ?_) D nD⟩
 have s13 := s12.trans s3
 refine ⟨A, rs, ps, false, rfl, s13 _ _ hA, hP.on s13, l6, fun H4 s4 => ⟨by decide, fun D4 n4 => ?_⟩⟩
 have u4 := same_upd n4 (.lst [V.int (mx2 (ps.map (upG false)).sum (ps.map (dnG false)).sum)])
 refine ⟨_, rfl, _, u4 _ _ (s4 _ _ e3), _, upd_same, ?_, fun D5 n5 => ?_⟩
 ·rw [List.length_map, List.length_map, List.length_range]; exact Nat.le_of_lt (small1000 (show far + 1 + 1 <= 1000 by omega))
 refine ⟨((List.range (far + 1)).map fun i => stS false i far ps) ++ [mx2 (ps.map (upG false)).sum (ps.map (dnG false)).sum], ?_, by simp, fun M m1 m2 => ?_⟩
 ·rw [List.map_append]; exact SqL.of upd_same
 have u5 := same_upd n5 (.lst (((List.range (far + 1)).map fun i => stS false i far ps).map V.int ++ [V.int (mx2 (ps.map (upG false)).sum (ps.map (dnG false)).sum)]))
 have s15 := (s13.trans s4).trans (u4.trans u5)
 k_units
 refine ⟨x, H0, ts, ps, far, rfl, hx.on s15, l6, hO, hf, fun H6 s6 => ⟨M, ?_, q _ (s15.trans s6)⟩⟩
 have e7 : mx2 (mxs ((List.range (far + 1)).map (stg false ps far))) (mx2 (pdeg false (ps.map fun p => upD p far)) (pdeg false (ps.map fun p => dnD p far))) = M := by
  rw [em, (pdeg_ud hO).1, (pdeg_ud hO).2]
  generalize mx2 (ps.map (upG false)).sum (ps.map (dnG false)).sum = y at m1 m2 ⊢
  have ne : ((List.range (far + 1)).map fun i => stS false i far ps) ≠ [] := by simp
  generalize ((List.range (far + 1)).map fun i => stS false i far ps) = l at m1 m2 ne ⊢
  obtain ⟨k1, k2⟩ := mxs_is ne
  have h1 := m2 _ (List.mem_append_left _ k1)
  have h2 := m2 y (List.mem_append_right _ (by simp))
  unfold mx2
  rcases List.mem_append.mp m1 with z | z
  ·have := k2 M z
   split <;> omega
  ·have := List.mem_singleton.mp z
   split <;> omega
 rw [e7]
def spLaw (K : PySem.W.Frag) : Sp := fun vs H Q _ => ∃ (a : Addr) (ns : List Int), vs = [.ref a] ∧ SqL K H a (ns.map V.int) ∧ ns.length <= 63 ∧ ∀ H', Q (.bl true) H'
theorem ok_law {P : Program} {w : World} {K : PySem.W.Frag} {mg : Str -> Option Value} {base : Heap} (T : Tx K mg) : FnOk P w K mg base CX0 12 T.a_law T.fd_law ["_law_script"] (spLaw K) := by
 refine T.F_law.ok sc_law (fun vs H Q E h => ?_) (fun cdv A outer s H vs Q E hr h => ?_)
 ·obtain ⟨A, ns, rfl, _⟩ := h
  rfl
 obtain ⟨A, ns, rfl, hA, l63, q⟩ := h
 refine ⟨_, ((pss_cons (ps_set (i := 1) sc_law.nd rfl (Or.inl rfl) (pe_call (FnOk.mono (ok__law_parts T) (by decide)) hr rfl T.m__law_parts T.F__law_parts.kp T.b__law_parts .nil pass0 (pa_cons (pv 0) pa_nil)))
  (pss_cons (ps_set (i := 2) sc_law.nd rfl (Or.inl rfl) (pe_callTy call_list_of rfl T.z_list bt_list (pa_cons (pv 1) pa_nil)))
  (pss_cons (ps_set (i := 3) sc_law.nd rfl (Or.inl rfl) (pe_make T.mk_Term (FnOk.mono (ok_Term___init__ T) (by decide)) hr rfl T.mc_Term T.b_Term___init__ .nil passF (pa_cons (pv 2) pa_nil)))
  (pss_cons (ps_set (i := 4) sc_law.nd rfl (Or.inl rfl) (pe_call (FnOk.mono (ok_has_ends T) (by decide)) hr rfl T.m_has_ends T.F_has_ends.kp T.b_has_ends .nil pass0 (pa_cons (pv 3) pa_nil)))
  (pss_cons (ps_if (PW.pt (pw_or (pt_not (pt_val (pe_callB call_isinst rfl T.z_isinstance bt_isinstance (pa_cons (pv 4) (pa_cons (pe_bltn (v := .ty "bool") rfl T.z_bool bt_bool rfl) pa_nil))))) (pw_or1 (pt_cmpR op_ne (pv 4) (pe_call (FnOk.mono (ok__law_ends T) (by decide)) hr rfl T.m__law_ends T.F__law_ends.kp T.b__law_ends .nil pass0 (pa_cons (pv 1) pa_nil)) (nomark _))))) (pss_one (ps_ret pe_bl)) pss_nil)
  (pss_cons (ps_if (pt_not (pt_val (pe_call (FnOk.mono (ok__law_is T) (by decide)) hr rfl T.m__law_is T.F__law_is.kp T.b__law_is .nil pass0 (pa_cons (pe_call (FnOk.mono (ok_breadth_of T) (by decide)) hr rfl T.m_breadth_of T.F_breadth_of.kp T.b_breadth_of .nil pass0 (pa_cons (pv 3) pa_nil)) (pa_cons (pe_call (FnOk.mono (ok__law_up_and_down T) (by decide)) hr rfl T.m__law_up_and_down T.F__law_up_and_down.kp T.b__law_up_and_down .nil pass0 (pa_cons (pv 1) (pa_cons pe_int pa_nil))) pa_nil))))) (pss_one (ps_ret pe_bl)) pss_nil)
  (pss_cons (ps_set (i := 5) sc_law.nd rfl (Or.inl rfl) (pe_op op_mod (pe_call (FnOk.mono (ok__law_cell_at T) (by decide)) hr rfl T.m__law_cell_at T.F__law_cell_at.kp T.b__law_cell_at .nil pass0 (pa_cons (pv 0) (pa_cons pe_int pa_nil))) pe_int))
  (pss_cons (ps_for PassesOwn.never rfl (pi_range1 rfl T.z_range (pa_cons pe_int pa_nil)) (pg_name (i := 6) sc_law.nd rfl (Or.inl rfl)) (pss_one (ps_if (pt_not (pt_val (pe_call (FnOk.mono (ok__law_for T) (by decide)) hr rfl T.m__law_for T.F__law_for.kp T.b__law_for .nil pass0 (pa_cons (pv 3) (pa_cons (pv 1) (pa_cons (pe_op op_mod (pe_op op_add (pv 5) (pv 6)) pe_int) pa_nil)))))) (pss_one (ps_ret pe_bl)) pss_nil)))
  (pss_one (ps_ret (pe_and (pe_cmpR (op_eqD hr.units) (pv 2) (pv 1) (nomark _)) (pe_and (pe_cmpR (op_eqD hr.units) (pe_meth0 (pv 3) T.cl_Term T.me_Term_told (FnOk.mono (ok_Term_told T) (by decide)) hr T.b_Term_told .nil pass0) (pv 1) (nomark _)) (pe_one (pe_cmpR op_eq (pe_call (FnOk.mono (ok_has_ends T) (by decide)) hr rfl T.m_has_ends T.F_has_ends.kp T.b_has_ends .nil pass0 (pa_cons (pv 3) pa_nil)) (pv 4) (nomark _)))))))))))))))), ?_⟩
 dsimp only [a_seq]
 k_typeOf
 refine ⟨A, ns, rfl, hA, fun L rs ps H1 s1 nL eL hP hO l1 l6 => ?_⟩
 dsimp only [a_seq]
 k_typeOf
 refine ⟨_, .inl (SqL.of eL), fun P2 nP2 => ?_⟩
 have w2 := same_upd nP2 (.lst (rs.map V.ref))
 have e2 := upd_same (H := H1) (a := P2) (o := .lst (rs.map V.ref))
 generalize L2.upd H1 P2 (.lst (rs.map V.ref)) = H2 at w2 e2 ⊢
 dsimp only [a_seq]
 k_typeOf
 refine mk_term e2 (hP.on w2) hO l1 l6 fun x H3 w3 hx => ?_
 have w13 := w2.trans w3
 have eL3 := w13 _ _ eL
 have e23 := w3 _ _ e2
 have hP3 := hP.on w13
 have hA3 := (s1.trans w13).seq hA
 dsimp only [a_seq]
 k_typeOf
 refine ⟨x, H2, rs, ps, rfl, hx, hP3, l6, fun H4 w4 => ?_⟩
 dsimp only [a_seq]
 k_typeOf
 refine ⟨_, .bl _, true, rfl, ?_⟩
 rw [if_neg (by decide)]
 refine ⟨L, rs, ps, rfl, w4 _ _ eL3, hP3.on w4, l6, fun H5 w5 => ?_⟩
 show rNe (V.bl (endsP ps)) (V.bl (endsP ps)) H5 _
 k_typeOf
 rw [if_neg (by simp)]
 have w35 := w4.trans w5
 dsimp only [a_seq]
 k_typeOf
 refine ⟨x, H2, rs, ps, rfl, hx.on w35, l6, hO, fun H6 w6 => ⟨L, rs, ps, true, rfl, (w35.trans w6) _ _ eL3, hP3.on (w35.trans w6), l6, fun H7 w7 => ⟨mx2 (ps.map (upG true)).sum (ps.map (dnG true)).sum, by rw [(pdeg_ud hO).1, (pdeg_ud hO).2], true, rfl, ?_⟩⟩⟩
 rw [if_neg (by decide)]
 have w37 := (w35.trans w6).trans w7
 dsimp only [a_seq]
 k_typeOf
 refine ⟨A, ns, 9, rfl, w37.seq hA3, _, rfl, by decide, ?_⟩
 generalize cell ns 9 % 3 = m
 dsimp only [a_seq]
 k_typeOf
 refine ⟨by decide, by decide, ?_⟩
 obtain ⟨Pv, hPv⟩ : ∃ Pv : Nat -> L2.St -> Hp -> Prop, ∀ i σ H', Pv i σ H' ↔ ∃ r6 : Option V, σ = [some (V.ref A), some (V.ref L), some (V.ref P2), some (V.ref x), some (V.bl (endsP ps)), some (V.int m), r6] ∧ Same H3 H' := ⟨_, fun _ _ _ => Iff.rfl⟩
 refine lp_range Pv ((hPv _ _ _).mpr ⟨none, rfl, w37⟩) ?_ ?_
 ·intro i σ H' hi hp
  obtain ⟨r6, rfl, sx⟩ := (hPv _ _ _).mp hp
  k_units
  obtain ⟨f, hf, f2⟩ : ∃ f : Nat, (m + (0 + (i : Int))) % 3 = (f : Int) ∧ f <= 2 := ⟨((m + (0 + (i : Int))) % 3).toNat, by omega, by omega⟩
  refine ⟨by decide, x, L, H2, rs, rs, ps, f, by rw [hf], hx.on sx, sx _ _ eL3, hP3.on sx, hO, l6, f2, fun H9 w9 => ⟨true, rfl, ?_⟩⟩
  rw [if_neg (by decide)]
  exact (hPv _ _ _).mpr ⟨_, rfl, sx.trans w9⟩
 intro σ H8 hp
 obtain ⟨r6, rfl, w8⟩ := (hPv _ _ _).mp hp
 obtain ⟨y1, y2, y3⟩ := pts_ok ps
 have dv : ∀ (H' : Hp) (B : Addr), Same H3 H' -> H' B = some (.lst (rs.map V.ref)) -> DV K H' (.ref B) (dPts ps) := fun H' B w e => dv_pts (SqL.of e) (hP3.on w)
 k_units
 refine ⟨_, dv H8 P2 w8 (w8 _ _ e23), _, dv H8 L w8 (w8 _ _ eL3), y1, y1, y2, ?_⟩
 rw [y3, if_pos rfl]
 obtain ⟨dx, Q1, Q2, qs2, h1, h2⟩ := id hx
 refine ⟨dx, _, w8 _ _ h1, rfl, x, H2, rs, ps, rfl, hx.on w8, fun R H9 w9 nR eR => ?_⟩
 have w39 := w8.trans w9
 refine ⟨_, dv H9 R w39 eR, _, dv H9 L w39 (w39 _ _ eL3), y1, y1, y2, ?_⟩
 rw [y3, if_pos rfl]
 refine ⟨x, H2, rs, ps, rfl, hx.on w39, hP3.on w39, l6, fun H10 w10 => ?_⟩
 k_units
 exact q _
theorem ln_1 {us : List Value} (h : us.length = 1) : ∃ x0, us = [x0] := by
 match us, h with
 | [x0], _ => exact ⟨x0, rfl⟩
theorem ln_2 {us : List Value} (h : us.length = 2) : ∃ x0 x1, us = [x0, x1] := by
 match us, h with
 | [x0, x1], _ => exact ⟨x0, x1, rfl⟩
theorem ln_3 {us : List Value} (h : us.length = 3) : ∃ x0 x1 x2, us = [x0, x1, x2] := by
 match us, h with
 | [x0, x1, x2], _ => exact ⟨x0, x1, x2, rfl⟩
theorem ln_4 {us : List Value} (h : us.length = 4) : ∃ x0 x1 x2 x3, us = [x0, x1, x2, x3] := by
 match us, h with
 | [x0, x1, x2, x3], _ => exact ⟨x0, x1, x2, x3, rfl⟩
local macro_rules | `(tactic| o_law) => `(tactic| (intro _ _ _ _ _ _ us hl; first | (obtain ⟨x0, e⟩ := ln_1 hl; subst e; rfl) | (obtain ⟨x0, x1, e⟩ := ln_2 hl; subst e; rfl) | (obtain ⟨x0, x1, x2, e⟩ := ln_3 hl; subst e; rfl) | (obtain ⟨x0, x1, x2, x3, e⟩ := ln_4 hl; subst e; rfl)))
abbrev fdK (x q : Str) (st : Stmt) (pm : Value) (c : Nat) : FuncData := PySem.W.fnOf x q (defArgs st) (defBody st) (defScope st) .none .none .none pm none (.ref c) .none
abbrev FU (P : Params) (x q : Str) (st : Stmt) (f : Addr) (pm : Value) (c : Nat) : Prop := Fun (KK P) x q st f (fdK x q st pm c)
theorem fuk {P : Params} {x q : Str} {st : Stmt} {f : Addr} {pm : Value} {c : Nat} (l : (KK P).lookup f = some ⟨.type "function", none, .func (fdK x q st pm c), #[]⟩) (h : PySem.W.codeIn (KK P) (.ref c) q = true) (k : PySem.W.keepIn (KK P) (.ref f) = true) : FU P x q st f pm c := fun_mk l h k
abbrev pm0 : Value := .str "sumcraft.pairs" 239
abbrev pm1 : Value := .str "sumcraft.parts" 327
abbrev pm2 : Value := .str "sumcraft.finder" 691
abbrev pm3 : Value := .str "sumcraft.terms" 746
abbrev pm4 : Value := .str "law_sumcraft_k61_ends_and_sizes" 859
theorem kf0 (P : Params) : FU P "bare" "bare" s_bare 56 pm0 55 := fuk (by kernel_rfl) (by kernel_rfl) (by kernel_rfl)
theorem kf1 (P : Params) : FU P "pair_times" "pair_times" s_pair_times 63 pm0 62 := fuk (by kernel_rfl) (by kernel_rfl) (by kernel_rfl)
theorem kf2 (P : Params) : FU P "pair_of_form" "pair_of_form" s_pair_of_form 70 pm0 69 := fuk (by kernel_rfl) (by kernel_rfl) (by kernel_rfl)
theorem kf3 (P : Params) : FU P "degree_in_k" "degree_in_k" s_degree_in_k 75 pm0 74 := fuk (by kernel_rfl) (by kernel_rfl) (by kernel_rfl)
theorem kf4 (P : Params) : FU P "pair_product" "pair_product" s_pair_product 82 pm0 81 := fuk (by kernel_rfl) (by kernel_rfl) (by kernel_rfl)
theorem kf5 (P : Params) : FU P "raised" "raised" s_raised 117 pm1 116 := fuk (by kernel_rfl) (by kernel_rfl) (by kernel_rfl)
theorem kf6 (P : Params) : FU P "raised_from" "raised_from" s_raised_from 122 pm1 121 := fuk (by kernel_rfl) (by kernel_rfl) (by kernel_rfl)
theorem kf7 (P : Params) : FU P "low_forms" "low_forms" s_low_forms 129 pm1 128 := fuk (by kernel_rfl) (by kernel_rfl) (by kernel_rfl)
theorem kf8 (P : Params) : FU P "power_of" "power_of" s_power_of 136 pm1 135 := fuk (by kernel_rfl) (by kernel_rfl) (by kernel_rfl)
theorem kf9 (P : Params) : FU P "has_ends" "has_ends" s_has_ends 381 pm2 380 := fuk (by kernel_rfl) (by kernel_rfl) (by kernel_rfl)
theorem kf10 (P : Params) : FU P "degree_in_n" "degree_in_n" s_degree_in_n 386 pm2 385 := fuk (by kernel_rfl) (by kernel_rfl) (by kernel_rfl)
theorem kf11 (P : Params) : FU P "product_degree" "product_degree" s_product_degree 391 pm2 390 := fuk (by kernel_rfl) (by kernel_rfl) (by kernel_rfl)
theorem kf12 (P : Params) : FU P "steps_degree" "steps_degree" s_steps_degree 396 pm2 395 := fuk (by kernel_rfl) (by kernel_rfl) (by kernel_rfl)
theorem kf13 (P : Params) : FU P "ends_degree" "ends_degree" s_ends_degree 401 pm2 400 := fuk (by kernel_rfl) (by kernel_rfl) (by kernel_rfl)
theorem kf14 (P : Params) : FU P "breadth_of" "breadth_of" s_breadth_of 408 pm2 407 := fuk (by kernel_rfl) (by kernel_rfl) (by kernel_rfl)
theorem kf15 (P : Params) : FU P "height_of" "height_of" s_height_of 415 pm2 414 := fuk (by kernel_rfl) (by kernel_rfl) (by kernel_rfl)
theorem kf16 (P : Params) : FU P "length_of" "length_of" s_length_of 422 pm2 421 := fuk (by kernel_rfl) (by kernel_rfl) (by kernel_rfl)
theorem kf17 (P : Params) : FU P "within" "within" s_within 430 pm3 429 := fuk (by kernel_rfl) (by kernel_rfl) (by kernel_rfl)
theorem kf18 (P : Params) : FU P "check_choose" "check_choose" s_check_choose 437 pm3 436 := fuk (by kernel_rfl) (by kernel_rfl) (by kernel_rfl)
theorem kf19 (P : Params) : FU P "check_base" "check_base" s_check_base 444 pm3 443 := fuk (by kernel_rfl) (by kernel_rfl) (by kernel_rfl)
theorem kf20 (P : Params) : FU P "piece_of" "piece_of" s_piece_of 451 pm3 450 := fuk (by kernel_rfl) (by kernel_rfl) (by kernel_rfl)
theorem kf21 (P : Params) : FU P "_law_cell_at" "_law_cell_at" s__law_cell_at 506 pm4 505 := fuk (by kernel_rfl) (by kernel_rfl) (by kernel_rfl)
theorem kf22 (P : Params) : FU P "_law_less" "_law_less" s__law_less 513 pm4 512 := fuk (by kernel_rfl) (by kernel_rfl) (by kernel_rfl)
theorem kf23 (P : Params) : FU P "_law_any" "_law_any" s__law_any 520 pm4 519 := fuk (by kernel_rfl) (by kernel_rfl) (by kernel_rfl)
theorem kf24 (P : Params) : FU P "_law_choose" "_law_choose" s__law_choose 527 pm4 526 := fuk (by kernel_rfl) (by kernel_rfl) (by kernel_rfl)
theorem kf25 (P : Params) : FU P "_law_fraction" "_law_fraction" s__law_fraction 534 pm4 533 := fuk (by kernel_rfl) (by kernel_rfl) (by kernel_rfl)
theorem kf26 (P : Params) : FU P "_law_parts" "_law_parts" s__law_parts 541 pm4 540 := fuk (by kernel_rfl) (by kernel_rfl) (by kernel_rfl)
theorem kf27 (P : Params) : FU P "_law_lows" "_law_lows" s__law_lows 548 pm4 547 := fuk (by kernel_rfl) (by kernel_rfl) (by kernel_rfl)
theorem kf28 (P : Params) : FU P "_law_ends" "_law_ends" s__law_ends 555 pm4 554 := fuk (by kernel_rfl) (by kernel_rfl) (by kernel_rfl)
theorem kf29 (P : Params) : FU P "_law_up_and_down" "_law_up_and_down" s__law_up_and_down 562 pm4 561 := fuk (by kernel_rfl) (by kernel_rfl) (by kernel_rfl)
theorem kf30 (P : Params) : FU P "_law_step" "_law_step" s__law_step 569 pm4 568 := fuk (by kernel_rfl) (by kernel_rfl) (by kernel_rfl)
theorem kf31 (P : Params) : FU P "_law_is" "_law_is" s__law_is 576 pm4 575 := fuk (by kernel_rfl) (by kernel_rfl) (by kernel_rfl)
theorem kf32 (P : Params) : FU P "_law_for" "_law_for" s__law_for 581 pm4 580 := fuk (by kernel_rfl) (by kernel_rfl) (by kernel_rfl)
theorem kf33 (P : Params) : FU P "law" "law" s_law 588 pm4 587 := fuk (by kernel_rfl) (by kernel_rfl) (by kernel_rfl)
theorem kf34 (P : Params) : FU P "step" "Part.step" s_Part_step 171 pm1 170 := fuk (by kernel_rfl) (by kernel_rfl) (by kernel_rfl)
theorem kf35 (P : Params) : FU P "up" "Part.up" s_Part_up 178 pm1 177 := fuk (by kernel_rfl) (by kernel_rfl) (by kernel_rfl)
theorem kf36 (P : Params) : FU P "down" "Part.down" s_Part_down 185 pm1 184 := fuk (by kernel_rfl) (by kernel_rfl) (by kernel_rfl)
theorem kf37 (P : Params) : FU P "__init__" "Choose.__init__" s_Choose___init__ 213 pm1 212 := fuk (by kernel_rfl) (by kernel_rfl) (by kernel_rfl)
theorem kf38 (P : Params) : FU P "lifted" "Choose.lifted" s_Choose_lifted 218 pm1 217 := fuk (by kernel_rfl) (by kernel_rfl) (by kernel_rfl)
theorem kf39 (P : Params) : FU P "step" "Choose.step" s_Choose_step 232 pm1 231 := fuk (by kernel_rfl) (by kernel_rfl) (by kernel_rfl)
theorem kf40 (P : Params) : FU P "up" "Choose.up" s_Choose_up 239 pm1 238 := fuk (by kernel_rfl) (by kernel_rfl) (by kernel_rfl)
theorem kf41 (P : Params) : FU P "down" "Choose.down" s_Choose_down 246 pm1 245 := fuk (by kernel_rfl) (by kernel_rfl) (by kernel_rfl)
theorem kf42 (P : Params) : FU P "__init__" "Weight.__init__" s_Weight___init__ 270 pm1 269 := fuk (by kernel_rfl) (by kernel_rfl) (by kernel_rfl)
theorem kf43 (P : Params) : FU P "step" "Weight.step" s_Weight_step 284 pm1 283 := fuk (by kernel_rfl) (by kernel_rfl) (by kernel_rfl)
theorem kf44 (P : Params) : FU P "__init__" "Power.__init__" s_Power___init__ 303 pm1 302 := fuk (by kernel_rfl) (by kernel_rfl) (by kernel_rfl)
theorem kf45 (P : Params) : FU P "up" "Power.up" s_Power_up 317 pm1 316 := fuk (by kernel_rfl) (by kernel_rfl) (by kernel_rfl)
theorem kf46 (P : Params) : FU P "down" "Power.down" s_Power_down 324 pm1 323 := fuk (by kernel_rfl) (by kernel_rfl) (by kernel_rfl)
theorem kf47 (P : Params) : FU P "__init__" "Growth.__init__" s_Growth___init__ 350 pm1 349 := fuk (by kernel_rfl) (by kernel_rfl) (by kernel_rfl)
theorem kf48 (P : Params) : FU P "step" "Growth.step" s_Growth_step 364 pm1 363 := fuk (by kernel_rfl) (by kernel_rfl) (by kernel_rfl)
theorem kf49 (P : Params) : FU P "__init__" "Term.__init__" s_Term___init__ 470 pm3 469 := fuk (by kernel_rfl) (by kernel_rfl) (by kernel_rfl)
theorem kf50 (P : Params) : FU P "told" "Term.told" s_Term_told 477 pm3 476 := fuk (by kernel_rfl) (by kernel_rfl) (by kernel_rfl)
theorem kx0 (P : Params) : ∀ H : Hp, SqT (KK P) H 425 [.int (3), .int (3), .int (9)] := fun H => .inr ⟨⟨.type "tuple", none, .seq #[.int (3) 761, .int (3) 762, .int (9) 763], #[]⟩, _, _, by kernel_rfl, rfl, rfl, by decide, .cons ⟨_, rfl⟩ (.cons ⟨_, rfl⟩ (.cons ⟨_, rfl⟩ .nil))⟩
theorem kx1 (P : Params) : ∀ H : Hp, SqT (KK P) H 423 [.int (0), .int (0), .int (0)] := fun H => .inr ⟨⟨.type "tuple", none, .seq #[.int (0) 750, .int (0) 751, .int (0) 752], #[]⟩, _, _, by kernel_rfl, rfl, rfl, by decide, .cons ⟨_, rfl⟩ (.cons ⟨_, rfl⟩ (.cons ⟨_, rfl⟩ .nil))⟩
theorem kx2 (P : Params) : ∀ H : Hp, SqT (KK P) H 424 [.int (-3), .int (-3), .int (-9)] := fun H => .inr ⟨⟨.type "tuple", none, .seq #[.int (-3) 755, .int (-3) 757, .int (-9) 759], #[]⟩, _, _, by kernel_rfl, rfl, rfl, by decide, .cons ⟨_, rfl⟩ (.cons ⟨_, rfl⟩ (.cons ⟨_, rfl⟩ .nil))⟩
theorem walk {l : PySem.W.OpenLaw} {q : Program} {loose : List Str} {XP : (Str -> Option Value) -> Heap -> Prop} {YP : World -> Heap -> Prop} {d : DefRec} {K : Params -> PySem.W.Frag} (hn : l.most = some 63) (hdf : d.params.defaults = [])
  (hY : ∀ (w : World) (h : Heap), YP w h -> (K w.params).In h)
  (F : ∀ (w : World) (mg : Str -> Option Value) (fa : Addr) (h : Heap), (K w.params).In h -> h.Ns mainGlobals mg -> mg d.name = some (.ref fa) ->
   ∃ T : Tx (K w.params) mg, T.a_law = fa ∧ ∀ (s : Shared) (v : Value), BindsTo s T.fd_law ⟨[v], []⟩ [("_law_script", v)]) :
  PySem.W.WalkO q loose XP YP l.row.toRowW d [] (fun f vs => PySem.call f vs) :=
 L2.walk_of (n := 63) (k := 30) (x := "_law_script") (CX := fun _ => CX0) (sp := fun w => spLaw (K w.params)) hn (by decide) hdf ⟨rfl, by decide, by decide⟩ hY
  (fun w mg fa h KX G hmg => by
   obtain ⟨T, e, hb⟩ := F w mg fa h KX G hmg
   subst e
   exact ⟨T.fd_law, hb, fun base _ _ => FnOk.mono (ok_law T) (by decide)⟩)
  (fun _ H a ns hl _ hS => ⟨a, ns, rfl, hS, hl, fun _ => rfl⟩) fun _ _ _ _ _ z => z
theorem facts (w : World) (mg : Str -> Option Value) (fa : Addr) (h : Heap) (KX : (KK w.params).In h) (G : h.Ns mainGlobals mg) (hmg : mg "law" = some (.ref fa)) :
  ∃ T : Tx (KK w.params) mg, T.a_law = fa ∧ ∀ (s : Shared) (v : Value), BindsTo s T.fd_law ⟨[v], []⟩ [("_law_script", v)] := by
 have ma : ∀ {x : Str} {f : Addr}, PySem.W.nsIn (KK w.params) mainGlobals x = some (some (.ref f)) -> mg x = some (.ref f) := fun e => PySem.W.mg_of KX G e
 have mi : ∀ {x : Str} {i : Int} {t : Tok}, PySem.W.nsIn (KK w.params) mainGlobals x = some (some (.int i t)) -> mg x = some (.int i t) := fun e => PySem.W.mg_of KX G e
 have mz : ∀ {x : Str}, PySem.W.nsIn (KK w.params) mainGlobals x = some none -> mg x = none := fun e => PySem.W.mg_none_of KX G e
 have e := hmg.symm.trans (ma (f := 588) (by kernel_rfl))
 cases e
 exact ⟨⟨_, _, kf0 _, ma (by kernel_rfl), (kf0 _).binds (by o_law), _, _, kf1 _, ma (by kernel_rfl), (kf1 _).binds (by o_law), _, _, kf2 _, ma (by kernel_rfl), (kf2 _).binds (by o_law), _, _, kf3 _, ma (by kernel_rfl), (kf3 _).binds (by o_law), _, _, kf4 _, ma (by kernel_rfl), (kf4 _).binds (by o_law), _, _, kf5 _, ma (by kernel_rfl), (kf5 _).binds (by o_law), _, _, kf6 _, ma (by kernel_rfl), (kf6 _).binds (by o_law), _, _, kf7 _, ma (by kernel_rfl), (kf7 _).binds (by o_law), _, _, kf8 _, ma (by kernel_rfl), (kf8 _).binds (by o_law), _, _, kf9 _, ma (by kernel_rfl), (kf9 _).binds (by o_law), _, _, kf10 _, ma (by kernel_rfl), (kf10 _).binds (by o_law), _, _, kf11 _, ma (by kernel_rfl), (kf11 _).binds (by o_law), _, _, kf12 _, ma (by kernel_rfl), (kf12 _).binds (by o_law), _, _, kf13 _, ma (by kernel_rfl), (kf13 _).binds (by o_law), _, _, kf14 _, ma (by kernel_rfl), (kf14 _).binds (by o_law), _, _, kf15 _, ma (by kernel_rfl), (kf15 _).binds (by o_law), _, _, kf16 _, ma (by kernel_rfl), (kf16 _).binds (by o_law), _, _, kf17 _, ma (by kernel_rfl), (kf17 _).binds (by o_law), _, _, kf18 _, ma (by kernel_rfl), (kf18 _).binds (by o_law), _, _, kf19 _, ma (by kernel_rfl), (kf19 _).binds (by o_law), _, _, kf20 _, ma (by kernel_rfl), (kf20 _).binds (by o_law), _, _, kf21 _, ma (by kernel_rfl), (kf21 _).binds (by o_law), _, _, kf22 _, ma (by kernel_rfl), (kf22 _).binds (by o_law), _, _, kf23 _, ma (by kernel_rfl), (kf23 _).binds (by o_law), _, _, kf24 _, ma (by kernel_rfl), (kf24 _).binds (by o_law), _, _, kf25 _, ma (by kernel_rfl), (kf25 _).binds (by o_law), _, _, kf26 _, ma (by kernel_rfl), (kf26 _).binds (by o_law), _, _, kf27 _, ma (by kernel_rfl), (kf27 _).binds (by o_law), _, _, kf28 _, ma (by kernel_rfl), (kf28 _).binds (by o_law), _, _, kf29 _, ma (by kernel_rfl), (kf29 _).binds (by o_law), _, _, kf30 _, ma (by kernel_rfl), (kf30 _).binds (by o_law), _, _, kf31 _, ma (by kernel_rfl), (kf31 _).binds (by o_law), _, _, kf32 _, ma (by kernel_rfl), (kf32 _).binds (by o_law), _, _, kf33 _, ma (by kernel_rfl), (kf33 _).binds (by o_law), _, _, kf34 _, (kf34 _).binds (by o_law), _, _, kf35 _, (kf35 _).binds (by o_law), _, _, kf36 _, (kf36 _).binds (by o_law), _, _, kf37 _, (kf37 _).binds (by o_law), _, _, kf38 _, (kf38 _).binds (by o_law), _, _, kf39 _, (kf39 _).binds (by o_law), _, _, kf40 _, (kf40 _).binds (by o_law), _, _, kf41 _, (kf41 _).binds (by o_law), _, _, kf42 _, (kf42 _).binds (by o_law), _, _, kf43 _, (kf43 _).binds (by o_law), _, _, kf44 _, (kf44 _).binds (by o_law), _, _, kf45 _, (kf45 _).binds (by o_law), _, _, kf46 _, (kf46 _).binds (by o_law), _, _, kf47 _, (kf47 _).binds (by o_law), _, _, kf48 _, (kf48 _).binds (by o_law), _, _, kf49 _, (kf49 _).binds (by o_law), _, _, kf50 _, (kf50 _).binds (by o_law), 49, ma (by kernel_rfl), by kernel_rfl, 254, ma (by kernel_rfl), ⟨by kernel_rfl, by kernel_rfl, by kernel_rfl, by kernel_rfl⟩, ⟨by kernel_rfl, by kernel_rfl, by kernel_rfl, by kernel_rfl⟩, ⟨by kernel_rfl, by kernel_rfl, by kernel_rfl⟩, ⟨by kernel_rfl, by kernel_rfl, by kernel_rfl⟩, ⟨by kernel_rfl, by kernel_rfl, by kernel_rfl⟩, ⟨by kernel_rfl, by kernel_rfl, by kernel_rfl⟩, by show PySem.W.findIn _ _ _ = _; kernel_rfl, by show PySem.W.findIn _ _ _ = _; kernel_rfl, 374, ma (by kernel_rfl), ⟨by kernel_rfl, by kernel_rfl, by kernel_rfl, by kernel_rfl⟩, ⟨by kernel_rfl, by kernel_rfl, by kernel_rfl, by kernel_rfl⟩, ⟨by kernel_rfl, by kernel_rfl, by kernel_rfl⟩, ⟨by kernel_rfl, by kernel_rfl, by kernel_rfl⟩, ⟨by kernel_rfl, by kernel_rfl, by kernel_rfl⟩, by show PySem.W.findIn _ _ _ = _; kernel_rfl, 195, ma (by kernel_rfl), ⟨by kernel_rfl, by kernel_rfl, by kernel_rfl, by kernel_rfl⟩, ⟨by kernel_rfl, by kernel_rfl, by kernel_rfl⟩, ⟨by kernel_rfl, by kernel_rfl, by kernel_rfl⟩, ⟨by kernel_rfl, by kernel_rfl, by kernel_rfl⟩, 334, ma (by kernel_rfl), ⟨by kernel_rfl, by kernel_rfl, by kernel_rfl, by kernel_rfl⟩, ⟨by kernel_rfl, by kernel_rfl, by kernel_rfl, by kernel_rfl⟩, ⟨by kernel_rfl, by kernel_rfl, by kernel_rfl⟩, ⟨by kernel_rfl, by kernel_rfl, by kernel_rfl⟩, ⟨by kernel_rfl, by kernel_rfl, by kernel_rfl⟩, by show PySem.W.findIn _ _ _ = _; kernel_rfl, 495, ma (by kernel_rfl), ⟨by kernel_rfl, by kernel_rfl, by kernel_rfl, by kernel_rfl⟩, ⟨by kernel_rfl, by kernel_rfl, by kernel_rfl, by kernel_rfl⟩, ⟨by kernel_rfl, by kernel_rfl, by kernel_rfl⟩, by show PySem.W.findIn _ _ _ = _; kernel_rfl, by show PySem.W.findIn _ _ _ = _; kernel_rfl, 287, ma (by kernel_rfl), ⟨by kernel_rfl, by kernel_rfl, by kernel_rfl, by kernel_rfl⟩, ⟨by kernel_rfl, by kernel_rfl, by kernel_rfl, by kernel_rfl⟩, ⟨by kernel_rfl, by kernel_rfl, by kernel_rfl⟩, ⟨by kernel_rfl, by kernel_rfl, by kernel_rfl⟩, ⟨by kernel_rfl, by kernel_rfl, by kernel_rfl⟩, by show PySem.W.findIn _ _ _ = _; kernel_rfl, mz (by kernel_rfl), mz (by kernel_rfl), mz (by kernel_rfl), mz (by kernel_rfl), mz (by kernel_rfl), mz (by kernel_rfl), mz (by kernel_rfl), mz (by kernel_rfl), mz (by kernel_rfl), mz (by kernel_rfl), mz (by kernel_rfl), mz (by kernel_rfl), ⟨748, mi (by kernel_rfl)⟩, ⟨425, ma (by kernel_rfl), kx0 _⟩, ⟨423, ma (by kernel_rfl), kx1 _⟩, ⟨424, ma (by kernel_rfl), kx2 _⟩⟩, rfl, fun s v => .of_eq rfl⟩
end My
open PySem PySem.W PyProof.Rows
set_option maxRecDepth 100000 in
set_option maxHeartbeats 0 in
theorem PySem.Challenge.cw_sumcraft_k61_ends_and_sizes_holds : PySem.Challenge.rw_sumcraft_k61_ends_and_sizes.Holds := by
 refine holds_law My.h_well fun said => ?_
 refine holds_open (r := PySem.Challenge.rw_sumcraft_k61_ends_and_sizes.row)
  (q := My.qv) (loose := []) (Xt := My.xt)
  (XP := XL My.qv []) (Yf := My.hk.obs) (Ya := My.hk.val)
  (YP := My.hk.says) (N := 8460)
  My.left My.hk.of My.hk.keeps
  (fun s e => xl_of s (Bool.and_eq_true_iff.mp e).1)
  XL.keeps (by rfl) (by rfl) (by rfl)
  (fun s e => recFacts_of (Bool.and_eq_true_iff.mp e).2)
  (by rfl) said (by decide +kernel)
  My.h_bare ?wit ?go
 case wit => w_witness2
 case go => exact My.walk (l := PySem.Challenge.rw_sumcraft_k61_ends_and_sizes) rfl rfl (fun w h Y => kIn_of Y) My.facts
